import PyProof.Rows.All
import Wide.All
import OpenK.AllK
import Wide.FinOn
import HandS.ForMost
import HandS.AnyAll
import HandS.IsInst
import HandS.Style
import HandS.EndTab
import HandS.Codes
import HandS.GenOver
import HandS.Strs
import HandS.Zip
import HandS.Walk
import HandS.More
import KE.KEqSeq
import HandS.SortKw
import HandS.Keys
import HandS.ExcValue
import HandS.TupAny
import HandS.DictComp
import HandS.Conv
import HandS.Small
import HandS.SetTxt0
import HandS.Set
import KE.KDictList
import PyProof.MeetsDict
import PyProof.TupleOfGen
import PyProof.SumAny
import PyProof.ConsumeS
import KE.SortKeyHeap
import KE.SortData
import KE.KRevSl
import PyProof.DictUpdate
import PyProof.DictDisplay
import PyProof.DictValues
import HandS.Lambda
import KE.GoesEnum
import KE.KDictCopyH
import PySem.Challenge.RW_shelfcounts_k19_whole_books_meet_counts
set_option Elab.async false
set_option linter.all false
set_option maxRecDepth 100000
namespace Shelf
open PySem PySem.Spec PyProof.Rows L2
def topS (i : Nat) : Stmt := PySem.Challenge.pw_shelfcounts_k19_whole_books_meet_counts.main.body.getD i (.Pass ⟨0, 0, 0, 0⟩)
abbrev sGood : Stmt := topS 1
abbrev sPlacesOf : Stmt := topS 2
abbrev sChange : Stmt := topS 3
abbrev sWithPlaces : Stmt := topS 4
abbrev sTrackAt : Stmt := topS 6
abbrev sBehind : Stmt := topS 7
abbrev sFirst : Stmt := topS 8
abbrev sExch : Stmt := topS 9
abbrev sAlong : Stmt := topS 10
abbrev sBookB : Stmt := topS 12
abbrev sLastC : Stmt := topS 13
abbrev sDiff : Stmt := topS 14
abbrev sPieces : Stmt := topS 16
abbrev sPoT : Stmt := topS 17
abbrev sRow : Stmt := topS 18
abbrev sCounted : Stmt := topS 19
abbrev sNameOf : Stmt := topS 20
abbrev sPen : Stmt := topS 22
abbrev sTake : Stmt := topS 23
abbrev sNamer : Stmt := topS 24
abbrev sName : Stmt := topS 25
abbrev sMany : Stmt := topS 26
abbrev sMoments : Stmt := topS 27
abbrev sEntry : Stmt := topS 28
abbrev sOwn : Stmt := topS 29
abbrev sDone : Stmt := topS 30
abbrev sTold : Stmt := topS 31
abbrev sLCounted : Stmt := topS 32
abbrev sHouse : Stmt := topS 33
abbrev sAfter : Stmt := topS 34
abbrev sSteps : Stmt := topS 35
abbrev sByBooks : Stmt := topS 36
abbrev sByPieces : Stmt := topS 37
abbrev sLaw : Stmt := topS 38
/-! ### the pen: what a script is drawn from -/
theorem same_new {H : Hp} {p : Addr} {o : HO} (h : H p = none) : Same H (upd H p o) := fun b x e => (upd_ne (ne_of_none e h)).trans e
/-- all but the object at p is as it was -/
def But (p : Addr) (H H' : Hp) : Prop := ∀ b o, H b = some o → b ≠ p → H' b = some o
theorem But.refl (p : Addr) (H : Hp) : But p H H := fun _ _ e _ => e
theorem But.of {p : Addr} {H H' : Hp} (h : Same H H') : But p H H' := fun b o e _ => h b o e
theorem But.tr {p : Addr} {H H1 H2 : Hp} (a : But p H H1) (b : But p H1 H2) : But p H H2 := fun c o e n => b c o (a c o e n) n
theorem But.to {p : Addr} {H H1 : Hp} (a : But p H H1) {l : Addr} {o : HO} (h : H l = none) (n : H p ≠ none) : But p H (upd H1 l o) := fun c u e nc => (upd_ne (ne_of_none e h)).trans (a c u e nc)
theorem dget_s {H : Hp} {p : Addr} {kvs : List (Key × V)} {x : Str} {v : V} (h : H p = some (.dK kvs)) (e : valV kvs (Sum.inr x) = some v) : DGet H p (.str x) (some v) := .inl ⟨kvs, Sum.inr x, .inl h, rfl, e.symm⟩
theorem dput_s {H : Hp} {p : Addr} {kvs : List (Key × V)} {x : Str} {v : V} (h : H p = some (.dK kvs)) (hl : kvs.length < sizeLine) : DPut H p (.str x) v (upd H p (.dK (putK kvs (Sum.inr x) v))) := .inl ⟨kvs, Sum.inr x, h, rfl, hl, rfl⟩
theorem put_len {kvs : List (Key × V)} {k : Key} {v u : V} (e : valV kvs k = some u) : (putK kvs k v).length = kvs.length := by
  have h := valV_any k kvs
  rw [e] at h
  have h' : (kvs.any fun kv => decide (kv.1 = k)) = true := h
  unfold putK
  rw [if_pos h', List.length_map]
abbrev kCells : Key := Sum.inr "cells"
abbrev kAt : Key := Sum.inr "at"
abbrev kLeft : Key := Sum.inr "left"
theorem nCA : ¬ kCells = kAt := by decide +kernel
theorem nCL : ¬ kCells = kLeft := by decide +kernel
theorem nAL : ¬ kAt = kLeft := by decide +kernel
theorem nLA : ¬ kLeft = kAt := by decide +kernel
/-- a pen stands at p, its cells at c; at most n have been drawn -/
structure PenAt (H : Hp) (p c : Addr) (n : Nat) : Prop where
  ex : ∃ (kvs : List (Key × V)) (ns : List Int) (a l : Int), H p = some (.dK kvs) ∧ kvs.length ≤ 3 ∧ valV kvs kCells = some (.ref c) ∧ valV kvs kAt = some (.int a) ∧ valV kvs kLeft = some (.int l) ∧ H c = some (.lst (ns.map V.int)) ∧ 0 ≤ a ∧ a ≤ n ∧ 0 ≤ l
theorem PenAt.same {H H' : Hp} {p c : Addr} {n : Nat} (P : PenAt H p c n) (h : Same H H') : PenAt H' p c n := by
  obtain ⟨kvs, ns, a, l, h1, h2, h3, h4, h5, h6, h7⟩ := P.ex
  exact ⟨kvs, ns, a, l, h _ _ h1, h2, h3, h4, h5, h _ _ h6, h7⟩
theorem PenAt.there {H : Hp} {p c : Addr} {n : Nat} (P : PenAt H p c n) : H p ≠ none := by
  obtain ⟨kvs, ns, a, l, h1, _⟩ := P.ex
  rw [h1]
  exact fun z => nomatch z
theorem PenAt.cells {H : Hp} {p c : Addr} {n : Nat} (P : PenAt H p c n) : H c ≠ none := by
  obtain ⟨kvs, ns, a, l, _, _, _, _, _, h1, _⟩ := P.ex
  rw [h1]
  exact fun z => nomatch z
theorem PenAt.upd {H : Hp} {p c l : Addr} {n : Nat} {o : HO} (P : PenAt H p c n) (h1 : l ≠ p) (h2 : l ≠ c) : PenAt (L2.upd H l o) p c n := by
  obtain ⟨kvs, ns, a, x, g1, g2, g3, g4, g5, g6, g7⟩ := P.ex
  exact ⟨kvs, ns, a, x, (upd_ne h1.symm).trans g1, g2, g3, g4, g5, (upd_ne h2.symm).trans g6, g7⟩
theorem PenAt.mono {H : Hp} {p c : Addr} {n m : Nat} (P : PenAt H p c n) (h : n ≤ m) : PenAt H p c m := by
  obtain ⟨kvs, ns, a, l, g1, g2, g3, g4, g5, g6, g7, g8, g9⟩ := P.ex
  exact ⟨kvs, ns, a, l, g1, g2, g3, g4, g5, g6, g7, by omega, g9⟩
theorem dp_ints {K : PySem.W.Frag} {H : Hp} : ∀ ns : List Int, DpAll K H (ns.map V.int) (ns.map PyData.int)
  | [] => .nil
  | n :: r => .cons (.int n) (dp_ints r)
/-- what a draw promises: a number below many, the pen drawn once more, nothing else touched -/
def spTake : Sp := fun vs H Q _ => ∃ (p c : Addr) (n : Nat) (m : Int), vs = [.ref p, .int m] ∧ PenAt H p c n ∧ n ≤ 100000 ∧ 1 ≤ m ∧ m ≤ 1000000000 ∧
  ∀ (r : Int) (H' : Hp), 0 ≤ r → r < m → PenAt H' p c (n + 1) → But p H H' → Q (.int r) H'
def spPen (K : PySem.W.Frag) : Sp := fun vs H Q _ => ∃ (a : Addr) (ns : List Int), vs = [.ref a] ∧ SqL K H a (ns.map V.int) ∧
  ∀ (p c : Addr) (H' : Hp), H p = none → H c = none → PenAt H' p c 0 → Same H H' → Q (.ref p) H'
theorem mem_cut {α : Type} {xs : List α} {lo hi : Nat} : ∀ x ∈ (xs.drop lo).take hi, x ∈ xs := fun x h => List.mem_of_mem_drop (List.mem_of_mem_take h)
theorem cut_ints (ns : List Int) (lo hi : Option Int) : ∃ ms : List Int, cutV (ns.map V.int) lo hi = ms.map V.int := by
  unfold cutV
  rw [← List.map_drop, ← List.map_take]
  exact ⟨_, rfl⟩
section
variable {P : Program} {w : World} {K : PySem.W.Frag} {mg : Str → Option Value} {base : Heap}
theorem scPen : FnScope ["_law_script"] ["_law_script"] (defScope sPen) := ⟨rfl, rfl, rfl, by decide +kernel, rfl, by decide +kernel, by decide +kernel⟩
theorem scTake : FnScope ["_law_pen_here", "_law_many_here", "_law_found", "_law_at", "_law_cells", "_law_cell", "_law_one", "_law_two"] ["_law_pen_here", "_law_many_here"] (defScope sTake) := ⟨rfl, rfl, rfl, by decide +kernel, rfl, by decide +kernel, by decide +kernel⟩
theorem ok_pen {f : Addr} {fd : FuncData} (F : Fun K "_law_pen" "_law_pen" sPen f fd) (ml : mg "list" = none) : FnOk P w K mg base CX0 1 f fd ["_law_script"] (spPen K) := by
  refine F.ok scPen (fun vs H Q E h => ?_) (fun cdv A outer s H vs Q E hr h => ?_)
  · obtain ⟨a, ns, rfl, _⟩ := h
    rfl
  · obtain ⟨a, ns, rfl, hS, q⟩ := h
    refine ⟨_, pss_one (ps_ret (pe_disp (pps_cons pe_str (pe_callTy call_list_of (by rfl) ml (by decide +kernel) (pa_cons (pe_slice sl_list (pv 0) po_none (po_some pe_int)) pa_nil))
      (pps_cons pe_str pe_int (pps_cons pe_str pe_int pps_nil))) (by rfl) (by rfl) (fun z => by cases z) (by decide))), ?_⟩
    refine fun p np => ?_
    have s1 : Same H (upd H p (.dK [])) := same_new np
    refine ⟨.ref a, rfl, 63, rfl, a, ns.map V.int, rfl, s1.seq hS, fun t nt => ?_⟩
    obtain ⟨ms, em⟩ := cut_ints ns none (some 63)
    have s2 : Same (upd H p (.dK [])) (upd (upd H p (.dK [])) t (.lst (cutV (ns.map V.int) none (some 63)))) := same_new nt
    refine ⟨t, _, rfl, .inl (SqL.of upd_same), fun c nc => ?_⟩
    have s3 := @same_new _ _ (.lst (cutV (ns.map V.int) none (some 63))) nc
    have hp := s3 _ _ (s2 _ _ upd_same)
    refine ⟨hp, [(kCells, .ref c), (kAt, .int 0), (kLeft, .int 0)], rfl, (by show 3 ≤ 15; decide), ?_⟩
    have s4 := s1.trans (s2.trans s3)
    have npc : p ≠ c := ne_of_none (s2 _ _ upd_same) nc
    refine q p c _ np (s1.free (s2.free nc)) ⟨_, ms, 0, 0, upd_same, (by exact Nat.le_refl 3), ?_, ?_, ?_, ?_, Int.le_refl _, Int.le_refl _, Int.le_refl _⟩ fun b o e => (upd_ne (ne_of_none e np)).trans (s4 b o e)
    · rfl
    · rfl
    · rfl
    · rw [upd_ne npc.symm, upd_same, em]
theorem ok_take {f : Addr} {fd : FuncData} (F : Fun K "_law_take" "_law_take" sTake f fd) (mlen : mg "len" = none) (mabs : mg "abs" = none) : FnOk P w K mg base CX0 1 f fd ["_law_pen_here", "_law_many_here"] spTake := by
  refine F.ok scTake (fun vs H Q E h => ?_) (fun cdv A outer s H vs Q E hr h => ?_)
  · obtain ⟨p, c, n, m, rfl, _⟩ := h
    rfl
  · obtain ⟨p, c, n, m, rfl, pen, hn, m1, m2, q⟩ := h
    have hu := hu_of hr
    have nd := scTake.nd
    refine ⟨_, pss_cons (ps_if (pt_cmpR op_gt (pe_dget hu (pv 0) pe_str (fun _ _ => rfl)) pe_int (nomark _))
        (pss_cons (ps_set (i := 2) nd rfl (Or.inl rfl) (pe_op op_mod (pe_dget hu (pv 0) pe_str (fun _ _ => rfl)) (pv 1)))
        (pss_cons (ps_dput hu (pv 0) pe_str (pe_op op_fdiv (pe_dget hu (pv 0) pe_str (fun _ _ => rfl)) (pv 1)) rfl)
        (pss_one (ps_ret (pv 2))))) pss_nil)
      (pss_cons (ps_set (i := 3) nd rfl (Or.inl rfl) (pe_dget hu (pv 0) pe_str (fun _ _ => rfl)))
      (pss_cons (ps_dput hu (pv 0) pe_str (pe_op op_add (pv 3) pe_int) rfl)
      (pss_cons (ps_set (i := 4) nd rfl (Or.inl rfl) (pe_dget hu (pv 0) pe_str (fun _ _ => rfl)))
      (pss_cons (ps_set (i := 5) nd rfl (Or.inl rfl) (pe_op op_add (pe_op op_add (pe_op op_mul (pe_op op_mul pe_int (pv 3)) (pv 3)) (pe_op op_mul pe_int (pv 3))) pe_int))
      (C8.pss_cut (ps_if (pt_cmpR (op_neD hr.units) (pv 4) (pe_lst pa_nil) (nomark _))
        (pss_one (ps_set (i := 5) nd rfl (Or.inl rfl) (pe_ix ix_list (pv 4) (pe_op op_mod (pv 3) (pe_callB call_len_seq (by rfl) mlen PySem.boot_len (pa_cons (pv 4) pa_nil))) (fun _ _ => rfl)))) pss_nil)
      (C8.pss_cut (ps_if (PW.pt (pw_and (pt_cmpR op_lt (pv 3) (pe_callB call_len_seq (by rfl) mlen PySem.boot_len (pa_cons (pv 4) pa_nil)) (nomark _))
          (pw_and1 (pt_cmpR op_ge (pe_callB call_abs (by rfl) mabs (by decide +kernel) (pa_cons (pv 5) pa_nil)) (pe_op op_pow pe_int pe_int) (nomark _)))))
        (pss_cons (ps_dput hu (pv 0) pe_str (pe_op op_fdiv (pe_callB call_abs (by rfl) mabs (by decide +kernel) (pa_cons (pv 5) pa_nil)) (pv 1)) rfl)
        (pss_one (ps_ret (pe_op op_mod (pe_callB call_abs (by rfl) mabs (by decide +kernel) (pa_cons (pv 5) pa_nil)) (pv 1))))) pss_nil)
      (pss_cons (ps_set (i := 6) nd rfl (Or.inl rfl) (pe_op op_mod (pe_op op_pow (pe_op op_add (pe_op op_add (pe_op op_mod (pv 5) pe_int) (pe_op op_mul pe_int (pv 3))) pe_int) pe_int) pe_int))
      (pss_cons (ps_set (i := 7) nd rfl (Or.inl rfl) (pe_op op_mod (pe_op op_pow (pe_op op_add (pe_op op_add (pv 6) (pe_op op_mul (pe_op op_mul pe_int (pv 3)) (pv 3))) pe_int) pe_int) pe_int))
      (pss_one (ps_ret (pe_op op_mod (pe_op op_fdiv (pe_op op_mod (pe_op op_mul (pv 7) (pe_op op_add (pe_op op_mod (pv 6) pe_int) pe_int)) pe_int) pe_int) (pv 1)))))))))))), ?_⟩
    obtain ⟨kvs, ns, a, l, g1, g2, g3, g4, g5, g6, g7, g8, g9⟩ := pen.ex
    have hsz : kvs.length < sizeLine := small1000 (by omega)
    have npc : p ≠ c := ne_of g1 g6 (by intro z; cases z)
    -- the left
    refine ⟨_, rfl, p, _, rfl, dget_s g1 g5, l, 0, rfl, rfl, _, rfl, ite2 (fun e => ?_) (fun e => ?_)⟩
    · have e' : 0 < l := of_decide_eq_true e
      refine ⟨_, rfl, p, _, rfl, dget_s g1 g5, _, rfl, l, m, rfl, rfl, (by show (0 : Int) < m; omega), ?_⟩
      refine ⟨_, rfl, p, _, rfl, dget_s g1 g5, _, rfl, l, m, rfl, rfl, ⟨by omega, by omega⟩, _, rfl, p, _, rfl, dput_s g1 hsz, _, rfl, ?_⟩
      refine q _ _ (Int.emod_nonneg _ (by omega)) (Int.emod_lt_of_pos _ (by omega)) ⟨_, ns, a, l / m, upd_same, (by rw [put_len g5]; exact g2), ?_, ?_, ?_, ?_, g7, by omega, Int.ediv_nonneg (by omega) (by omega)⟩ fun b o z nb => (upd_ne nb).trans z
      · rw [valV_put, if_neg nCL]; exact g3
      · rw [valV_put, if_neg nAL]; exact g4
      · rw [valV_put, if_pos rfl]
      · rw [upd_ne npc.symm]; exact g6
    · -- a new cell
      refine ⟨_, rfl, p, _, rfl, dget_s g1 g4, ?_⟩
      refine ⟨_, rfl, a, 1, rfl, rfl, _, rfl, p, _, rfl, dput_s g1 hsz, ?_⟩
      have k1 : (upd H p (.dK (putK kvs kAt (.int (a + 1))))) p = some (.dK (putK kvs kAt (.int (a + 1)))) := upd_same
      have v3 : valV (putK kvs kAt (.int (a + 1))) kCells = some (.ref c) := by rw [valV_put, if_neg nCA]; exact g3
      have v4 : valV (putK kvs kAt (.int (a + 1))) kAt = some (.int (a + 1)) := by rw [valV_put, if_pos rfl]
      have v5 : valV (putK kvs kAt (.int (a + 1))) kLeft = some (.int l) := by rw [valV_put, if_neg nLA]; exact g5
      have k2 : (putK kvs kAt (.int (a + 1))).length ≤ 3 := by rw [put_len g4]; exact g2
      have k6 : (upd H p (.dK (putK kvs kAt (.int (a + 1))))) c = some (.lst (ns.map V.int)) := by rw [upd_ne npc.symm]; exact g6
      generalize putK kvs kAt (.int (a + 1)) = kw at k1 k2 k6 v3 v4 v5
      refine ⟨_, rfl, p, _, rfl, dget_s k1 v3, ?_⟩
      refine ⟨_, rfl, 7211, a, rfl, rfl, .inl ⟨by decide, by decide⟩, _, rfl, _, a, rfl, rfl, .inr ⟨by omega, by omega⟩, _, rfl, 83, a, rfl, rfl, .inl ⟨by decide, by decide⟩, _, _, rfl, rfl, _, 5, rfl, rfl, ?_⟩
      refine ⟨fun σ' H' => ∃ x : Int, σ' = [some (.ref p), some (.int m), none, some (.int a), some (.ref c), some (.int x), none, none] ∧ Same (upd H p (.dK kw)) H', ?_, ?_⟩
      · refine ⟨_, rfl, Nat.zero_le _, fun t nt => ?_⟩
        have s1 := @same_new _ _ (.lst []) nt
        refine ⟨.list (ns.map PyData.int), .list [], .lst (SqL.of (s1 _ _ k6)) (dp_ints ns), .lst (SqL.of upd_same) .nil, PySem.W.ke_shaped_ints ns, PySem.W.ke_shaped_ints [], _, rfl, ?_⟩
        cases e2 : (!PyData.eqv (.list (ns.map PyData.int)) (.list [])) with
        | false => exact iteF ⟨_, rfl, s1⟩
        | true =>
          refine iteT ?_
          have hne : ns ≠ [] := fun z => by
            subst z
            rw [show PyData.eqv (.list (([] : List Int).map PyData.int)) (.list []) = true from rfl] at e2
            cases e2
          have hlen : 0 < ns.length := List.length_pos_iff.mpr hne
          have hlt : (a % (ns.length : Int)).toNat < ns.length := by
            have h1 := Int.emod_nonneg a (show (ns.length : Int) ≠ 0 by omega)
            have h2 := Int.emod_lt_of_pos a (show (0 : Int) < ns.length by omega)
            omega
          refine ⟨_, rfl, _, rfl, _, rfl, c, _, rfl, .inl (SqL.of (s1 _ _ k6)), a, _, rfl, rfl, ?_, c, _, _, .int ns[(a % (ns.length : Int)).toNat], rfl, rfl, SqL.of (s1 _ _ k6), ?_, _, rfl, s1⟩
          · show (0 : Int) < ((ns.map V.int).length : Int)
            rw [List.length_map]; omega
          · rw [List.length_map]
            refine at_of (j := (a % (ns.length : Int)).toNat) (Int.toNat_of_nonneg (Int.emod_nonneg a (show (ns.length : Int) ≠ 0 by omega))).symm ?_
            rw [List.getElem?_map, List.getElem?_eq_getElem hlt]
            rfl
      · rintro σ' H2 ⟨x, rfl, s1⟩
        have j1 := s1 _ _ k1
        have j6 := s1 _ _ k6
        have bt : But p H H2 := fun b o z nb => s1 _ _ ((upd_ne nb).trans z)
        have absn : (0 : Int) ≤ if x < 0 then -x else x := by split <;> omega
        have fin : ∀ r : Int, 0 ≤ r → r < m → Q (.int r) H2 := fun r r1 r2 => q r H2 r1 r2 ⟨kw, ns, a + 1, l, j1, k2, v3, v4, v5, j6, by omega, by omega, g9⟩ bt
        have a2 : 0 ≤ 611 * a * a ∧ 611 * a * a ≤ 61100000 * 100000 := ⟨Int.mul_nonneg (by omega) g7, Int.mul_le_mul (by omega) (by omega) g7 (by decide)⟩
        refine ⟨fun σ' H' => σ' = [some (.ref p), some (.int m), none, some (.int a), some (.ref c), some (.int x), none, none] ∧ H' = H2, ?_, ?_⟩
        · refine ⟨_, rfl, _, rfl, c, _, rfl, .inl (SqL.of j6), a, _, rfl, rfl, _, rfl, ?_⟩
          refine ite2 (fun _ => ?_) (fun _ => ?_)
          · refine ⟨_, rfl, x, rfl, 10, 18, rfl, rfl, ⟨by decide, by decide, by decide⟩, _, _, rfl, rfl, _, rfl, ite2 (fun _ => ?_) (fun _ => ⟨rfl, rfl⟩)⟩
            refine ⟨_, rfl, x, rfl, _, rfl, _, m, rfl, rfl, ⟨by omega, by omega⟩, _, rfl, p, _, rfl, dput_s j1 (small1000 (by omega)), ?_⟩
            refine ⟨_, rfl, x, rfl, _, rfl, _, m, rfl, rfl, (by show (0 : Int) < m; omega), ?_⟩
            refine q _ _ (Int.emod_nonneg _ (by omega)) (Int.emod_lt_of_pos _ (by omega)) ⟨_, ns, a + 1, (if x < 0 then -x else x) / m, upd_same, (by rw [put_len v5]; exact k2), ?_, ?_, ?_, ?_, by omega, by omega, Int.ediv_nonneg absn (by omega)⟩ fun b o z nb => (upd_ne nb).trans (bt b o z nb)
            · rw [valV_put, if_neg nCL]; exact v3
            · rw [valV_put, if_neg nAL]; exact v4
            · rw [valV_put, if_pos rfl]
            · rw [upd_ne npc.symm]; exact j6
          · exact iteF ⟨rfl, rfl⟩
        · rintro σ' H' ⟨rfl, rfl⟩
          have b1 := Int.emod_nonneg x (show (2147483629 : Int) ≠ 0 by decide)
          have b2 := Int.emod_lt_of_pos x (show (0 : Int) < 2147483629 by decide)
          refine ⟨_, rfl, x, _, rfl, rfl, (by show (0 : Int) < 2147483629; decide), _, rfl, 30011, a, rfl, rfl, .inl ⟨by decide, by decide⟩, _, _, rfl, rfl, _, 17, rfl, rfl, _, 3, rfl, rfl, ⟨by decide, by decide, ?_⟩, _, 2147483587, rfl, rfl, (by show (0 : Int) < 2147483587; decide), ?_⟩
          · generalize x % 2147483629 = y at b1 b2
            show (y + 30011 * a + 17).natAbs < 2 ^ 64
            omega
          · generalize (x % 2147483629 + 30011 * a + 17) ^ (3 : Int).toNat = z
            have d1 := Int.emod_nonneg z (show (2147483587 : Int) ≠ 0 by decide)
            have d2 := Int.emod_lt_of_pos z (show (0 : Int) < 2147483587 by decide)
            obtain ⟨o, ho⟩ : ∃ o, z % 2147483587 = o := ⟨_, rfl⟩
            rw [ho] at d1 d2
            show tSeq _ _ _ [some (.ref p), some (.int m), none, some (.int a), some (.ref c), some (.int x), some (.int (z % 2147483587)), none] _
            rw [ho]
            have f1 := Int.emod_nonneg o (show (65521 : Int) ≠ 0 by decide)
            have f2 := Int.emod_lt_of_pos o (show (0 : Int) < 65521 by decide)
            refine ⟨_, rfl, _, rfl, 611, a, rfl, rfl, .inl ⟨by decide, by decide⟩, _, rfl, _, a, rfl, rfl, .inr ⟨by omega, by omega⟩, o, _, rfl, rfl, _, 29, rfl, rfl, _, 5, rfl, rfl, ⟨by decide, by decide, ?_⟩, _, 2147483563, rfl, rfl, (by show (0 : Int) < 2147483563; decide), ?_⟩
            · show (o + 611 * a * a + 29).natAbs < 2 ^ 64
              omega
            · refine ⟨_, rfl, _, rfl, o, 65521, rfl, rfl, (by show (0 : Int) < 65521; decide), _, 1, rfl, rfl, _, _, rfl, rfl, .inr ⟨by omega, by omega⟩, _, 2147483549, rfl, rfl, (by show (0 : Int) < 2147483549; decide), _, 64, rfl, rfl, ⟨by decide, by decide⟩, _, rfl, _, m, rfl, rfl, (by show (0 : Int) < m; omega), ?_⟩
              exact fin _ (Int.emod_nonneg _ (by omega)) (Int.emod_lt_of_pos _ (by omega))
end
/-! ### texts as lists of signs -/
abbrev sc (l : List Nat) : Str := ⟨l.toArray⟩
theorem sc_list (z : Str) : sc z.cps.toList = z := rfl
theorem sc_len (l : List Nat) : (sc l).length = l.length := by
  show l.toArray.size = l.length
  simp
theorem sc_app (a b : List Nat) : (sc a ++ sc b : Str) = sc (a ++ b) := by
  have h : TL.tl (sc a ++ sc b) = TL.tl (sc (a ++ b)) := by
    rw [TL.tl_append]
  have h2 := congrArg sc h
  exact h2
theorem sc_take (l : List Nat) {k : Nat} (hk : k ≤ l.length) : cutS (sc l) none (some (k : Int)) = sc (l.take k) := by
  unfold cutS
  rw [HT.sIx_none, HT.sIx_nat, sc_len, Nat.min_eq_left hk]
  show sc ((l.toArray.toList.drop 0).take (k - 0)) = sc (l.take k)
  simp
theorem sc_drop (l : List Nat) {k : Nat} (hk : k ≤ l.length) : cutS (sc l) (some (k : Int)) none = sc (l.drop k) := by
  unfold cutS
  rw [HT.sIx_none, HT.sIx_nat, sc_len, Nat.min_eq_left hk]
  show sc ((l.toArray.toList.drop k).take (l.length - k)) = sc (l.drop k)
  rw [List.take_of_length_le (by simp)]
theorem sc_join (ls : List (List Nat)) : Txt.join "" (ls.map sc) = sc ls.flatten := by
  have h : ∀ l : List (List Nat), TL.joinL [] l = l.flatten := by
    intro l
    induction l with
    | nil => rfl
    | cons p r ih =>
      cases r with
      | nil => show p = [p].flatten; simp
      | cons q r => show p ++ ([] ++ TL.joinL [] (q :: r)) = _; rw [List.nil_append, ih]; rfl
  have e := TL.tl_join "" (ls.map sc)
  rw [show TL.tl ("" : Str) = [] from rfl, h, List.map_map] at e
  rw [TL.join_eq]
  have e2 : ls.map (TL.tl ∘ sc) = ls := by
    have : (TL.tl ∘ sc) = id := funext fun l => by show l.toArray.toList = l; simp
    rw [this, List.map_id]
  rw [e2] at e
  exact congrArg sc e
abbrev abc : Str := "abcdefghijklmnopqrstuvwxyz"
def Lc (i : Nat) : Nat := abc.cps.toList.getD i 0
theorem abc_len : abc.cps.toList.length = 26 := by decide +kernel
theorem at_abc {r : Int} (h0 : 0 ≤ r) (h1 : r < 26) : atI abc.cps.toList r = some (Lc r.toNat) := by
  have h : r.toNat < abc.cps.toList.length := by rw [abc_len]; omega
  have e : ((r.toNat : Nat) : Int) = r := by omega
  have q := atI_nat (List.getElem?_eq_getElem h)
  rw [e] at q
  rw [q, Lc, List.getD_eq_getElem?_getD, List.getElem?_eq_getElem h]
  rfl
theorem Lc_in {i : Nat} (h : i < 26) : Lc i ∈ abc.cps.toList := by
  rw [Lc, List.getD_eq_getElem?_getD, List.getElem?_eq_getElem (by rw [abc_len]; exact h)]
  exact List.getElem_mem _
/-! ### the names that a law draws -/
def nmPair (t k : Nat) : List Nat := [Lc ((t + 7 * k) % 26), Lc ((t + k / 26) % 26)]
def bij (t : Nat) : Nat → List Nat
  | 0 => []
  | r + 1 => bij t (r / 2) ++ [Lc ((t + 9 * ((r + 1) % 2)) % 26)]
def nm (way t : Nat) (B : List Nat) (sp k : Nat) : List Nat := if way = 1 then bij t (k + 1) else B.take sp ++ nmPair t k ++ B.drop sp
def nmStr (way t : Nat) (B : List Nat) (sp k : Nat) : Str := sc (nm way t B sp k)
structure NmOk (way t : Nat) (B : List Nat) (sp : Nat) : Prop where
  t26 : t < 26
  b6 : B.length ≤ 6
  bl : ∀ c ∈ B, c ∈ abc.cps.toList
  s : sp ≤ B.length
/-- a list of names at l -/
def NmAt (H : Hp) (l : Addr) (m : Nat) : Prop := ∃ way t B sp, NmOk way t B sp ∧ H l = some (.lst ((List.range m).map fun k => V.str (nmStr way t B sp k)))
theorem bij_len (t : Nat) : ∀ r, (bij t r).length = if r = 0 then 0 else (bij t ((r - 1) / 2)).length + 1
  | 0 => by rw [bij]; rfl
  | r + 1 => by rw [bij, List.length_append, if_neg (by omega)]; rfl
theorem bij_le (t : Nat) : ∀ r, (bij t r).length ≤ r
  | 0 => by rw [bij]; exact Nat.le_refl _
  | r + 1 => by
    rw [bij, List.length_append]
    have := bij_le t (r / 2)
    show _ + 1 ≤ _
    omega
theorem flat_one : ∀ B : List Nat, (B.map fun c => [c]).flatten = B
  | [] => rfl
  | b :: r => by rw [List.map_cons, List.flatten_cons, flat_one r]; rfl
theorem sum_one : ∀ B : List Nat, (((B.map fun c => [c]).map sc).map (·.length)).sum = B.length
  | [] => rfl
  | b :: r => by
    rw [List.map_cons, List.map_cons, List.map_cons, List.sum_cons, sum_one r, List.length_cons, sc_len]
    exact Nat.add_comm _ _
def restOf (σ : L2.St) (_ : Hp) : Nat := match σ[10]? with
  | some (some (V.int r)) => r.toNat
  | _ => 0
/-- what _law_names promises -/
def spNames : Sp := fun vs H Q _ => ∃ (p c : Addr) (n : Nat) (m : Int), vs = [.ref p, .int m] ∧ PenAt H p c n ∧ n ≤ 50000 ∧ 0 ≤ m ∧ m ≤ 31 ∧
  ∀ (l : Addr) (H' : Hp), H l = none → NmAt H' l m.toNat → PenAt H' p c (n + 10) → But p H H' → Q (.ref l) H'
theorem yesT {σ : L2.St} {H : Hp} {A B : Hp → Prop} (h : A H) : tYes σ H fun b H3 => if b = true then A H3 else B H3 := iteT (A := A H) (B := B H) h
theorem small_sz {n : Nat} (h : n ≤ 1000) : n ≤ sizeLine := Nat.le_of_lt (small1000 h)
theorem at_ex {α : Type} {xs : List α} {r : Int} (h0 : 0 ≤ r) (h1 : r < (xs.length : Int)) : ∃ v, atI xs r = some v ∧ v ∈ xs := by
  have h : r.toNat < xs.length := by omega
  have e : ((r.toNat : Nat) : Int) = r := by omega
  have q := atI_nat (List.getElem?_eq_getElem h)
  rw [e] at q
  exact ⟨_, q, List.getElem_mem h⟩
/-- the def _law_take, as its callers need it -/
structure TakeT (P : Program) (w : World) (K : PySem.W.Frag) (mg : Str → Option Value) (base : Heap) (f : Addr) (fd : FuncData) : Prop where
  ok : FnOk P w K mg base CX0 1 f fd ["_law_pen_here", "_law_many_here"] spTake
  g : mg "_law_take" = some (.ref f)
  kp : PySem.W.keepIn K (.ref f) = true
  b : Binds K fd ["_law_pen_here", "_law_many_here"] []
/-- any def, as its callers need it -/
structure DefT (P : Program) (w : World) (K : PySem.W.Frag) (mg : Str → Option Value) (base : Heap) (x : Str) (k : Nat) (f : Addr) (fd : FuncData) (ps : List Str) (sp : Sp) : Prop where
  ok : FnOk P w K mg base CX0 k f fd ps sp
  g : mg x = some (.ref f)
  kp : PySem.W.keepIn K (.ref f) = true
  b : Binds K fd ps []
/-! ### names round a telling one -/
theorem mulOk01 (x : Str) (b : Bool) : MulOk x (if b = true then 1 else 0) := by
  cases b with
  | true => exact ⟨by decide, fun _ z => by simp at z, fun _ z => by simp at z⟩
  | false => exact ⟨by decide, fun z => absurd (by decide) z, fun z => absurd (by decide) z⟩
theorem op_mul01 {X : Cx} : OpR X (binaryOp .Mult) (fun x y H Q => ∃ (i : Str) (b : Bool), x = .str i ∧ y = .int (if b = true then 1 else 0) ∧ Q (.str (if b = true then i else "")) H) := by
  intro pins s σ H x y v u Q I rx ry h
  obtain ⟨i, b, rfl, rfl, q⟩ := h
  obtain ⟨t, rfl⟩ := rx
  obtain ⟨t', rfl⟩ := ry
  have e : Txt.mul i (if b = true then 1 else 0) = if b = true then i else "" := by cases b <;> rfl
  exact SB.mul (mulOk01 i b) fun t' tk => ⟨.str (Txt.mul i (if b = true then 1 else 0)), H, I.tok _, ⟨_, rfl⟩, by rw [e]; exact q⟩
def moreL (c k : Nat) : List Nat := (if k % 2 = 1 then [c] else []) ++ (if 26 ≤ k then [97, 98] else [])
def nw (B : List Nat) (sp t st k : Nat) : List Nat := B.take sp ++ [Lc ((t + st * k) % 26)] ++ B.drop sp ++ moreL (Lc ((t + st * k) % 26)) k
structure NrOk (b : Nat) (B : List Nat) (sp t st : Nat) : Prop where
  b : B.length ≤ b
  bl : ∀ c ∈ B, c ∈ abc.cps.toList
  s : sp ≤ B.length
  t : t < 26
  st : st = 1 ∨ st = 7 ∨ st = 25 ∨ st = 11
abbrev nrV (B : List Nat) (sp t st : Nat) : HO := .tup [.str (sc B), .int (sp : Int), .int (t : Int), .int (st : Int)]
def spNamer : Sp := fun vs H Q _ => ∃ (p c : Addr) (n : Nat) (m : Int), vs = [.ref p, .int m] ∧ PenAt H p c n ∧ n ≤ 50000 ∧ 1 ≤ m ∧ m ≤ 7 ∧
  ∀ (a : Addr) (B : List Nat) (sp t st : Nat) (H' : Hp), H a = none → NrOk (m - 1).toNat B sp t st → H' a = some (nrV B sp t st) → PenAt H' p c (n + 10) → But p H H' → Q (.ref a) H'
def spName : Sp := fun vs H Q _ => ∃ (a : Addr) (b : Nat) (B : List Nat) (sp t st : Nat) (k : Nat), vs = [.ref a, .int (k : Int)] ∧ NrOk b B sp t st ∧ b ≤ 6 ∧ k < 30 ∧ H a = some (nrV B sp t st) ∧ Q (.str (sc (nw B sp t st k))) H
section
variable {P : Program} {w : World} {K : PySem.W.Frag} {mg : Str → Option Value} {base : Heap}
abbrev namerN : List Str := ["_law_pen_here", "_law_most", "_law_letters", "_law_base", "_law_k"]
theorem scNamer : FnScope namerN ["_law_pen_here", "_law_most"] (defScope sNamer) := ⟨rfl, rfl, rfl, by decide +kernel, rfl, by decide +kernel, by decide +kernel⟩
abbrev nameN : List Str := ["_law_namer_here", "_law_k", "_law_letters", "_law_base", "_law_spot", "_law_turn", "_law_step", "_law_letter", "_law_more"]
theorem scName : FnScope nameN ["_law_namer_here", "_law_k"] (defScope sName) := ⟨rfl, rfl, rfl, by decide +kernel, rfl, by decide +kernel, by decide +kernel⟩
set_option maxHeartbeats 4000000 in
theorem ok_namer {f fT : Addr} {fd fdT : FuncData} (F : Fun K "_law_namer" "_law_namer" sNamer f fd) (T : TakeT P w K mg base fT fdT) (ml : mg "len" = none) (mr : mg "range" = none) :
    FnOk P w K mg base CX0 2 f fd ["_law_pen_here", "_law_most"] spNamer := by
  refine F.ok scNamer (fun vs H Q E h => ?_) (fun cdv A outer s H vs Q E hr h => ?_)
  · obtain ⟨p, c, n, m, rfl, _⟩ := h
    rfl
  · obtain ⟨p, c, n, m, rfl, pen, hn, m1, m7, q⟩ := h
    have nd := scNamer.nd
    refine ⟨_, pss_cons (ps_set (i := 2) nd rfl (Or.inr rfl) pe_str)
      (pss_cons (ps_set (i := 3) nd rfl (Or.inl rfl) (pe_join pe_str (pe_lc (own := [("_law_k", 4)]) (g := gName 4) (tt := tYes) rfl nd
          (pi_range1 rfl mr (pa_cons (pe_call T.ok hr (by rfl) T.g T.kp T.b .nil pass0 (pa_cons (pv 0) (pa_cons (pv 1) pa_nil))) pa_nil))
          (blkOk_by (N := namerN) (sc := defScope sNamer) (by decide +kernel))
          (fun _ _ _ _ _ => pg_name (i := 4) nd rfl (Or.inl rfl)) (fun _ _ _ _ _ => pts_nil)
          (fun _ _ _ _ _ => pe_ix ix_str (pv 2) (pe_call T.ok hr (by rfl) T.g T.kp T.b .nil pass0 (pa_cons (pv 0) (pa_cons pe_int pa_nil))) (fun _ _ => rfl)))))
      (pss_one (ps_ret (pe_tup (pa_cons (pv 3) (pa_cons (pe_call T.ok hr (by rfl) T.g T.kp T.b .nil pass0 (pa_cons (pv 0) (pa_cons (pe_op op_add (pe_callB call_len_str (by rfl) ml PySem.boot_len (pa_cons (pv 3) pa_nil)) pe_int) pa_nil)))
        (pa_cons (pe_call T.ok hr (by rfl) T.g T.kp T.b .nil pass0 (pa_cons (pv 0) (pa_cons pe_int pa_nil)))
        (pa_cons (pe_ix ix_list (pe_lst (pa_cons pe_int (pa_cons pe_int (pa_cons pe_int (pa_cons pe_int pa_nil))))) (pe_call T.ok hr (by rfl) T.g T.kp T.b .nil pass0 (pa_cons (pv 0) (pa_cons pe_int pa_nil))) (fun _ _ => rfl)) pa_nil)))))))), ?_⟩
    refine ⟨⟨_, rfl⟩, _, rfl, _, rfl, p, c, n, m, rfl, pen, by omega, by omega, by omega, fun kk H3 k0 k6 pen3 bt3 => ⟨kk, rfl, by omega, by omega, fun D nD => ?_⟩⟩
    have nDp : D ≠ p := fun z => pen3.there (z ▸ nD)
    have nDc : D ≠ c := fun z => pen3.cells (z ▸ nD)
    have hDn : H D = none := by
      cases e : H D with
      | none => rfl
      | some o => rw [bt3 D o e nDp] at nD; cases nD
    refine lc_range (lo := 0) (n := kk.toNat) (fun j H' => PenAt H' p c (n + 1 + j) ∧ But p H H' ∧ ∃ B : List Nat, H' D = some (.lst (((B.map fun c => [c]).map sc).map V.str)) ∧ B.length = j ∧ ∀ c ∈ B, c ∈ abc.cps.toList)
      ⟨pen3.same (same_new nD), bt3.tr (.of (same_new nD)), [], upd_same, rfl, fun y hy => nomatch hy⟩ ?_ ?_
    · rintro j H6 hj ⟨pen6, bt6, B, hD6, ly, one⟩
      refine ⟨rfl, yesT ?_⟩
      refine ⟨_, rfl, _, rfl, p, c, _, 26, rfl, pen6, by omega, by decide, by decide, fun r H7 a7 b7 pen7 bt7 => ?_⟩
      have hD7 := bt7 D _ hD6 nDp
      refine ⟨abc, r, _, rfl, rfl, (by decide +kernel), at_abc a7 b7, _, hD7, (by simp only [List.length_map]; exact small1000 (by omega)), pen7.upd nDp nDc, fun b o e nb => (upd_ne (ne_of_none e hDn)).trans ((bt6.tr bt7) b o e nb), B ++ [Lc r.toNat], ?_, by simp [ly], ?_⟩
      · rw [upd_same, List.map_append, List.map_append, List.map_append]
        rfl
      · intro y hy
        rcases List.mem_append.mp hy with h | h
        · exact one y h
        · rw [List.mem_singleton.mp h]
          exact Lc_in (by omega)
    · rintro H6 ⟨pen6, bt6, B, hD6, ly, one⟩
      have ej : Txt.join "" ((B.map fun c => [c]).map sc) = sc B := by rw [sc_join, flat_one]
      refine ⟨"", D, (B.map fun c => [c]).map sc, rfl, rfl, .inl (SqL.of hD6), (by rw [sum_one]; simp only [List.length_map]; show B.length + B.length * 0 ≤ 16777216; omega), ?_⟩
      rw [ej]
      refine ⟨_, rfl, _, rfl, _, rfl, sc B, rfl, (by rw [sc_len]; exact small_sz (by omega)), _, 1, rfl, rfl, p, c, n + 7, (B.length : Int) + 1, (by rw [sc_len]; rfl), pen6.mono (by omega), by omega, by omega, by omega, fun r4 H7 a4 b4 pen7 bt7 => ?_⟩
      refine ⟨_, rfl, p, c, n + 8, 26, rfl, pen7, by omega, by decide, by decide, fun r5 H8 a5 b5 pen8 bt8 => ?_⟩
      refine ⟨(by show 4 ≤ sizeLine; decide), fun l nl => ?_⟩
      have sl := @same_new _ _ (.lst [V.int 1, .int 7, .int 25, .int 11]) nl
      have nlp : l ≠ p := fun z => pen8.there (z ▸ nl)
      refine ⟨_, rfl, p, c, n + 9, 4, rfl, pen8.same sl, by omega, by decide, by decide, fun r6 H9 a6 b6 pen9 bt9 => ?_⟩
      obtain ⟨st, hst, so⟩ : ∃ st : Nat, atI [V.int 1, .int 7, .int 25, .int 11] r6 = some (.int (st : Int)) ∧ (st = 1 ∨ st = 7 ∨ st = 25 ∨ st = 11) := by
        have w4 : r6 = 0 ∨ r6 = 1 ∨ r6 = 2 ∨ r6 = 3 := by omega
        rcases w4 with rfl | rfl | rfl | rfl
        · exact ⟨1, atI_nat (j := 0) rfl, .inl rfl⟩
        · exact ⟨7, atI_nat (j := 1) rfl, .inr (.inl rfl)⟩
        · exact ⟨25, atI_nat (j := 2) rfl, .inr (.inr (.inl rfl))⟩
        · exact ⟨11, atI_nat (j := 3) rfl, .inr (.inr (.inr rfl))⟩
      refine ⟨l, _, r6, _, rfl, rfl, SqL.of (bt9 l _ upd_same nlp), hst, (by show 4 ≤ sizeLine; decide), fun t nt => ?_⟩
      have ntp : t ≠ p := fun z => pen9.there (z ▸ nt)
      have btA : But p H H9 := bt6.tr (bt7.tr (bt8.tr ((But.of sl).tr bt9)))
      have tn : H t = none := by
        cases e : H t with
        | none => rfl
        | some o => rw [btA t o e ntp] at nt; cases nt
      have e4 : ((r4.toNat : Nat) : Int) = r4 := by omega
      have e5 : ((r5.toNat : Nat) : Int) = r5 := by omega
      refine q t B r4.toNat r5.toNat st _ tn ⟨by omega, one, by omega, by omega, so⟩ ?_ (pen9.same (same_new nt)) (btA.tr (.of (same_new nt)))
      rw [upd_same, nrV, e4, e5]
set_option maxHeartbeats 4000000 in
theorem ok_name {f : Addr} {fd : FuncData} (F : Fun K "_law_name" "_law_name" sName f fd) : FnOk P w K mg base CX0 1 f fd ["_law_namer_here", "_law_k"] spName := by
  refine F.ok scName (fun vs H Q E h => ?_) (fun cdv A outer s H vs Q E hr h => ?_)
  · obtain ⟨a, b, B, sp, t, st, k, rfl, _⟩ := h
    rfl
  · obtain ⟨a, b, B, sp, t, st, k, rfl, ok, b6, k30, ha, q⟩ := h
    have nd := scName.nd
    refine ⟨_, pss_cons (ps_set (i := 2) nd rfl (Or.inl rfl) pe_str)
      (pss_cons (ps_asg (pv 0) (pg_tup (by rfl) (pgs_cons (pg_name (i := 3) nd rfl (Or.inl rfl)) (pgs_cons (pg_name (i := 4) nd rfl (Or.inl rfl)) (pgs_cons (pg_name (i := 5) nd rfl (Or.inl rfl)) (pgs_cons (pg_name (i := 6) nd rfl (Or.inl rfl)) pgs_nil))))))
      (pss_cons (ps_set (i := 7) nd rfl (Or.inl rfl) (pe_ix ix_str (pv 2) (pe_op op_mod (pe_op op_add (pv 5) (pe_op op_mul (pv 6) (pv 1))) pe_int) (fun _ _ => rfl)))
      (pss_cons (ps_set (i := 8) nd rfl (Or.inl rfl) (pe_op op_add_str (pe_op op_mul01 (pv 7) (pe_op op_mod (pv 1) pe_int)) (pe_op op_mul01 pe_str (pe_op op_fdiv (pv 1) pe_int))))
      (pss_one (ps_ret (pe_op op_add_str (pe_op op_add_str (pe_op op_add_str (pe_slice sl_str (pv 3) po_none (po_some (pv 4))) (pv 7)) (pe_slice sl_str (pv 3) (po_some (pv 4)) po_none)) (pv 8))))))), ?_⟩
    have i1 : 0 ≤ ((t : Int) + (st : Int) * (k : Int)) % 26 := Int.emod_nonneg _ (by decide)
    have i2 : ((t : Int) + (st : Int) * (k : Int)) % 26 < 26 := Int.emod_lt_of_pos _ (by decide)
    have q1 : (((t : Int) + (st : Int) * (k : Int)) % 26).toNat = (t + st * k) % 26 := by
      have : (((t : Int) + (st : Int) * (k : Int)) % 26) = (((t + st * k) % 26 : Nat) : Int) := by simp
      rw [this]
      rfl
    have st25 : st ≤ 25 := by
      have := ok.st
      omega
    refine ⟨_, rfl, a, _, rfl, SqT.of ha, rfl, _, _, rfl, _, _, rfl, _, _, rfl, _, _, rfl, rfl, ?_⟩
    refine ⟨_, rfl, _, rfl, _, rfl, _, rfl, (st : Int), (k : Int), rfl, rfl, ?_, (t : Int), _, rfl, rfl, _, 26, rfl, rfl, (by show (0 : Int) < 26; decide), abc, _, _, rfl, rfl, (by decide +kernel), at_abc i1 i2, ?_⟩
    · exact .inl ⟨by omega, by omega⟩
    rw [q1]
    have bB := ok.b
    have sB := ok.s
    have k2 : ((k : Int) % 2) = if decide (k % 2 = 1) = true then 1 else 0 := by
      by_cases z : k % 2 = 1
      · rw [decide_eq_true z, if_pos rfl]
        omega
      · rw [decide_eq_false z, if_neg (by decide)]
        omega
    have k26 : ((k : Int) / 26) = if decide (26 ≤ k) = true then 1 else 0 := by
      by_cases z : 26 ≤ k
      · rw [decide_eq_true z, if_pos rfl]
        omega
      · rw [decide_eq_false z, if_neg (by decide)]
        omega
    generalize hc : Lc ((t + st * k) % 26) = ch
    refine ⟨_, rfl, _, rfl, (k : Int), 2, rfl, rfl, (by show (0 : Int) < 2; decide), ⟨#[ch]⟩, decide (k % 2 = 1), rfl, congrArg V.int k2, ?_⟩
    refine ⟨_, rfl, (k : Int), 26, rfl, rfl, ⟨by decide, by decide⟩, "ab", decide (26 ≤ k), rfl, congrArg V.int k26, ?_⟩
    have m1 : (if decide (k % 2 = 1) = true then (⟨#[ch]⟩ : Str) else "") = sc (if k % 2 = 1 then [ch] else []) := by
      by_cases z : k % 2 = 1
      · rw [decide_eq_true z, if_pos rfl, if_pos z]
      · rw [decide_eq_false z, if_neg (by decide), if_neg z]
        rfl
    have m2 : (if decide (26 ≤ k) = true then ("ab" : Str) else "") = sc (if 26 ≤ k then [97, 98] else []) := by
      by_cases z : 26 ≤ k
      · rw [decide_eq_true z, if_pos rfl, if_pos z]
        decide +kernel
      · rw [decide_eq_false z, if_neg (by decide), if_neg z]
        rfl
    rw [m1, m2]
    have l1 : (if k % 2 = 1 then [ch] else []).length ≤ 1 := by split <;> simp
    have l2 : (if 26 ≤ k then [97, 98] else []).length ≤ 2 := by split <;> simp
    refine ⟨_, _, rfl, rfl, (by rw [sc_len, sc_len]; exact small_sz (by omega)), ?_⟩
    rw [sc_app]
    have c1 : cutS (sc B) none (some (sp : Int)) = sc (B.take sp) := sc_take B sB
    have c2 : cutS (sc B) (some (sp : Int)) none = sc (B.drop sp) := sc_drop B sB
    have szB : (sc B).length ≤ sizeLine := by rw [sc_len]; exact small_sz (by omega)
    refine ⟨_, rfl, _, rfl, (sp : Int), rfl, sc B, rfl, szB, _, rfl, _, _, rfl, rfl, ?_, _, rfl, _, rfl, (sp : Int), rfl, sc B, rfl, szB, _, _, rfl, rfl, ?_, _, rfl, _, _, rfl, rfl, ?_, ?_⟩
    · rw [c1, sc_len]
      refine small_sz ?_
      rw [List.length_take]
      show _ + 1 ≤ _
      omega
    · rw [c1, c2, show (⟨#[ch]⟩ : Str) = sc [ch] from rfl, sc_app, sc_len, sc_len, List.length_append, List.length_take, List.length_drop]
      refine small_sz ?_
      show _ + 1 + _ ≤ _
      omega
    · rw [c1, c2, show (⟨#[ch]⟩ : Str) = sc [ch] from rfl, sc_app, sc_app, sc_len, sc_len, List.length_append, List.length_append, List.length_append, List.length_take, List.length_drop]
      refine small_sz ?_
      show _ + 1 + _ + _ ≤ _
      omega
    · rw [c1, c2, show (⟨#[ch]⟩ : Str) = sc [ch] from rfl, sc_app, sc_app, sc_app]
      rw [nw, hc] at q
      exact q
end
/-! ### entries -/
inductive Ent where
  | come (nm : Str) (mo : Int) (g pl : Str) (many price : Int)
  | go (nm : Str) (mo : Int) (g pl : Str) (many : Int)
  | move (nm : Str) (mo : Int) (g one other : Str) (many : Int)
  | some_ (nm : Str) (mo : Int) (g one other : Str)
  | swap (nm : Str) (mo : Int) (one other : Str)
  | count (nm : Str) (mo : Int) (g pl : Str) (many : Int) (hand : Str)
  | look (nm : Str) (mo : Int) (g pl : Str)
namespace Ent
def word : Ent → Str
  | come .. => "come" | go .. => "go" | move .. => "move" | some_ .. => "some" | swap .. => "swap" | count .. => "count" | look .. => "look"
def name : Ent → Str
  | come n .. => n | go n .. => n | move n .. => n | some_ n .. => n | swap n .. => n | count n .. => n | look n .. => n
def moment : Ent → Int
  | come _ m .. => m | go _ m .. => m | move _ m .. => m | some_ _ m .. => m | swap _ m .. => m | count _ m .. => m | look _ m .. => m
def rest : Ent → List V
  | come _ _ g p m r => [.str g, .str p, .int m, .int r]
  | go _ _ g p m => [.str g, .str p, .int m]
  | move _ _ g o t m => [.str g, .str o, .str t, .int m]
  | some_ _ _ g o t => [.str g, .str o, .str t]
  | swap _ _ o t => [.str o, .str t]
  | count _ _ g p m h => [.str g, .str p, .int m, .str h]
  | look _ _ g p => [.str g, .str p]
def vals (e : Ent) : List V := .str e.word :: .str e.name :: .int e.moment :: e.rest
/-- its parts are drawn from these places, goods and hands -/
def From (PL GL HL : List Str) : Ent → Prop
  | come _ _ g p m r => g ∈ GL ∧ p ∈ PL ∧ 1 ≤ m ∧ m ≤ 1000000000 ∧ 0 ≤ r ∧ r ≤ 1000000000
  | go _ _ g p m => g ∈ GL ∧ p ∈ PL ∧ 1 ≤ m ∧ m ≤ 1000000000
  | move _ _ g o t m => g ∈ GL ∧ o ∈ PL ∧ t ∈ PL ∧ (PL.Nodup → o ≠ t) ∧ 1 ≤ m ∧ m ≤ 1000000000
  | some_ _ _ g o t => g ∈ GL ∧ o ∈ PL ∧ (t = "" ∨ (t ∈ PL ∧ (PL.Nodup → o ≠ t)))
  | swap _ _ o t => o ∈ PL ∧ t ∈ PL ∧ (PL.Nodup → o ≠ t)
  | count _ _ g p m h => g ∈ GL ∧ p ∈ PL ∧ 0 ≤ m ∧ m ≤ 1000000000 ∧ h ∈ HL
  | look _ _ g p => g ∈ GL ∧ p ∈ PL
end Ent
def words7 : List Str := ["come", "go", "move", "some", "swap", "count", "look"]
abbrev words10 : List Str := ["come", "go", "move", "some", "swap", "count", "look", "count", "swap", "move"]
theorem Ent.word_in (e : Ent) : e.word ∈ words7 := by
  cases e <;> simp [Ent.word, words7]
abbrev StrsAt (H : Hp) (l : Addr) (ys : List Str) : Prop := H l = some (.lst (ys.map V.str))
def spMany : Sp := fun vs H Q _ => ∃ (p c : Addr) (n : Nat), vs = [.ref p] ∧ PenAt H p c n ∧ n ≤ 90000 ∧
  ∀ (r : Int) (H' : Hp), 1 ≤ r → r ≤ 1000000000 → PenAt H' p c (n + 4) → But p H H' → Q (.int r) H'
def spEntryOf : Sp := fun vs H Q _ => ∃ (p c : Addr) (n : Nat) (wd nme : Str) (mo : Int) (a1 a2 a3 : Addr) (PL GL HL : List Str), vs = [.ref p, .str wd, .str nme, .int mo, .ref a1, .ref a2, .ref a3] ∧ PenAt H p c n ∧ n ≤ 80000 ∧ wd ∈ words7 ∧
  StrsAt H a1 PL ∧ StrsAt H a2 GL ∧ StrsAt H a3 HL ∧ PL ≠ [] ∧ GL ≠ [] ∧ HL ≠ [] ∧ PL.length ≤ 100 ∧ GL.length ≤ 100 ∧ HL.length ≤ 100 ∧
  ∀ (tp : Addr) (e : Ent) (H' : Hp), H tp = none → H' tp = some (.tup e.vals) → e.name = nme → e.moment = mo → e.From PL GL HL → PenAt H' p c (n + 20) → But p H H' → Q (.ref tp) H'
def spEntry : Sp := fun vs H Q _ => ∃ (p c : Addr) (n : Nat) (nme : Str) (mo : Int) (a1 a2 a3 : Addr) (PL GL HL : List Str), vs = [.ref p, .str nme, .int mo, .ref a1, .ref a2, .ref a3] ∧ PenAt H p c n ∧ n ≤ 70000 ∧
  StrsAt H a1 PL ∧ StrsAt H a2 GL ∧ StrsAt H a3 HL ∧ PL ≠ [] ∧ GL ≠ [] ∧ HL ≠ [] ∧ PL.length ≤ 100 ∧ GL.length ≤ 100 ∧ HL.length ≤ 100 ∧
  ∀ (tp : Addr) (e : Ent) (H' : Hp), H tp = none → H' tp = some (.tup e.vals) → e.name = nme → e.moment = mo → e.From PL GL HL → PenAt H' p c (n + 30) → But p H H' → Q (.ref tp) H'
theorem pen_strs {H H' : Hp} {p c l : Addr} {n : Nat} {ys : List Str} (pen : PenAt H p c n) (b : But p H H') (h : StrsAt H l ys) : StrsAt H' l ys := by
  obtain ⟨kvs, ns, a, x, g1, _⟩ := pen.ex
  exact b l _ h (ne_of h g1 (by intro z; cases z))
theorem pen_free {H H' : Hp} {p c l : Addr} {n : Nat} (pen : PenAt H p c n) (b : But p H H') (h : H' l = none) (pen' : PenAt H' p c n) : H l = none := by
  cases e : H l with
  | none => rfl
  | some o =>
    have nl : l ≠ p := fun z => pen'.there (z ▸ h)
    rw [b l o e nl] at h
    cases h
theorem But.free {H H' : Hp} {p l : Addr} (b : But p H H') (h : H' l = none) (hp : H' p ≠ none) : H l = none := by
  cases e : H l with
  | none => rfl
  | some o =>
    have nl : l ≠ p := fun z => hp (z ▸ h)
    rw [b l o e nl] at h
    cases h
theorem at_strs {ys : List Str} {r : Int} (h0 : 0 ≤ r) (h1 : r < (ys.length : Int)) : ∃ y, atI (ys.map V.str) r = some (.str y) ∧ ys[r.toNat]? = some y ∧ y ∈ ys := by
  have h : r.toNat < ys.length := by omega
  have e : ((r.toNat : Nat) : Int) = r := by omega
  have q := atI_nat (xs := ys.map V.str) (j := r.toNat) (v := .str ys[r.toNat]) (by rw [List.getElem?_map, List.getElem?_eq_getElem h]; rfl)
  rw [e] at q
  exact ⟨_, q, List.getElem?_eq_getElem h, List.getElem_mem h⟩
theorem at_ints {ns : List Int} {r : Int} (h0 : 0 ≤ r) (h1 : r < (ns.length : Int)) : ∃ y, atI (ns.map V.int) r = some (.int y) ∧ y ∈ ns := by
  have h : r.toNat < ns.length := by omega
  have e : ((r.toNat : Nat) : Int) = r := by omega
  have q := atI_nat (xs := ns.map V.int) (j := r.toNat) (v := .int ns[r.toNat]) (by rw [List.getElem?_map, List.getElem?_eq_getElem h]; rfl)
  rw [e] at q
  exact ⟨_, q, List.getElem_mem h⟩
/-- moments drawn, to be drawn from -/
def MomL (ns : List Int) : Prop := ns ≠ [] ∧ ns.length ≤ 12 ∧ ∀ x ∈ ns, 0 ≤ x ∧ x ≤ 9999
def spMoms : Sp := fun vs H Q _ => ∃ (p c : Addr) (n : Nat), vs = [.ref p] ∧ PenAt H p c n ∧ n ≤ 60000 ∧
  ∀ (l : Addr) (ns : List Int) (H' : Hp), H l = none → H' l = some (.lst (ns.map V.int)) → MomL ns → PenAt H' p c (n + 13) → But p H H' → Q (.ref l) H'
section
variable {P : Program} {w : World} {K : PySem.W.Frag} {mg : Str → Option Value} {base : Heap}
theorem scMany : FnScope ["_law_pen_here", "_law_way"] ["_law_pen_here"] (defScope sMany) := ⟨rfl, rfl, rfl, by decide +kernel, rfl, by decide +kernel, by decide +kernel⟩
theorem ok_many {f fT : Addr} {fd fdT : FuncData} (F : Fun K "_law_many" "_law_many" sMany f fd) (T : TakeT P w K mg base fT fdT) : FnOk P w K mg base CX0 2 f fd ["_law_pen_here"] spMany := by
  refine F.ok scMany (fun vs H Q E h => ?_) (fun cdv A outer s H vs Q E hr h => ?_)
  · obtain ⟨p, c, n, rfl, _⟩ := h
    rfl
  · obtain ⟨p, c, n, rfl, pen, hn, q⟩ := h
    have nd := scMany.nd
    refine ⟨_, pss_cons (ps_set (i := 1) nd rfl (Or.inl rfl) (pe_call T.ok hr (by rfl) T.g T.kp T.b .nil pass0 (pa_cons (pv 0) (pa_cons pe_int pa_nil))))
      (pss_cons (ps_if (pt_cmpR op_eq (pv 1) pe_int (nomark _)) (pss_one (ps_ret (pe_op op_sub (pe_op op_pow pe_int pe_int) (pe_call T.ok hr (by rfl) T.g T.kp T.b .nil pass0 (pa_cons (pv 0) (pa_cons pe_int pa_nil)))))) pss_nil)
      (pss_cons (ps_if (pt_cmpR op_eq (pv 1) pe_int (nomark _)) (pss_one (ps_ret (pe_op op_add (pe_op op_add pe_int (pe_op op_mul (pe_call T.ok hr (by rfl) T.g T.kp T.b .nil pass0 (pa_cons (pv 0) (pa_cons (pe_op op_pow pe_int pe_int) pa_nil))) (pe_op op_pow pe_int pe_int))) (pe_call T.ok hr (by rfl) T.g T.kp T.b .nil pass0 (pa_cons (pv 0) (pa_cons (pe_op op_pow pe_int pe_int) pa_nil)))))) pss_nil)
      (pss_one (ps_ret (pe_op op_add pe_int (pe_call T.ok hr (by rfl) T.g T.kp T.b .nil pass0 (pa_cons (pv 0) (pa_cons pe_int pa_nil)))))))), ?_⟩
    refine ⟨_, rfl, p, c, n, 6, rfl, pen, by omega, by decide, by decide, fun r1 H1 a1 b1 pen1 bt1 => ?_⟩
    refine ⟨_, rfl, rfl, _, rfl, ite2 (fun _ => ?_) (fun _ => ?_)⟩
    · refine ⟨10, 9, rfl, rfl, ⟨by decide, by decide, by decide⟩, _, rfl, p, c, n + 1, 3, rfl, pen1, by omega, by decide, by decide, fun r3 H3 a3 b3 pen3 bt3 => ?_⟩
      exact ⟨_, r3, rfl, rfl, q _ _ (by show (1 : Int) ≤ 1000000000 - r3; omega) (by show (1000000000 : Int) - r3 ≤ 1000000000; omega) (pen3.mono (by omega)) (bt1.tr bt3)⟩
    refine ⟨_, rfl, rfl, _, rfl, ite2 (fun _ => ?_) (fun _ => ?_)⟩
    · refine ⟨_, rfl, 10, 4, rfl, rfl, ⟨by decide, by decide, by decide⟩, p, c, n + 1, 10 ^ (4 : Int).toNat, rfl, pen1, by omega, by decide, by decide, fun r3 H3 a3 b3 pen3 bt3 => ?_⟩
      have b3' : r3 < 10000 := b3
      refine ⟨10, 5, rfl, rfl, ⟨by decide, by decide, by decide⟩, r3, 10 ^ (5 : Int).toNat, rfl, rfl, .inr ⟨by decide, by decide⟩, 1, _, rfl, rfl, ?_⟩
      refine ⟨_, rfl, 10, 5, rfl, rfl, ⟨by decide, by decide, by decide⟩, p, c, n + 2, 10 ^ (5 : Int).toNat, rfl, pen3, by omega, by decide, by decide, fun r4 H4 a4 b4 pen4 bt4 => ?_⟩
      have b4' : r4 < 100000 := b4
      exact ⟨_, r4, rfl, rfl, q _ _ (by show (1 : Int) ≤ 1 + r3 * 100000 + r4; omega) (by show (1 : Int) + r3 * 100000 + r4 ≤ 1000000000; omega) (pen4.mono (by omega)) (bt1.tr (bt3.tr bt4))⟩
    · refine ⟨_, rfl, p, c, n + 1, 9, rfl, pen1, by omega, by decide, by decide, fun r3 H3 a3 b3 pen3 bt3 => ?_⟩
      exact ⟨1, r3, rfl, rfl, q _ _ (by omega) (by omega) (pen3.mono (by omega)) (bt1.tr bt3)⟩
abbrev momN : List Str := ["_law_pen_here", "_law_way", "_law_k"]
theorem scMom : FnScope momN ["_law_pen_here"] (defScope sMoments) := ⟨rfl, rfl, rfl, by decide +kernel, rfl, by decide +kernel, by decide +kernel⟩
set_option maxHeartbeats 2000000 in
theorem ok_moms {f fT : Addr} {fd fdT : FuncData} (F : Fun K "_law_moments" "_law_moments" sMoments f fd) (T : TakeT P w K mg base fT fdT) (mr : mg "range" = none) : FnOk P w K mg base CX0 2 f fd ["_law_pen_here"] spMoms := by
  refine F.ok scMom (fun vs H Q E h => ?_) (fun cdv A outer s H vs Q E hr h => ?_)
  · obtain ⟨p, c, n, rfl, _⟩ := h
    rfl
  · obtain ⟨p, c, n, rfl, pen, hn, q⟩ := h
    have nd := scMom.nd
    refine ⟨_, pss_cons (ps_set (i := 1) nd rfl (Or.inl rfl) (pe_call T.ok hr (by rfl) T.g T.kp T.b .nil pass0 (pa_cons (pv 0) (pa_cons pe_int pa_nil))))
      (pss_cons (ps_if (pt_cmpR op_eq (pv 1) pe_int (nomark _)) (pss_one (ps_ret (pe_lst (pa_cons pe_int (pa_cons pe_int (pa_cons pe_int (pa_cons pe_int pa_nil))))))) pss_nil)
      (pss_cons (ps_if (pt_cmpR op_eq (pv 1) pe_int (nomark _)) (pss_one (ps_ret (pe_lst (pa_cons (pe_call T.ok hr (by rfl) T.g T.kp T.b .nil pass0 (pa_cons (pv 0) (pa_cons pe_int pa_nil))) pa_nil)))) pss_nil)
      (pss_one (ps_ret (pe_lc (own := [("_law_k", 2)]) (g := gName 2) (tt := tYes) rfl nd (pi_range1 rfl mr (pa_cons (pe_ix ix_list (pe_lst (pa_cons pe_int (pa_cons pe_int (pa_cons pe_int (pa_cons pe_int pa_nil))))) (pv 1) (fun _ _ => rfl)) pa_nil))
          (blkOk_by (N := momN) (sc := defScope sMoments) (by decide +kernel)) (fun _ _ _ _ _ => pg_name (i := 2) nd rfl (Or.inl rfl)) (fun _ _ _ _ _ => pts_nil)
          (fun _ _ _ _ _ => pe_call T.ok hr (by rfl) T.g T.kp T.b .nil pass0 (pa_cons (pv 0) (pa_cons pe_int pa_nil)))))))), ?_⟩
    refine ⟨_, rfl, p, c, n, 4, rfl, pen, by omega, by decide, by decide, fun r1 H1 a1 b1 pen1 bt1 => ?_⟩
    refine ⟨_, rfl, rfl, _, rfl, ite2 (fun _ => ?_) (fun e0 => ?_)⟩
    · refine ⟨(by show 4 ≤ sizeLine; decide), fun l nl => ?_⟩
      refine q l [0, 99, 100, 9999] _ (bt1.free nl pen1.there) upd_same ⟨by simp, by decide, fun x hx => ?_⟩ ((pen1.mono (by omega)).same (same_new nl)) (bt1.tr (.of (same_new nl)))
      simp only [List.mem_cons, List.not_mem_nil, or_false] at hx
      omega
    refine ⟨_, rfl, rfl, _, rfl, ite2 (fun _ => ?_) (fun e1 => ?_)⟩
    · refine ⟨_, rfl, p, c, n + 1, 10000, rfl, pen1, by omega, by decide, by decide, fun r3 H3 a3 b3 pen3 bt3 => ⟨(by show 1 ≤ sizeLine; decide), fun l nl => ?_⟩⟩
      refine q l [r3] _ ((bt1.tr bt3).free nl pen3.there) upd_same ⟨by simp, (by show 1 ≤ 12; decide), fun x hx => ?_⟩ ((pen3.mono (by omega)).same (same_new nl)) ((bt1.tr bt3).tr (.of (same_new nl)))
      rw [List.mem_singleton.mp hx]
      omega
    · have n0 : r1 ≠ 0 := fun z => e0 (decide_eq_true (congrArg V.int z))
      have n1 : r1 ≠ 1 := fun z => e1 (decide_eq_true (congrArg V.int z))
      refine ⟨(by show 4 ≤ sizeLine; decide), fun l nl => ?_⟩
      obtain ⟨kk, hk, k3, k12⟩ : ∃ kk : Nat, atI [V.int 0, .int 0, .int 3, .int 12] r1 = some (.int (kk : Int)) ∧ 1 ≤ kk ∧ kk ≤ 12 := by
        have w2 : r1 = 2 ∨ r1 = 3 := by omega
        rcases w2 with rfl | rfl
        · exact ⟨3, atI_nat (j := 2) rfl, by decide, by decide⟩
        · exact ⟨12, atI_nat (j := 3) rfl, by decide, by decide⟩
      have s2 := @same_new _ _ (.lst [V.int 0, .int 0, .int 3, .int 12]) nl
      refine ⟨_, rfl, l, _, r1, _, rfl, rfl, SqL.of upd_same, hk, (kk : Int), rfl, by omega, by omega, fun D nD => ?_⟩
      have pen2 := pen1.same s2
      have bt2 := bt1.tr (.of s2)
      generalize upd H1 l (.lst [V.int 0, .int 0, .int 3, .int 12]) = H2 at nD pen2 bt2
      have nDp : D ≠ p := fun z => pen2.there (z ▸ nD)
      have nDc : D ≠ c := fun z => pen2.cells (z ▸ nD)
      have hDn : H D = none := bt2.free nD pen2.there
      refine lc_range (lo := 0) (n := (kk : Int).toNat) (fun j H' => PenAt H' p c (n + 1 + j) ∧ But p H H' ∧ ∃ ns : List Int, H' D = some (.lst (ns.map V.int)) ∧ ns.length = j ∧ ∀ x ∈ ns, 0 ≤ x ∧ x ≤ 9999)
        ⟨pen2.same (same_new nD), bt2.tr (.of (same_new nD)), [], upd_same, rfl, fun y hy => nomatch hy⟩ ?_ ?_
      · rintro j H6 hj ⟨pen6, bt6, ns, hD6, ly, one⟩
        refine ⟨rfl, yesT ⟨_, rfl, p, c, _, 10000, rfl, pen6, by omega, by decide, by decide, fun r H7 a7 b7 pen7 bt7 => ?_⟩⟩
        refine ⟨_, bt7 D _ hD6 nDp, (by simp only [List.length_map]; exact small1000 (by omega)), pen7.upd nDp nDc, fun b o e nb => (upd_ne (ne_of_none e hDn)).trans ((bt6.tr bt7) b o e nb), ns ++ [r], ?_, by simp [ly], ?_⟩
        · rw [upd_same, List.map_append]
          rfl
        · intro y hy
          rcases List.mem_append.mp hy with h | h
          · exact one y h
          · rw [List.mem_singleton.mp h]
            omega
      · rintro H6 ⟨pen6, bt6, ns, hD6, ly, one⟩
        exact q D ns _ hDn hD6 ⟨fun z => by rw [z] at ly; simp at ly; omega, by omega, one⟩ (pen6.mono (by omega)) bt6
end
/-! ### an entry of a word -/
theorem pen_l {H H' : Hp} {p c l : Addr} {n : Nat} {xs : List V} (pen : PenAt H p c n) (b : But p H H') (h : H l = some (.lst xs)) : H' l = some (.lst xs) := by
  obtain ⟨kvs, ns, a, x, g1, _⟩ := pen.ex
  exact b l _ h (ne_of h g1 (by intro z; cases z))
structure Wld (H : Hp) (a1 a2 a3 a4 : Addr) (PL GL HL : List Str) (ns : List Int) : Prop where
  h1 : StrsAt H a1 PL
  h2 : StrsAt H a2 GL
  h3 : H a3 = some (.lst (ns.map V.int))
  h4 : StrsAt H a4 HL
theorem Wld.by {H H' : Hp} {p c : Addr} {n : Nat} {a1 a2 a3 a4 : Addr} {PL GL HL : List Str} {ns : List Int} (x : Wld H a1 a2 a3 a4 PL GL HL ns) (pen : PenAt H p c n) (b : But p H H') : Wld H' a1 a2 a3 a4 PL GL HL ns := ⟨pen_l pen b x.h1, pen_l pen b x.h2, pen_l pen b x.h3, pen_l pen b x.h4⟩
def spEnt : Sp := fun vs H Q _ => ∃ (p c : Addr) (n : Nat) (wo : Addr) (wd nme : Str) (a1 a2 a3 a4 : Addr) (PL GL HL : List Str) (ns : List Int), vs = [.ref p, .ref wo, .str nme, .str wd] ∧ PenAt H p c n ∧ n ≤ 70000 ∧
  H wo = some (.tup [.ref a1, .ref a2, .ref a3, .ref a4]) ∧ Wld H a1 a2 a3 a4 PL GL HL ns ∧ MomL ns ∧ PL ≠ [] ∧ GL ≠ [] ∧ HL ≠ [] ∧ PL.length ≤ 100 ∧ GL.length ≤ 100 ∧ HL.length ≤ 100 ∧
  ∀ (tp : Addr) (e : Ent) (H' : Hp), H tp = none → H' tp = some (.tup e.vals) → e.name = nme → 0 ≤ e.moment → e.moment ≤ 9999 → e.From PL GL HL → PenAt H' p c (n + 30) → But p H H' → Q (.ref tp) H'
section
variable {P : Program} {w : World} {K : PySem.W.Frag} {mg : Str → Option Value} {base : Heap}
abbrev entN : List Str := ["_law_pen_here", "_law_world", "_law_name_here", "_law_word", "_law_places", "_law_goods", "_law_moments_here", "_law_hands", "_law_moment", "_law_good", "_law_at", "_law_one", "_law_step", "_law_other", "_law_price"]
theorem scEnt : FnScope entN ["_law_pen_here", "_law_world", "_law_name_here", "_law_word"] (defScope sEntry) := ⟨rfl, rfl, rfl, by decide +kernel, rfl, by decide +kernel, by decide +kernel⟩
set_option maxHeartbeats 8000000 in
theorem ok_ent {f fT fM : Addr} {fd fdT fdM : FuncData} (F : Fun K "_law_entry" "_law_entry" sEntry f fd) (T : TakeT P w K mg base fT fdT) (M : DefT P w K mg base "_law_many" 2 fM fdM ["_law_pen_here"] spMany) (ml : mg "len" = none) (mx : mg "max" = none) (mi : mg "int" = none) :
    FnOk P w K mg base CX0 3 f fd ["_law_pen_here", "_law_world", "_law_name_here", "_law_word"] spEnt := by
  refine F.ok scEnt (fun vs H Q E h => ?_) (fun cdv A outer s H vs Q E hr h => ?_)
  · obtain ⟨p, c, n, wo, wd, nme, a1, a2, a3, a4, PL, GL, HL, ns, rfl, _⟩ := h
    rfl
  · obtain ⟨p, c, n, wo, wd, nme, a1, a2, a3, a4, PL, GL, HL, ns, rfl, pen, hn, hwo, wl, mom, ne1, ne2, ne3, lp, lg, lh, q⟩ := h
    have nd := scEnt.nd
    have hr1 : Room 1 _ := hr.mono (by decide)
    refine ⟨_, pss_cons (ps_asg (pv 1) (pg_tup (by rfl) (pgs_cons (pg_name (i := 4) nd rfl (Or.inl rfl)) (pgs_cons (pg_name (i := 5) nd rfl (Or.inl rfl)) (pgs_cons (pg_name (i := 6) nd rfl (Or.inl rfl)) (pgs_cons (pg_name (i := 7) nd rfl (Or.inl rfl)) pgs_nil))))))
      (pss_cons (ps_set (i := 8) nd rfl (Or.inl rfl) (pe_ix ix_list (pv 6) (pe_call T.ok hr1 (by rfl) T.g T.kp T.b .nil pass0 (pa_cons (pv 0) (pa_cons (pe_callB call_len_seq (by rfl) ml PySem.boot_len (pa_cons (pv 6) pa_nil)) pa_nil))) (fun _ _ => rfl)))
      (pss_cons (ps_set (i := 9) nd rfl (Or.inl rfl) (pe_ix ix_list (pv 5) (pe_call T.ok hr1 (by rfl) T.g T.kp T.b .nil pass0 (pa_cons (pv 0) (pa_cons (pe_callB call_len_seq (by rfl) ml PySem.boot_len (pa_cons (pv 5) pa_nil)) pa_nil))) (fun _ _ => rfl)))
      (pss_cons (ps_set (i := 10) nd rfl (Or.inl rfl) (pe_call T.ok hr1 (by rfl) T.g T.kp T.b .nil pass0 (pa_cons (pv 0) (pa_cons (pe_callB call_len_seq (by rfl) ml PySem.boot_len (pa_cons (pv 4) pa_nil)) pa_nil))))
      (pss_cons (ps_set (i := 11) nd rfl (Or.inl rfl) (pe_ix ix_list (pv 4) (pv 10) (fun _ _ => rfl)))
      (pss_cons (ps_set (i := 12) nd rfl (Or.inl rfl) (pe_op op_add pe_int (pe_call T.ok hr1 (by rfl) T.g T.kp T.b .nil pass0 (pa_cons (pv 0) (pa_cons (pe_callB (call_max2 rfl) (by rfl) mx (by decide +kernel) (pa_cons pe_int (pa_cons (pe_op op_sub (pe_callB call_len_seq (by rfl) ml PySem.boot_len (pa_cons (pv 4) pa_nil)) pe_int) pa_nil))) pa_nil)))))
      (pss_cons (ps_set (i := 13) nd rfl (Or.inl rfl) (pe_ix ix_list (pv 4) (pe_op op_mod (pe_op op_add (pv 10) (pv 12)) (pe_callB call_len_seq (by rfl) ml PySem.boot_len (pa_cons (pv 4) pa_nil))) (fun _ _ => rfl)))
      (pss_cons (ps_if (pt_cmpR op_eq (pv 3) pe_str (nomark _)) (pss_one (ps_ret (pe_tup (pa_cons pe_str (pa_cons (pv 2) (pa_cons (pv 8) (pa_cons (pv 9) (pa_cons (pv 11) (pa_cons (pe_ix ix_list (pe_lst (pa_cons (pv 13) (pa_cons pe_str pa_nil)))
          (pe_callTy call_int1 (by rfl) mi (by decide +kernel) (pa_cons (pe_or (pe_cmpR op_eq (pv 11) (pv 13) (nomark _)) (pe_one (pe_cmpR op_eq (pe_call T.ok hr1 (by rfl) T.g T.kp T.b .nil pass0 (pa_cons (pv 0) (pa_cons pe_int pa_nil))) pe_int (nomark _)))) pa_nil)) (fun _ _ => rfl)) pa_nil))))))))) pss_nil)
      (C8.pss_cut (ps_if (PW.pt (pw_and (pt_cmpR op_eq (pv 3) pe_str (nomark _)) (pw_and1 (pt_cmpR op_ne (pv 11) (pv 13) (nomark _))))) (pss_one (ps_ret (pe_tup (pa_cons pe_str (pa_cons (pv 2) (pa_cons (pv 8) (pa_cons (pv 11) (pa_cons (pv 13) pa_nil)))))))) pss_nil)
      (C8.pss_cut (ps_if (PW.pt (pw_and (pt_cmpR op_eq (pv 3) pe_str (nomark _)) (pw_and1 (pt_cmpR op_ne (pv 11) (pv 13) (nomark _))))) (pss_one (ps_ret (pe_tup (pa_cons pe_str (pa_cons (pv 2) (pa_cons (pv 8) (pa_cons (pv 9) (pa_cons (pv 11) (pa_cons (pv 13) (pa_cons (pe_call M.ok hr (by rfl) M.g M.kp M.b .nil pass0 (pa_cons (pv 0) pa_nil)) pa_nil)))))))))) pss_nil)
      (pss_cons (ps_if (pt_cmpR op_eq (pv 3) pe_str (nomark _))
        (pss_cons (ps_set (i := 14) nd rfl (Or.inl rfl) (pe_call T.ok hr1 (by rfl) T.g T.kp T.b .nil pass0 (pa_cons (pv 0) (pa_cons pe_int pa_nil))))
        (C8.pss_cut (ps_if (pt_cmpR op_eq (pv 14) pe_int (nomark _)) (pss_one (ps_set (i := 14) nd rfl (Or.inl rfl) (pe_op op_sub (pe_call M.ok hr (by rfl) M.g M.kp M.b .nil pass0 (pa_cons (pv 0) pa_nil)) (pe_call T.ok hr1 (by rfl) T.g T.kp T.b .nil pass0 (pa_cons (pv 0) (pa_cons pe_int pa_nil)))))) pss_nil)
        (pss_one (ps_ret (pe_tup (pa_cons pe_str (pa_cons (pv 2) (pa_cons (pv 8) (pa_cons (pv 9) (pa_cons (pv 11) (pa_cons (pe_call M.ok hr (by rfl) M.g M.kp M.b .nil pass0 (pa_cons (pv 0) pa_nil)) (pa_cons (pv 14) pa_nil)))))))))))) pss_nil)
      (pss_cons (ps_if (pt_cmpR op_in_seq (pv 3) (pe_tup (pa_cons pe_str (pa_cons pe_str pa_nil))) (by rfl)) (pss_one (ps_ret (pe_tup (pa_cons pe_str (pa_cons (pv 2) (pa_cons (pv 8) (pa_cons (pv 9) (pa_cons (pv 11) (pa_cons (pe_call M.ok hr (by rfl) M.g M.kp M.b .nil pass0 (pa_cons (pv 0) pa_nil)) pa_nil))))))))) pss_nil)
      (pss_cons (ps_if (pt_cmpR op_eq (pv 3) pe_str (nomark _)) (pss_one (ps_ret (pe_tup (pa_cons pe_str (pa_cons (pv 2) (pa_cons (pv 8) (pa_cons (pv 9) (pa_cons (pv 11) (pa_cons pe_int (pa_cons (pe_ix ix_list (pv 7) (pe_call T.ok hr1 (by rfl) T.g T.kp T.b .nil pass0 (pa_cons (pv 0) (pa_cons (pe_callB call_len_seq (by rfl) ml PySem.boot_len (pa_cons (pv 7) pa_nil)) pa_nil))) (fun _ _ => rfl)) pa_nil)))))))))) pss_nil)
      (pss_one (ps_ret (pe_tup (pa_cons pe_str (pa_cons (pv 2) (pa_cons (pv 8) (pa_cons (pv 9) (pa_cons (pv 11) pa_nil)))))))))))))))))))), ?_⟩
    have p1 : 0 < PL.length := List.length_pos_iff.mpr ne1
    have g1 : 0 < GL.length := List.length_pos_iff.mpr ne2
    have k1 : 0 < HL.length := List.length_pos_iff.mpr ne3
    have m1 : 0 < ns.length := List.length_pos_iff.mpr mom.1
    have m12 := mom.2.1
    have lmap : ∀ ys : List Str, ((ys.map V.str).length : Int) = (ys.length : Int) := fun ys => by rw [List.length_map]
    have lmapi : ((ns.map V.int).length : Int) = (ns.length : Int) := by rw [List.length_map]
    refine ⟨_, rfl, wo, _, rfl, SqT.of hwo, rfl, _, _, rfl, _, _, rfl, _, _, rfl, _, _, rfl, rfl, ?_⟩
    refine ⟨_, rfl, _, rfl, _, rfl, a3, _, rfl, .inl (SqL.of wl.h3), p, c, n, _, rfl, pen, by omega, by rw [lmapi]; omega, by rw [lmapi]; omega, fun r1 H1 b1 d1 pen1 bt1 => ?_⟩
    rw [lmapi] at d1
    have w1 := wl.by pen bt1
    obtain ⟨mo, hmo, mm⟩ := at_ints b1 d1
    have mo0 := mom.2.2 mo mm
    refine ⟨a3, _, r1, _, rfl, rfl, SqL.of w1.h3, hmo, ?_⟩
    refine ⟨_, rfl, _, rfl, _, rfl, a2, _, rfl, .inl (SqL.of w1.h2), p, c, n + 1, _, rfl, pen1, by omega, by rw [lmap]; omega, by rw [lmap]; omega, fun r2 H2 b2 d2 pen2 bt2 => ?_⟩
    rw [lmap] at d2
    have w2 := w1.by pen1 bt2
    obtain ⟨good, hg, _, hg3⟩ := at_strs b2 d2
    refine ⟨a2, _, r2, _, rfl, rfl, SqL.of w2.h2, hg, ?_⟩
    refine ⟨_, rfl, _, rfl, a1, _, rfl, .inl (SqL.of w2.h1), p, c, n + 2, _, rfl, pen2, by omega, by rw [lmap]; omega, by rw [lmap]; omega, fun r3 H3 b3 d3 pen3 bt3 => ?_⟩
    rw [lmap] at d3
    have w3 := w2.by pen2 bt3
    obtain ⟨one, ho, ho2, ho3⟩ := at_strs b3 d3
    refine ⟨_, rfl, _, rfl, a1, _, r3, _, rfl, rfl, SqL.of w3.h1, ho, ?_⟩
    have mxb : (1 : Int) ≤ (if ((PL.map V.str).length : Int) - 1 > 1 then ((PL.map V.str).length : Int) - 1 else 1) ∧ (if ((PL.map V.str).length : Int) - 1 > 1 then ((PL.map V.str).length : Int) - 1 else 1) ≤ 100 := by
      rw [lmap]
      split <;> omega
    refine ⟨_, rfl, _, rfl, a1, _, rfl, .inl (SqL.of w3.h1), _, 1, rfl, rfl, 1, _, rfl, p, c, n + 3, _, rfl, pen3, by omega, by omega, by omega, fun r4 H4 b4 d4 pen4 bt4 => ⟨1, r4, rfl, rfl, ?_⟩⟩
    have w4 := w3.by pen3 bt4
    have x1 : 0 ≤ (r3 + (1 + r4)) % (PL.length : Int) := Int.emod_nonneg _ (by omega)
    have x2 : (r3 + (1 + r4)) % (PL.length : Int) < (PL.length : Int) := Int.emod_lt_of_pos _ (by omega)
    obtain ⟨other, hp, hp2, hp3⟩ := at_strs x1 x2
    refine ⟨_, rfl, _, rfl, _, rfl, r3, 1 + r4, rfl, rfl, _, rfl, a1, _, rfl, .inl (SqL.of w4.h1), _, (PL.length : Int), rfl, by rw [lmap], (by show (0 : Int) < PL.length; omega), a1, _, _, .str other, rfl, rfl, SqL.of w4.h1, hp, ?_⟩
    have btA : But p H H4 := bt1.tr (bt2.tr (bt3.tr bt4))
    have fin : ∀ (tp : Addr) (e : Ent) (H5 : Hp) (k : Nat), H5 tp = none → But p H4 H5 → PenAt H5 p c (n + 4 + k) → k ≤ 20 → e.name = nme → e.moment = mo → e.From PL GL HL → Q (.ref tp) (upd H5 tp (.tup e.vals)) := fun tp e H5 k ntp bt5 pen5 hk e1 e2 e3 =>
      q tp e _ ((btA.tr bt5).free ntp pen5.there) upd_same e1 (by rw [e2]; exact mo0.1) (by rw [e2]; exact mo0.2) e3 ((pen5.mono (by omega)).same (same_new ntp)) ((btA.tr bt5).tr (.of (same_new ntp)))
    have stay : ∀ {l : Addr} {o : HO}, H4 l = none → But p H4 (upd H4 l o) := fun nl => .of (same_new nl)
    refine ⟨_, rfl, rfl, _, rfl, ite2 (fun _ => ?_) (fun _ => ?_)⟩
    · refine ⟨_, rfl, _, rfl, _, rfl, _, rfl, _, rfl, (by show 2 ≤ sizeLine; decide), fun l nl => ?_⟩
      have s5 := @same_new _ _ (.lst [V.str other, .str ""]) nl
      refine ⟨_, rfl, _, rfl, rfl, _, rfl, ite2 (fun e => ?_) (fun e => ?_)⟩
      · refine .inr ⟨true, rfl, l, _, 1, _, rfl, rfl, SqL.of upd_same, atI_nat (j := 1) rfl, (by show 6 ≤ sizeLine; decide), fun tp ntp => ?_⟩
        exact fin tp (.some_ nme mo good one "") _ 0 ntp (.of s5) (pen4.same s5) (by decide) rfl rfl ⟨hg3, ho3, .inl rfl⟩
      · refine ⟨_, rfl, p, c, n + 4, 3, rfl, pen4.same s5, by omega, by decide, by decide, fun r6 H6 c6 d6 pen6 bt6 => ?_⟩
        have nlp : l ≠ p := fun z => pen4.there (z ▸ nl)
        have hl6 := bt6 l _ upd_same nlp
        have nee : one ≠ other := fun z => e (decide_eq_true (congrArg V.str z))
        by_cases z : r6 = 0
        · refine ⟨rfl, .inr ⟨true, congrArg (fun b => [V.bl b]) (decide_eq_true (congrArg V.int z)), l, _, 1, _, rfl, rfl, SqL.of hl6, atI_nat (j := 1) rfl, (by show 6 ≤ sizeLine; decide), fun tp ntp => ?_⟩⟩
          exact fin tp (.some_ nme mo good one "") _ 1 ntp ((But.of s5).tr bt6) pen6 (by decide) rfl rfl ⟨hg3, ho3, .inl rfl⟩
        · refine ⟨rfl, .inr ⟨false, congrArg (fun b => [V.bl b]) (decide_eq_false fun y => z (V.int.inj y)), l, _, 0, _, rfl, rfl, SqL.of hl6, atI_nat (j := 0) rfl, (by show 6 ≤ sizeLine; decide), fun tp ntp => ?_⟩⟩
          exact fin tp (.some_ nme mo good one other) _ 1 ntp ((But.of s5).tr bt6) pen6 (by decide) rfl rfl ⟨hg3, ho3, .inr ⟨hp3, fun _ => nee⟩⟩
    refine ⟨fun σ' H' => σ' = [some (.ref p), some (.ref wo), some (.str nme), some (.str wd), some (.ref a1), some (.ref a2), some (.ref a3), some (.ref a4), some (.int mo), some (.str good), some (.int r3), some (.str one), some (.int (1 + r4)), some (.str other), none] ∧ H' = H4, ?_, ?_⟩
    · refine ⟨_, rfl, rfl, _, rfl, ite2 (fun e => ?_) (fun _ => iteF ⟨rfl, rfl⟩)⟩
      refine ⟨_, rfl, _, rfl, rfl, _, rfl, ite2 (fun e2 => ?_) (fun _ => ⟨rfl, rfl⟩)⟩
      have nee : one ≠ other := fun z => by
        rw [decide_eq_true (congrArg V.str z)] at e2
        cases e2
      refine ⟨_, rfl, _, rfl, _, rfl, _, rfl, (by show 5 ≤ sizeLine; decide), fun tp ntp => ?_⟩
      exact fin tp (.swap nme mo one other) H4 0 ntp (.refl _ _) pen4 (by decide) rfl rfl ⟨ho3, hp3, fun _ => nee⟩
    rintro σ' H' ⟨rfl, rfl⟩
    refine ⟨fun σ' H'' => σ' = [some (.ref p), some (.ref wo), some (.str nme), some (.str wd), some (.ref a1), some (.ref a2), some (.ref a3), some (.ref a4), some (.int mo), some (.str good), some (.int r3), some (.str one), some (.int (1 + r4)), some (.str other), none] ∧ H'' = H', ?_, ?_⟩
    · refine ⟨_, rfl, rfl, _, rfl, ite2 (fun e => ?_) (fun _ => iteF ⟨rfl, rfl⟩)⟩
      refine ⟨_, rfl, _, rfl, rfl, _, rfl, ite2 (fun e2 => ?_) (fun _ => ⟨rfl, rfl⟩)⟩
      have nee : one ≠ other := fun z => by
        rw [decide_eq_true (congrArg V.str z)] at e2
        cases e2
      refine ⟨_, rfl, _, rfl, _, rfl, _, rfl, _, rfl, _, rfl, p, c, n + 4, rfl, pen4, by omega, fun k2 H5 c1 d1 pen5 bt5 => ⟨(by show 7 ≤ sizeLine; decide), fun tp ntp => ?_⟩⟩
      exact fin tp (.move nme mo good one other k2) H5 4 ntp bt5 pen5 (by decide) rfl rfl ⟨hg3, ho3, hp3, fun _ => nee, c1, d1⟩
    rintro σ' H'' ⟨rfl, rfl⟩
    refine ⟨_, rfl, rfl, _, rfl, ite2 (fun _ => ?_) (fun _ => ?_)⟩
    · refine ⟨_, rfl, p, c, n + 4, 3, rfl, pen4, by omega, by decide, by decide, fun r6 H6 c6 d6 pen6 bt6 => ?_⟩
      refine ⟨fun σ' H7 => ∃ pr : Int, σ' = [some (.ref p), some (.ref wo), some (.str nme), some (.str wd), some (.ref a1), some (.ref a2), some (.ref a3), some (.ref a4), some (.int mo), some (.str good), some (.int r3), some (.str one), some (.int (1 + r4)), some (.str other), some (.int pr)] ∧ 0 ≤ pr ∧ pr ≤ 1000000000 ∧ PenAt H7 p c (n + 11) ∧ But p H'' H7, ?_, ?_⟩
      · refine ⟨_, rfl, rfl, _, rfl, ite2 (fun _ => ?_) (fun _ => ⟨r6, rfl, c6, by omega, pen6.mono (by omega), bt6⟩)⟩
        refine ⟨_, rfl, p, c, n + 5, rfl, pen6, by omega, fun m2 H7 c7 d7 pen7 bt7 => ?_⟩
        refine ⟨_, rfl, p, c, n + 9, 2, rfl, pen7, by omega, by decide, by decide, fun r8 H8 c8 d8 pen8 bt8 => ⟨m2, r8, rfl, rfl, m2 - r8, rfl, by omega, by omega, pen8.mono (by omega), bt6.tr (bt7.tr bt8)⟩⟩
      · rintro σ' H7 ⟨pr, rfl, pr0, pr1, penP, btP⟩
        refine ⟨_, rfl, _, rfl, _, rfl, _, rfl, _, rfl, p, c, n + 11, rfl, penP, by omega, fun k2 H9 c9 d9 pen9 bt9 => ⟨_, rfl, (by show 7 ≤ sizeLine; decide), fun tp ntp => ?_⟩⟩
        exact fin tp (.come nme mo good one k2 pr) H9 11 ntp (btP.tr bt9) pen9 (by decide) rfl rfl ⟨hg3, ho3, c9, d9, pr0, pr1⟩
    refine ⟨_, rfl, (by show 2 ≤ sizeLine; decide), fun tq ntq => ?_⟩
    have s6 := @same_new _ _ (.tup [V.str "go", .str "move"]) ntq
    have hq : (upd H'' tq (.tup [V.str "go", .str "move"])) tq = some (.tup [V.str "go", .str "move"]) := upd_same
    generalize upd H'' tq (.tup [V.str "go", .str "move"]) = H6 at s6 hq
    have pen6 := pen4.same s6
    have bt6 : But p H'' H6 := .of s6
    have w6 := w4.by pen4 bt6
    refine ⟨tq, _, rfl, .inr (SqT.of hq), rfl, rfl, _, rfl, ite2 (fun _ => ?_) (fun _ => ?_)⟩
    · refine ⟨_, rfl, _, rfl, _, rfl, _, rfl, _, rfl, p, c, n + 4, rfl, pen6, by omega, fun k2 H7 c1 d1 pen7 bt7 => ⟨(by show 6 ≤ sizeLine; decide), fun tp ntp => ?_⟩⟩
      exact fin tp (.go nme mo good one k2) H7 4 ntp (bt6.tr bt7) pen7 (by decide) rfl rfl ⟨hg3, ho3, c1, d1⟩
    refine ⟨_, rfl, rfl, _, rfl, ite2 (fun _ => ?_) (fun _ => ?_)⟩
    · refine ⟨_, rfl, _, rfl, _, rfl, _, rfl, _, rfl, _, rfl, _, rfl, a4, _, rfl, .inl (SqL.of w6.h4), p, c, n + 4, _, rfl, pen6, by omega, by rw [lmap]; omega, by rw [lmap]; omega, fun r7 H7 b7 d7 pen7 bt7 => ?_⟩
      rw [lmap] at d7
      have w7 := w6.by pen6 bt7
      obtain ⟨hand, hh, _, hh3⟩ := at_strs b7 d7
      refine ⟨a4, _, r7, _, rfl, rfl, SqL.of w7.h4, hh, (by show 7 ≤ sizeLine; decide), fun tp ntp => ?_⟩
      exact fin tp (.count nme mo good one 0 hand) H7 1 ntp (bt6.tr bt7) pen7 (by decide) rfl rfl ⟨hg3, ho3, by decide, by decide, hh3⟩
    · refine ⟨_, rfl, _, rfl, _, rfl, _, rfl, (by show 5 ≤ sizeLine; decide), fun tp ntp => ?_⟩
      exact fin tp (.look nme mo good one) H6 0 ntp bt6 pen6 (by decide) rfl rfl ⟨hg3, ho3⟩
end
/-! ### the order of entries, by the law -/
def Ent.rank : Ent → Int
  | .swap .. => 0 | .come .. => 1 | .go .. => 1 | .move .. => 1 | .some_ .. => 1 | .count .. => 2 | .look .. => 2
def ordV (e : Ent) : List V := [.int e.moment, .int e.rank, .str e.name]
def ordD (e : Ent) : PyData := .tuple [.int e.moment, .int e.rank, .str e.name]
theorem ord_dp {K : PySem.W.Frag} {H : Hp} {tp : Addr} {e : Ent} (h : H tp = some (.tup (ordV e))) : Dp K H (.ref tp) (ordD e) := .tup (SqT.of h) (.cons (.int _) (.cons (.int _) (.cons (.str _) .nil)))
theorem ord_alike (e g : Ent) : PySem.W.alike (ordD e) (ordD g) = true := rfl
def spOrd : Sp := fun vs H Q _ => ∃ (a : Addr) (e : Ent), vs = [.ref a] ∧ H a = some (.tup e.vals) ∧ ∀ (tp : Addr) (H' : Hp), Same H H' → H' tp = some (.tup (ordV e)) → Q (.ref tp) H'
def rankW (x : Str) : Int := 1 - (if decide (V.str x = V.str "swap") = true then 1 else 0) + (if inV (V.str x) [V.str "count", V.str "look"] = true then 1 else 0)
theorem rank_own (e : Ent) : rankW e.word = e.rank := by
  have h1 : rankW "come" = 1 := by decide +kernel
  have h2 : rankW "go" = 1 := by decide +kernel
  have h3 : rankW "move" = 1 := by decide +kernel
  have h4 : rankW "some" = 1 := by decide +kernel
  have h5 : rankW "swap" = 0 := by decide +kernel
  have h6 : rankW "count" = 2 := by decide +kernel
  have h7 : rankW "look" = 2 := by decide +kernel
  cases e
  · exact h1
  · exact h2
  · exact h3
  · exact h4
  · exact h5
  · exact h6
  · exact h7
theorem at0 (e : Ent) : atI e.vals 0 = some (.str e.word) := atI_nat (j := 0) rfl
theorem at1 (e : Ent) : atI e.vals 1 = some (.str e.name) := atI_nat (j := 1) rfl
theorem at2 (e : Ent) : atI e.vals 2 = some (.int e.moment) := atI_nat (j := 2) rfl
/-! ### the order of entries by a dict; what a count tells -/
abbrev rkD : List (Key × V) := [(Sum.inr "swap", .int 0), (Sum.inr "count", .int 2), (Sum.inr "look", .int 2)]
theorem rank_words : ∀ x ∈ words7, (valV rkD (Sum.inr x)).getD (.int 1) = .int (rankW x) := by decide +kernel
theorem rank_get (e : Ent) : (valV rkD (Sum.inr e.word)).getD (.int 1) = .int e.rank := by rw [rank_words _ e.word_in, rank_own]
def spTold : Sp := fun vs H Q _ => ∃ (p c : Addr) (n : Nat) (m k : Int), vs = [.ref p, .int m, .int k] ∧ PenAt H p c n ∧ n ≤ 80000 ∧ 1 ≤ k ∧ k ≤ 40 ∧
  ∀ (r : Int) (H' : Hp), 0 ≤ r → r ≤ 1000000000 → PenAt H' p c (n + 6) → But p H H' → Q (.int r) H'
section
variable {P : Program} {w : World} {K : PySem.W.Frag} {mg : Str → Option Value} {base : Heap}
theorem scOwn : FnScope ["_law_entry_here"] ["_law_entry_here"] (defScope sOwn) := ⟨rfl, rfl, rfl, by decide +kernel, rfl, by decide +kernel, by decide +kernel⟩
theorem ok_own {f : Addr} {fd : FuncData} (F : Fun K "_law_order" "_law_order" sOwn f fd) : FnOk P w K mg base CX0 1 f fd ["_law_entry_here"] spOrd := by
  refine F.ok scOwn (fun vs H Q E h => ?_) (fun cdv A outer s H vs Q E hr h => ?_)
  · obtain ⟨a, e, rfl, _⟩ := h
    rfl
  · obtain ⟨a, e, rfl, ha, q⟩ := h
    have hu := hu_of hr
    refine ⟨_, pss_one (ps_ret (pe_tup (pa_cons (pe_ix ix_tup (pv 0) pe_int (fun _ _ => rfl)) (pa_cons (pe_dget2 hu (pe_disp (pps_cons pe_str pe_int (pps_cons pe_str pe_int (pps_cons pe_str pe_int pps_nil))) (by rfl) (by rfl) (fun z => by cases z) (by decide)) (pe_ix ix_tup (pv 0) pe_int (fun _ _ => rfl)) pe_int ⟨rfl, rfl, rfl, rfl⟩)
      (pa_cons (pe_ix ix_tup (pv 0) pe_int (fun _ _ => rfl)) pa_nil))))), ?_⟩
    refine ⟨_, rfl, a, _, 2, _, rfl, rfl, SqT.of ha, at2 e, fun d nd => ?_⟩
    have s1 := @same_new _ _ (.dK []) nd
    have s2 : Same H (upd (upd H d (.dK [])) d (.dK rkD)) := fun b o e => (upd_ne (ne_of_none e nd)).trans (s1 b o e)
    refine ⟨upd_same, rkD, rfl, (by show 3 ≤ 15; decide), ?_⟩
    refine ⟨d, rfl, .inl ⟨_, .inl upd_same⟩, _, rfl, a, _, 0, _, rfl, rfl, SqT.of (s2 _ _ ha), at0 e, valV rkD (Sum.inr e.word), .inl ⟨_, Sum.inr e.word, .inl upd_same, rfl, rfl⟩, ?_⟩
    rw [rank_get]
    refine ⟨_, rfl, a, _, 1, _, rfl, rfl, SqT.of (s2 _ _ ha), at1 e, (by show 3 ≤ sizeLine; decide), fun tp ntp => ?_⟩
    exact q tp _ (s2.trans (same_new ntp)) upd_same
theorem scTold : FnScope ["_law_pen_here", "_law_many_here", "_law_spoilt", "_law_way"] ["_law_pen_here", "_law_many_here", "_law_spoilt"] (defScope sTold) := ⟨rfl, rfl, rfl, by decide +kernel, rfl, by decide +kernel, by decide +kernel⟩
set_option maxHeartbeats 2000000 in
theorem ok_told {f fT fM : Addr} {fd fdT fdM : FuncData} (F : Fun K "_law_told" "_law_told" sTold f fd) (T : TakeT P w K mg base fT fdT) (M : DefT P w K mg base "_law_many" 2 fM fdM ["_law_pen_here"] spMany) (mn : mg "min" = none) (mx : mg "max" = none) :
    FnOk P w K mg base CX0 3 f fd ["_law_pen_here", "_law_many_here", "_law_spoilt"] spTold := by
  refine F.ok scTold (fun vs H Q E h => ?_) (fun cdv A outer s H vs Q E hr h => ?_)
  · obtain ⟨p, c, n, m, k, rfl, _⟩ := h
    rfl
  · obtain ⟨p, c, n, m, k, rfl, pen, hn, k1, k40, q⟩ := h
    have nd := scTold.nd
    have hr1 : Room 1 _ := hr.mono (by decide)
    refine ⟨_, C8.pss_cut (ps_if (pt_cmpR op_eq (pe_call T.ok hr1 (by rfl) T.g T.kp T.b .nil pass0 (pa_cons (pv 0) (pa_cons (pv 2) pa_nil))) pe_int (nomark _))
        (pss_cons (ps_set (i := 3) nd rfl (Or.inl rfl) (pe_call T.ok hr1 (by rfl) T.g T.kp T.b .nil pass0 (pa_cons (pv 0) (pa_cons pe_int pa_nil))))
        (pss_cons (ps_set (i := 1) nd rfl (Or.inl rfl) (pe_op op_add (pv 1) (pe_ix ix_list (pe_lst (pa_cons pe_int (pa_cons (pe_un un_neg pe_int) (pa_cons pe_int (pa_cons (pe_un un_neg pe_int) (pa_cons pe_int (pa_cons pe_int pa_nil))))))) (pv 3) (fun _ _ => rfl))))
        (pss_one (ps_if (pt_cmpR op_eq (pv 3) pe_int (nomark _)) (pss_one (ps_set (i := 1) nd rfl (Or.inl rfl) (pe_call M.ok hr (by rfl) M.g M.kp M.b .nil pass0 (pa_cons (pv 0) pa_nil)))) pss_nil)))) pss_nil)
      (pss_one (ps_ret (pe_callB (call_min2 rfl) (by rfl) mn (by decide +kernel) (pa_cons (pe_callB (call_max2 rfl) (by rfl) mx (by decide +kernel) (pa_cons (pv 1) (pa_cons pe_int pa_nil))) (pa_cons (pe_op op_pow pe_int pe_int) pa_nil))))), ?_⟩
    refine ⟨fun σ' H' => ∃ (x : Int) (y : Option V), σ' = [some (.ref p), some (.int x), some (.int k), y] ∧ PenAt H' p c (n + 6) ∧ But p H H', ?_, ?_⟩
    · refine ⟨_, rfl, _, rfl, p, c, n, k, rfl, pen, by omega, k1, by omega, fun r1 H1 a1 b1 pen1 bt1 => ⟨rfl, _, rfl, ite2 (fun _ => ?_) (fun _ => ⟨m, _, rfl, pen1.mono (by omega), bt1⟩)⟩⟩
      refine ⟨_, rfl, p, c, n + 1, 6, rfl, pen1, by omega, by decide, by decide, fun r2 H2 a2 b2 pen2 bt2 => ?_⟩
      refine ⟨_, rfl, 1, rfl, 7, rfl, (by show 6 ≤ sizeLine; decide), fun l nl => ?_⟩
      have s3 := @same_new _ _ (.lst [V.int 1, .int (-1), .int 7, .int (-7), .int 0, .int 0]) nl
      obtain ⟨y, hy, _⟩ := at_ints (ns := [1, -1, 7, -7, 0, 0]) (r := r2) a2 (by show r2 < 6; omega)
      refine ⟨_, rfl, l, _, r2, _, rfl, rfl, SqL.of upd_same, hy, m, y, rfl, rfl, ?_⟩
      refine ⟨_, rfl, rfl, _, rfl, ite2 (fun _ => ?_) (fun _ => ⟨_, _, rfl, (pen2.mono (by omega)).same s3, (bt1.tr bt2).tr (.of s3)⟩)⟩
      exact ⟨_, rfl, p, c, n + 2, rfl, pen2.same s3, by omega, fun r3 H3 a3 b3 pen3 bt3 => ⟨r3, _, rfl, pen3, (bt1.tr bt2).tr ((But.of s3).tr bt3)⟩⟩
    · rintro σ' H' ⟨x, y, rfl, pen', bt'⟩
      refine ⟨_, rfl, x, 0, rfl, 10, 9, rfl, rfl, ⟨by decide, by decide, by decide⟩, _, _, rfl, q _ _ ?_ ?_ pen' bt'⟩
      · show (0 : Int) ≤ if (1000000000 : Int) < (if 0 > x then 0 else x) then 1000000000 else (if 0 > x then 0 else x)
        split <;> (try split) <;> omega
      · show (if (1000000000 : Int) < (if 0 > x then 0 else x) then (1000000000 : Int) else (if 0 > x then 0 else x)) ≤ 1000000000
        split <;> (try split) <;> omega
end
/-! ### what stands at the places, behind an entry -/
theorem put_lenT {kvs : List (List Key × V)} {k : List Key} {v u : V} (e : valV kvs k = some u) : (putK kvs k v).length = kvs.length := by
  have h := valV_any k kvs
  rw [e] at h
  have h' : (kvs.any fun kv => decide (kv.1 = k)) = true := h
  unfold putK
  rw [if_pos h', List.length_map]
abbrev stk (x g : Str) : List Key := [Sum.inr x, Sum.inr g]
structure StockL (P G : List Str) (kvs : List (List Key × V)) : Prop where
  len : kvs.length ≤ 18
  val : ∀ x ∈ P, ∀ g ∈ G, ∃ i : Int, valV kvs (stk x g) = some (.int i)
theorem StockL.put {P G : List Str} {kvs : List (List Key × V)} (s : StockL P G kvs) {k : List Key} {u : V} (e : valV kvs k = some u) (i : Int) : StockL P G (putK kvs k (.int i)) := by
  refine ⟨by rw [put_lenT e]; exact s.len, fun x hx g hg => ?_⟩
  rw [valV_put]
  by_cases z : stk x g = k
  · rw [if_pos z]
    exact ⟨i, rfl⟩
  · rw [if_neg z]
    exact s.val x hx g hg
def StockAt (H : Hp) (d : Addr) (P G : List Str) : Prop := ∃ kvs, H d = some (.dT kvs) ∧ StockL P G kvs
def Bt2 (p d : Addr) (H H' : Hp) : Prop := ∀ b o, H b = some o → b ≠ p → b ≠ d → H' b = some o
theorem Bt2.tr {p d : Addr} {H H1 H2 : Hp} (a : Bt2 p d H H1) (b : Bt2 p d H1 H2) : Bt2 p d H H2 := fun c o e n m => b c o (a c o e n m) n m
theorem Bt2.of {p d : Addr} {H H' : Hp} (h : But p H H') : Bt2 p d H H' := fun b o e n _ => h b o e n
theorem Bt2.put {p d : Addr} {H H' : Hp} {o : HO} (h : Bt2 p d H H') : Bt2 p d H (upd H' d o) := fun b u e n m => (upd_ne m).trans (h b u e n m)
theorem StockAt.same {H H' : Hp} {d : Addr} {P G : List Str} (x : StockAt H d P G) (h : Same H H') : StockAt H' d P G := by
  obtain ⟨kvs, h1, h2⟩ := x
  exact ⟨kvs, h _ _ h1, h2⟩
theorem StockAt.but {H H' : Hp} {d p c : Addr} {n : Nat} {P G : List Str} (x : StockAt H d P G) (pen : PenAt H p c n) (h : But p H H') : StockAt H' d P G := by
  obtain ⟨kvs, h1, h2⟩ := x
  obtain ⟨kw, ns, a, l, g1, _⟩ := pen.ex
  exact ⟨kvs, h _ _ h1 (ne_of h1 g1 (by intro z; cases z)), h2⟩
theorem come_ent {e : Ent} (h : e.word = "come") : ∃ n m g p k r, e = .come n m g p k r := by
  cases e <;> first | exact ⟨_, _, _, _, _, _, rfl⟩ | (refine absurd h ?_; simp only [Ent.word]; decide +kernel)
theorem go_ent {e : Ent} (h : e.word = "go") : ∃ n m g p k, e = .go n m g p k := by
  cases e <;> first | exact ⟨_, _, _, _, _, rfl⟩ | (refine absurd h ?_; simp only [Ent.word]; decide +kernel)
theorem move_ent {e : Ent} (h : e.word = "move") : ∃ n m g o t k, e = .move n m g o t k := by
  cases e <;> first | exact ⟨_, _, _, _, _, _, rfl⟩ | (refine absurd h ?_; simp only [Ent.word]; decide +kernel)
theorem some_ent {e : Ent} (h : e.word = "some") : ∃ n m g o t, e = .some_ n m g o t := by
  cases e <;> first | exact ⟨_, _, _, _, _, rfl⟩ | (refine absurd h ?_; simp only [Ent.word]; decide +kernel)
theorem swap_ent {e : Ent} (h : e.word = "swap") : ∃ n m o t, e = .swap n m o t := by
  cases e <;> first | exact ⟨_, _, _, _, rfl⟩ | (refine absurd h ?_; simp only [Ent.word]; decide +kernel)
/-- changes of one good, told in a list -/
def ChgAt (H : Hp) (l : Addr) (e : Ent) (P G : List Str) : Prop := ∃ (cs : List Addr) (ps : List (Str × Int)), H l = some (.lst (cs.map V.ref)) ∧ Paired (fun a (x : Str × Int) => H a = some (.tup [.str x.1, .int x.2])) cs ps ∧
  (∀ x ∈ ps, x.1 = "" ∨ x.1 ∈ P) ∧ (ps ≠ [] → ∃ g, g ∈ G ∧ atI e.vals 3 = some (.str g))
def spDone : Sp := fun vs H Q _ => ∃ (p c : Addr) (n : Nat) (d te gl : Addr) (P G HL : List Str) (e : Ent), vs = [.ref p, .ref d, .ref te, .ref gl] ∧ PenAt H p c n ∧ n ≤ 80000 ∧ StockAt H d P G ∧ H te = some (.tup e.vals) ∧ H gl = some (.tup (G.map V.str)) ∧ e.From P G HL ∧
  ∀ H', StockAt H' d P G → PenAt H' p c (n + 1) → Bt2 p d H H' → Q .non H'
section
variable {P : Program} {w : World} {K : PySem.W.Frag} {mg : Str → Option Value} {base : Heap}
abbrev doneN : List Str := ["_law_pen_here", "_law_stock", "_law_entry_here", "_law_goods", "_law_word", "_law_good", "_law_one", "_law_other", "_law_changes", "_law_many_here", "_law_place"]
theorem scDone : FnScope doneN ["_law_pen_here", "_law_stock", "_law_entry_here", "_law_goods"] (defScope sDone) := ⟨rfl, rfl, rfl, by decide +kernel, rfl, by decide +kernel, by decide +kernel⟩
set_option maxHeartbeats 8000000 in
theorem ok_done {f fT : Addr} {fd fdT : FuncData} (F : Fun K "_law_done" "_law_done" sDone f fd) (T : TakeT P w K mg base fT fdT) : FnOk P w K mg base CX0 2 f fd ["_law_pen_here", "_law_stock", "_law_entry_here", "_law_goods"] spDone := by
  refine F.ok scDone (fun vs H Q E h => ?_) (fun cdv A outer s H vs Q E hr h => ?_)
  · obtain ⟨p, c, n, d, te, gl, Ps, G, HL, e, rfl, _⟩ := h
    rfl
  · obtain ⟨p, c, n, d, te, gl, Ps, G, HL, e, rfl, pen, hn, st, hte, hgl, frm, q⟩ := h
    have nd := scDone.nd
    have hu := hu_of hr
    refine ⟨_, pss_cons (ps_set (i := 4) nd rfl (Or.inl rfl) (pe_ix ix_tup (pv 2) pe_int (fun _ _ => rfl)))
      (C8.pss_cut (ps_if (pt_cmpR op_eq (pv 4) pe_str (nomark _)) (pss_one (ps_for PassesOwn.never rfl (pi_tup (pv 3)) (pg_name (i := 5) nd rfl (Or.inl rfl))
          (pss_cons (ps_set (i := 6) nd rfl (Or.inl rfl) (pe_tup (pa_cons (pe_ix ix_tup (pv 2) pe_int (fun _ _ => rfl)) (pa_cons (pv 5) pa_nil))))
          (pss_cons (ps_set (i := 7) nd rfl (Or.inl rfl) (pe_tup (pa_cons (pe_ix ix_tup (pv 2) pe_int (fun _ _ => rfl)) (pa_cons (pv 5) pa_nil))))
          (pss_one (ps_asg (pe_tup (pa_cons (pe_dget hu (pv 1) (pv 7) (fun _ _ => rfl)) (pa_cons (pe_dget hu (pv 1) (pv 6) (fun _ _ => rfl)) pa_nil))) (pg_tup (by rfl) (pgs_cons (pg_sub (pv 1) (pv 6) (set_dict hu)) (pgs_cons (pg_sub (pv 1) (pv 7) (set_dict hu)) pgs_nil))))))))) pss_nil)
      (pss_cons (ps_set (i := 8) nd rfl (Or.inl rfl) (pe_lst pa_nil))
      (C8.pss_cut (ps_if (pt_cmpR op_eq (pv 4) pe_str (nomark _)) (pss_one (ps_set (i := 8) nd rfl (Or.inl rfl) (pe_lst (pa_cons (pe_tup (pa_cons (pe_ix ix_tup (pv 2) pe_int (fun _ _ => rfl)) (pa_cons (pe_ix ix_tup (pv 2) pe_int (fun _ _ => rfl)) pa_nil))) pa_nil)))) pss_nil)
      (C8.pss_cut (ps_if (pt_cmpR op_eq (pv 4) pe_str (nomark _)) (pss_one (ps_set (i := 8) nd rfl (Or.inl rfl) (pe_lst (pa_cons (pe_tup (pa_cons (pe_ix ix_tup (pv 2) pe_int (fun _ _ => rfl)) (pa_cons (pe_op op_sub pe_int (pe_ix ix_tup (pv 2) pe_int (fun _ _ => rfl))) pa_nil))) pa_nil)))) pss_nil)
      (C8.pss_cut (ps_if (pt_cmpR op_eq (pv 4) pe_str (nomark _)) (pss_one (ps_set (i := 8) nd rfl (Or.inl rfl) (pe_lst (pa_cons (pe_tup (pa_cons (pe_ix ix_tup (pv 2) pe_int (fun _ _ => rfl)) (pa_cons (pe_op op_sub pe_int (pe_ix ix_tup (pv 2) pe_int (fun _ _ => rfl))) pa_nil)))
          (pa_cons (pe_tup (pa_cons (pe_ix ix_tup (pv 2) pe_int (fun _ _ => rfl)) (pa_cons (pe_ix ix_tup (pv 2) pe_int (fun _ _ => rfl)) pa_nil))) pa_nil))))) pss_nil)
      (C8.pss_cut (ps_if (pt_cmpR op_eq (pv 4) pe_str (nomark _)) (pss_cons (ps_set (i := 9) nd rfl (Or.inl rfl) (pe_op op_sub (pe_call T.ok hr (by rfl) T.g T.kp T.b .nil pass0 (pa_cons (pv 0) (pa_cons pe_int pa_nil))) pe_int))
          (pss_one (ps_set (i := 8) nd rfl (Or.inl rfl) (pe_lst (pa_cons (pe_tup (pa_cons (pe_ix ix_tup (pv 2) pe_int (fun _ _ => rfl)) (pa_cons (pe_op op_sub pe_int (pv 9)) pa_nil)))
          (pa_cons (pe_tup (pa_cons (pe_ix ix_tup (pv 2) pe_int (fun _ _ => rfl)) (pa_cons (pv 9) pa_nil))) pa_nil)))))) pss_nil)
      (pss_one (ps_for PassesOwn.never rfl (pi_list (pv 8)) (pg_tup (by rfl) (pgs_cons (pg_name (i := 10) nd rfl (Or.inl rfl)) (pgs_cons (pg_name (i := 9) nd rfl (Or.inl rfl)) pgs_nil)))
          (pss_one (ps_if (pt_cmpR op_ne (pv 10) pe_str (nomark _)) (pss_one (ps_dput hu (pv 1) (pe_tup (pa_cons (pv 10) (pa_cons (pe_ix ix_tup (pv 2) pe_int (fun _ _ => rfl)) pa_nil)))
            (pe_op op_add (pe_dget hu (pv 1) (pe_tup (pa_cons (pv 10) (pa_cons (pe_ix ix_tup (pv 2) pe_int (fun _ _ => rfl)) pa_nil))) (fun _ _ => rfl)) (pv 9)) rfl)) pss_nil)))))))))), ?_⟩
    have ntp : te ≠ p := by
      obtain ⟨kw, ns, a, l, g1, _⟩ := pen.ex
      exact ne_of hte g1 (by intro z; cases z)
    have ngp : gl ≠ p := by
      obtain ⟨kw, ns, a, l, g1, _⟩ := pen.ex
      exact ne_of hgl g1 (by intro z; cases z)
    have ndp : d ≠ p := by
      obtain ⟨kw, ns, a, l, g1, _⟩ := pen.ex
      obtain ⟨kvs, h1, _⟩ := st
      exact ne_of h1 g1 (by intro z; cases z)
    have ndc : d ≠ c := by
      obtain ⟨kw, ns, a, l, _, _, _, _, _, g6, _⟩ := pen.ex
      obtain ⟨kvs, h1, _⟩ := st
      exact ne_of h1 g6 (by intro z; cases z)
    have ntd : te ≠ d := by
      obtain ⟨kvs, h1, _⟩ := st
      exact ne_of hte h1 (by intro z; cases z)
    have ngd : gl ≠ d := by
      obtain ⟨kvs, h1, _⟩ := st
      exact ne_of hgl h1 (by intro z; cases z)
    have sm : ∀ {H1 H2 : Hp}, Same H1 H2 → Bt2 p d H1 H2 := fun h b o e _ _ => h b o e
    refine ⟨_, rfl, te, _, 0, _, rfl, rfl, SqT.of hte, at0 e, ?_⟩
    refine ⟨fun σ' H' => ∃ y5 y6 y7, σ' = [some (.ref p), some (.ref d), some (.ref te), some (.ref gl), some (.str e.word), y5, y6, y7, none, none, none] ∧ StockAt H' d Ps G ∧ PenAt H' p c n ∧ Bt2 p d H H', ?_, ?_⟩
    · refine ⟨_, rfl, rfl, _, rfl, ite2 (fun ew => ?_) (fun _ => ⟨_, _, _, rfl, st, pen, fun b o e _ _ => e⟩)⟩
      obtain ⟨nm, mm, o, t, rfl⟩ := swap_ent (V.str.inj (of_decide_eq_true ew))
      obtain ⟨hoP, htP, _⟩ := frm
      refine ⟨_, rfl, gl, rfl, ⟨_, SqT.of hgl⟩, ?_⟩
      refine for_tup (K := K) (a := gl) (xs := G.map V.str) (fun i σ H' => ∃ y5 y6 y7, σ = [some (.ref p), some (.ref d), some (.ref te), some (.ref gl), some (.str (Ent.swap nm mm o t).word), y5, y6, y7, none, none, none] ∧ StockAt H' d Ps G ∧ PenAt H' p c n ∧ Bt2 p d H H')
        ⟨_, _, _, rfl, st, pen, fun b o e _ _ => e⟩ (fun i σ H' _ z => by obtain ⟨_, _, _, _, _, _, z⟩ := z; exact SqT.of (z _ _ hgl ngp ngd)) ?_ (fun σ H' z => z)
      rintro i x σ H1 hx ⟨y5, y6, y7, rfl, ⟨kvs, hd, sk⟩, pen1, bt1⟩
      rw [List.getElem?_map] at hx
      obtain ⟨g, hgi, rfl⟩ := Option.map_eq_some_iff.mp hx
      have hg := List.mem_of_getElem? hgi
      have hte1 := bt1 _ _ hte ntp ntd
      obtain ⟨i1, v1⟩ := sk.val o hoP g hg
      obtain ⟨i2, v2⟩ := sk.val t htP g hg
      refine ⟨_, rfl, te, _, 3, _, rfl, rfl, SqT.of hte1, atI_nat (j := 3) rfl, _, rfl, (by show 2 ≤ sizeLine; decide), fun k1 nk1 => ?_⟩
      have s2 := @same_new _ _ (.tup [V.str o, .str g]) nk1
      have hk1 : (upd H1 k1 (.tup [V.str o, .str g])) k1 = some (.tup [V.str o, .str g]) := upd_same
      generalize upd H1 k1 (.tup [V.str o, .str g]) = H2 at s2 hk1
      refine ⟨_, rfl, te, _, 4, _, rfl, rfl, SqT.of (s2 _ _ hte1), atI_nat (j := 4) rfl, _, rfl, (by show 2 ≤ sizeLine; decide), fun k2 nk2 => ?_⟩
      have s3 := @same_new _ _ (.tup [V.str t, .str g]) nk2
      have hk2 : (upd H2 k2 (.tup [V.str t, .str g])) k2 = some (.tup [V.str t, .str g]) := upd_same
      generalize upd H2 k2 (.tup [V.str t, .str g]) = H3 at s3 hk2
      have s13 := s2.trans s3
      have d1 : DGet H3 d (.ref k1) (some (.int i1)) := by
        rw [← v1]
        exact DGet.t (s13 _ _ hd) (s3 _ _ hk1)
      have d2 : DGet H3 d (.ref k2) (some (.int i2)) := by
        rw [← v2]
        exact DGet.t (s13 _ _ hd) hk2
      refine ⟨_, rfl, _, rfl, d, _, rfl, d2, _, rfl, _, rfl, d, _, rfl, d1, (by show 2 ≤ sizeLine; decide), fun pq npq => ?_⟩
      have s4 := @same_new _ _ (.tup [V.int i2, .int i1]) npq
      have hpq : (upd H3 pq (.tup [V.int i2, .int i1])) pq = some (.tup [V.int i2, .int i1]) := upd_same
      generalize upd H3 pq (.tup [V.int i2, .int i1]) = H4 at s4 hpq
      have s14 := s13.trans s4
      have hd4 := s14 _ _ hd
      have hk14 := (s3.trans s4) _ _ hk1
      have hk24 := s4 _ _ hk2
      have sk2 := sk.put v1 i2
      obtain ⟨i3, v3⟩ := sk2.val t htP g hg
      refine ⟨pq, _, rfl, SqT.of hpq, rfl, _, _, rfl, _, rfl, _, rfl, d, _, rfl, DPut.t (k := stk o g) hd4 hk14 (small1000 (by have := sk.len; omega)), _, _, rfl, _, rfl, _, rfl, d, _, rfl, DPut.t (k := stk t g) upd_same ((upd_ne (ne_of hk24 hd4 (by intro z; cases z))).trans hk24) (small1000 (by have := sk2.len; omega)), rfl, ?_⟩
      exact ⟨_, _, _, rfl, ⟨_, upd_same, sk2.put v3 i1⟩, ((pen1.same s14).upd ndp ndc).upd ndp ndc, ((bt1.tr (sm s14)).put).put⟩
    rintro σ' H1 ⟨y5, y6, y7, rfl, st1, pen1, bt1⟩
    refine ⟨Nat.zero_le _, fun l0 nl0 => ?_⟩
    have s2 := @same_new _ _ (.lst []) nl0
    have hl0 : (upd H1 l0 (.lst [])) l0 = some (.lst []) := upd_same
    generalize upd H1 l0 (.lst []) = H2 at s2 hl0
    have ch0 : ChgAt H2 l0 e Ps G := ⟨[], [], hl0, .nil, fun x z => absurd z List.not_mem_nil, fun z => absurd rfl z⟩
    have st2 := st1.same s2
    have pen2 := pen1.same s2
    have bt2 := bt1.tr (sm s2)
    clear hl0 s2 nl0 st1 pen1 bt1
    have hteX := bt2 _ _ hte ntp ntd
    refine ⟨fun σ' H' => ∃ (l : Addr) (y9 : Option V), σ' = [some (.ref p), some (.ref d), some (.ref te), some (.ref gl), some (.str e.word), y5, y6, y7, some (.ref l), y9, none] ∧ StockAt H' d Ps G ∧ PenAt H' p c (n) ∧ Bt2 p d H H' ∧ ChgAt H' l e Ps G, ?_, ?_⟩
    · refine ⟨_, rfl, rfl, _, rfl, ite2 (fun ew => ?_) (fun _ => ⟨l0, _, rfl, st2, pen2, bt2, ch0⟩)⟩
      obtain ⟨nm, mm, g, pl, k, r, rfl⟩ := come_ent (V.str.inj (of_decide_eq_true ew))
      refine ⟨_, rfl, te, _, 4, _, rfl, rfl, SqT.of hteX, atI_nat (j := 4) rfl, _, rfl, te, _, 5, _, rfl, rfl, SqT.of hteX, atI_nat (j := 5) rfl, (by show 2 ≤ sizeLine; decide), fun t1 nt1 => ⟨(by show 1 ≤ sizeLine; decide), fun l nl => ?_⟩⟩
      have s3 := @same_new _ _ (.tup [V.str pl, .int k]) nt1
      have s4 := s3.trans (@same_new _ _ (.lst [V.ref t1]) nl)
      exact ⟨l, _, rfl, st2.same s4, pen2.same s4, bt2.tr (sm s4), [t1], [(pl, k)], upd_same, .cons (same_new nl _ _ upd_same) .nil, fun x z => .inr (by rw [List.mem_singleton.mp z]; exact frm.2.1), fun _ => ⟨g, frm.1, atI_nat (j := 3) rfl⟩⟩
    rintro σ' H3 ⟨l1, y9, rfl, st3, pen3, bt3, ch1⟩
    have hteX := bt3 _ _ hte ntp ntd
    refine ⟨fun σ' H' => ∃ (l : Addr) (y9 : Option V), σ' = [some (.ref p), some (.ref d), some (.ref te), some (.ref gl), some (.str e.word), y5, y6, y7, some (.ref l), y9, none] ∧ StockAt H' d Ps G ∧ PenAt H' p c (n) ∧ Bt2 p d H H' ∧ ChgAt H' l e Ps G, ?_, ?_⟩
    · refine ⟨_, rfl, rfl, _, rfl, ite2 (fun ew => ?_) (fun _ => ⟨l1, _, rfl, st3, pen3, bt3, ch1⟩)⟩
      obtain ⟨nm, mm, g, pl, k, rfl⟩ := go_ent (V.str.inj (of_decide_eq_true ew))
      refine ⟨_, rfl, te, _, 4, _, rfl, rfl, SqT.of hteX, atI_nat (j := 4) rfl, _, rfl, te, _, 5, _, rfl, rfl, SqT.of hteX, atI_nat (j := 5) rfl, 0, k, rfl, rfl, (by show 2 ≤ sizeLine; decide), fun t1 nt1 => ⟨(by show 1 ≤ sizeLine; decide), fun l nl => ?_⟩⟩
      have s3 := @same_new _ _ (.tup [V.str pl, .int (0 - k)]) nt1
      have s4 := s3.trans (@same_new _ _ (.lst [V.ref t1]) nl)
      exact ⟨l, _, rfl, st3.same s4, pen3.same s4, bt3.tr (sm s4), [t1], [(pl, 0 - k)], upd_same, .cons (same_new nl _ _ upd_same) .nil, fun x z => .inr (by rw [List.mem_singleton.mp z]; exact frm.2.1), fun _ => ⟨g, frm.1, atI_nat (j := 3) rfl⟩⟩
    rintro σ' H4 ⟨l2, y9, rfl, st4, pen4, bt4, ch2⟩
    have hteX := bt4 _ _ hte ntp ntd
    refine ⟨fun σ' H' => ∃ (l : Addr) (y9 : Option V), σ' = [some (.ref p), some (.ref d), some (.ref te), some (.ref gl), some (.str e.word), y5, y6, y7, some (.ref l), y9, none] ∧ StockAt H' d Ps G ∧ PenAt H' p c (n) ∧ Bt2 p d H H' ∧ ChgAt H' l e Ps G, ?_, ?_⟩
    · refine ⟨_, rfl, rfl, _, rfl, ite2 (fun ew => ?_) (fun _ => ⟨l2, _, rfl, st4, pen4, bt4, ch2⟩)⟩
      obtain ⟨nm, mm, g, o, t, k, rfl⟩ := move_ent (V.str.inj (of_decide_eq_true ew))
      refine ⟨_, rfl, te, _, 4, _, rfl, rfl, SqT.of hteX, atI_nat (j := 4) rfl, _, rfl, te, _, 6, _, rfl, rfl, SqT.of hteX, atI_nat (j := 6) rfl, 0, k, rfl, rfl, (by show 2 ≤ sizeLine; decide), fun t1 nt1 => ?_⟩
      have s3 := @same_new _ _ (.tup [V.str o, .int (0 - k)]) nt1
      have ht1 : (upd H4 t1 (.tup [V.str o, .int (0 - k)])) t1 = some (.tup [V.str o, .int (0 - k)]) := upd_same
      generalize upd H4 t1 (.tup [V.str o, .int (0 - k)]) = H5 at s3 ht1
      refine ⟨_, rfl, te, _, 5, _, rfl, rfl, SqT.of (s3 _ _ hteX), atI_nat (j := 5) rfl, _, rfl, te, _, 6, _, rfl, rfl, SqT.of (s3 _ _ hteX), atI_nat (j := 6) rfl, (by show 2 ≤ sizeLine; decide), fun t2 nt2 => ⟨(by show 2 ≤ sizeLine; decide), fun l nl => ?_⟩⟩
      have s5 := @same_new _ _ (.tup [V.str t, .int k]) nt2
      have s6 := @same_new _ _ (.lst [V.ref t1, .ref t2]) nl
      have s4 := s3.trans (s5.trans s6)
      refine ⟨l, _, rfl, st4.same s4, pen4.same s4, bt4.tr (sm s4), [t1, t2], [(o, 0 - k), (t, k)], upd_same, .cons (s6 _ _ (s5 _ _ ht1)) (.cons (s6 _ _ upd_same) .nil), fun x z => .inr ?_, fun _ => ⟨g, frm.1, atI_nat (j := 3) rfl⟩⟩
      simp only [List.mem_cons, List.not_mem_nil, or_false] at z
      rcases z with rfl | rfl
      · exact frm.2.1
      · exact frm.2.2.1
    rintro σ' H5 ⟨l3, y9, rfl, st5, pen5, bt5, ch3⟩
    have hteX := bt5 _ _ hte ntp ntd
    refine ⟨fun σ' H' => ∃ (l : Addr) (y9 : Option V), σ' = [some (.ref p), some (.ref d), some (.ref te), some (.ref gl), some (.str e.word), y5, y6, y7, some (.ref l), y9, none] ∧ StockAt H' d Ps G ∧ PenAt H' p c (n + 1) ∧ Bt2 p d H H' ∧ ChgAt H' l e Ps G, ?_, ?_⟩
    · refine ⟨_, rfl, rfl, _, rfl, ite2 (fun ew => ?_) (fun _ => ⟨l3, _, rfl, st5, pen5.mono (by omega), bt5, ch3⟩)⟩
      obtain ⟨nm, mm, g, o, t, rfl⟩ := some_ent (V.str.inj (of_decide_eq_true ew))
      refine ⟨_, rfl, p, c, n, 9, rfl, pen5, by omega, by decide, by decide, fun r H6 _ _ pen6 bt6 => ⟨r, 4, rfl, rfl, ?_⟩⟩
      have hte6 := bt6 _ _ hteX ntp
      refine ⟨_, rfl, te, _, 4, _, rfl, rfl, SqT.of hte6, atI_nat (j := 4) rfl, _, rfl, 0, r - 4, rfl, rfl, (by show 2 ≤ sizeLine; decide), fun t1 nt1 => ?_⟩
      have s3 := @same_new _ _ (.tup [V.str o, .int (0 - (r - 4))]) nt1
      have ht1 : (upd H6 t1 (.tup [V.str o, .int (0 - (r - 4))])) t1 = some (.tup [V.str o, .int (0 - (r - 4))]) := upd_same
      generalize upd H6 t1 (.tup [V.str o, .int (0 - (r - 4))]) = H7 at s3 ht1
      refine ⟨_, rfl, te, _, 5, _, rfl, rfl, SqT.of (s3 _ _ hte6), atI_nat (j := 5) rfl, _, rfl, (by show 2 ≤ sizeLine; decide), fun t2 nt2 => ⟨(by show 2 ≤ sizeLine; decide), fun l nl => ?_⟩⟩
      have s5 := @same_new _ _ (.tup [V.str t, .int (r - 4)]) nt2
      have s6 := @same_new _ _ (.lst [V.ref t1, .ref t2]) nl
      have s4 := s3.trans (s5.trans s6)
      refine ⟨l, _, rfl, (st5.but pen5 bt6).same s4, pen6.same s4, (bt5.tr (.of bt6)).tr (sm s4), [t1, t2], [(o, 0 - (r - 4)), (t, r - 4)], upd_same, .cons (s6 _ _ (s5 _ _ ht1)) (.cons (s6 _ _ upd_same) .nil), fun x z => ?_, fun _ => ⟨g, frm.1, atI_nat (j := 3) rfl⟩⟩
      simp only [List.mem_cons, List.not_mem_nil, or_false] at z
      rcases z with rfl | rfl
      · exact .inr frm.2.1
      · exact frm.2.2.imp id fun z => z.1
    rintro σ' H6 ⟨l4, y9, rfl, st6, pen6, bt6, cs, ps, hl4, pcs, inP, gd3⟩
    have nlp : l4 ≠ p := by
      obtain ⟨kw, ns, a, l, g1, _⟩ := pen6.ex
      exact ne_of hl4 g1 (by intro z; cases z)
    have nld : l4 ≠ d := by
      obtain ⟨kvs, h1, _⟩ := st6
      exact ne_of hl4 h1 (by intro z; cases z)
    refine ⟨_, rfl, l4, rfl, ⟨_, SqL.of hl4⟩, ?_⟩
    refine for_list (K := K) (a := l4) (xs := cs.map V.ref) (fun i σ H' => ∃ y9 y10, σ = [some (.ref p), some (.ref d), some (.ref te), some (.ref gl), some (.str e.word), y5, y6, y7, some (.ref l4), y9, y10] ∧ StockAt H' d Ps G ∧ PenAt H' p c (n + 1) ∧ Bt2 p d H6 H')
      ⟨_, _, rfl, st6, pen6, fun b o e _ _ => e⟩ (fun i σ H' _ z => by obtain ⟨_, _, _, _, _, z⟩ := z; exact SqL.of (z _ _ hl4 nlp nld)) ?_ ?_
    · rintro i x σ H7 hx ⟨z9, z10, rfl, st7, pen7, bt7⟩
      rw [List.getElem?_map] at hx
      obtain ⟨a, ha, rfl⟩ := Option.map_eq_some_iff.mp hx
      obtain ⟨⟨pl, v⟩, hpv, hav⟩ := paired_get pcs ha
      have mpv := List.mem_of_getElem? hpv
      have nap : a ≠ p := by
        obtain ⟨kw, ns, a', l, g1, _⟩ := pen6.ex
        exact ne_of hav g1 (by intro z; cases z)
      have nad : a ≠ d := by
        obtain ⟨kvs, h1, _⟩ := st6
        exact ne_of hav h1 (by intro z; cases z)
      obtain ⟨g, hgG, at3'⟩ := gd3 (fun z => by rw [z] at mpv; cases mpv)
      have hte7 := bt7 _ _ (bt6 _ _ hte ntp ntd) ntp ntd
      refine ⟨a, _, rfl, SqT.of (bt7 _ _ hav nap nad), rfl, _, _, rfl, _, _, rfl, rfl, ?_⟩
      refine ⟨_, rfl, rfl, _, rfl, ite2 (fun ne => ?_) (fun _ => ⟨_, _, rfl, st7, pen7, bt7⟩)⟩
      have npl : pl ≠ "" := fun z => by
        rw [decide_eq_true (congrArg V.str z)] at ne
        cases ne
      have plP : pl ∈ Ps := (inP _ mpv).resolve_left npl
      obtain ⟨kvs, hd, sk⟩ := st7
      obtain ⟨i1, v1⟩ := sk.val pl plP g hgG
      refine ⟨_, rfl, _, rfl, _, rfl, te, _, 3, _, rfl, rfl, SqT.of hte7, at3', (by show 2 ≤ sizeLine; decide), fun k1 nk1 => ?_⟩
      have s8 := @same_new _ _ (.tup [V.str pl, .str g]) nk1
      have hk1 : (upd H7 k1 (.tup [V.str pl, .str g])) k1 = some (.tup [V.str pl, .str g]) := upd_same
      generalize upd H7 k1 (.tup [V.str pl, .str g]) = H8 at s8 hk1
      have d1 : DGet H8 d (.ref k1) (some (.int i1)) := by
        rw [← v1]
        exact DGet.t (s8 _ _ hd) hk1
      refine ⟨d, _, rfl, d1, _, rfl, i1, v, rfl, rfl, _, rfl, _, rfl, _, rfl, te, _, 3, _, rfl, rfl, SqT.of (s8 _ _ hte7), at3', (by show 2 ≤ sizeLine; decide), fun k2 nk2 => ?_⟩
      have s9 := @same_new _ _ (.tup [V.str pl, .str g]) nk2
      have s89 := s8.trans s9
      refine ⟨d, _, rfl, DPut.t (k := stk pl g) (s89 _ _ hd) upd_same (small1000 (by have := sk.len; omega)), ?_⟩
      exact ⟨_, _, rfl, ⟨_, upd_same, sk.put v1 _⟩, (pen7.same s89).upd ndp ndc, (bt7.tr (sm s89)).put⟩
    · rintro σ H7 ⟨z9, z10, rfl, st7, pen7, bt7⟩
      exact q H7 st7 pen7 (bt6.tr bt7)
end
/-! ### sorted(..) of what gives texts -/
def leS (a b : Str) : Prop := a.cps.toList ≤ b.cps.toList
theorem leS_of {a b : Str} (h : ltCps b.cps.toList a.cps.toList = false) : leS a b := by
  rw [ltCps_eq] at h
  exact List.not_lt.mp (of_decide_eq_false h)
theorem str_ext {a b : Str} (h : a.cps.toList = b.cps.toList) : a = b := by
  cases a with
  | mk x => cases b with
    | mk y =>
      have : x = y := Array.toList_inj.mp h
      rw [this]
theorem leS_trans {a b c : Str} (h1 : leS a b) (h2 : leS b c) : leS a c := List.le_trans h1 h2
theorem leS_anti {a b : Str} (h1 : leS a b) (h2 : leS b a) : a = b := str_ext (List.le_antisymm h1 h2)
theorem rising_pw : ∀ (p : Str) (l : List Str), risingS p l = true → (p :: l).Pairwise leS
  | p, [], _ => List.pairwise_singleton _ _
  | p, x :: r, h => by
    have h' : (!ltCps x.cps.toList p.cps.toList && risingS x r) = true := h
    rw [Bool.and_eq_true] at h'
    have le : leS p x := leS_of (by simpa using h'.1)
    have ih := rising_pw x r h'.2
    refine List.pairwise_cons.mpr ⟨fun y hy => ?_, ih⟩
    rcases List.mem_cons.mp hy with rfl | hy
    · exact le
    · exact leS_trans le (List.rel_of_pairwise_cons ih hy)
theorem sorted_pw {l : List Str} (h : sortedS l = true) : l.Pairwise leS := by
  cases l with
  | nil => exact .nil
  | cons x r => exact rising_pw x r h
/-- two sorted lists of the same texts are one -/
theorem sorted_one {l r : List Str} (p : l.Perm r) (h1 : sortedS l = true) (h2 : sortedS r = true) : l = r :=
  List.Perm.eq_of_pairwise (fun a b _ _ x y => leS_anti x y) (sorted_pw h1) (sorted_pw h2) p
theorem sorted_by {prog : Program} {w : World} {A : Around} {E : Value → Shared → Prop} {s : Shared} {x : Value} {Q : Value → Shared → Prop}
    (h : wpAny (model prog w) A.in1 (collect x) (fun vs s1 => ∃ ss, StrsAre vs ss ∧ vs.length < 64 ∧ ∀ (out : Array Value) (ss' : List Str) (h' : Heap) (ep : Nat), StrsAre out.toList ss' → ss'.Perm ss → sortedS ss' = true →
      (∀ b o, s1.heap.get? b = some o → h'.get? b = some o) → h'.get? s1.heap.objs.size = some (seqObj "list" out ep) → Q (.ref s1.heap.objs.size) { s1 with heap := h' }) E s) :
    wpAny (model prog w) A (call (.builtin "sorted") [x]) Q E s := by
  refine Calls.call_function_entry kind_sorted plain_sorted entry_sorted (args_sorted1 _) ?_
  unfold Builtin.«sorted»
  refine wpAny_bind (m := checkCount "sorted" 1 1 _) (wpAny_pure (wpAny_bind (wpAny_mono h (fun vs s1 ⟨ss, hS, h64, hq⟩ => ?_) fun _ _ e => e)))
  have hoL : (s1.heap.push (seqObj "list" vs.toArray 0)).get? s1.heap.objs.size = some (seqObj "list" vs.toArray 0) := Heap.get?_push_size _ rfl
  refine wpAny_bind (wpAny_newList (wpAny_bind (wpAny_holding (wpAny_call_entry slot_list_sort ⟨_, hoL, rfl⟩ entry_list_sort (list_sort_treeK strKind_oneLt hoL hS.keysOf (fun v1 v2 rest e => keyKind_strs (by rw [← e]; exact hS)) h64 fun st' hp hs => ⟨_, rfl, ?_⟩) (args_list_sort _)))))
  obtain ⟨ss', h1, h2, h3⟩ := sorted_out_str hS hp hs
  obtain ⟨ep, he⟩ := sortedHeap_at (out := (arrOf st').map (·.2)) hoL
  refine wpAny_pure ⟨_, rfl, hq _ ss' _ ep h1 h2 h3 (fun b o e => ?_) he⟩
  have lt := Heap.lt_size e
  rw [sortedHeap_old (Nat.ne_of_lt lt) (by rw [Heap.size_push]; exact Nat.lt_succ_of_lt lt)]
  exact Heap.get?_push_of_some _ e
/-- of a tuple of texts -/
theorem cr_sortedTS {X : Cx} : CallR X (.builtin "sorted") (fun vs H Q => ∃ (a : Addr) (xs : List Str), vs = [.ref a] ∧ SqT X.K H a (xs.map V.str) ∧ xs.length < 64 ∧
    ∀ (ys : List Str) (p : Addr), ys.Perm xs → sortedS ys = true → H p = none → Q (.ref p) (upd H p (.lst (ys.map V.str)))) := by
  rintro pins s σ H vs us Q I r ⟨a, xs, rfl, hs, h64, q⟩
  rw [Vals.ref1 r]
  obtain ⟨its, rv, ⟨o, e1, e2, n, e3⟩, hz⟩ := I.tuple hs
  have l0 := rv.length
  rw [List.length_map] at l0
  refine sorted_by (wpAny_collect_seq a (.inr rfl) e1 e2 e3 (fun h1 k1 => ⟨xs, ?_, ?_, fun out ys h' ep g1 g2 g3 k2 g4 => ?_⟩) (by rw [List.size_toArray, ← rv.length]; exact hz))
  · exact rv.strs
  · show its.length < 64
    rw [← l0]
    exact h64
  · have I1 := I.kept (t' := s.toks) k1
    have hlen : (ys.map V.str).length ≤ sizeLine := by rw [List.length_map, g2.length_eq]; exact small64 h64
    exact ⟨.ref h1.objs.size, upd H h1.objs.size (.lst (ys.map V.str)), I1.laid (t' := s.toks) k2 (Nat.le_refl _) ⟨hlen, out.toList, ep, vals_of_strs g1, by rw [g4]⟩, rfl, q ys _ g2 g3 (I1.hok.fresh (Nat.le_refl _))⟩
/-! ### is_name -/
def signB (c : Nat) : Bool := decide (c ∈ abc.cps.toList)
def nameB (z : Str) : Bool := decide (1 ≤ z.length) && decide (z.length ≤ 8) && z.cps.toList.all signB
theorem nameB_in {z : Str} (h1 : (1 : Int) ≤ (z.length : Int)) (h2 : (z.length : Int) ≤ 8) : nameB z = z.cps.toList.all signB := by
  unfold nameB
  rw [decide_eq_true (show 1 ≤ z.length by omega), decide_eq_true (show z.length ≤ 8 by omega)]
  rfl
theorem nameB_long {z : Str} (h : ¬ (z.length : Int) ≤ 8) : nameB z = false := by
  unfold nameB
  rw [decide_eq_false (show ¬ z.length ≤ 8 by omega), Bool.and_false]
  rfl
theorem nameB_short {z : Str} (h : ¬ (1 : Int) ≤ (z.length : Int)) : nameB z = false := by
  unfold nameB
  rw [decide_eq_false (show ¬ 1 ≤ z.length by omega)]
  rfl
/-! ### defs that are called while nothing is being shown: the guards are known -/
structure FnG (P : Program) (w : World) (K : PySem.W.Frag) (mg : Str → Option Value) (base : Heap) (k : Nat) (f : Addr) (fd : FuncData) (ps : List Str) (sp : Sp) : Prop where
  many : ∀ vs H Q E, sp vs H Q E → vs.length = ps.length
  goes : ∀ (B : Around) (st : List Env) (s : Shared) (H : Hp) (as : Args) (us : List Value) (vs : List V) (Q : VK) (E : XK), B.guards = some [] → Room k B → Env0 P w K mg base B st s H →
    BindsTo s fd as (ps.zip us) → Vals vs us → sp vs H Q E → codeAny (model P w) B (.call (.ref f) as) (CR CX0 st P w H s Q E) s
section
variable {P : Program} {w : World} {K : PySem.W.Frag} {mg : Str → Option Value} {base : Heap}
theorem FnG.of {k : Nat} {f : Addr} {fd : FuncData} {ps : List Str} {sp : Sp} (F : FnOk P w K mg base CX0 k f fd ps sp) : FnG P w K mg base k f fd ps sp :=
  ⟨F.len, fun B st s H as us vs Q E _ => F.run B st s H as us vs Q E⟩
theorem Fun.okG {x qual : Str} {st : Stmt} {f : Addr} {fd : FuncData} {N ps : List Str} {k : Nat} {sp : Sp} (F : Fun K x qual st f fd) (S : FnScope N ps (defScope st)) (many : ∀ vs H Q E, sp vs H Q E → vs.length = ps.length)
    (body : ∀ (cdv : Value) (B : Around) (fs : List Env) (s : Shared) (H : Hp) (vs : List V) (Q : VK) (E : XK), B.guards = some [] → Room k (B.deeper (envOfC qual (defScope st) s.heap.objs.size f cdv)) → sp vs H Q E →
      ∃ t, PSs (cxOf CX0 P w K mg base N qual (defScope st) f cdv B fs s H E).nox (defBody st) t ∧ t { nx := fun _ H' => Q .non H', rt := Q } (start N vs) H) : FnG P w K mg base (k + 1) f fd ps sp := by
  obtain ⟨oc, od, kV, doc, pm, an, cdv, ct, osl, rfl, lk, hcd⟩ := F.ex
  refine ⟨many, fun B fs s H as us vs Q E hg hr e0 hb r hsp => ?_⟩
  have old : ∀ b o, base.get? b = some o → s.heap.get? b = some o := fun b o e => (e0.bs b o e).1
  have KX := e0.mod.kin.keeps old
  obtain ⟨t, pt, ht⟩ := body cdv B fs s H vs Q E hg (hr.deeper _) hsp
  refine codeAny_call_function hr.depth (KX _ _ lk) rfl S.co S.gen rfl (PySem.W.codeRec_of KX hcd) (hb _ _ _ _ ?_)
  refine wpAny_newFunctionEnv_cells S.kind ?_ ?_
  · rintro ⟨n, v⟩ hy
    have hn := (List.of_mem_zip hy).1
    exact (S.par n hn).imp id fun q => ⟨q, PySem.W.cellsFrom_some _ _ _ (.inl q)⟩
  · rintro env rfl s1 x
    have I := inv_start (CX := CX0) (E := E) S hr.hd e0 (many _ _ _ _ hsp) r x
    refine ⟨(e0.mod.nolimit.keeps old).keeps x.toInCall.keep, codeAny_func (wpAny_mono (pt.nox.run [] s1 _ H _ I ht) ?_ fun e s' hs => hs)⟩
    rintro fl s' hs
    cases fl with
    | ret u =>
      obtain ⟨v, σ', H', J, rv, q⟩ := hs
      exact ⟨v, H', J.os, J.bare, J.base, J.hok, rv, q⟩
    | next =>
      obtain ⟨σ', H', J, q⟩ := hs
      exact ⟨.non, H', J.os, J.bare, J.base, J.hok, rfl, q⟩
    | brk =>
      obtain ⟨_, _, _, q⟩ := hs
      exact False.elim q
    | cont =>
      obtain ⟨_, _, _, q⟩ := hs
      exact False.elim q
end
/-- f(e, ..): a def of this kind -/
theorem pe_callG {X : Cx} {k : Nat} {f : Addr} {fd : FuncData} {ps : List Str} {sp : Sp} {x : Str} {p pos : Pos} {e : Expr} {es : List Expr} {t : TA} (F : FnG X.prog X.w X.K X.mg X.base k f fd ps sp) (hG : X.A.guards = some []) (hr : Room k X.A) (hg : Gl X x) (hm : X.mg x = some (.ref f))
    (hk : PySem.W.keepIn X.K (.ref f) = true) (hb : Binds X.K fd ps []) (ha : PA X (e :: es) t) (hdb : (x == ("__debug__" : Str)) = false := by decide) (he : starEach (e :: es) X.env = (false, eval e X.env) :: starEach es X.env := by rfl)
    (hpl : (backTo pos (starEach es X.env)).any (·.1) = false := by rfl) : PE X (.Call (.Name x p) (e :: es) [] pos) (tCall sp [] E0 t) := by
  refine ⟨fun pins s σ H Q I h => wpAny_Call_Name_kw (ld_glob I hg hm ?_ hdb)⟩
  refine PySem.W.callWith_K (h₀ := X.base) I.ok.mod.kin hk (thn (ha.run pos pins s σ H _ I h) ?_) he hpl
  rintro us s1 ⟨vs, H1, I1, r, q⟩
  rw [List.append_nil] at q
  have hl : us.length = ps.length := r.length.symm.trans (F.many _ _ _ _ q)
  have bd := hb s1 us I1.kIn (by rw [List.append_nil]; exact hl)
  rw [List.append_nil] at bd
  refine ⟨I1.kIn, wpAny_call (codeAny_mono (F.goes X.A X.stack s1 H1 ⟨us, []⟩ us vs Q E0 hG hr I1.env0 bd r q) ?_)⟩
  rintro r2 s2 hq
  cases r2 with
  | error e => exact False.elim hq
  | ok fl =>
    cases fl with
    | ret u => exact I1.after hq
    | next => exact False.elim hq
    | brk => exact False.elim hq
    | cont => exact False.elim hq
/-! ### the top's call of the law, for a law that shows things -/
def topH (K : PySem.W.Frag) (a : Addr) (o : Obj) (xs : List V) (cs : List (Addr × Addr)) : Hp := fun b =>
  if b ∈ cs.map (·.2) then some (.tbl #[]) else if b = a ∧ K.lookup a = none then some (.frz o (.lst xs)) else none
section
variable {P : Program} {w : World} {K : PySem.W.Frag} {mg mb : Str → Option Value} {a : Addr} {o : Obj} {cs : List (Addr × Addr)} {s₁ : Shared} {vs : List Value} {ns : List Int}
theorem topH_tab {xs : List V} {p : Addr × Addr} (hp : p ∈ cs) : topH K a o xs cs p.2 = some (.tbl #[]) := if_pos (List.mem_map.mpr ⟨p, hp, rfl⟩)
theorem topH_cases {xs : List V} {b : Addr} {u : HO} (h : topH K a o xs cs b = some u) : (b ∈ cs.map (·.2) ∧ u = .tbl #[]) ∨ (b = a ∧ K.lookup a = none ∧ u = .frz o (.lst xs)) := by
  unfold topH at h
  split at h
  · rename_i hb
    exact .inl ⟨hb, (Option.some.inj h).symm⟩
  · split at h
    · rename_i hb
      exact .inr ⟨hb.1, hb.2, (Option.some.inj h).symm⟩
    · cases h
theorem top_call {fa : Addr} {k : Nat} {fd : FuncData} {x : Str} {sp : Sp}
    (KX : K.In s₁.heap) (hns : s₁.heap.Ns mainGlobals mg) (hb : s₁.heap.Ns builtinsNs mb) (hbb : ∀ x : Str, x ≠ "__name__" → mb x = bootBuiltins x) (hlim : s₁.heap.NoLimit) (hg : s₁.gens = #[])
    (hT : ∀ p ∈ cs, s₁.heap.get? p.2 = some { cls := .none, data := .fields #[] }) (nT : ∀ p ∈ cs, K.lookup p.2 = none) (C : ∀ p ∈ cs, PySem.W.CodeHd s₁.heap p.1 p.2)
    (hbm : ∃ (bm : Addr) (ob : Obj), mg "__builtins__" = some (.ref bm) ∧ bm ≠ builtinsNs ∧ s₁.heap.get? bm = some ob ∧ ob.cls = .type "module" ∧ ob.dict = some builtinsNs ∧ ob.data = .plain)
    (ha : s₁.heap.get? a = some { cls := .type "list", data := .seq vs.toArray }) (hi : IntsAre vs ns) (hl : ns.length ≤ sizeLine) (hr : Room k callerA)
    (F : ∀ base : Heap, K.In base → base.Ns mainGlobals mg → (∀ p ∈ cs, LamX.TabB base mg p.1 p.2) → FnG P w K mg base k fa fd [x] sp) (hbind : ∀ (s : Shared) (u : Value), BindsTo s fd ⟨[u], []⟩ [(x, u)])
    (hsp : ∀ H : Hp, (∀ p ∈ cs, H p.2 = some (.tbl #[])) → SqL K H a (ns.map V.int) → sp [.ref a] H (fun v _ => v = .bl true) fun _ _ _ => False) :
    codeAny (model P w) callerA (.call (.ref fa) ⟨[.ref a], []⟩) (fun r s' => r = .ok (.ret (.bool true)) ∧ OldK s₁.heap s'.heap ∧ s'.os = s₁.os ∧ AllBare s'.gens) s₁ := by
  have tabAt : ∀ b : Addr, b ∈ cs.map (·.2) → s₁.heap.get? b = some { cls := .none, data := .fields #[] } := fun b hb => by
    obtain ⟨p, hp, rfl⟩ := List.mem_map.mp hb
    exact hT p hp
  have naT : a ∉ cs.map (·.2) := fun z => by
    have q := (tabAt a z).symm.trans ha
    cases q
  have rv := vals_ints hi
  let H : Hp := topH K a { cls := .type "list", data := .seq vs.toArray } (ns.map V.int) cs
  have hH : ∀ p ∈ cs, H p.2 = some (.tbl #[]) := fun p hp => topH_tab hp
  -- what is tracked is a list or a table
  have free : ∀ {b : Addr} {ob : Obj}, s₁.heap.get? b = some ob → (∀ us n, ob.data ≠ .seq us n) → ob.data ≠ .fields #[] → H b = none := fun {b ob} e h1 h2 => by
    cases q : H b with
    | none => rfl
    | some u =>
      rcases topH_cases q with ⟨hb, _⟩ | ⟨rfl, _, _⟩
      · rw [tabAt b hb] at e
        cases e
        exact absurd rfl h2
      · rw [ha] at e
        cases e
        exact absurd rfl (h1 _ _)
  have dic : ∀ {b : Addr} {m : Str → Option Value}, s₁.heap.Ns b m → (hidT s₁.heap H).Ns b m := fun {b m} ⟨ob, es, ep, e, d, r⟩ =>
    ⟨ob, es, ep, hidT_get e (free e (fun us n z => by rw [d] at z; cases z) fun z => by rw [d] at z; cases z), d, r⟩
  have hK : K.In (hidT s₁.heap H) := fun b ob e => hidT_get (KX b ob e) (by
    cases q : H b with
    | none => rfl
    | some u =>
      rcases topH_cases q with ⟨hb, _⟩ | ⟨rfl, n, _⟩
      · obtain ⟨p, hp, rfl⟩ := List.mem_map.mp hb
        rw [nT p hp] at e
        cases e
      · rw [n] at e
        cases e)
  have hok : HOk P w H s₁.heap := fun b u q => by
    rcases topH_cases q with ⟨hb, rfl⟩ | ⟨rfl, _, rfl⟩
    · exact tabAt b hb
    · exact ⟨ha, by rw [List.length_map]; exact hl, vs, _, rv, ha⟩
  have hS : SqL K H a (ns.map V.int) := by
    cases hk : K.lookup a with
    | some ob =>
      have e := (KX a ob hk).symm.trans ha
      cases e
      exact .inr ⟨_, vs.toArray, _, hk, rfl, rfl, rfl, by rw [List.size_toArray, hi.length]; exact hl, by simpa using rv⟩
    | none => exact .inl (.inr ⟨{ cls := .type "list", data := .seq vs.toArray }, (if_neg naT).trans (if_pos ⟨rfl, hk⟩)⟩)
  have hM : L2.Mod K mg (hidT s₁.heap H) := ⟨hK, dic hns, ⟨mb, dic hb, hbb⟩, let ⟨mc, h1, h2⟩ := hlim; ⟨mc, dic h1, h2⟩⟩
  have TB : ∀ p ∈ cs, LamX.TabB (hidT s₁.heap H) mg p.1 p.2 := fun p hp => by
    have hTp := hT p hp
    obtain ⟨og, eg, pg, g1, g2, _⟩ := hns
    refine ⟨?_, ?_, fun z => ?_⟩
    · obtain ⟨ob, us, file, tf, flags, tg, inF, text, tt, e1, r1, r2, r3, r4⟩ := C p hp
      refine ⟨ob, us, file, tf, flags, tg, inF, text, tt, hidT_get e1 (free e1 (fun us n z => ?_) fun z => ?_), r1, r2, r3, r4⟩
      · rw [r2] at z
        cases z
      · rw [r2] at z
        cases z
        simp at r3
    · obtain ⟨bm, ob, b1, b2, b3, b4, b5, b6⟩ := hbm
      refine ⟨bm, ob, b1, b2, fun z => ?_, fun z => ?_, hidT_get b3 (free b3 (fun us n z => by rw [b6] at z; cases z) fun z => by rw [b6] at z; cases z), b4, b5, b6⟩
      · rw [z, g1] at b3
        cases b3
        rw [g2] at b6
        cases b6
      · rw [z, hTp] at b3
        cases b3
        cases b6
    · rw [z, hTp] at g1
      cases g1
      cases g2
  have e0 : Env0 P w K mg (hidT s₁.heap H) callerA [] s₁ H := ⟨rfl, hM, fun b ob e => of_hidT e, Nat.le_of_eq (hidT_size _ _), trivial, (fun b hb => nomatch (show b ∈ ([] : List Addr) from hb)), hok, .of_eq hg⟩
  refine codeAny_mono ((F _ hK (dic hns) TB).goes callerA [] s₁ H ⟨[.ref a], []⟩ [.ref a] [.ref a] _ _ rfl hr e0 (hbind s₁ (.ref a)) (.cons rfl .nil) (hsp H hH hS)) ?_
  rintro r s' h
  cases r with
  | error e => exact False.elim h
  | ok fl =>
    cases fl with
    | next => exact False.elim h
    | brk => exact False.elim h
    | cont => exact False.elim h
    | ret u =>
      obtain ⟨v, H', os, bare, un, hok', r', rfl⟩ := h
      obtain rfl : u = Value.bool true := r'
      have stays : ∀ b ob, b ∉ cs.map (·.2) → s₁.heap.get? b = some ob → s'.heap.get? b = some ob := fun b ob nb e => by
        cases q : H b with
        | none => exact un.keep b ob e q (fun z => nomatch (show b ∈ ([] : List Addr) from z)) (by simp)
        | some u =>
          rcases topH_cases q with ⟨z, _⟩ | ⟨rfl, _, rfl⟩
          · exact absurd z nb
          · rw [ha] at e
            cases e
            exact (hok' _ _ (un.frzs _ _ _ q)).1
      have grown : ∀ b ∈ cs.map (·.2), ∃ p ∈ cs, b = p.2 ∧ ∃ more : Array Value, s'.heap.get? b = some { cls := .none, data := .fields more } := fun b hb => by
        obtain ⟨p, hp, rfl⟩ := List.mem_map.mp hb
        obtain ⟨more, z⟩ := un.tbls p.2 #[] (hH p hp)
        exact ⟨p, hp, rfl, _, hok' p.2 _ z⟩
      refine ⟨rfl, ⟨fun b ob e => ?_, fun b ob e => ?_⟩, os, bare⟩
      · by_cases hb : b ∈ cs.map (·.2)
        · obtain ⟨p, hp, rfl, more, hm⟩ := grown b hb
          rw [hT p hp] at e
          cases e
          exact .inr (.inl ⟨((C p hp).tab (hT p hp)).isCodeTable, rfl, #[], more, rfl, by rw [Array.empty_append]; exact hm⟩)
        · exact .inl (stays b ob hb e)
      · by_cases hb : b ∈ cs.map (·.2)
        · obtain ⟨p, hp, rfl, more, hm⟩ := grown b hb
          exact ⟨_, hm⟩
        · exact ⟨ob, stays b ob hb e⟩
end
/-- what is known of a law that shows things -/
def LawG (l : PySem.W.OpenLaw) (w : World) (K : PySem.W.Frag) (k n : Nat) (x : Str) (mg : Str → Option Value) (fa : Addr) (h : Heap) : Prop :=
  ∃ (fd : FuncData) (cs : List (Addr × Addr)) (sp : Sp), ((∀ p ∈ cs, h.get? p.2 = some { cls := .none, data := .fields #[] }) ∧ (∀ p ∈ cs, K.lookup p.2 = none) ∧ ∀ p ∈ cs, PySem.W.CodeHd h p.1 p.2) ∧ (∀ (s : Shared) (u : Value), BindsTo s fd ⟨[u], []⟩ [(x, u)]) ∧
    (∀ (H : Hp) (a : Addr) (ns : List Int), ns.length ≤ n → (∀ p ∈ cs, H p.2 = some (.tbl #[])) → SqL K H a (ns.map V.int) → sp [.ref a] H (fun v _ => v = .bl true) fun _ _ _ => False) ∧
    ∀ base : Heap, K.In base → base.Ns mainGlobals mg → (∀ p ∈ cs, LamX.TabB base mg p.1 p.2) → FnG l.prog w K mg base k fa fd [x] sp
theorem end_G {l : PySem.W.OpenLaw} {n k : Nat} {q : Program} {loose : List Str} {XP : (Str → Option Value) → Heap → Prop} {YP : World → Heap → Prop} {d : PySem.DefRec} {K : Params → PySem.W.Frag} {x : Str}
    (hn : l.most = some n) (hn2 : n ≤ sizeLine) (hdf : d.params.defaults = []) (hr : Room k callerA)
    (hY : ∀ (w : World) (h : Heap), YP w h → (K w.params).In h)
    (F : ∀ (w : World) (s0 : Shared) (mg mb : Str → Option Value) (fa : Addr) (h : Heap), PySem.W.Ground q loose [] XP w s0 mg mb h → (K w.params).In h → mg d.name = some (.ref fa) → LawG l w (K w.params) k n x mg fa h) :
    PySem.W.WalkO q loose XP YP l.row.toRowW d [] (fun f vs => PySem.call f vs) := by
  refine Att.attach_callB hn hdf fun w s0 s1 mg mb fa o pm cd doc a vs ns G Y ho hd hcd hmg hobj hints hlen hbits hg => ?_
  have KX := hY w _ Y
  obtain ⟨fd, cs, sp, ⟨hT, nT, C⟩, hb, hsp, hF⟩ := F w s0 mg mb fa _ G KX hmg
  exact top_call KX G.T.g G.T.b G.T.builtins G.T.nolimit hg hT nT C G.T.bmain hobj hints (Nat.le_trans hlen hn2) hr hF hb (fun H hH hS => hsp H a ns hlen hH hS)
/-! ### repr of data -/
theorem cr_repr {X : Cx} (hG : X.A.guards = some []) (hu : X.A.units + 64 < cLine) : CallR X (.builtin "repr") (fun vs H Q => ∃ (a : Addr) (d : PyData), vs = [.ref a] ∧ Dp X.K H (.ref a) d ∧ d.showable = true ∧ d.hasDict = false ∧ d.depth ≤ 60 ∧ d.shown.length ≤ sizeLine ∧ Q (.str d.shown) H) := by
  rintro pins s σ H vs us Q I r ⟨a, d, rfl, hd, sh, nd, dp, sz, q⟩
  rw [Vals.ref1 r]
  obtain ⟨as, rd⟩ := Dp.reads I d (.ref a) (.ref a) hd rfl
  exact repr_of_reads' rd sh (PyData.noDict_hsm nd) hG (by omega) (fun _ _ e => e) (fun h' u tk hk => ⟨.str d.shown, H, I.kept hk, ⟨_, rfl⟩, q⟩) sz
/-! ### sorted(xs, key=f), f a def whose answers are data -/
mutual
theorem Dp.on {K : PySem.W.Frag} {H H' : Hp} (s : Same H H') : ∀ {v : V} {d : PyData}, Dp K H v d → Dp K H' v d
  | _, _, .non => .non
  | _, _, .bl b => .bl b
  | _, _, .int i => .int i
  | _, _, .str x => .str x
  | _, _, .lst h r => .lst (h.imp (fun z => z.imp (s _ _) fun ⟨o, e⟩ => ⟨o, s _ _ e⟩) id) (DpAll.on s r)
  | _, _, .tup h r => .tup (h.imp (fun z => z.imp (s _ _) fun ⟨o, e⟩ => ⟨o, s _ _ e⟩) id) (DpAll.on s r)
theorem DpAll.on {K : PySem.W.Frag} {H H' : Hp} (s : Same H H') : ∀ {vs : List V} {ds : List PyData}, DpAll K H vs ds → DpAll K H' vs ds
  | _, _, .nil => .nil
  | _, _, .cons h r => .cons (Dp.on s h) (DpAll.on s r)
end
theorem DpAll.snoc {K : PySem.W.Frag} {H : Hp} {v : V} {d : PyData} : ∀ {vs : List V} {ds : List PyData}, DpAll K H vs ds → Dp K H v d → DpAll K H (vs ++ [v]) (ds ++ [d])
  | _, _, .nil, h => .cons h .nil
  | _, _, .cons a r, h => .cons a (DpAll.snoc r h)
theorem DpAll.len {K : PySem.W.Frag} {H : Hp} : ∀ {vs : List V} {ds : List PyData}, DpAll K H vs ds → vs.length = ds.length
  | _, _, .nil => rfl
  | _, _, .cons _ r => congrArg Nat.succ (DpAll.len r)
theorem vals_snoc {v : V} {u : Value} : ∀ {vs : List V} {us : List Value}, Vals vs us → RelV v u → Vals (vs ++ [v]) (us ++ [u])
  | _, _, .nil, h => .cons h .nil
  | _, _, .cons a r, h => .cons a (vals_snoc r h)
theorem vals_get {vs : List V} {us : List Value} (h : Vals vs us) : ∀ {i : Nat} {u : Value}, us[i]? = some u → ∃ v, vs[i]? = some v ∧ RelV v u := by
  induction h with
  | nil => intro i u e; cases e
  | cons a r ih =>
    intro i u e
    cases i with
    | zero => exact ⟨_, rfl, by rw [← Option.some.inj e]; exact a⟩
    | succ n => exact ih (i := n) e
theorem each_dp {X : Cx} {pins : List (Addr × Obj)} {σ : L2.St} {H : Hp} {s : Shared} (I : Inv X pins σ H s) : ∀ {vs : List V} {ds : List PyData} {us : List Value}, DpAll X.K H vs ds → Vals vs us → PySem.W.EachIs (fun v d => ∃ as, Reads s.heap v d as) us ds
  | _, _, _, .nil, .nil => .nil
  | _, _, _, .cons h r, .cons a t => .cons (Dp.reads I _ _ _ h a) (each_dp I r t)
theorem each_pairs : ∀ {es : List (V × PyData)} {us : List Value}, Vals (es.map (·.1)) us → PySem.W.EachIs (fun v (e : V × PyData) => RelV e.1 v) us es
  | [], _, .nil => .nil
  | _ :: _, _, .cons a t => .cons a (each_pairs t)
theorem pairs_each : ∀ {es : List (V × PyData)} {us : List Value}, PySem.W.EachIs (fun v (e : V × PyData) => RelV e.1 v) us es → Vals (es.map (·.1)) us
  | [], _, .nil => .nil
  | _ :: _, _, .cons a t => .cons a (pairs_each t)
abbrev keyed (es : List (V × PyData)) : List (V × PyData) := es.mergeSort (PySem.W.dataLe false fun e => e.2)
def rSortK (K : PySem.W.Frag) (f : Addr) (sp : Sp) : List V → List V → Hp → VK → Prop := fun vs zs H Q => ∃ (l : Addr) (es : List (V × PyData)), vs = [.ref l] ∧ zs = [.ref f] ∧ SqL K H l (es.map (·.1)) ∧ PySem.W.AllAlike (es.map (·.2)) ∧ PySem.W.Sortable (es.map (·.2)) ∧ (∀ e ∈ es, e.2.depth ≤ 60) ∧
  (∀ e ∈ es, ∀ H1, Same H H1 → ∀ Q1 : VK, (∀ v H2, Same H1 H2 → Dp K H2 v e.2 → Q1 v H2) → sp [e.1] H1 Q1 E0) ∧ ∀ (p : Addr) (H1 : Hp), H p = none → Same H H1 → H1 p = some (.lst ((keyed es).map (·.1))) → Q (.ref p) H1
theorem cr_sortK {X : Cx} {k : Nat} {f : Addr} {fd : FuncData} {p1 : Str} {sp : Sp} (F : FnOk X.prog X.w X.K X.mg X.base CX0 k f fd [p1] sp) (hr : Room (k + 2) X.A) (hb : Binds X.K fd [p1] []) : CallRK X (.builtin "sorted") [Str.ofString "key"] (rSortK X.K f sp) := by
  rintro pins s σ H vs zs us ws Q I r rz ⟨l, es, rfl, rfl, hs, al, so, dp, key, q⟩
  obtain rfl := Vals.ref1 r
  obtain rfl := Vals.ref1 rz
  obtain ⟨its, rv, hl, hz⟩ := I.list hs
  have hlen : its.length = es.length := by rw [← rv.length, List.length_map]
  have hZ : its.length ≤ sizeLine := by rw [← rv.length]; exact hz
  have rB : Room k X.A.in1.in1 := hr.in1.in1
  have uB : X.A.in1.in1.units + 64 < cLine := rB.units
  refine PySem.W.sorted_of_sort (vs := its) hl.isList hZ (PyProof.Rows.ksk_s1 _ _) (fun _ => PyProof.Rows.ksk_l1 _ _) fun E' => ?_
  show wpAny _ X.A.in1.in1 (Builtin.«list.sort» ⟨[.ref (s.heap.objs.size + 1)], [(Str.ofString "key", .ref f)]⟩) _ _ _
  rw [PyProof.Rows.ksk_t1]
  generalize ha : s.heap.objs.size + 1 = a
  have ho : (PySem.W.copyHeap s.heap its).get? a = some (seqObj "list" its.toArray 0) := by rw [← ha]; exact PySem.W.copyHeap_at s.heap its
  obtain ⟨e1, ho1⟩ : ∃ e1, ((PySem.W.copyHeap s.heap its).update a (Obj.mapSeq fun _ => (#[] : Array Value))).get? a = some (seqObj "list" #[] e1) := ⟨_, get?_update_seq ho fun _ => #[]⟩
  have hsz0 : a < (PySem.W.copyHeap s.heap its).objs.size := Heap.lt_size ho
  unfold PyProof.Rows.ksk_tree
  refine wpAny_bind (listItems_at ho rfl ?_)
  refine wpAny_bind (listUpdate_at ho rfl ?_ (by rw [List.size_toArray]; exact hZ) (Nat.zero_le _))
  refine wpAny_bind (seqEpoch_at ho1 rfl ?_)
  refine wpAny_bind (wpAny_newTuple ?_ hZ)
  refine wpAny_bind (wpAny_newList ?_ (Nat.zero_le _))
  refine wpAny_holding ?_
  generalize hk : (((PySem.W.copyHeap s.heap its).update a (Obj.mapSeq fun _ => (#[] : Array Value))).push (seqObj "tuple" its.toArray 0)).objs.size = kS
  generalize hg : (((PySem.W.copyHeap s.heap its).update a (Obj.mapSeq fun _ => (#[] : Array Value))).push (seqObj "tuple" its.toArray 0)).push (seqObj "list" #[] 0) = g
  have size_g : s.heap.objs.size < kS := by
    rw [← hk, size_push', Heap.size_update]
    omega
  have hka : kS ≠ a := by
    rw [← hk, size_push', Heap.size_update]
    omega
  have old : ∀ b o, s.heap.get? b = some o → g.get? b = some o := fun b o e => by
    rw [← hg]
    refine Heap.get?_push_of_some _ (Heap.get?_push_of_some _ ((Heap.get?_update_ne _ _ _ _ (Nat.ne_of_lt ?_)).trans (PySem.W.copyHeap_old e)))
    exact Nat.lt_of_lt_of_le (Heap.lt_size e) (by omega)
  have ga : g.get? a = some (seqObj "list" #[] e1) := by
    rw [← hg]
    exact Heap.get?_push_of_some _ (Heap.get?_push_of_some _ ho1)
  have gk : g.get? kS = some (seqObj "list" #[] 0) := by
    rw [← hg, ← hk]
    exact Heap.get?_push_size _ rfl
  have fa : ∀ {H1 : Hp}, H1 a = none → FpOk X pins H1 a := fun n => I.fpOk (by omega) n
  have fk : ∀ {H1 : Hp}, H1 kS = none → FpOk X pins H1 kS := fun n => I.fpOk (by omega) n
  -- the two lists of the sort are held as pins
  have pin : ∀ {H1 : Hp} {s1 : Shared} {kA : Array Value} {n : Nat}, Inv X pins σ H1 s1 → H1 a = none → H1 kS = none → s1.heap.get? a = some (seqObj "list" #[] e1) → s1.heap.get? kS = some (seqObj "list" kA n) → Inv X (pins ++ [(a, seqObj "list" #[] e1), (kS, seqObj "list" kA n)]) σ H1 s1 := fun {H1 s1 kA n} J na nk ea ek => by
    refine J.pins_of fun p hp => ?_
    rcases List.mem_append.mp hp with h | h
    · exact J.pin p (List.mem_append_right _ h)
    · rcases List.mem_cons.mp h with rfl | h
      · exact ⟨ea, na, (fa na).2.1, (fa na).2.2.1, fun v z => by cases z⟩
      · rw [List.mem_singleton.mp h]
        exact ⟨ek, nk, (fk nk).2.1, (fk nk).2.2.1, fun v z => by cases z⟩
  have I0 : Inv X pins σ H { s with heap := g } := I.kept (t' := s.toks) old
  have na0 : H a = none := I.hok.fresh (by omega)
  have nk0 : H kS = none := I.hok.fresh (by omega)
  unfold PyProof.Rows.ksk_rest
  refine wpAny_bind (wpAny_rule ?_)
  first
    | rw [List.forIn_toArray]
    | (rw [← Array.forIn_toList]; simp only [List.toList_toArray])
  refine wpAny_bind (PyProof.Rows.ksk_fold (fun i s' => ∃ H1 kA n kv, Same H H1 ∧ Inv X (pins ++ [(a, seqObj "list" #[] e1), (kS, seqObj "list" kA n)]) σ H1 s' ∧ Vals kv kA.toList ∧ DpAll X.K H1 kv ((es.take i).map (·.2))) its 0 _
    ⟨H, #[], 0, [], fun _ _ e => e, pin I0 na0 nk0 ga gk, .nil, .nil⟩ ?step ?done)
  case step =>
    rintro j u s1 hu ⟨H1, kA, n, kv, sm, J, vk, dk⟩
    rw [Nat.zero_add] at dk ⊢
    obtain ⟨v, hv, rel⟩ := vals_get rv hu
    rw [List.getElem?_map] at hv
    obtain ⟨e, he, rfl⟩ := Option.map_eq_some_iff.mp hv
    have pa := J.pin (a, seqObj "list" #[] e1) (by simp)
    have pk := J.pin (kS, seqObj "list" kA n) (by simp)
    have hj : j < its.length := (List.getElem?_eq_some_iff.mp hu).1
    have ck : kA.size ≤ its.length := by
      have h1 : kv.length = kA.size := vk.length.trans Array.length_toList
      have h2 := DpAll.len dk
      rw [List.length_map, List.length_take] at h2
      omega
    have E1 := J.env0
    have sp1 := key e (List.mem_of_getElem? he) H1 sm (fun v H2 => Same H1 H2 ∧ Dp X.K H2 v e.2) fun v H2 h1 h2 => ⟨h1, h2⟩
    refine wpAny_bind (wpAny_attempt ?_)
    refine wpAny_call (codeAny_mono (F.run X.A.in1.in1 X.stack s1 H1 ⟨[u], []⟩ [u] [e.1] _ E0 rB ⟨E1.frames, E1.mod, E1.bs, E1.bsz, E1.funs, E1.frf, E1.hok, E1.bare⟩ (hb s1 [u] J.kIn rfl) (.cons rel .nil) sp1) ?_)
    rintro r s2 hq
    cases r with
    | error e => exact False.elim hq
    | ok fl =>
      cases fl with
      | next => exact False.elim hq
      | brk => exact False.elim hq
      | cont => exact False.elim hq
      | ret x =>
        obtain ⟨v2, H2, J2, rel2, sm2, dp2⟩ := J.after hq
        have pa2 := J2.pin (a, seqObj "list" #[] e1) (by simp)
        have pk2 := J2.pin (kS, seqObj "list" kA n) (by simp)
        have J3 : Inv X pins σ H2 s2 := J2.unpinned
        obtain ⟨c2, hc2⟩ : ∃ c2, (s2.heap.update kS (Obj.mapSeq (·.push x))).get? kS = some (seqObj "list" (kA.push x) c2) := ⟨_, get?_update_seq pk2.1 (·.push x)⟩
        have sb := Heap.SameBut.update s2.heap kS (Obj.mapSeq (·.push x))
        show wpAny _ _ _ _ _ _
        refine wpAny_bind (listUpdate_at pk2.1 rfl ?_ (Nat.le_trans ck hZ) (Nat.le_trans (Nat.le_of_eq (Array.size_push ..)) (Nat.succ_le_succ (Nat.le_trans ck hZ))))
        have J4 : Inv X pins σ H2 { s2 with heap := s2.heap.update kS (Obj.mapSeq (·.push x)), toks := s2.toks } := J3.turnedL (ch := [kS]) (fun b o hb e => (sb.2 b (fun z => hb (by simp [z]))).trans e) fun b hb => by rw [List.mem_singleton.mp hb]; exact fk pk2.2.1
        refine wpAny_pure ⟨rfl, H2, kA.push x, c2, kv ++ [v2], fun b o e => sm2 b o (sm b o e), pin J4 pa2.2.1 pk2.2.1 ((sb.2 a hka.symm).trans pa2.1) hc2, ?_, ?_⟩
        · rw [Array.toList_push]
          exact vals_snoc vk rel2
        · rw [List.take_add_one, he, List.map_append]
          exact DpAll.snoc (DpAll.on sm2 dk) dp2
  case done =>
    rintro s1 ⟨H1, kA, n, kv, sm, J, vk, dk⟩
    have pa := J.pin (a, seqObj "list" #[] e1) (by simp)
    have pk := J.pin (kS, seqObj "list" kA n) (by simp)
    have J1 : Inv X pins σ H1 s1 := J.unpinned
    rw [Nat.zero_add, hlen, List.take_length] at dk
    have hk1 := each_dp J dk vk
    have sz : kA.size = its.length := by
      have h1 : kv.length = kA.size := vk.length.trans Array.length_toList
      have h2 := DpAll.len dk
      rw [List.length_map] at h2
      omega
    have hu : ∀ d, d ∈ es.map (·.2) → X.A.in1.in1.units + d.depth < cLine := fun d hd => by
      obtain ⟨e, he, rfl⟩ := List.mem_map.mp hd
      have := dp e he
      omega
    obtain ⟨G, g1, g2⟩ := L2.restrict s1.heap fun b => decide (b ≠ kS)
    have kp : PySem.W.KeepsBut a G s1.heap := fun b o _ e => by
      by_cases z : b = kS
      · rw [g2 b (decide_eq_false fun h => h z)] at e
        cases e
      · rw [g1 b (decide_eq_true z)] at e
        exact e
    refine wpAny_bind (listItems_at pk.1 rfl ?_)
    refine PySem.W.keyH_end (κ := PySem.W.dataKind s1.heap (es.map (·.2))) (h₁ := G) kp (g2 kS (decide_eq_false fun h => h rfl)) pk.1 pa.1 hka (PySem.W.SortsAt.data hk1 al so hu) sz hZ fun h3 tk3 c k3 n3 => ⟨rfl, ?_⟩
    have ko : PySem.W.KeyedOut false (es.map (·.2)) its (PySem.W.sortVals (PySem.W.dataKind s1.heap (es.map (·.2))) false kA.toList its) := ⟨s1.heap, kA.toList, al, rfl, hk1⟩
    have out := pairs_each (PySem.W.keyedOut_each (fun e : V × PyData => e.2) ko (each_pairs rv))
    have J2 : Inv X pins σ H1 { s1 with heap := h3, toks := tk3 } := J1.turnedL (ch := [a, kS]) (fun b o hb e => k3 b o (fun z => hb (by simp [z])) ((g1 b (decide_eq_true fun z => hb (by simp [z]))).trans e)) fun b hb => by
      rcases List.mem_cons.mp hb with rfl | h
      · exact fa pa.2.1
      · rw [List.mem_singleton.mp h]
        exact fk pk.2.1
    have lo : ((keyed es).map (·.1)).length ≤ sizeLine := by
      rw [List.length_map, List.length_mergeSort, ← hlen]
      exact hZ
    refine ⟨.ref a, upd H1 a (.lst ((keyed es).map (·.1))), J2.take (it := a) (fun b o _ e => e) (fa pa.2.1) ⟨lo, _, c, out, n3⟩, rfl, q a _ na0 (fun b o e => (upd_ne (ne_of_none e na0)).trans (sm b o e)) upd_same⟩
/-! ### sorted(xs, key=f), the running of f told by `run` -/
theorem sort_run {X : Cx} {k : Nat} {f : Addr} {pins : List (Addr × Obj)} {s : Shared} {σ : L2.St} {H : Hp} {l : Addr} {es : List (V × PyData)} {Q : VK} (I : Inv X pins σ H s) (hr : Room (k + 2) X.A)
    (hs : SqL X.K H l (es.map (·.1))) (al : PySem.W.AllAlike (es.map (·.2))) (so : PySem.W.Sortable (es.map (·.2))) (dp : ∀ e ∈ es, e.2.depth ≤ 60)
    (run : ∀ e ∈ es, ∀ (H1 : Hp) (s1 : Shared) (u : Value) (more : List (Addr × Obj)), Same H H1 → Inv X (pins ++ more) σ H1 s1 → RelV e.1 u → Room k X.A.in1.in1 →
      codeAny (model X.prog X.w) X.A.in1.in1 (.call (.ref f) ⟨[u], []⟩) (CR CX0 X.stack X.prog X.w H1 s1 (fun v H2 => Same H1 H2 ∧ Dp X.K H2 v e.2) E0) s1)
    (q : ∀ (p : Addr) (H1 : Hp), H p = none → Same H H1 → H1 p = some (.lst ((keyed es).map (·.1))) → Q (.ref p) H1) :
    wpAny (model X.prog X.w) X.A (call (.builtin "sorted") [.ref l] [(Str.ofString "key", .ref f)]) (EP X pins σ Q) X.xe s := by
  obtain ⟨its, rv, hl, hz⟩ := I.list hs
  have hlen : its.length = es.length := by rw [← rv.length, List.length_map]
  have hZ : its.length ≤ sizeLine := by rw [← rv.length]; exact hz
  have rB : Room k X.A.in1.in1 := hr.in1.in1
  have uB : X.A.in1.in1.units + 64 < cLine := rB.units
  refine PySem.W.sorted_of_sort (vs := its) hl.isList hZ (PyProof.Rows.ksk_s1 _ _) (fun _ => PyProof.Rows.ksk_l1 _ _) fun E' => ?_
  show wpAny _ X.A.in1.in1 (Builtin.«list.sort» ⟨[.ref (s.heap.objs.size + 1)], [(Str.ofString "key", .ref f)]⟩) _ _ _
  rw [PyProof.Rows.ksk_t1]
  generalize ha : s.heap.objs.size + 1 = a
  have ho : (PySem.W.copyHeap s.heap its).get? a = some (seqObj "list" its.toArray 0) := by rw [← ha]; exact PySem.W.copyHeap_at s.heap its
  obtain ⟨e1, ho1⟩ : ∃ e1, ((PySem.W.copyHeap s.heap its).update a (Obj.mapSeq fun _ => (#[] : Array Value))).get? a = some (seqObj "list" #[] e1) := ⟨_, get?_update_seq ho fun _ => #[]⟩
  have hsz0 : a < (PySem.W.copyHeap s.heap its).objs.size := Heap.lt_size ho
  unfold PyProof.Rows.ksk_tree
  refine wpAny_bind (listItems_at ho rfl ?_)
  refine wpAny_bind (listUpdate_at ho rfl ?_ (by rw [List.size_toArray]; exact hZ) (Nat.zero_le _))
  refine wpAny_bind (seqEpoch_at ho1 rfl ?_)
  refine wpAny_bind (wpAny_newTuple ?_ hZ)
  refine wpAny_bind (wpAny_newList ?_ (Nat.zero_le _))
  refine wpAny_holding ?_
  generalize hk : (((PySem.W.copyHeap s.heap its).update a (Obj.mapSeq fun _ => (#[] : Array Value))).push (seqObj "tuple" its.toArray 0)).objs.size = kS
  generalize hg : (((PySem.W.copyHeap s.heap its).update a (Obj.mapSeq fun _ => (#[] : Array Value))).push (seqObj "tuple" its.toArray 0)).push (seqObj "list" #[] 0) = g
  have size_g : s.heap.objs.size < kS := by
    rw [← hk, size_push', Heap.size_update]
    omega
  have hka : kS ≠ a := by
    rw [← hk, size_push', Heap.size_update]
    omega
  have old : ∀ b o, s.heap.get? b = some o → g.get? b = some o := fun b o e => by
    rw [← hg]
    refine Heap.get?_push_of_some _ (Heap.get?_push_of_some _ ((Heap.get?_update_ne _ _ _ _ (Nat.ne_of_lt ?_)).trans (PySem.W.copyHeap_old e)))
    exact Nat.lt_of_lt_of_le (Heap.lt_size e) (by omega)
  have ga : g.get? a = some (seqObj "list" #[] e1) := by
    rw [← hg]
    exact Heap.get?_push_of_some _ (Heap.get?_push_of_some _ ho1)
  have gk : g.get? kS = some (seqObj "list" #[] 0) := by
    rw [← hg, ← hk]
    exact Heap.get?_push_size _ rfl
  have fa : ∀ {H1 : Hp}, H1 a = none → FpOk X pins H1 a := fun n => I.fpOk (by omega) n
  have fk : ∀ {H1 : Hp}, H1 kS = none → FpOk X pins H1 kS := fun n => I.fpOk (by omega) n
  -- the two lists of the sort are held as pins
  have pin : ∀ {H1 : Hp} {s1 : Shared} {kA : Array Value} {n : Nat}, Inv X pins σ H1 s1 → H1 a = none → H1 kS = none → s1.heap.get? a = some (seqObj "list" #[] e1) → s1.heap.get? kS = some (seqObj "list" kA n) → Inv X (pins ++ [(a, seqObj "list" #[] e1), (kS, seqObj "list" kA n)]) σ H1 s1 := fun {H1 s1 kA n} J na nk ea ek => by
    refine J.pins_of fun p hp => ?_
    rcases List.mem_append.mp hp with h | h
    · exact J.pin p (List.mem_append_right _ h)
    · rcases List.mem_cons.mp h with rfl | h
      · exact ⟨ea, na, (fa na).2.1, (fa na).2.2.1, fun v z => by cases z⟩
      · rw [List.mem_singleton.mp h]
        exact ⟨ek, nk, (fk nk).2.1, (fk nk).2.2.1, fun v z => by cases z⟩
  have I0 : Inv X pins σ H { s with heap := g } := I.kept (t' := s.toks) old
  have na0 : H a = none := I.hok.fresh (by omega)
  have nk0 : H kS = none := I.hok.fresh (by omega)
  unfold PyProof.Rows.ksk_rest
  refine wpAny_bind (wpAny_rule ?_)
  first
    | rw [List.forIn_toArray]
    | (rw [← Array.forIn_toList]; simp only [List.toList_toArray])
  refine wpAny_bind (PyProof.Rows.ksk_fold (fun i s' => ∃ H1 kA n kv, Same H H1 ∧ Inv X (pins ++ [(a, seqObj "list" #[] e1), (kS, seqObj "list" kA n)]) σ H1 s' ∧ Vals kv kA.toList ∧ DpAll X.K H1 kv ((es.take i).map (·.2))) its 0 _
    ⟨H, #[], 0, [], fun _ _ e => e, pin I0 na0 nk0 ga gk, .nil, .nil⟩ ?step ?done)
  case step =>
    rintro j u s1 hu ⟨H1, kA, n, kv, sm, J, vk, dk⟩
    rw [Nat.zero_add] at dk ⊢
    obtain ⟨v, hv, rel⟩ := vals_get rv hu
    rw [List.getElem?_map] at hv
    obtain ⟨e, he, rfl⟩ := Option.map_eq_some_iff.mp hv
    have pa := J.pin (a, seqObj "list" #[] e1) (by simp)
    have pk := J.pin (kS, seqObj "list" kA n) (by simp)
    have hj : j < its.length := (List.getElem?_eq_some_iff.mp hu).1
    have ck : kA.size ≤ its.length := by
      have h1 : kv.length = kA.size := vk.length.trans Array.length_toList
      have h2 := DpAll.len dk
      rw [List.length_map, List.length_take] at h2
      omega
    refine wpAny_bind (wpAny_attempt ?_)
    refine wpAny_call (codeAny_mono (run e (List.mem_of_getElem? he) H1 s1 u _ sm J rel rB) ?_)
    rintro r s2 hq
    cases r with
    | error e => exact False.elim hq
    | ok fl =>
      cases fl with
      | next => exact False.elim hq
      | brk => exact False.elim hq
      | cont => exact False.elim hq
      | ret x =>
        obtain ⟨v2, H2, J2, rel2, sm2, dp2⟩ := J.after hq
        have pa2 := J2.pin (a, seqObj "list" #[] e1) (by simp)
        have pk2 := J2.pin (kS, seqObj "list" kA n) (by simp)
        have J3 : Inv X pins σ H2 s2 := J2.unpinned
        obtain ⟨c2, hc2⟩ : ∃ c2, (s2.heap.update kS (Obj.mapSeq (·.push x))).get? kS = some (seqObj "list" (kA.push x) c2) := ⟨_, get?_update_seq pk2.1 (·.push x)⟩
        have sb := Heap.SameBut.update s2.heap kS (Obj.mapSeq (·.push x))
        show wpAny _ _ _ _ _ _
        refine wpAny_bind (listUpdate_at pk2.1 rfl ?_ (Nat.le_trans ck hZ) (Nat.le_trans (Nat.le_of_eq (Array.size_push ..)) (Nat.succ_le_succ (Nat.le_trans ck hZ))))
        have J4 : Inv X pins σ H2 { s2 with heap := s2.heap.update kS (Obj.mapSeq (·.push x)), toks := s2.toks } := J3.turnedL (ch := [kS]) (fun b o hb e => (sb.2 b (fun z => hb (by simp [z]))).trans e) fun b hb => by rw [List.mem_singleton.mp hb]; exact fk pk2.2.1
        refine wpAny_pure ⟨rfl, H2, kA.push x, c2, kv ++ [v2], fun b o e => sm2 b o (sm b o e), pin J4 pa2.2.1 pk2.2.1 ((sb.2 a hka.symm).trans pa2.1) hc2, ?_, ?_⟩
        · rw [Array.toList_push]
          exact vals_snoc vk rel2
        · rw [List.take_add_one, he, List.map_append]
          exact DpAll.snoc (DpAll.on sm2 dk) dp2
  case done =>
    rintro s1 ⟨H1, kA, n, kv, sm, J, vk, dk⟩
    have pa := J.pin (a, seqObj "list" #[] e1) (by simp)
    have pk := J.pin (kS, seqObj "list" kA n) (by simp)
    have J1 : Inv X pins σ H1 s1 := J.unpinned
    rw [Nat.zero_add, hlen, List.take_length] at dk
    have hk1 := each_dp J dk vk
    have sz : kA.size = its.length := by
      have h1 : kv.length = kA.size := vk.length.trans Array.length_toList
      have h2 := DpAll.len dk
      rw [List.length_map] at h2
      omega
    have hu : ∀ d, d ∈ es.map (·.2) → X.A.in1.in1.units + d.depth < cLine := fun d hd => by
      obtain ⟨e, he, rfl⟩ := List.mem_map.mp hd
      have := dp e he
      omega
    obtain ⟨G, g1, g2⟩ := L2.restrict s1.heap fun b => decide (b ≠ kS)
    have kp : PySem.W.KeepsBut a G s1.heap := fun b o _ e => by
      by_cases z : b = kS
      · rw [g2 b (decide_eq_false fun h => h z)] at e
        cases e
      · rw [g1 b (decide_eq_true z)] at e
        exact e
    refine wpAny_bind (listItems_at pk.1 rfl ?_)
    refine PySem.W.keyH_end (κ := PySem.W.dataKind s1.heap (es.map (·.2))) (h₁ := G) kp (g2 kS (decide_eq_false fun h => h rfl)) pk.1 pa.1 hka (PySem.W.SortsAt.data hk1 al so hu) sz hZ fun h3 tk3 c k3 n3 => ⟨rfl, ?_⟩
    have ko : PySem.W.KeyedOut false (es.map (·.2)) its (PySem.W.sortVals (PySem.W.dataKind s1.heap (es.map (·.2))) false kA.toList its) := ⟨s1.heap, kA.toList, al, rfl, hk1⟩
    have out := pairs_each (PySem.W.keyedOut_each (fun e : V × PyData => e.2) ko (each_pairs rv))
    have J2 : Inv X pins σ H1 { s1 with heap := h3, toks := tk3 } := J1.turnedL (ch := [a, kS]) (fun b o hb e => k3 b o (fun z => hb (by simp [z])) ((g1 b (decide_eq_true fun z => hb (by simp [z]))).trans e)) fun b hb => by
      rcases List.mem_cons.mp hb with rfl | h
      · exact fa pa.2.1
      · rw [List.mem_singleton.mp h]
        exact fk pk.2.1
    have lo : ((keyed es).map (·.1)).length ≤ sizeLine := by
      rw [List.length_map, List.length_mergeSort, ← hlen]
      exact hZ
    refine ⟨.ref a, upd H1 a (.lst ((keyed es).map (·.1))), J2.take (it := a) (fun b o _ e => e) (fa pa.2.1) ⟨lo, _, c, out, n3⟩, rfl, q a _ na0 (fun b o e => (upd_ne (ne_of_none e na0)).trans (sm b o e)) upd_same⟩
/-! ### a lambda of one parameter that captures nothing -/
abbrev lamO (X : Cx) (params : Arguments) (body : Expr) (scope : Scope) (pm : Value) (c' : Addr) (ctv : Value) : Obj := PySem.W.kla_obj "<lambda>" (X.env.qual ++ "<lambda>") params body scope [] pm c' ctv
/-- the pin that holds the lambda's object -/
theorem lam_pin {X : Cx} {pins : List (Addr × Obj)} {σ : L2.St} {H : Hp} {s : Shared} {f : Addr} {o : Obj} {fd : FuncData} (I : Inv X pins σ H s) (hf : s.heap.get? f = some o) (hd : o.data = .func fd) (hn : H f = none) (hfr : f ∉ frs X.stack) : Inv X (pins ++ [(f, o)]) σ H s := by
  refine I.pins_of fun p hp => ?_
  rcases List.mem_append.mp hp with h | h
  · exact I.pin p (List.mem_append_right _ h)
  · rw [List.mem_singleton.mp h]
    refine ⟨hf, hn, fun z => ?_, fun z => hfr ?_, fun v z => ?_⟩
    · obtain ⟨m, ⟨o', es, ep, ho, hd', _⟩, _⟩ := I.loc
      rw [show X.env.locals = f from z.symm, hf] at ho
      rw [← Option.some.inj ho, hd] at hd'
      cases hd'
    · rcases I.ok.stk with e | ⟨e, hx⟩
      · rw [e]
        exact z
      · rw [e]
        unfold frs
        rw [List.filterMap_cons, hx]
        exact List.mem_cons_of_mem _ z
    · have z' : o.data = .cell v := z
      rw [hd] at z'
      cases z'
theorem lam_call {X : Cx} {k : Nat} {pins : List (Addr × Obj)} {σ : L2.St} {H : Hp} {s : Shared} {f c' : Addr} {params : Arguments} {body : Expr} {scope : Scope} {pm ctv : Value} {a : Str} {tb : TE} {A : Around} {u : Value} {v : V} {Q : VK}
    (I : Inv X pins σ H s) (e0 : Env0 X.prog X.w X.K X.mg X.base A X.stack s H) (hf : s.heap.get? f = some (lamO X params body scope pm c' ctv)) (hc : H c' = some (LamX.CodeO c' (X.env.qual ++ "<lambda>"))) (S : FnScope [a] [a] scope) (hr : Room (k + 1) A)
    (hbind : ∀ (q : Str) (pm cv ctv : Value) (u : Value), bindArgs (PySem.W.kla_fn "<lambda>" q params body scope [] pm cv ctv) ⟨[u], []⟩ = pure [(a, u)]) (rel : RelV v u)
    (hbody : ∀ (A : Around) (outer : List Env) (s : Shared) (H : Hp) (q : Str) (f : Addr) (cd : Value), Room k (A.deeper (envOfC q scope s.heap.objs.size f cd)) → PE (cxOf CX0 X.prog X.w X.K X.mg X.base [a] q scope f cd A outer s H E0) body tb) (ht : tb (L2.start [a] [v]) H Q) :
    codeAny (model X.prog X.w) A (.call (.ref f) ⟨[u], []⟩) (CR CX0 X.stack X.prog X.w H s Q E0) s := by
  obtain ⟨⟨oc, vs, t, hoc, hdc, hvc⟩, _, _⟩ := I.hok c' _ hc
  refine PySem.W.kla_callFunE hr.depth hf rfl S.co S.gen rfl ⟨c', oc, vs, t, rfl, hoc, hdc, hvc⟩ ?_
  rw [hbind]
  have hkind : ∀ y ∈ [(a, u)], scope.names.lookup y.1 = some .local ∨ (scope.names.lookup y.1 = some .cell ∧ ((cellsFrom (s.heap.objs.size + 1) scope.names []).lookup y.1).isSome = true) := fun y hy => by
    rw [List.mem_singleton.mp hy]
    rcases S.par a (List.mem_singleton.mpr rfl) with q | q
    · exact .inl q
    · exact .inr ⟨q, PySem.W.cellsFrom_some _ _ _ (.inl q)⟩
  refine wpAny_pure (wpAny_newFunctionEnv_cells S.kind hkind fun env he s1 x => ?_)
  subst he
  refine ⟨I.nolimit.keeps x.toInCall.keep, ?_⟩
  have J : Inv (cxOf CX0 X.prog X.w X.K X.mg X.base [a] (X.env.qual ++ "<lambda>") scope f (.ref c') A X.stack s H E0) [] (L2.start [a] [v]) H s1 := inv_start (ps := [a]) (us := [u]) S hr.hd e0 rfl (.cons rel .nil) x
  refine PySem.W.kla_codeExpr (wpAny_mono ((hbody A X.stack s H _ f _ (hr.deeper _)).run [] s1 _ H Q J ht) (fun w s' hq => ?_) fun e s' hq => hq)
  obtain ⟨w', H', J', rv, q⟩ := hq
  exact ⟨w', H', J'.os, J'.bare, J'.base, J'.hok, rv, q⟩
/-! making it: all but the table at P stays -/
theorem lam_new {X : Cx} {pins : List (Addr × Obj)} {σ : L2.St} {H : Hp} {s : Shared} {c P : Addr} {params : Arguments} {body : Expr} {scope : Scope} {lpos : Pos} {E Q : Value → Shared → Prop} (I : Inv X pins σ H s) (TB : LamX.TabB X.base X.mg c P) (hcode : X.env.code = .ref c)
    (tab : LamX.TabS H P (X.env.qual ++ "<lambda>")) (hdef : defaultsOf params X.env = ([], [])) (clo : closureFor scope X.env = pure [])
    (fin : ∀ (f c' : Addr) (pm ctv : Value) (H1 : Hp) (z : Shared), Inv X pins σ H1 z → (∀ b o, b ≠ P → H b = some o → H1 b = some o) → (∀ b, H1 b = none → H b = none) → LamX.TabS H1 P (X.env.qual ++ "<lambda>") → z.heap.get? f = some (lamO X params body scope pm c' ctv) → H1 f = none → f ∉ frs X.stack → H1 c' = some (LamX.CodeO c' (X.env.qual ++ "<lambda>")) → Q (.ref f) z) :
    wpAny (model X.prog X.w) X.A (eval (.Lambda params body scope lpos) X.env) Q E s := by
  obtain ⟨ps, hP, tri, known⟩ := tab
  have atP : s.heap.get? P = some { cls := .none, data := .fields ps } := I.hok P _ hP
  have far : ∀ a, s.heap.objs.size ≤ a → a ∉ frs X.stack := fun a ha m => (List.mem_cons.mp (I.stkSub a m)).elim (fun e => absurd I.lt (by rw [← e]; exact Nat.not_lt.mpr ha)) (I.nofs ha)
  refine PySem.W.kla_eval hdef ?_
  rcases hc : codeAmong lpos ps.toList with _ | cv
  · refine PySem.W.kla_makeFunction (mg := X.mg) (c := c) (P := P) (ps := ps) clo I.ok.glob (I.mod.glob.keeps I.bk) hcode (TB.code.keeps I.bk) atP tri hc TB.gP (TB.bm.keeps I.bk) ?_
    rintro c' ctv hn tk ext ge lt ⟨c2, oc, vs, t, e2, hoc, hdat, hvs⟩ htb
    obtain rfl : c' = c2 := Value.ref.inj e2
    have up : s.heap.objs.size ≤ hn.objs.size := Nat.le_trans ge (Nat.le_of_lt lt)
    have nC : H c' = none := I.hok.fresh ge
    have nPc : P ≠ c' := ne_of_none hP nC
    have J := LamX.inv_table (t' := tk) (more := #[rawInt lpos.line, rawInt lpos.col, .ref c']) (h' := hn.push (lamO X params body scope ((X.mg "__name__").getD .none) c' ctv)) I hP (fun b o ne e => Heap.get?_push_of_some _ (ext b o ne e)) (Heap.get?_push_of_some _ htb) ge ⟨oc, vs, t, Heap.get?_push_of_some _ hoc, hdat, hvs⟩
    have keep : ∀ b o, b ≠ P → H b = some o → (upd (upd H P (.tbl (ps ++ #[rawInt lpos.line, rawInt lpos.col, .ref c']))) c' (LamX.CodeO c' (X.env.qual ++ "<lambda>"))) b = some o := fun b o ne e => by
      rw [upd_ne (ne_of_none e nC), upd_ne ne]
      exact e
    have lst : (ps ++ #[rawInt lpos.line, rawInt lpos.col, .ref c']).toList = ps.toList ++ [rawInt lpos.line, rawInt lpos.col, .ref c'] := by simp
    refine fin hn.objs.size c' ((X.mg "__name__").getD .none) ctv _ _ J keep (fun b e => ?_) ⟨_, by rw [upd_ne nPc, upd_same], by rw [lst]; exact PySem.TriplesOk_snoc _ _ _ _ tri, fun at' cv' e => ?_⟩ (Heap.get?_push_size _ rfl) ?_ (far _ up) upd_same
    · by_cases y1 : b = c'
      · rw [y1]
        exact nC
      · by_cases y2 : b = P
        · rw [upd_ne y1, y2, upd_same] at e
          cases e
        · rw [upd_ne y1, upd_ne y2] at e
          exact e
    · rw [lst] at e
      rcases LamX.among_app _ tri e with z | z
      · obtain ⟨c0, z1, z2⟩ := known at' cv' z
        exact ⟨c0, z1, keep _ _ (fun y => LamX.codeO_ne ps (Option.some.inj (z2.symm.trans (by rw [y]; exact hP)))) z2⟩
      · exact ⟨c', z, upd_same⟩
    · rw [upd_ne (Nat.ne_of_gt lt), upd_ne (Nat.ne_of_gt (Nat.lt_of_lt_of_le (Heap.lt_size atP) up))]
      exact I.hok.fresh up
  · obtain ⟨c', rfl, hco⟩ := known lpos cv hc
    refine PySem.W.kla_makeFunctionHit (mg := X.mg) (c := c) (P := P) (ps := ps) clo I.ok.glob (I.mod.glob.keeps I.bk) hcode (TB.code.keeps I.bk) atP tri hc (TB.bm.keeps I.bk) ?_
    rintro ctv hn tk ext up
    have J : Inv X pins σ H { s with heap := hn.push (lamO X params body scope ((X.mg "__name__").getD .none) c' ctv), toks := tk } := I.kept fun b o e => Heap.get?_push_of_some _ (ext b o e)
    exact fin hn.objs.size c' ((X.mg "__name__").getD .none) ctv H _ J (fun _ _ _ e => e) (fun _ e => e) ⟨ps, hP, tri, known⟩ (Heap.get?_push_size _ rfl) (I.hok.fresh up) (far _ up) hco
/-- what the making changed -/
structure LamD (P : Addr) (q : Str) (H H' : Hp) : Prop where
  kp : ∀ b o, b ≠ P → H b = some o → H' b = some o
  free : ∀ b, H' b = none → H b = none
  tab : LamX.TabS H' P q
/-- sorted(e, key=lambda a: body) -/
def tSortLam (K : PySem.W.Frag) (P : Addr) (q : Str) (a : Str) (te tb : TE) : TE := fun σ H Q => te σ H fun v H1 => LamX.TabS H1 P q ∧ ∀ H2, LamD P q H1 H2 → ∃ (l : Addr) (es : List (V × PyData)), v = .ref l ∧ SqL K H2 l (es.map (·.1)) ∧ PySem.W.AllAlike (es.map (·.2)) ∧ PySem.W.Sortable (es.map (·.2)) ∧ (∀ e ∈ es, e.2.depth ≤ 60) ∧
  (∀ e ∈ es, ∀ H3, Same H2 H3 → ∀ Q1 : VK, (∀ v H4, Same H3 H4 → Dp K H4 v e.2 → Q1 v H4) → tb (L2.start [a] [e.1]) H3 Q1) ∧ ∀ (p : Addr) (H3 : Hp), H2 p = none → Same H2 H3 → H3 p = some (.lst ((keyed es).map (·.1))) → Q (.ref p) H3
theorem pe_sortLam {X : Cx} {c P : Addr} {k : Nat} {params : Arguments} {body : Expr} {scope : Scope} {a : Str} {te tb : TE} {e : Expr} {p lpos kpos pos : Pos} (hg : Gl X "sorted") (hm : X.mg "sorted" = none) (ha : PE X e te)
    (TB : LamX.TabB X.base X.mg c P) (hcode : X.env.code = .ref c) (hdef : defaultsOf params X.env = ([], [])) (hclo : ∀ cs, cloFrom cs scope.names [] = []) (S : FnScope [a] [a] scope) (hr : Room (k + 3) X.A)
    (hbind : ∀ (q : Str) (pm cv ctv : Value) (u : Value), bindArgs (PySem.W.kla_fn "<lambda>" q params body scope [] pm cv ctv) ⟨[u], []⟩ = pure [(a, u)])
    (hbody : ∀ (A : Around) (outer : List Env) (s : Shared) (H : Hp) (q : Str) (f : Addr) (cd : Value), Room k (A.deeper (envOfC q scope s.heap.objs.size f cd)) → PE (cxOf CX0 X.prog X.w X.K X.mg X.base [a] q scope f cd A outer s H E0) body tb)
    (he : backTo pos (starEach [e] X.env) = (false, eval e X.env) :: backTo pos (starEach [] X.env) := by rfl) (hpl : (backTo pos (starEach [e] X.env)).any (·.1) = false := by rfl) :
    PE X (.Call (.Name "sorted" p) [e] [⟨some "key", .Lambda params body scope lpos, kpos⟩] pos) (tSortLam X.K P (X.env.qual ++ "<lambda>") a te tb) := by
  refine ⟨fun pins s σ H Q I h => ?_⟩
  refine wpAny_Call_Name_kw (ld_blt I hg hm rfl ?_ (by decide) (by decide))
  refine PyProof.Rows.callWith_kw ?_ he hpl rfl rfl
  rw [he]
  refine Calls.spliced_cons (thn (ha.run pins s σ H _ I h) fun u s1 ⟨v, H1, I1, r1, hT, q1⟩ => ?_)
  refine Calls.spliced_nil ?_
  show wpAny _ _ (evalAll [(do let v ← eval (.Lambda params body scope lpos) X.env; standAt pos; pure v)]) _ _ s1
  have clo : closureFor scope X.env = pure [] := (closure_ok fun y hy hz => absurd hz (S.nofree y hy)).trans (by rw [hclo])
  refine wpAny_evalAll_cons (wpAny_bind (lam_new I1 TB hcode hT hdef clo fun f c' pm ctv H2 s2 I2 kp fr T2 hf hfn hfr hco => ?_))
  refine wpAny_bind (wpAny_standAt (wpAny_pure (wpAny_evalAll_nil ?_)))
  obtain ⟨l, es, rfl, hs, al, so, dp, key, q⟩ := q1 H2 ⟨kp, fr, T2⟩
  obtain rfl : u = Value.ref l := r1
  have I3 := lam_pin I2 hf rfl hfn hfr
  refine thn (sort_run (k := k + 1) (f := f) I3 hr hs al so dp (fun e he H3 s3 u more sm J rel rB => ?_) q) fun x s4 ⟨v, H4, J4, r4, q4⟩ => ⟨v, H4, J4.unpinned, r4, q4⟩
  have E1 := J.env0
  refine lam_call J ⟨E1.frames, E1.mod, E1.bs, E1.bsz, E1.funs, E1.frf, E1.hok, E1.bare⟩ (J.pin (f, lamO X params body scope pm c' ctv) (by simp)).1 (sm _ _ hco) S rB hbind rel hbody (key e he H3 sm _ fun v H4 h1 h2 => ⟨h1, h2⟩)
/-! ### {**d, k: v, l: w} -/
section
variable {prog : Program} {w : World} {K : Type} [DecidableEq K] {knd : KeyKind prog w K} {A : Around} {E : Value → Shared → Prop} {s : Shared}
theorem put_pairs {d : Addr} {kvs : List (K × Value)} {k : K} {key v : Value} {Q : Unit → Shared → Prop} (hkey : knd.is k key = true) (hm : s.heap.DictOf knd d kvs) (hsz : kvs.length ≤ sizeLine)
    (hQ : ∀ h', h'.DictOf knd d (stored kvs k v) → Heap.SameBut d s.heap h' → Q () { s with heap := h' }) : wpAny (model prog w) A (dictPut d (knd.hash k) key v) Q E s := by
  obtain ⟨o, es, ep, ho, hc, hd, hk, hp, hn⟩ := hm
  have sz : es.size = kvs.length := by rw [← hp.length, Array.length_toList]
  have idx : (es.findIdx? fun e => knd.is k e.key) = kvs.findIdx? fun kv => decide (kv.1 = k) := by
    rw [← hp.findIdx k]
    obtain ⟨l⟩ := es
    simp
  unfold dictPut
  refine wpAny_bind (wpAny_dictFind_of hkey ho hd hk ?_)
  cases hi : es.findIdx? fun e => knd.is k e.key with
  | some i =>
    have any : (kvs.any fun kv => decide (kv.1 = k)) = true := any_of_findIdx_some (idx ▸ hi)
    refine wpAny_updateDict ho hd (hQ _ ⟨_, _, ep, Heap.get?_update_self _ ho (Obj.isFreed_of_dict (Obj.data_mapDict hd _)), hc.mapDict _, Obj.data_mapDict hd _, hk.modify _ _, ?_, ?_⟩ (Heap.SameBut.update ..))
    · have q := hp.modify hn (k := k) (i := i) (by rw [← hi]; obtain ⟨l⟩ := es; simp) v
      rw [stored, if_pos any]
      obtain ⟨l⟩ := es
      simpa using q
    · rw [stored, if_pos any, keys_map_store]
      exact hn
  | none =>
    have out : k ∉ kvs.map (·.1) := not_mem_of_findIdx_none (idx ▸ hi)
    have no : ¬ (kvs.any fun kv => decide (kv.1 = k)) = true := fun z => by
      obtain ⟨kv, h1, h2⟩ := List.any_eq_true.mp z
      exact out (List.mem_map.mpr ⟨kv, h1, of_decide_eq_true h2⟩)
    refine wpAny_updateDictKeys (hz := by rw [sz]; exact hsz) ho hd (hQ _ ⟨_, _, ep + 1, Heap.get?_update_self _ ho (Obj.isFreed_of_dict (Obj.data_mapDictKeys hd _)), hc.mapDictKeys _, Obj.data_mapDictKeys hd _, hk.push hkey _, ?_, ?_⟩ (Heap.SameBut.update ..))
    · have q := hp.append hkey (knd.hash k) v
      rw [stored, if_neg no]
      obtain ⟨l⟩ := es
      simpa using q
    · rw [stored, if_neg no, List.map_append, List.nodup_append]
      refine ⟨hn, by simp, fun a ha b hb e => out ?_⟩
      rw [List.map_cons, List.map_nil, List.mem_singleton] at hb
      have z : a = k := e.trans hb
      rw [← z]
      exact ha
theorem merge_pairs {d a : Addr} {kvs more : List (K × Value)} {Q : Unit → Shared → Prop} (hda : d ≠ a) (hS : (a == sysModules) = false) (hd : s.heap.DictOf knd d kvs) (ha : s.heap.DictOf knd a more) (hsz : kvs.length + more.length ≤ sizeLine)
    (hQ : ∀ h', h'.DictOf knd d (merged kvs more) → Heap.SameBut d s.heap h' → Q () { s with heap := h' }) : wpAny (model prog w) A (mergeMapping d (.ref a) false) Q E s := by
  obtain ⟨oa, ea, pa, ha1, ha2, ha3, ha4, ha5, ha6⟩ := id ha
  obtain ⟨od, ed, pd, hd1, hd2, hd3, hd4, hd5, hd6⟩ := id hd
  have len : ea.size = more.length := by rw [← ha5.length, Array.length_toList]
  unfold mergeMapping
  refine wpAny_bind (wpAny_isInstance ha.typeIs isSubtype_dict_dict ?_)
  rw [if_pos rfl]
  refine wpAny_bind (wpAny_specialOf ha.typeIs PySem.F.slot_dict_iter.lookup ?_)
  refine wpAny_bind (wpAny_pure ?_)
  rw [show (some (Value.builtin "dict.__iter__") == some (Value.builtin "dict.__iter__")) = true by decide]
  dsimp only
  rw [if_neg (by rw [hS]; exact Bool.false_ne_true)]
  have loop : wpAny (model prog w) A (do
      let l ← dictEntries a
      let size : Nat := l.size
      let epoch ← dictEpoch a
      forIn (List.range size) PUnit.unit fun i (_ : PUnit) => (do
          let l' ← dictEntries a
          match l'[i]? with
          | some e => do
            holding [e.key, e.val] (dictPut d e.hash e.key e.val)
            let p ← dictEpoch a
            if (p != epoch) = true then do
                (unsupported "dict.changed-during-merge" : Sem PUnit)
                pure (ForInStep.yield PUnit.unit)
              else pure (ForInStep.yield PUnit.unit)
          | x => do
            (unsupported "dict.changed-during-merge" : Sem PUnit)
            pure (ForInStep.yield PUnit.unit) : Sem (ForInStep PUnit))
      pure ()) Q E s := by
    refine wpAny_bind (wpAny_dictEntries ha1 ha3 ?_)
    refine wpAny_bind (wpAny_dictEpoch ha1 ha3 ?_)
    refine wpAny_bind (wpAny_forIn_list _ (fun rest _ s' => ∃ h' i, s' = { s with heap := h' } ∧ rest = List.range' i (ea.size - i) ∧ i ≤ ea.size ∧ h'.DictOf knd d (merged kvs (more.take i)) ∧ Heap.SameBut d s.heap h') _ ?_ ?_ _ _
      ⟨s.heap, 0, rfl, List.range_eq_range' .., Nat.zero_le _, hd, Heap.SameBut.refl _ _⟩)
    · rintro x rest b s' ⟨h', i, rfl, hr, hi, hd', hs'⟩
      have lt : i < ea.size := by
        rcases Nat.lt_or_ge i ea.size with h | h
        · exact h
        · rw [Nat.sub_eq_zero_of_le h] at hr
          cases hr
      rw [show ea.size - i = (ea.size - (i + 1)) + 1 by omega, List.range'_succ] at hr
      obtain ⟨rfl, rfl⟩ := List.cons.inj hr
      have ha1' : h'.get? a = some oa := (hs'.2 a hda.symm).trans ha1
      refine wpAny_bind (wpAny_dictEntries (s := { s with heap := h' }) ha1' ha3 ?_)
      rw [Array.getElem?_eq_getElem lt]
      obtain ⟨⟨k, v⟩, hkv⟩ : ∃ kv, more[x]? = some kv := ⟨_, List.getElem?_eq_getElem (by omega)⟩
      obtain ⟨hkey, hval⟩ := ha5.get? (e := ea[x]) (by simp [lt]) hkv
      obtain ⟨k', hkey', hhash⟩ := ha4 ea[x] (Array.getElem_mem lt)
      obtain rfl : k' = k := knd.inj _ _ _ hkey' hkey
      dsimp only at hval ⊢
      rw [hhash, hval]
      have le : (merged kvs (more.take x)).length ≤ sizeLine := by
        have h1 := merged_length_le kvs (more.take x)
        rw [List.length_take] at h1
        omega
      refine wpAny_bind (wpAny_holding (put_pairs (s := { s with heap := h' }) hkey' hd' le fun h2 hd2 hs2 => ?_))
      refine wpAny_bind (wpAny_dictEpoch (s := { s with heap := h2 }) ((hs2.2 a hda.symm).trans ha1') ha3 ?_)
      rw [if_neg (by simp)]
      refine wpAny_pure ⟨h2, x + 1, rfl, rfl, lt, ?_, ?_⟩
      · rw [merged_take_succ _ _ _ _ hkv]
        exact hd2
      · exact hs'.trans hs2
    · rintro b s' ⟨h', i, rfl, hr, hi, hd', hs'⟩
      have e : i = ea.size := by
        rcases Nat.lt_or_ge i ea.size with h | h
        · rw [show ea.size - i = (ea.size - (i + 1)) + 1 by omega, List.range'_succ] at hr
          cases hr
        · omega
      rw [e, len, List.take_length] at hd'
      exact wpAny_pure (hQ h' hd' hs')
  refine wpAny_bind (wpAny_dictEntries hd1 hd3 ?_)
  split
  · refine wpAny_bind (wpAny_dictEntries ha1 ha3 ?_)
    refine wpAny_bind ?_
    rw [← Array.forIn_toList]
    refine wpAny_forIn_list _ (fun rest _ s' => s' = s ∧ ∀ e ∈ rest, carriedByValue e.key = true) _ ?_ ?_ _ _ ⟨rfl, fun e he => ?_⟩
    · rintro e rest b s' ⟨rfl, h⟩
      have hc := h e List.mem_cons_self
      cases hk : e.key with
      | ref z =>
        rw [hk] at hc
        cases hc
      | _ => exact wpAny_pure ⟨rfl, fun e he => h e (List.mem_cons_of_mem _ he)⟩
    · rintro b s' ⟨rfl, _⟩
      exact loop
    · obtain ⟨k, h1, _⟩ := ha4 e (Array.mem_toList_iff.mp he)
      exact knd.byValue _ _ h1
  · exact loop
end
theorem display2 (m k1 v1 k2 v2 : Sem Value) : dictDisplay [(none, m), (some k1, v1), (some k2, v2)] = (do
    let d ← alloc { cls := .type "dict", data := .dict #[] }
    let x ← holding [.ref d] m
    (((holding [.ref d, x] (mergeMapping d x false)).onRaise fun y => do let _ ← holding [.ref d, x, y] (runValue (.builtin "proto.let_go" {}))).tryCatch fun e => do
        if ← isInstance e (.type "AttributeError") then
          rule "dict.display.not-a-mapping"; raiseError "TypeError" s!"'{← typeNameOf x}' object is not a mapping"
        throw e).onRaise fun y => do let _ ← holding [.ref d, y] (runValue (.builtin "proto.let_go" {}))
    let sub ← holding [.ref d] (subDict [(k1, v1), (k2, v2)])
    (holding [.ref d, .ref sub] (mergeMapping d (.ref sub) false)).onRaise fun y => do let _ ← holding [.ref d, y] (runValue (.builtin "proto.let_go" {}))
    pure (.ref d)) := by
  unfold dictDisplay
  simp
/-- {**d, k: v, l: w}: a new dict with d's pairs, then the others -/
def tDispM (t0 : TE) (trs : List (TE × TE)) : TE := fun σ H Q => ∀ p, H p = none → t0 σ (upd H p (.dK [])) fun x H1 => ∃ (a : Addr) (kvs : List (Key × V)), x = .ref a ∧ a ≠ p ∧ Rd H1 a (.dK kvs) ∧ H1 p = some (.dK []) ∧
  ∀ q, upd H1 p (.dK (mergeK [] kvs)) q = none → tPairs trs σ (upd (upd H1 p (.dK (mergeK [] kvs))) q (.dK [])) fun ps H2 => H2 q = some (.dK []) ∧ H2 p = some (.dK (mergeK [] kvs)) ∧ q ≠ p ∧ kvs.length + 15 ≤ 1000 ∧
    ∃ more : List (Key × V), ps = more.map (fun kv => (kV kv.1, kv.2)) ∧ more.length ≤ 15 ∧ Q (.ref p) (upd (upd H2 q (.dK (mergeK [] more))) p (.dK (mergeK (mergeK [] kvs) (mergeK [] more))))
theorem pe_dispM {X : Cx} {pos : Pos} {e0 k1 v1 k2 v2 : Expr} {t0 : TE} {trs : List (TE × TE)} (h0 : PE X e0 t0) (h : PPs X pos [some k1, some k2] [v1, v2] trs) : PE X (.Dict [none, some k1, some k2] [e0, v1, v2] pos) (tDispM t0 trs) := by
  refine ⟨fun pins s σ H Q I q => ?_⟩
  rw [arm_eval_Dict]
  refine wpAny_bind (wpAny_standAt ?_)
  show wpAny _ _ (dictDisplay [(none, do let x ← eval e0 X.env; standAt pos; pure x), (some (eval k1 X.env), do let x ← eval v1 X.env; standAt pos; pure x), (some (eval k2 X.env), do let x ← eval v2 X.env; standAt pos; pure x)]) _ _ _
  rw [display2]
  refine wpAny_bind (wpAny_alloc ?_)
  have fresh := I.hok.fresh (Nat.le_refl s.heap.objs.size)
  have I1 := I.laid (a := s.heap.objs.size) (o := .dK []) (h' := s.heap.push { cls := .type "dict", data := .dict #[] }) (t' := s.toks) (fun _ _ q => Heap.get?_push_of_some _ q) (Nat.le_refl _) (dk_empty s.heap I.big)
  generalize hp : s.heap.objs.size = p at *
  refine wpAny_bind (wpAny_holding (wpAny_bind (thn (h0.run pins _ σ _ _ I1 (q p fresh)) ?_)))
  rintro u s1 ⟨x, H1, I2, rx, a, kvs, rfl, nap, hx, hpE, q1⟩
  obtain rfl : u = Value.ref a := rx
  refine wpAny_bind (wpAny_standAt (wpAny_pure ?_))
  obtain ⟨za, aS, va, ra, da⟩ := dk_rd I2.hok hx
  obtain ⟨zp, pS, vp, rp, dp⟩ := dk_of I2.hok hpE
  cases rp
  refine wpAny_bind (wpAny_onRaise (wpAny_tryCatch (wpAny_onRaise (wpAny_holding (merge_pairs (knd := mixKind X.prog X.w) (fun z => nap z.symm) aS dp da (by rw [List.length_nil, Nat.zero_add, ← ra.length]; exact za) fun h1 d1 sb1 => ?_)))))
  have hz1 : (mergeK [] kvs).length ≤ sizeLine := by
    have := length_mergeK kvs []
    rw [List.length_nil] at this
    omega
  have I3 : Inv X pins σ (upd H1 p (.dK (mergeK [] kvs))) { s1 with heap := h1, toks := s1.toks } := d_write I2 (by rw [hpE]; exact True.intro) sb1 (let ⟨q, _, _, hq, _⟩ := d1; ⟨q, hq⟩) (dk_new hz1 pS (ra.merge .nil) d1)
  -- the pairs, in a dict of their own
  have fresh2 := I3.hok.fresh (Nat.le_refl h1.objs.size)
  have I4 := I3.laid (a := h1.objs.size) (o := .dK []) (h' := h1.push { cls := .type "dict", data := .dict #[] }) (t' := s1.toks) (fun _ _ q => Heap.get?_push_of_some _ q) (Nat.le_refl _) (dk_empty h1 I3.big)
  refine wpAny_bind (wpAny_holding ?_)
  show wpAny _ _ (subDict (pairTrees [some k1, some k2] [v1, v2] X.env pos)) _ _ _
  refine wpAny_subDict (knd := mixKind X.prog X.w) (show 2 ≤ 15 by decide) (thn (h.run pins _ σ _ _ I4 (q1 _ fresh2)) ?_)
  rintro ws s2 ⟨ps, H2, I5, rel, eq, ep, nqp, small, more, rfl, lm, q2⟩
  obtain ⟨rs, c, rk⟩ := carries_of (P := X.prog) (w := X.w) rel
  obtain ⟨zq, qS, vq, rq, dq⟩ := dk_of I5.hok eq
  cases rq
  refine ⟨rs, c, dq, fun h3 d3 sb3 => ?_⟩
  have hz2 : (mergeK [] more).length ≤ sizeLine := by
    have := length_mergeK more []
    rw [List.length_nil] at this
    rw [sizeLine_eq]
    omega
  have rm : KV (mergeK [] more) (merged [] rs) := rk.merge .nil
  have I6 : Inv X pins σ (upd H2 h1.objs.size (.dK (mergeK [] more))) { s2 with heap := h3, toks := s2.toks + ws.length } := d_write I5 (by rw [eq]; exact True.intro) sb3 (let ⟨q, _, _, hq, _⟩ := d3; ⟨q, hq⟩) (dk_new hz2 qS rm d3)
  have ep6 : upd H2 h1.objs.size (.dK (mergeK [] more)) p = some (.dK (mergeK [] kvs)) := (upd_ne (fun z => nqp z.symm)).trans ep
  obtain ⟨zp6, _, vp6, rp6, dp6⟩ := dk_of I6.hok ep6
  have ks : (mergeK [] kvs).length ≤ kvs.length := by
    have := length_mergeK kvs []
    rw [List.length_nil] at this
    omega
  have ms : (mergeK [] more).length ≤ more.length := by
    have := length_mergeK more []
    rw [List.length_nil] at this
    omega
  refine wpAny_bind (wpAny_onRaise (wpAny_holding (merge_pairs (knd := mixKind X.prog X.w) (fun z => nqp z.symm) qS dp6 d3 (by rw [← rp6.length, ← rm.length, sizeLine_eq]; omega) fun h4 d4 sb4 => wpAny_pure ?_)))
  have hz3 : (mergeK (mergeK [] kvs) (mergeK [] more)).length ≤ sizeLine := by
    have := length_mergeK (mergeK [] more) (mergeK [] kvs)
    rw [sizeLine_eq]
    omega
  exact ⟨.ref p, _, d_write (t' := s2.toks + ws.length) I6 (by rw [ep6]; exact True.intro) sb4 (let ⟨q, _, _, hq, _⟩ := d4; ⟨q, hq⟩) (dk_new hz3 pS (rm.merge rp6) d4), rfl, q2⟩
/-! ### places_of -/
namespace Ent
def places : Ent → List Str
  | come _ _ _ p _ _ => [p]
  | go _ _ _ p _ => [p]
  | move _ _ _ o t _ => [o, t]
  | some_ _ _ _ o t => if t = "" then [o] else [o, t]
  | swap _ _ o t => [o, t]
  | count _ _ _ p _ _ => [p]
  | look _ _ _ p => [p]
end Ent
def spPlaces : Sp := fun vs H Q _ => ∃ (a : Addr) (e : Ent), vs = [.ref a] ∧ H a = some (.tup e.vals) ∧ ∀ (tp : Addr) (H' : Hp), Same H H' → H' tp = some (.tup (e.places.map V.str)) → Q (.ref tp) H'
theorem cut_mid {xs : List V} {i j : Nat} (h : j ≤ xs.length) (hi : i ≤ j) : cutV xs (some (i : Int)) (some (j : Int)) = (xs.drop i).take (j - i) := by
  unfold cutV
  rw [HT.sIx_nat, HT.sIx_nat, Nat.min_eq_left h, Nat.min_eq_left (Nat.le_trans hi h)]
theorem no_whole {n i j : Nat} (h : i ≤ n) (hi : 0 < i) : ¬ (HT.sIx n 0 (some (i : Int)) = 0 ∧ HT.sIx n n (some (j : Int)) = n) := by
  rw [HT.sIx_nat, Nat.min_eq_left h]
  omega
section
variable {P : Program} {w : World} {K : PySem.W.Frag} {mg : Str → Option Value} {base : Heap}
theorem scPlacesOf : FnScope ["entry", "word"] ["entry"] (defScope sPlacesOf) := ⟨rfl, rfl, rfl, by decide +kernel, rfl, by decide +kernel, by decide +kernel⟩
theorem bl_of {a b : Str} {k : Bool} (h : decide (V.str a = V.str b) = k) : V.bl (decide (V.str a = V.str b)) = V.bl k := congrArg V.bl h
theorem ok_placesOf {f : Addr} {fd : FuncData} (F : Fun K "places_of" "places_of" sPlacesOf f fd) : FnOk P w K mg base CX0 1 f fd ["entry"] spPlaces := by
  refine F.ok scPlacesOf (fun vs H Q E h => ?_) (fun cdv A outer s H vs Q E hr h => ?_)
  · obtain ⟨a, e, rfl, _⟩ := h
    rfl
  · obtain ⟨a, e, rfl, ha, q⟩ := h
    have nd := scPlacesOf.nd
    refine ⟨_, pss_cons (ps_set (i := 1) nd rfl (Or.inl rfl) (pe_ix ix_tup (pv 0) pe_int (fun _ _ => rfl)))
      (pss_cons (ps_if (pt_cmpR op_eq (pv 1) pe_str (nomark _)) (pss_one (ps_ret (pe_slice sl_tup (pv 0) (po_some pe_int) (po_some pe_int)))) pss_nil)
      (pss_cons (ps_if (PW.pt (pw_or (pt_cmpR op_eq (pv 1) pe_str (nomark _)) (pw_or1 (PW.pt (pw_and (pt_cmpR op_eq (pv 1) pe_str (nomark _)) (pw_and1 (pt_cmpR op_ne (pe_ix ix_tup (pv 0) pe_int (fun _ _ => rfl)) pe_str (nomark _)))))))) (pss_one (ps_ret (pe_slice sl_tup (pv 0) (po_some pe_int) (po_some pe_int)))) pss_nil)
      (pss_one (ps_ret (pe_slice sl_tup (pv 0) (po_some pe_int) (po_some pe_int)))))), ?_⟩
    refine ⟨_, rfl, a, _, 0, _, rfl, rfl, SqT.of ha, at0 e, ?_⟩
    have c1 : decide (V.str "come" = V.str "swap") = false := by decide +kernel
    have c2 : decide (V.str "go" = V.str "swap") = false := by decide +kernel
    have c3 : decide (V.str "move" = V.str "swap") = false := by decide +kernel
    have c4 : decide (V.str "some" = V.str "swap") = false := by decide +kernel
    have c6 : decide (V.str "count" = V.str "swap") = false := by decide +kernel
    have c7 : decide (V.str "look" = V.str "swap") = false := by decide +kernel
    have m1 : decide (V.str "come" = V.str "move") = false := by decide +kernel
    have m2 : decide (V.str "go" = V.str "move") = false := by decide +kernel
    have m4 : decide (V.str "some" = V.str "move") = false := by decide +kernel
    have m6 : decide (V.str "count" = V.str "move") = false := by decide +kernel
    have m7 : decide (V.str "look" = V.str "move") = false := by decide +kernel
    have s1 : decide (V.str "come" = V.str "some") = false := by decide +kernel
    have s2 : decide (V.str "go" = V.str "some") = false := by decide +kernel
    have s6 : decide (V.str "count" = V.str "some") = false := by decide +kernel
    have s7 : decide (V.str "look" = V.str "some") = false := by decide +kernel
    cases e with
    | come nme mo g pl many price =>
      refine ⟨_, rfl, rfl, false, bl_of c1, iteF ⟨_, rfl, rfl, false, bl_of m1, iteF ⟨_, rfl, rfl, false, bl_of s1, iteF ?_⟩⟩⟩
      exact ⟨_, rfl, 4, rfl, 5, rfl, a, _, rfl, SqT.of ha, no_whole (i := 4) (j := 5) (by show 4 ≤ 7; decide) (by decide), fun p np => q p _ (same_new np) (by rw [upd_same]; rfl)⟩
    | go nme mo g pl many =>
      refine ⟨_, rfl, rfl, false, bl_of c2, iteF ⟨_, rfl, rfl, false, bl_of m2, iteF ⟨_, rfl, rfl, false, bl_of s2, iteF ?_⟩⟩⟩
      exact ⟨_, rfl, 4, rfl, 5, rfl, a, _, rfl, SqT.of ha, no_whole (i := 4) (j := 5) (by show 4 ≤ 6; decide) (by decide), fun p np => q p _ (same_new np) (by rw [upd_same]; rfl)⟩
    | move nme mo g one other many =>
      refine ⟨_, rfl, rfl, false, bl_of c3, iteF ⟨_, rfl, rfl, true, bl_of (decide_eq_true rfl), iteT ?_⟩⟩
      exact ⟨_, rfl, 4, rfl, 6, rfl, a, _, rfl, SqT.of ha, no_whole (i := 4) (j := 6) (by show 4 ≤ 7; decide) (by decide), fun p np => q p _ (same_new np) (by rw [upd_same]; rfl)⟩
    | some_ nme mo g one other =>
      refine ⟨_, rfl, rfl, false, bl_of c4, iteF ⟨_, rfl, rfl, false, bl_of m4, iteF ⟨_, rfl, rfl, true, bl_of (decide_eq_true rfl), iteT ?_⟩⟩⟩
      refine ⟨_, rfl, a, _, 5, .str other, rfl, rfl, SqT.of ha, atI_nat (j := 5) rfl, rfl, !decide (V.str other = V.str ""), rfl, ?_⟩
      by_cases z : other = ""
      · rw [decide_eq_true (congrArg V.str z)]
        refine iteF ⟨_, rfl, 4, rfl, 5, rfl, a, _, rfl, SqT.of ha, no_whole (i := 4) (j := 5) (by show 4 ≤ 6; decide) (by decide), fun p np => q p _ (same_new np) ?_⟩
        rw [upd_same]
        show some (HO.tup [V.str one]) = some (HO.tup ((if other = "" then [one] else [one, other]).map V.str))
        rw [if_pos z]
        rfl
      · rw [decide_eq_false fun h => z (V.str.inj h)]
        refine iteT ⟨_, rfl, 4, rfl, 6, rfl, a, _, rfl, SqT.of ha, no_whole (i := 4) (j := 6) (by show 4 ≤ 6; decide) (by decide), fun p np => q p _ (same_new np) ?_⟩
        rw [upd_same]
        show some (HO.tup [V.str one, V.str other]) = some (HO.tup ((if other = "" then [one] else [one, other]).map V.str))
        rw [if_neg z]
        rfl
    | swap nme mo one other =>
      refine ⟨_, rfl, rfl, true, bl_of (decide_eq_true rfl), iteT ?_⟩
      exact ⟨_, rfl, 3, rfl, 5, rfl, a, _, rfl, SqT.of ha, no_whole (i := 3) (j := 5) (by show 3 ≤ 5; decide) (by decide), fun p np => q p _ (same_new np) (by rw [upd_same]; rfl)⟩
    | count nme mo g pl many hand =>
      refine ⟨_, rfl, rfl, false, bl_of c6, iteF ⟨_, rfl, rfl, false, bl_of m6, iteF ⟨_, rfl, rfl, false, bl_of s6, iteF ?_⟩⟩⟩
      exact ⟨_, rfl, 4, rfl, 5, rfl, a, _, rfl, SqT.of ha, no_whole (i := 4) (j := 5) (by show 4 ≤ 7; decide) (by decide), fun p np => q p _ (same_new np) (by rw [upd_same]; rfl)⟩
    | look nme mo g pl =>
      refine ⟨_, rfl, rfl, false, bl_of c7, iteF ⟨_, rfl, rfl, false, bl_of m7, iteF ⟨_, rfl, rfl, false, bl_of s7, iteF ?_⟩⟩⟩
      exact ⟨_, rfl, 4, rfl, 5, rfl, a, _, rfl, SqT.of ha, no_whole (i := 4) (j := 5) (by show 4 ≤ 5; decide) (by decide), fun p np => q p _ (same_new np) (by rw [upd_same]; rfl)⟩
end
theorem cut_take {xs : List V} {k : Nat} : cutV xs none (some (k : Int)) = xs.take k := by
  unfold cutV
  rw [HT.sIx_none, HT.sIx_nat]
  show (xs.drop 0).take (min k xs.length - 0) = xs.take k
  rw [List.drop_zero, Nat.sub_zero]
  by_cases h : k ≤ xs.length
  · rw [Nat.min_eq_left h]
  · rw [Nat.min_eq_right (by omega), List.take_length, List.take_of_length_le (by omega)]
/-! ### houses -/
def TK (H H' : Hp) : Prop := ∀ a xs, H a = some (.tup xs) → H' a = some (.tup xs)
theorem TK.of {H H' : Hp} (s : Same H H') : TK H H' := fun a xs e => s a _ e
theorem TK.tr {H H1 H2 : Hp} (a : TK H H1) (b : TK H1 H2) : TK H H2 := fun c xs e => b c xs (a c xs e)
theorem TK.but {H H' : Hp} {p c : Addr} {n : Nat} (pen : PenAt H p c n) (b : But p H H') : TK H H' := fun a xs e => by
  obtain ⟨kvs, ns', a', x', g1, _⟩ := pen.ex
  exact b a _ e (ne_of e g1 (by intro z; cases z))
theorem TK.upd {H : Hp} {l : Addr} {o : HO} (n : ∀ xs, H l ≠ some (.tup xs)) : TK H (upd H l o) := fun a xs e => by
  by_cases z : a = l
  · rw [z] at e
    exact absurd e (n xs)
  · exact (upd_ne z).trans e
/-- each address holds its entry -/
inductive EntsAt (H : Hp) : List Addr → List Ent → Prop
  | nil : EntsAt H [] []
  | cons {a : Addr} {e : Ent} {as : List Addr} {es : List Ent} : H a = some (.tup e.vals) → EntsAt H as es → EntsAt H (a :: as) (e :: es)
theorem EntsAt.on {H H' : Hp} (k : TK H H') {as : List Addr} {es : List Ent} (h : EntsAt H as es) : EntsAt H' as es := by
  induction h with
  | nil => exact .nil
  | cons a _ ih => exact .cons (k _ _ a) ih
theorem EntsAt.len {H : Hp} {as : List Addr} {es : List Ent} (h : EntsAt H as es) : as.length = es.length := by
  induction h with
  | nil => rfl
  | cons _ _ ih => simp [ih]
theorem EntsAt.snoc {H : Hp} {a : Addr} {e : Ent} {as : List Addr} {es : List Ent} (h : EntsAt H as es) (q : H a = some (.tup e.vals)) : EntsAt H (as ++ [a]) (es ++ [e]) := by
  induction h with
  | nil => exact .cons q .nil
  | cons a _ ih => exact .cons a ih
theorem EntsAt.get {H : Hp} {as : List Addr} {es : List Ent} (h : EntsAt H as es) : ∀ {i : Nat} {a : Addr}, as[i]? = some a → ∃ e, es[i]? = some e ∧ H a = some (.tup e.vals) := by
  induction h with
  | nil => intro i a q; cases q
  | @cons a0 e0 as es q _ ih =>
    intro i a z
    cases i with
    | zero => exact ⟨e0, rfl, by rw [← Option.some.inj z]; exact q⟩
    | succ n => exact ih (i := n) z
structure HouseAt (H : Hp) (h : Addr) (P G : List Str) (es : List Ent) : Prop where
  ex : ∃ (hp hg he : Addr) (tps : List Addr), H h = some (.tup [.ref hp, .ref hg, .ref he]) ∧ H hp = some (.tup (P.map V.str)) ∧ H hg = some (.tup (G.map V.str)) ∧ H he = some (.tup (tps.map V.ref)) ∧ EntsAt H tps es
theorem HouseAt.on {H H' : Hp} (k : TK H H') {h : Addr} {P G : List Str} {es : List Ent} (x : HouseAt H h P G es) : HouseAt H' h P G es := by
  obtain ⟨hp, hg, he, tps, h1, h2, h3, h4, h5⟩ := x.ex
  exact ⟨hp, hg, he, tps, k _ _ h1, k _ _ h2, k _ _ h3, k _ _ h4, h5.on k⟩
/-- what holds of a house that a law makes -/
structure Good (P G : List Str) (es : List Ent) (m : Nat) : Prop where
  nd : P.Nodup
  ne : P ≠ []
  le : P.length ≤ 6
  nm : ∀ y ∈ P, nameB y = true
  ge : G ≠ []
  gl : G.length ≤ 3
  gn : ∀ y ∈ G, nameB y = true
  gd : G.Nodup
  many : es.length = m
  nms : (es.map Ent.name).Nodup
  ps : sortedS P = true
  ents : ∀ e ∈ es, nameB e.name = true ∧ 0 ≤ e.moment ∧ e.moment ≤ 9999 ∧ ∃ HL : List Str, (∀ y ∈ HL, nameB y = true) ∧ e.From P G HL
theorem From.perm {e : Ent} {P P' G G' HL : List Str} (h : e.From P G HL) (p : P'.Perm P) (g : G'.Perm G) : e.From P' G' HL := by
  have nd : P'.Nodup → P.Nodup := fun z => p.nodup_iff.mp z
  cases e with
  | come n m gg pl k r => exact ⟨g.mem_iff.mpr h.1, p.mem_iff.mpr h.2.1, h.2.2⟩
  | go n m gg pl k => exact ⟨g.mem_iff.mpr h.1, p.mem_iff.mpr h.2.1, h.2.2⟩
  | move n m gg o t k => exact ⟨g.mem_iff.mpr h.1, p.mem_iff.mpr h.2.1, p.mem_iff.mpr h.2.2.1, fun z => h.2.2.2.1 (nd z), h.2.2.2.2⟩
  | some_ n m gg o t => exact ⟨g.mem_iff.mpr h.1, p.mem_iff.mpr h.2.1, h.2.2.imp id fun z => ⟨p.mem_iff.mpr z.1, fun q => z.2 (nd q)⟩⟩
  | swap n m o t => exact ⟨p.mem_iff.mpr h.1, p.mem_iff.mpr h.2.1, fun z => h.2.2 (nd z)⟩
  | count n m gg pl k hd => exact ⟨g.mem_iff.mpr h.1, p.mem_iff.mpr h.2.1, h.2.2⟩
  | look n m gg pl => exact ⟨g.mem_iff.mpr h.1, p.mem_iff.mpr h.2⟩
/-! the house as data -/
def dV : V → PyData
  | .str x => .str x
  | .int i => .int i
  | _ => .none
def entD (e : Ent) : PyData := .tuple (e.vals.map dV)
def houseD (P G : List Str) (es : List Ent) : PyData := .tuple [.tuple (P.map .str), .tuple (G.map .str), .tuple (es.map entD)]
theorem dp_strs {K : PySem.W.Frag} {H : Hp} : ∀ ys : List Str, DpAll K H (ys.map V.str) (ys.map PyData.str)
  | [] => .nil
  | y :: r => .cons (.str y) (dp_strs r)
theorem dp_ent {K : PySem.W.Frag} {H : Hp} {a : Addr} {e : Ent} (h : H a = some (.tup e.vals)) : Dp K H (.ref a) (entD e) := by
  refine .tup (SqT.of h) ?_
  cases e <;> (repeat' (first | exact .nil | refine .cons (.str _) ?_ | refine .cons (.int _) ?_))
theorem dp_ents {K : PySem.W.Frag} {H : Hp} {as : List Addr} {es : List Ent} (h : EntsAt H as es) : DpAll K H (as.map V.ref) (es.map entD) := by
  induction h with
  | nil => exact .nil
  | cons a _ ih => exact .cons (dp_ent a) ih
theorem HouseAt.dp {K : PySem.W.Frag} {H : Hp} {h : Addr} {P G : List Str} {es : List Ent} (x : HouseAt H h P G es) : Dp K H (.ref h) (houseD P G es) := by
  obtain ⟨hp, hg, he, tps, h1, h2, h3, h4, h5⟩ := x.ex
  exact .tup (SqT.of h1) (.cons (.tup (SqT.of h2) (dp_strs P)) (.cons (.tup (SqT.of h3) (dp_strs G)) (.cons (.tup (SqT.of h4) (dp_ents h5)) .nil)))
/-! its text isn't long -/
structure Short (d : PyData) (n k : Nat) : Prop where
  sh : d.showable = true
  nd : d.hasDict = false
  ls : d.leavesShort 13 = true
  bk : d.bulk ≤ n
  dp : d.depth ≤ k
theorem short_str {y : Str} (h : nameB y = true ∨ y = "" ∨ y ∈ words7) : Short (.str y) 8 0 := by
  have lo : y.cps.toList.all (fun c => decide (c < 16 ^ 8)) = true ∧ y.cps.size ≤ 8 := by
    rcases h with h | rfl | h
    · unfold nameB at h
      rw [Bool.and_eq_true, Bool.and_eq_true] at h
      have l8 : y.length ≤ 8 := of_decide_eq_true h.1.2
      refine ⟨List.all_eq_true.mpr fun c hc => decide_eq_true ?_, l8⟩
      have q : ∀ c ∈ abc.cps.toList, c < 16 ^ 8 := by decide +kernel
      exact q c (of_decide_eq_true (List.all_eq_true.mp h.2 c hc))
    · exact ⟨rfl, Nat.zero_le _⟩
    · simp only [words7, List.mem_cons, List.not_mem_nil, or_false] at h
      rcases h with rfl | rfl | rfl | rfl | rfl | rfl | rfl <;> exact ⟨by decide +kernel, by decide +kernel⟩
  exact ⟨rfl, rfl, lo.1, lo.2, Nat.zero_le _⟩
theorem short_int {i : Int} (h0 : 0 ≤ i) (h1 : i ≤ 1000000000) : Short (.int i) 8 0 := by
  have e : (PyData.shown (.int i)).length ≤ 13 := Nat.le_trans (toString_length_le h0 (k := 10) (by decide) (by omega)) (by decide)
  refine ⟨?_, rfl, decide_eq_true e, Nat.zero_le _, Nat.zero_le _⟩
  show decide (i.natAbs.log2 < 1920) = true
  refine decide_eq_true ?_
  by_cases z : i.natAbs = 0
  · rw [z]
    decide
  · exact Nat.lt_trans ((Nat.log2_lt z).mpr (show i.natAbs < 2 ^ 30 by omega)) (by decide)
theorem short_all {n k : Nat} : ∀ {ds : List PyData}, (∀ d ∈ ds, Short d n k) → PyData.showableAll ds = true ∧ PyData.hasDictAll ds = false ∧ PyData.leavesShortAll 13 ds = true ∧ PyData.bulkAll ds ≤ ds.length * (n + 1) ∧ PyData.depthAll ds ≤ k
  | [], _ => ⟨rfl, rfl, rfl, Nat.le_of_eq (by simp [PyData.bulkAll]), Nat.zero_le _⟩
  | d :: ds, h => by
    have h1 := h d List.mem_cons_self
    obtain ⟨a1, a2, a3, a4, a5⟩ := short_all fun x hx => h x (List.mem_cons_of_mem _ hx)
    refine ⟨?_, ?_, ?_, ?_, ?_⟩
    · rw [PyData.showableAll, h1.sh, a1]
      rfl
    · rw [PyData.hasDictAll, h1.nd, a2]
      rfl
    · rw [PyData.leavesShortAll, h1.ls, a3]
      rfl
    · rw [PyData.bulkAll, List.length_cons, Nat.succ_mul]
      have := h1.bk
      omega
    · rw [PyData.depthAll]
      exact Nat.max_le.mpr ⟨h1.dp, a5⟩
theorem short_tup {n k m : Nat} {ds : List PyData} (h : ∀ d ∈ ds, Short d n k) (l : ds.length * (n + 1) ≤ m) : Short (.tuple ds) m (k + 1) := by
  obtain ⟨a1, a2, a3, a4, a5⟩ := short_all h
  refine ⟨?_, ?_, ?_, ?_, ?_⟩
  · rw [PyData.showable]; exact a1
  · rw [PyData.hasDict]; exact a2
  · rw [PyData.leavesShort]; exact a3
  · rw [PyData.bulk]; omega
  · rw [PyData.depth]; omega
theorem Short.mono {d : PyData} {n k n' k' : Nat} (h : Short d n k) (hn : n ≤ n') (hk : k ≤ k') : Short d n' k' := ⟨h.sh, h.nd, h.ls, Nat.le_trans h.bk hn, Nat.le_trans h.dp hk⟩
theorem Short.fits {d : PyData} {n k : Nat} (h : Short d n k) (hn : n ≤ 100000) : d.shown.length ≤ sizeLine := by
  have q := PyData.shown_le_bulk 13 (by decide) d h.ls
  have := h.bk
  rw [sizeLine_eq]
  omega
theorem short_names {ys : List Str} (h : ∀ y ∈ ys, nameB y = true) (l : ys.length ≤ 31) : Short (.tuple (ys.map .str)) 300 1 := by
  refine short_tup (n := 8) (k := 0) (fun d hd => ?_) (by rw [List.length_map]; omega)
  obtain ⟨y, hy, rfl⟩ := List.mem_map.mp hd
  exact short_str (.inl (h y hy))
theorem short_ent {e : Ent} {P G HL : List Str} (nn : nameB e.name = true) (m0 : 0 ≤ e.moment) (m1 : e.moment ≤ 9999) (hP : ∀ y ∈ P, nameB y = true) (hG : ∀ y ∈ G, nameB y = true) (hH : ∀ y ∈ HL, nameB y = true) (h : e.From P G HL) : Short (entD e) 70 1 := by
  have w : ∀ {x : Str}, x ∈ words7 → Short (.str x) 8 0 := fun hx => short_str (.inr (.inr hx))
  have n : ∀ {x : Str}, nameB x = true → Short (.str x) 8 0 := fun hx => short_str (.inl hx)
  have mo : Short (.int e.moment) 8 0 := short_int m0 (by omega)
  refine short_tup (n := 8) (k := 0) (fun d hd => ?_) (by rw [List.length_map]; cases e <;> simp [Ent.vals, Ent.rest])
  obtain ⟨v, hv, rfl⟩ := List.mem_map.mp hd
  cases e with
  | come nm m g pl k r =>
    obtain ⟨h1, h2, h3, h4, h5, h6⟩ := h
    simp only [Ent.vals, Ent.rest, List.mem_cons, List.not_mem_nil, or_false] at hv
    rcases hv with rfl | rfl | rfl | rfl | rfl | rfl | rfl
    · exact w (Ent.word_in _)
    · exact n nn
    · exact mo
    · exact n (hG _ h1)
    · exact n (hP _ h2)
    · exact short_int (by omega) h4
    · exact short_int h5 h6
  | go nm m g pl k =>
    obtain ⟨h1, h2, h3, h4⟩ := h
    simp only [Ent.vals, Ent.rest, List.mem_cons, List.not_mem_nil, or_false] at hv
    rcases hv with rfl | rfl | rfl | rfl | rfl | rfl
    · exact w (Ent.word_in _)
    · exact n nn
    · exact mo
    · exact n (hG _ h1)
    · exact n (hP _ h2)
    · exact short_int (by omega) h4
  | move nm m g o t k =>
    obtain ⟨h1, h2, h3, h4, h5, h6⟩ := h
    simp only [Ent.vals, Ent.rest, List.mem_cons, List.not_mem_nil, or_false] at hv
    rcases hv with rfl | rfl | rfl | rfl | rfl | rfl | rfl
    · exact w (Ent.word_in _)
    · exact n nn
    · exact mo
    · exact n (hG _ h1)
    · exact n (hP _ h2)
    · exact n (hP _ h3)
    · exact short_int (by omega) h6
  | some_ nm m g o t =>
    obtain ⟨h1, h2, h3⟩ := h
    simp only [Ent.vals, Ent.rest, List.mem_cons, List.not_mem_nil, or_false] at hv
    rcases hv with rfl | rfl | rfl | rfl | rfl | rfl
    · exact w (Ent.word_in _)
    · exact n nn
    · exact mo
    · exact n (hG _ h1)
    · exact n (hP _ h2)
    · rcases h3 with rfl | h3
      · exact short_str (.inr (.inl rfl))
      · exact n (hP _ h3.1)
  | swap nm m o t =>
    obtain ⟨h1, h2, h3⟩ := h
    simp only [Ent.vals, Ent.rest, List.mem_cons, List.not_mem_nil, or_false] at hv
    rcases hv with rfl | rfl | rfl | rfl | rfl
    · exact w (Ent.word_in _)
    · exact n nn
    · exact mo
    · exact n (hP _ h1)
    · exact n (hP _ h2)
  | count nm m g pl k hd =>
    obtain ⟨h1, h2, h3, h4, h5⟩ := h
    simp only [Ent.vals, Ent.rest, List.mem_cons, List.not_mem_nil, or_false] at hv
    rcases hv with rfl | rfl | rfl | rfl | rfl | rfl | rfl
    · exact w (Ent.word_in _)
    · exact n nn
    · exact mo
    · exact n (hG _ h1)
    · exact n (hP _ h2)
    · exact short_int h3 h4
    · exact n (hH _ h5)
  | look nm m g pl =>
    obtain ⟨h1, h2⟩ := h
    simp only [Ent.vals, Ent.rest, List.mem_cons, List.not_mem_nil, or_false] at hv
    rcases hv with rfl | rfl | rfl | rfl | rfl
    · exact w (Ent.word_in _)
    · exact n nn
    · exact mo
    · exact n (hG _ h1)
    · exact n (hP _ h2)
theorem Good.short {P G : List Str} {es : List Ent} {m : Nat} (g : Good P G es m) (hm : m ≤ 31) : Short (houseD P G es) 10000 3 := by
  refine short_tup (n := 3000) (k := 2) (fun d hd => ?_) (by show 3 * 3001 ≤ 10000; decide)
  simp only [List.mem_cons, List.not_mem_nil, or_false] at hd
  rcases hd with rfl | rfl | rfl
  · exact (short_names g.nm (Nat.le_trans g.le (by decide))).mono (by decide) (by decide)
  · exact (short_names g.gn (Nat.le_trans g.gl (by decide))).mono (by decide) (by decide)
  · refine short_tup (n := 70) (k := 1) (fun d hd => ?_) (by rw [List.length_map, g.many]; omega)
    obtain ⟨e, he, rfl⟩ := List.mem_map.mp hd
    obtain ⟨e1, e2, e3, HL, e4, e5⟩ := g.ents e he
    exact short_ent e1 e2 e3 g.nm g.gn e4 e5
/-! ### tracks -/
def swp (o t x : Str) : Str := if x = o then t else if x = t then o else x
theorem swp_swp (o t x : Str) : swp o t (swp o t x) = x := by
  unfold swp
  by_cases h1 : x = o
  · rw [if_pos h1]
    by_cases h2 : t = o
    · rw [if_pos h2, h2, h1]
    · rw [if_neg h2, if_pos rfl, h1]
  · rw [if_neg h1]
    by_cases h2 : x = t
    · rw [if_pos h2, if_pos rfl, h2]
    · rw [if_neg h2, if_neg h1, if_neg h2]
def swE : Ent → Str → Str
  | .swap _ _ o t => swp o t
  | _ => id
theorem swE_swE (e : Ent) (x : Str) : swE e (swE e x) = x := by
  cases e with
  | swap n m o t => exact swp_swp o t x
  | _ => rfl
def tau (es : List Ent) : Str → Str := es.foldl (fun τ e x => τ (swE e x)) id
def dlt (es : List Ent) : Str → Str := es.foldl (fun δ e x => swE e (δ x)) id
theorem tau_snoc (es : List Ent) (e : Ent) : tau (es ++ [e]) = fun x => tau es (swE e x) := by
  unfold tau
  rw [List.foldl_append]
  rfl
theorem dlt_snoc (es : List Ent) (e : Ent) : dlt (es ++ [e]) = fun x => swE e (dlt es x) := by
  unfold dlt
  rw [List.foldl_append]
  rfl
theorem take_snoc {α : Type} {l : List α} {i : Nat} {x : α} (h : l[i]? = some x) : l.take (i + 1) = l.take i ++ [x] := by
  rw [List.take_add_one, h]
  rfl
theorem td_n (es : List Ent) : ∀ n, n ≤ es.length → ∀ x, tau (es.take n) (dlt (es.take n) x) = x ∧ dlt (es.take n) (tau (es.take n) x) = x
  | 0, _, x => ⟨rfl, rfl⟩
  | n + 1, h, x => by
    have e : es[n]? = some es[n] := List.getElem?_eq_getElem (by omega)
    rw [take_snoc e, tau_snoc, dlt_snoc]
    have ih := td_n es n (by omega)
    refine ⟨?_, ?_⟩
    · show tau (es.take n) (swE _ (swE _ (dlt (es.take n) x))) = x
      rw [swE_swE]
      exact (ih x).1
    · show swE _ (dlt (es.take n) (tau (es.take n) (swE _ x))) = x
      rw [(ih _).2, swE_swE]
theorem swE_in {P : List Str} {e : Ent} {G HL : List Str} (h : e.From P G HL) {x : Str} (hx : x ∈ P) : swE e x ∈ P := by
  cases e with
  | swap n m o t =>
    show swp o t x ∈ P
    unfold swp
    split
    · exact h.2.1
    · split
      · exact h.1
      · exact hx
  | _ => exact hx
theorem in_n {P : List Str} {es : List Ent} (h : ∀ e ∈ es, ∀ x ∈ P, swE e x ∈ P) : ∀ n, n ≤ es.length → ∀ x ∈ P, tau (es.take n) x ∈ P ∧ dlt (es.take n) x ∈ P
  | 0, _, x, hx => ⟨hx, hx⟩
  | n + 1, hn, x, hx => by
    have e : es[n]? = some es[n] := List.getElem?_eq_getElem (by omega)
    have ih := in_n h n (by omega)
    rw [take_snoc e, tau_snoc, dlt_snoc]
    have me : es[n] ∈ es := List.getElem_mem _
    exact ⟨(ih _ (h _ me x hx)).1, h _ me _ (ih x hx).2⟩
/-! dicts from places to texts -/
def kvT (P : List Str) (τ : Str → Str) : List (Key × V) := P.map fun p => ((Sum.inr p : Key), V.str (τ p))
theorem valV_kvT {P : List Str} {τ : Str → Str} {x : Str} (h : x ∈ P) : valV (kvT P τ) (Sum.inr x) = some (.str (τ x)) := by
  induction P with
  | nil => cases h
  | cons p r ih =>
    unfold valV kvT
    rw [List.map_cons, List.find?_cons]
    by_cases e : p = x
    · rw [decide_eq_true (congrArg Sum.inr e), e]
      rfl
    · rw [decide_eq_false fun z => e (Sum.inr.inj z)]
      rcases List.mem_cons.mp h with z | z
      · exact absurd z.symm e
      · exact ih z
theorem any_kvT {P : List Str} {τ : Str → Str} {x : Str} : ((kvT P τ).any fun kv => decide (kv.1 = (Sum.inr x : Key))) = decide (x ∈ P) := by
  unfold kvT
  rw [List.any_map]
  by_cases h : x ∈ P
  · rw [decide_eq_true h]
    exact List.any_eq_true.mpr ⟨x, h, decide_eq_true rfl⟩
  · rw [decide_eq_false h]
    rw [List.any_eq_false]
    intro p hp z
    exact h (Sum.inr.inj (of_decide_eq_true z) ▸ hp)
theorem put_in {P : List Str} {τ : Str → Str} {x y : Str} (h : x ∈ P) : putK (kvT P τ) (Sum.inr x) (.str y) = kvT P fun z => if z = x then y else τ z := by
  unfold putK
  rw [any_kvT, decide_eq_true h, if_pos rfl]
  unfold kvT
  rw [List.map_map]
  refine List.map_congr_left fun p _ => ?_
  show (if (Sum.inr p : Key) = Sum.inr x then ((Sum.inr p : Key), V.str y) else (Sum.inr p, V.str (τ p))) = (Sum.inr p, V.str (if p = x then y else τ p))
  by_cases e : p = x
  · rw [if_pos (congrArg Sum.inr e), if_pos e]
  · rw [if_neg fun z => e (Sum.inr.inj z), if_neg e]
theorem put_new {P : List Str} {τ : Str → Str} {x : Str} (h : x ∉ P) : putK (kvT P τ) (Sum.inr x) (.str (τ x)) = kvT (P ++ [x]) τ := by
  unfold putK
  rw [any_kvT, decide_eq_false h, if_neg (by decide)]
  unfold kvT
  rw [List.map_append]
  rfl
theorem merge_kvT {τ : Str → Str} : ∀ {R P : List Str}, (P ++ R).Nodup → mergeK (kvT P τ) (kvT R τ) = kvT (P ++ R) τ
  | [], P, _ => by
    rw [List.append_nil]
    rfl
  | x :: R, P, h => by
    show mergeK (putK (kvT P τ) (Sum.inr x) (.str (τ x))) (kvT R τ) = _
    have nx : x ∉ P := fun z => (List.nodup_append.mp h).2.2 x z x List.mem_cons_self rfl
    rw [put_new nx, merge_kvT (by rw [List.append_assoc]; exact h), List.append_assoc]
    rfl
theorem merge0 {P : List Str} {τ : Str → Str} (h : P.Nodup) : mergeK [] (kvT P τ) = kvT P τ := merge_kvT (P := []) h
theorem merge2 {P : List Str} {τ : Str → Str} {o t : Str} (ho : o ∈ P) (ht : t ∈ P) (ne : o ≠ t) (h : P.Nodup) :
    mergeK (mergeK [] (kvT P τ)) (mergeK [] [((Sum.inr o : Key), V.str (τ t)), (Sum.inr t, .str (τ o))]) = kvT P fun x => τ (swp o t x) := by
  have e : mergeK [] [((Sum.inr o : Key), V.str (τ t)), (Sum.inr t, .str (τ o))] = [((Sum.inr o : Key), V.str (τ t)), (Sum.inr t, .str (τ o))] := by
    show putK [((Sum.inr o : Key), V.str (τ t))] (Sum.inr t) (.str (τ o)) = _
    unfold putK
    rw [List.any_cons, List.any_nil, decide_eq_false fun z => ne (Sum.inr.inj z)]
    rfl
  rw [e, merge0 h]
  show putK (putK (kvT P τ) (Sum.inr o) (.str (τ t))) (Sum.inr t) (.str (τ o)) = _
  rw [put_in ho, put_in ht]
  unfold kvT
  refine List.map_congr_left fun p _ => ?_
  show (_, V.str (if p = t then τ o else if p = o then τ t else τ p)) = (_, V.str (τ (swp o t p)))
  unfold swp
  by_cases h1 : p = o
  · rw [if_neg (fun z => ne (h1.symm.trans z)), if_pos h1, if_pos h1]
  · by_cases h2 : p = t
    · rw [if_pos h2, if_neg h1, if_pos h2]
    · rw [if_neg h2, if_neg h1, if_neg h1, if_neg h2]
theorem len_kvT (P : List Str) (τ : Str → Str) : (kvT P τ).length = P.length := List.length_map ..
theorem dc_keys {d : Addr} {od : Obj} {kvs : List (Key × V)} {g : TG} {tt : TT} {tk tv : TE} {vs : List Nat} {σ : L2.St} {H1 : Hp} {D : Addr} {Qd : Hp → Prop} (Pv : Nat → Hp → Prop) (h0 : Pv 0 (upd H1 D (.dK []))) (hl : ∀ i H, Pv i H → H d = some (.frz od (.dK kvs)))
    (hs : ∀ i k v H, kvs[i]? = some (k, v) → Pv i H → g (kV k) (wipe σ vs) H fun σ2 H2 => wipe σ2 vs = wipe σ vs ∧ tt σ2 H2 fun b H3 =>
      if b = true then tk σ2 H3 fun y H4 => tv σ2 H4 fun z H5 => ∃ kvs k, y = kV k ∧ H5 D = some (.dK kvs) ∧ kvs.length < sizeLine ∧ Pv (i + 1) (upd H5 D (.dK (putK kvs k z))) else Pv (i + 1) H3) (hd : ∀ H, Pv kvs.length H → Qd H) :
    ∃ W : Nat → Nat → Hp → Prop, (∃ m, W 0 m (upd H1 D (.dK []))) ∧ ∀ i m H, W i m H →
      ((Itk d od kvs).stop i H ∧ Qd H) ∨ ((Itk d od kvs).go i H ∧ ∃ Nx : Hp → Prop, (∀ H', Nx H' → ∃ m', m' < m ∧ W (i + 1) m' H') ∧ ∀ x H', (Itk d od kvs).yld i H x H' → g x (wipe σ vs) H' fun σ2 H2 => wipe σ2 vs = wipe σ vs ∧ tt σ2 H2 fun b H3 =>
        if b = true then tk σ2 H3 fun y H4 => tv σ2 H4 fun z H5 => ∃ kvs k, y = kV k ∧ H5 D = some (.dK kvs) ∧ kvs.length < sizeLine ∧ Nx (upd H5 D (.dK (putK kvs k z))) else Nx H3) := by
  refine ⟨fun i m H => m = kvs.length - i ∧ i ≤ kvs.length ∧ Pv i H, ⟨kvs.length, rfl, Nat.zero_le _, h0⟩, ?_⟩
  rintro i m H ⟨rfl, hi, p⟩
  have q := hl i H p
  by_cases lt : i < kvs.length
  · refine .inr ⟨⟨q, lt⟩, Pv (i + 1), fun H' p' => ⟨kvs.length - (i + 1), by omega, rfl, lt, p'⟩, ?_⟩
    rintro x H' ⟨rfl, k, v, e, rfl⟩
    exact hs i k v _ e p
  · obtain rfl : i = kvs.length := by omega
    exact .inl ⟨⟨q, Nat.le_refl _⟩, hd H p⟩
/-- which swaps are of the house -/
abbrev SwOk (P : List Str) (e : Ent) : Prop := ∀ n m o t, e = .swap n m o t → o ∈ P ∧ t ∈ P ∧ o ≠ t
theorem Good.sw {P G : List Str} {es : List Ent} {m : Nat} (g : Good P G es m) {e : Ent} (he : e ∈ es) : SwOk P e := fun n mo o t z => by
  subst z
  obtain ⟨_, _, _, HL, _, f⟩ := g.ents _ he
  exact ⟨f.1, f.2.1, f.2.2 g.nd⟩
theorem Good.inn {P G : List Str} {es : List Ent} {m : Nat} (g : Good P G es m) : ∀ e ∈ es, ∀ x ∈ P, swE e x ∈ P := fun e he x hx => by
  obtain ⟨_, _, _, HL, _, f⟩ := g.ents e he
  exact swE_in f hx
theorem sw_ent {e : Ent} (h : e.word = "swap") : ∃ n m o t, e = .swap n m o t := by
  cases e with
  | come n m g p k r => exact absurd h (show ("come" : Str) ≠ "swap" by decide +kernel)
  | go n m g p k => exact absurd h (show ("go" : Str) ≠ "swap" by decide +kernel)
  | move n m g o t k => exact absurd h (show ("move" : Str) ≠ "swap" by decide +kernel)
  | some_ n m g o t => exact absurd h (show ("some" : Str) ≠ "swap" by decide +kernel)
  | swap n m o t => exact ⟨n, m, o, t, rfl⟩
  | count n m g p k hd => exact absurd h (show ("count" : Str) ≠ "swap" by decide +kernel)
  | look n m g p => exact absurd h (show ("look" : Str) ≠ "swap" by decide +kernel)
def spFirst : Sp := fun vs H Q _ => ∃ (h : Addr) (P G : List Str) (es : List Ent) (m : Nat), vs = [.ref h] ∧ HouseAt H h P G es ∧ Good P G es m ∧ ∀ (d : Addr) (H' : Hp), Same H H' → H' d = some (.dK (kvT P id)) → Q (.ref d) H'
def spExch : Sp := fun vs H Q _ => ∃ (d a : Addr) (P : List Str) (τ : Str → Str) (e : Ent), vs = [.ref d, .ref a] ∧ H d = some (.dK (kvT P τ)) ∧ H a = some (.tup e.vals) ∧ SwOk P e ∧ P.Nodup ∧ P.length ≤ 6 ∧
  ∀ (d' : Addr) (H' : Hp), Same H H' → H' d' = some (.dK (kvT P fun x => τ (swE e x))) → Q (.ref d') H'
def spBehind : Sp := fun vs H Q _ => ∃ (h : Addr) (P G : List Str) (es : List Ent) (m k : Nat), vs = [.ref h, .int k] ∧ HouseAt H h P G es ∧ Good P G es m ∧ k ≤ m ∧ m ≤ 30 ∧ ∀ (d : Addr) (H' : Hp), Same H H' → H' d = some (.dK (kvT P (tau (es.take k)))) → Q (.ref d) H'
def spTrackAt : Sp := fun vs H Q _ => ∃ (h : Addr) (P G : List Str) (es : List Ent) (m k : Nat) (x : Str), vs = [.ref h, .str x, .int k] ∧ HouseAt H h P G es ∧ Good P G es m ∧ k ≤ m ∧ m ≤ 30 ∧ x ∈ P ∧ ∀ H', Same H H' → Q (.str (tau (es.take k) x)) H'
def spPlaceOf : Sp := fun vs H Q _ => ∃ (h : Addr) (P G : List Str) (es : List Ent) (m k : Nat) (x : Str), vs = [.ref h, .str x, .int k] ∧ HouseAt H h P G es ∧ Good P G es m ∧ k ≤ m ∧ m ≤ 30 ∧ x ∈ P ∧ ∀ H', Same H H' → Q (.str (dlt (es.take k) x)) H'
section
variable {P : Program} {w : World} {K : PySem.W.Frag} {mg : Str → Option Value} {base : Heap}
theorem scFirst : FnScope ["house", "place"] ["house"] (defScope sFirst) := ⟨rfl, rfl, rfl, by decide +kernel, rfl, by decide +kernel, by decide +kernel⟩
theorem scExch : FnScope ["there", "entry", "one", "other"] ["there", "entry"] (defScope sExch) := ⟨rfl, rfl, rfl, by decide +kernel, rfl, by decide +kernel, by decide +kernel⟩
theorem ok_first {f : Addr} {fd : FuncData} (F : Fun K "tracks_at_first" "tracks_at_first" sFirst f fd) : FnOk P w K mg base CX0 1 f fd ["house"] spFirst := by
  refine F.ok scFirst (fun vs H Q E h => ?_) (fun cdv A outer s H vs Q E hr h => ?_)
  · obtain ⟨h, PL, G, es, m, rfl, _⟩ := h
    rfl
  · obtain ⟨h, PL, G, es, m, rfl, ho, gd, q⟩ := h
    obtain ⟨hp, hg, he, tps, h1, h2, h3, h4, h5⟩ := ho.ex
    have nd := scFirst.nd
    refine ⟨_, pss_one (ps_ret (pe_dc (own := [("place", 1)]) (g := gName 1) (tt := tYes) (tk := tVar 1) (tv := tVar 1) rfl nd (pi_tup (pe_ix ix_tup (pv 0) pe_int (fun _ _ => rfl)))
      (blkOk_by (N := ["house", "place"]) (sc := defScope sFirst) (by decide +kernel)) (fun _ _ _ _ _ => pg_name (i := 1) nd rfl (Or.inl rfl)) (fun _ _ _ _ _ => pts_nil) (fun _ _ _ _ _ => pv 1) (fun _ _ _ _ _ => pv 1))), ?_⟩
    refine ⟨_, rfl, h, _, 0, _, rfl, rfl, SqT.of h1, atI_nat (j := 0) rfl, hp, rfl, ⟨_, SqT.of h2⟩, fun D nD => ?_⟩
    refine dc_tup (K := K) (a := hp) (xs := PL.map V.str) (fun i H' => Same H H' ∧ H' D = some (.dK (kvT (PL.take i) id))) ⟨same_new nD, upd_same⟩ (fun i H' _ z => SqT.of (z.1 _ _ h2)) ?_ ?_
    · rintro i x H' hx ⟨sm, hD⟩
      rw [List.getElem?_map] at hx
      obtain ⟨y, hy, rfl⟩ := Option.map_eq_some_iff.mp hx
      have lt : i < PL.length := (List.getElem?_eq_some_iff.mp hy).1
      refine ⟨rfl, yesT ⟨_, rfl, _, rfl, _, Sum.inr y, rfl, hD, ?_, fun b o e => (upd_ne (ne_of_none e nD)).trans (sm b o e), ?_⟩⟩
      · rw [len_kvT, List.length_take]
        exact small1000 (by have := gd.le; omega)
      · rw [upd_same, take_snoc hy]
        have nx : y ∉ PL.take i := fun z => by
          have q := gd.nd
          rw [← List.take_append_drop i PL, List.nodup_append] at q
          refine q.2.2 y z y ?_ rfl
          rw [List.drop_eq_getElem_cons lt]
          rw [List.getElem?_eq_getElem lt] at hy
          rw [Option.some.inj hy]
          exact List.mem_cons_self
        exact congrArg (fun z => some (HO.dK z)) (put_new (τ := id) nx)
    · rintro H' ⟨sm, hD⟩
      refine q D H' sm ?_
      rw [hD, List.length_map, List.take_length]
theorem ok_exch {f fP : Addr} {fd dP : FuncData} (F : Fun K "exchanged" "exchanged" sExch f fd) (PO : DefT P w K mg base "places_of" 1 fP dP ["entry"] spPlaces) : FnOk P w K mg base CX0 2 f fd ["there", "entry"] spExch := by
  refine F.ok scExch (fun vs H Q E h => ?_) (fun cdv A outer s H vs Q E hr h => ?_)
  · obtain ⟨d, a, PL, τ, e, rfl, _⟩ := h
    rfl
  · obtain ⟨d, a, PL, τ, e, rfl, hd, ha, sw, ndp, le6, q⟩ := h
    have nd := scExch.nd
    refine ⟨_, pss_cons (ps_if (pt_cmpR op_ne (pe_ix ix_tup (pv 1) pe_int (fun _ _ => rfl)) pe_str (nomark _)) (pss_one (ps_ret (pv 0))) pss_nil)
      (pss_cons (ps_asg (pe_call PO.ok hr (by rfl) PO.g PO.kp PO.b .nil pass0 (pa_cons (pv 1) pa_nil)) (pg_tup (by rfl) (pgs_cons (pg_name (i := 2) nd rfl (Or.inl rfl)) (pgs_cons (pg_name (i := 3) nd rfl (Or.inl rfl)) pgs_nil))))
      (pss_one (ps_ret (pe_dispM (pv 0) (pps_cons (pv 2) (pe_dget (hu_of hr) (pv 0) (pv 3) (fun _ _ => rfl)) (pps_cons (pv 3) (pe_dget (hu_of hr) (pv 0) (pv 2) (fun _ _ => rfl)) pps_nil)))))), ?_⟩
    refine ⟨_, rfl, a, _, 0, _, rfl, rfl, SqT.of ha, at0 e, rfl, _, rfl, ?_⟩
    by_cases isw : e.word = "swap"
    · rw [decide_eq_true (congrArg V.str isw)]
      refine iteF ?_
      obtain ⟨nm, mo, o, t, rfl⟩ := sw_ent isw
      · obtain ⟨ho, ht, ne⟩ := sw nm mo o t rfl
        refine ⟨_, rfl, a, _, rfl, ha, fun tp H1 s1 h1 => ?_⟩
        refine ⟨tp, _, rfl, SqT.of h1, rfl, _, _, rfl, _, _, rfl, rfl, ?_⟩
        have hd1 := s1 _ _ hd
        intro p np
        have ndp' : d ≠ p := ne_of_none hd1 np
        refine ⟨_, rfl, d, _, rfl, ndp', .inl ((upd_ne ndp').trans hd1), upd_same, fun z nz => ?_⟩
        have ndz : d ≠ z := fun e => by
          rw [← e, upd_ne ndp', upd_ne ndp', hd1] at nz
          cases nz
        have nzp : z ≠ p := fun e => by
          rw [e, upd_same] at nz
          cases nz
        have hd2 : upd (upd (upd H1 p (.dK [])) p (.dK (mergeK [] (kvT PL τ)))) z (.dK []) d = some (.dK (kvT PL τ)) := (upd_ne ndz).trans ((upd_ne ndp').trans ((upd_ne ndp').trans hd1))
        refine ⟨_, rfl, _, rfl, _, rfl, d, _, rfl, DGet.k (k := Sum.inr t) hd2 |> fun g => (valV_kvT (τ := τ) ht) ▸ g, ?_⟩
        refine ⟨_, rfl, _, rfl, _, rfl, d, _, rfl, DGet.k (k := Sum.inr o) hd2 |> fun g => (valV_kvT (τ := τ) ho) ▸ g, ?_⟩
        refine ⟨upd_same, (upd_ne nzp.symm).trans upd_same, nzp, (by rw [len_kvT]; omega), [(Sum.inr o, .str (τ t)), (Sum.inr t, .str (τ o))], rfl, (by show 2 ≤ 15; decide), ?_⟩
        refine q p _ (s1.trans fun b ob eb => ?_) ?_
        · have nb : b ≠ p := ne_of_none eb np
          have nbz : b ≠ z := fun e => by
            rw [← e, upd_ne nb, upd_ne nb, eb] at nz
            cases nz
          rw [upd_ne nb, upd_ne nbz, upd_ne nbz, upd_ne nb, upd_ne nb]
          exact eb
        · rw [upd_same, merge2 ho ht ne ndp]
          rfl
    · rw [decide_eq_false fun z => isw (V.str.inj z)]
      refine iteT ⟨_, rfl, q d H (fun _ _ z => z) ?_⟩
      rw [hd]
      cases e with
      | swap nm mo o t => exact absurd rfl isw
      | _ => rfl
end
/-- t[:k]: some tuple of the first so many -/
def rSlTo : V → Option Int → Option Int → Hp → VK → Prop := fun x lo hi H Q => ∃ (a : Addr) (xs : List V) (k : Nat), x = .ref a ∧ H a = some (.tup xs) ∧ lo = none ∧ hi = some (k : Int) ∧ ∀ (b : Addr) (H' : Hp), Same H H' → H' b = some (.tup (xs.take k)) → Q (.ref b) H'
theorem sl_to {X : Cx} : SlR X rSlTo := by
  rintro pins s σ H x v vl vu lo hi sl Q I rx hs pl pu ⟨a, xs, k, rfl, ha, rfl, rfl, q⟩
  refine sl_tupA pins s σ H _ v vl vu _ _ sl Q I rx hs pl pu ⟨a, xs, rfl, SqT.of ha, fun z => q a H (fun _ _ e => e) ?_, fun _ p np => q p _ (same_new np) ?_⟩
  · have := z.2
    rw [HT.sIx_nat] at this
    rw [ha, List.take_of_length_le (by omega)]
  · rw [upd_same, cut_take]
/-! ### entries along their tracks -/
def Ent.mp (τ : Str → Str) : Ent → Ent
  | .come n m g p k r => .come n m g (τ p) k r
  | .go n m g p k => .go n m g (τ p) k
  | .move n m g o t k => .move n m g (τ o) (τ t) k
  | .some_ n m g o t => .some_ n m g (τ o) (if t = "" then "" else τ t)
  | .swap n m o t => .swap n m (τ o) (τ t)
  | .count n m g p k h => .count n m g (τ p) k h
  | .look n m g p => .look n m g (τ p)
/-- the i-th entry along the tracks -/
def alg (es : List Ent) (i : Nat) : Ent := (es.getD i (.look "" 0 "" "")).mp (tau (es.take i))
def along (es : List Ent) : List Ent := (List.range es.length).map (alg es)
theorem along_len (es : List Ent) : (along es).length = es.length := by simp [along]
theorem along_at {es : List Ent} {i : Nat} {e : Ent} (h : es[i]? = some e) : (along es)[i]? = some (e.mp (tau (es.take i))) := by
  have lt : i < es.length := (List.getElem?_eq_some_iff.mp h).1
  unfold along
  rw [List.getElem?_map, List.getElem?_range lt]
  show some (alg es i) = _
  unfold alg
  rw [List.getD_eq_getElem?_getD, h]
  rfl
def spWithPl : Sp := fun vs H Q _ => ∃ (a b : Addr) (e : Ent) (τ : Str → Str), vs = [.ref a, .ref b] ∧ H a = some (.tup e.vals) ∧ H b = some (.tup ((e.places.map τ).map V.str)) ∧
  (∀ y ∈ e.places, τ y ≠ "") ∧ ∀ (t : Addr) (H' : Hp), Same H H' → H' t = some (.tup (e.mp τ).vals) → Q (.ref t) H'
theorem cut_head {xs : List V} {k : Nat} : cutV xs none (some (k : Int)) = xs.take k := by
  unfold cutV
  rw [HT.sIx_nat]
  show (xs.drop 0).take (min k xs.length - 0) = _
  rw [List.drop_zero, Nat.sub_zero, ← List.take_eq_take_min]
theorem cut_tail {xs : List V} {k : Nat} : cutV xs (some (k : Int)) none = xs.drop k := by
  unfold cutV
  rw [HT.sIx_nat, HT.sIx_none]
  by_cases h : k ≤ xs.length
  · rw [Nat.min_eq_left h, List.take_of_length_le (by rw [List.length_drop]; exact Nat.le_refl _)]
  · rw [Nat.min_eq_right (by omega), List.drop_of_length_le (by omega), List.drop_of_length_le (by omega), List.take_nil]
/-- a part of a tuple, made or the same -/
def rSlS : V → Option Int → Option Int → Hp → VK → Prop := fun x lo hi H Q => ∃ (a : Addr) (xs : List V), x = .ref a ∧ H a = some (.tup xs) ∧ ∀ (b : Addr) (H' : Hp), Same H H' → H' b = some (.tup (cutV xs lo hi)) → Q (.ref b) H'
theorem sl_S {X : Cx} : SlR X rSlS := by
  rintro pins s σ H x v vl vu lo hi sl Q I rx hs pl pu ⟨a, xs, rfl, ha, q⟩
  refine sl_tupA pins s σ H _ v vl vu _ _ sl Q I rx hs pl pu ⟨a, xs, rfl, SqT.of ha, fun z => q a H (fun _ _ e => e) ?_, fun _ p np => q p _ (same_new np) upd_same⟩
  rw [ha]
  unfold cutV
  rw [z.1, z.2, List.drop_zero, Nat.sub_zero, List.take_length]
/-- tuples one behind the other -/
theorem op_catS {X : Cx} : OpR X (binaryOp .Add) (fun x y H Q => ∃ (a b : Addr) (xs ys : List V), x = .ref a ∧ y = .ref b ∧ H a = some (.tup xs) ∧ H b = some (.tup ys) ∧ xs ≠ [] ∧ xs.length + ys.length ≤ sizeLine ∧
    ∀ (t : Addr) (H' : Hp), Same H H' → H' t = some (.tup (xs ++ ys)) → Q (.ref t) H') := by
  rintro pins s σ H x y v u Q I rx ry ⟨a, b, xs, ys, rfl, rfl, ha, hb, ne, hz, q⟩
  refine op_catT pins s σ H _ _ v u Q I rx ry ⟨a, b, xs, ys, rfl, rfl, SqT.of ha, SqT.of hb, ne, hz, fun z => q a H (fun _ _ e => e) ?_, fun _ p np => q p _ (same_new np) upd_same⟩
  rw [ha, z, List.append_nil]
theorem vals_len_e (e : Ent) : 5 ≤ e.vals.length ∧ e.vals.length ≤ 7 := by cases e <;> simp [Ent.vals, Ent.rest]
theorem places_le (e : Ent) : e.places.length ≤ 2 ∧ 1 ≤ e.places.length := by
  cases e with
  | some_ n m g o t =>
    by_cases z : t = ""
    · rw [show Ent.places (.some_ n m g o t) = [o] from if_pos z]
      exact ⟨by simp, by simp⟩
    · rw [show Ent.places (.some_ n m g o t) = [o, t] from if_neg z]
      exact ⟨by simp, by simp⟩
  | _ => exact ⟨by simp [Ent.places], by simp [Ent.places]⟩
theorem mp_vals3 {τ : Str → Str} {n : Str} {m : Int} {o t : Str} : (Ent.swap n m o t).vals.take 3 ++ ((Ent.swap n m o t).places.map τ).map V.str ++ (Ent.swap n m o t).vals.drop (3 + (((Ent.swap n m o t).places.map τ).map V.str).length) = ((Ent.swap n m o t).mp τ).vals := rfl
theorem mp_vals4 {τ : Str → Str} {e : Ent} (h : e.word ≠ "swap") : e.vals.take 4 ++ (e.places.map τ).map V.str ++ e.vals.drop (4 + ((e.places.map τ).map V.str).length) = (e.mp τ).vals := by
  cases e with
  | swap n m o t => exact absurd rfl h
  | some_ n m g o t =>
    by_cases z : t = ""
    · subst z
      simp [Ent.places, Ent.mp, Ent.vals, Ent.rest]
      exact ⟨rfl, rfl, rfl⟩
    · rw [show Ent.places (.some_ n m g o t) = [o, t] from if_neg z, show Ent.mp τ (.some_ n m g o t) = .some_ n m g (τ o) (τ t) from congrArg (Ent.some_ n m g (τ o)) (if_neg z)]
      rfl
  | _ => rfl
section
variable {P : Program} {w : World} {K : PySem.W.Frag} {mg : Str → Option Value} {base : Heap}
theorem scWithPl : FnScope ["entry", "places", "start"] ["entry", "places"] (defScope sWithPlaces) := ⟨rfl, rfl, rfl, by decide +kernel, rfl, by decide +kernel, by decide +kernel⟩
theorem ok_withPl {f : Addr} {fd : FuncData} (F : Fun K "with_places" "with_places" sWithPlaces f fd) (ml : mg "len" = none) : FnOk P w K mg base CX0 1 f fd ["entry", "places"] spWithPl := by
  refine F.ok scWithPl (fun vs H Q E h => ?_) (fun cdv A outer s H vs Q E hr h => ?_)
  · obtain ⟨a, b, e, τ, rfl, _⟩ := h
    rfl
  · obtain ⟨a, b, e, τ, rfl, ha, hb, full, q⟩ := h
    have nd := scWithPl.nd
    refine ⟨_, pss_cons (ps_set (i := 2) nd rfl (Or.inl rfl) (pe_ifExp (pt_cmpR op_eq (pe_ix ix_tup (pv 0) pe_int (fun _ _ => rfl)) pe_str (nomark _)) pe_int pe_int))
      (pss_one (ps_ret (pe_op op_catS (pe_op op_catS (pe_slice sl_S (pv 0) po_none (po_some (pv 2))) (pv 1)) (pe_slice sl_S (pv 0) (po_some (pe_op op_add (pv 2) (pe_callB call_len_seq (by rfl) ml PySem.boot_len (pa_cons (pv 1) pa_nil)))) po_none)))), ?_⟩
    obtain ⟨v5, v7⟩ := vals_len_e e
    obtain ⟨p2, p1⟩ := places_le e
    have lp : ((e.places.map τ).map V.str).length = e.places.length := by rw [List.length_map, List.length_map]
    have ne0 : ∀ {k : Nat}, 0 < k → e.vals.take k ≠ [] := fun hk z => by
      have := congrArg List.length z
      rw [List.length_take, List.length_nil] at this
      omega
    have lt0 : ∀ {k : Nat}, (e.vals.take k).length ≤ 7 := fun {k} => by
      rw [List.length_take]
      omega
    refine ⟨_, rfl, a, _, 0, _, rfl, rfl, SqT.of ha, at0 e, rfl, _, rfl, ite2 (fun z => ?_) (fun z => ?_)⟩
    · have isw : e.word = "swap" := V.str.inj (of_decide_eq_true z)
      refine ⟨_, rfl, _, rfl, 3, rfl, a, _, rfl, ha, fun p H1 s1 g1 => ?_⟩
      replace g1 : H1 p = some (.tup (e.vals.take 3)) := g1.trans (congrArg (fun z => some (HO.tup z)) (cut_head (k := 3)))
      refine ⟨_, rfl, p, b, _, _, rfl, rfl, g1, s1 _ _ hb, ne0 (by decide), small_sz (by have := @lt0 3; omega), fun t H2 s2 g2 => ?_⟩
      refine ⟨_, rfl, _, rfl, _, rfl, b, _, rfl, .inr (SqT.of (s2 _ _ (s1 _ _ hb))), 3, _, rfl, rfl, _, rfl, a, _, rfl, s2 _ _ (s1 _ _ ha), fun u H3 s3 g3 => ?_⟩
      have e0 : ((3 : Int) + (((e.places.map τ).map V.str).length : Int)) = ((3 + ((e.places.map τ).map V.str).length : Nat) : Int) := by omega
      rw [e0, cut_tail] at g3
      refine ⟨t, u, _, _, rfl, rfl, s3 _ _ g2, g3, ?_, small_sz (by rw [List.length_append, List.length_drop]; have := @lt0 3; omega), fun v H4 s4 g4 => q v H4 (s1.trans (s2.trans (s3.trans s4))) ?_⟩
      · exact fun z => ne0 (k := 3) (by decide) (List.append_eq_nil_iff.mp z).1
      · obtain ⟨nm, mo, o, tt, rfl⟩ := sw_ent isw
        rw [g4]
        exact congrArg (fun z => some (HO.tup z)) mp_vals3
    · have isw : e.word ≠ "swap" := fun y => z (decide_eq_true (congrArg V.str y))
      refine ⟨_, rfl, _, rfl, 4, rfl, a, _, rfl, ha, fun p H1 s1 g1 => ?_⟩
      replace g1 : H1 p = some (.tup (e.vals.take 4)) := g1.trans (congrArg (fun z => some (HO.tup z)) (cut_head (k := 4)))
      refine ⟨_, rfl, p, b, _, _, rfl, rfl, g1, s1 _ _ hb, ne0 (by decide), small_sz (by have := @lt0 4; omega), fun t H2 s2 g2 => ?_⟩
      refine ⟨_, rfl, _, rfl, _, rfl, b, _, rfl, .inr (SqT.of (s2 _ _ (s1 _ _ hb))), 4, _, rfl, rfl, _, rfl, a, _, rfl, s2 _ _ (s1 _ _ ha), fun u H3 s3 g3 => ?_⟩
      have e0 : ((4 : Int) + (((e.places.map τ).map V.str).length : Int)) = ((4 + ((e.places.map τ).map V.str).length : Nat) : Int) := by omega
      rw [e0, cut_tail] at g3
      refine ⟨t, u, _, _, rfl, rfl, s3 _ _ g2, g3, ?_, small_sz (by rw [List.length_append, List.length_drop]; have := @lt0 4; omega), fun v H4 s4 g4 => q v H4 (s1.trans (s2.trans (s3.trans s4))) ?_⟩
      · exact fun z => ne0 (k := 4) (by decide) (List.append_eq_nil_iff.mp z).1
      · rw [g4]
        exact congrArg (fun z => some (HO.tup z)) (mp_vals4 isw)
end
/-! ### the house with its counts told -/
/-- the same entry, but for what a count tells -/
def recount (e e' : Ent) : Prop := e' = e ∨ ∃ n m g pl k k' h, e = .count n m g pl k h ∧ e' = .count n m g pl k' h ∧ 0 ≤ k' ∧ k' ≤ 1000000000
theorem recount.from {e e' : Ent} (r : recount e e') {P G HL : List Str} (h : e.From P G HL) : e'.From P G HL := by
  rcases r with rfl | ⟨n, m, g, pl, k, k', hd, rfl, rfl, h0, h1⟩
  · exact h
  · exact ⟨h.1, h.2.1, h0, h1, h.2.2.2.2⟩
theorem recount.name {e e' : Ent} (r : recount e e') : e'.name = e.name := by
  rcases r with rfl | ⟨n, m, g, pl, k, k', hd, rfl, rfl, _⟩ <;> rfl
theorem recount.moment {e e' : Ent} (r : recount e e') : e'.moment = e.moment := by
  rcases r with rfl | ⟨n, m, g, pl, k, k', hd, rfl, rfl, _⟩ <;> rfl
theorem count_ent {e : Ent} (h : e.word = "count") : ∃ n m g p k hd, e = .count n m g p k hd := by
  cases e <;> first | exact ⟨_, _, _, _, _, _, rfl⟩ | (refine absurd h ?_; simp only [Ent.word]; decide +kernel)
def spLCnt : Sp := fun vs H Q _ => ∃ (p c : Addr) (n : Nat) (h : Addr) (P G : List Str) (es : List Ent) (k : Int), vs = [.ref p, .ref h, .int k] ∧ PenAt H p c n ∧ n ≤ 60000 ∧ HouseAt H h P G es ∧ P.length ≤ 6 ∧ G.length ≤ 3 ∧ es.length ≤ 30 ∧ 1 ≤ k ∧ k ≤ 40 ∧
  (∀ e ∈ es, ∃ HL, e.From P G HL) ∧ ∀ (h' : Addr) (es' : List Ent) (H' : Hp), Paired recount es es' → HouseAt H' h' P G es' → PenAt H' p c (n + 300) → But p H H' → Q (.ref h') H'
theorem put_leT {kvs : List (List Key × V)} {k : List Key} {v : V} : (putK kvs k v).length ≤ kvs.length + 1 := by
  unfold putK
  split
  · rw [List.length_map]
    exact Nat.le_succ _
  · rw [List.length_append]
    exact Nat.le_refl _
theorem val_put {kvs : List (List Key × V)} {k j : List Key} {v : Int} (h : ∃ i : Int, valV kvs j = some (.int i)) : ∃ i : Int, valV (putK kvs k (.int v)) j = some (.int i) := by
  rw [valV_put]
  by_cases z : j = k
  · rw [if_pos z]
    exact ⟨v, rfl⟩
  · rw [if_neg z]
    exact h
section
variable {P : Program} {w : World} {K : PySem.W.Frag} {mg : Str → Option Value} {base : Heap}
abbrev lcN : List Str := ["_law_pen_here", "_law_house_here", "_law_spoilt", "_law_stock", "_law_place", "_law_good", "_law_found", "_law_entry_here", "_law_many_here"]
theorem scLC : FnScope lcN ["_law_pen_here", "_law_house_here", "_law_spoilt"] (defScope sLCounted) := ⟨rfl, rfl, rfl, by decide +kernel, rfl, by decide +kernel, by decide +kernel⟩
set_option maxHeartbeats 8000000 in
theorem ok_lcnt {f fT fD fO : Addr} {fd fdT fdD fdO : FuncData} (F : Fun K "_law_counted" "_law_counted" sLCounted f fd) (T : TakeT P w K mg base fT fdT)
    (DN : DefT P w K mg base "_law_done" 2 fD fdD ["_law_pen_here", "_law_stock", "_law_entry_here", "_law_goods"] spDone) (TO : DefT P w K mg base "_law_told" 3 fO fdO ["_law_pen_here", "_law_many_here", "_law_spoilt"] spTold) (mt : mg "tuple" = none) :
    FnOk P w K mg base CX0 4 f fd ["_law_pen_here", "_law_house_here", "_law_spoilt"] spLCnt := by
  refine F.ok scLC (fun vs H Q E h => ?_) (fun cdv A outer s H vs Q E hr h => ?_)
  · obtain ⟨p, c, n, h, Ps, G, es, k, rfl, _⟩ := h
    rfl
  · obtain ⟨p, c, n, h, Ps, G, es, k, rfl, pen, hn, ho, lP, lG, lE, k1, k40, frm, q⟩ := h
    have nd := scLC.nd
    have hu := hu_of hr
    have hr1 : Room 1 _ := hr.mono (by decide)
    have hr2 : Room 2 _ := hr.mono (by decide)
    refine ⟨_, pss_cons (ps_set (i := 3) nd rfl (Or.inl rfl) pe_dnewT)
      (pss_cons (ps_for PassesOwn.never rfl (pi_tup (pe_ix ix_tup (pv 1) pe_int (fun _ _ => rfl))) (pg_name (i := 4) nd rfl (Or.inl rfl))
        (pss_one (ps_for PassesOwn.never rfl (pi_tup (pe_ix ix_tup (pv 1) pe_int (fun _ _ => rfl))) (pg_name (i := 5) nd rfl (Or.inl rfl))
          (pss_one (ps_dput hu (pv 3) (pe_tup (pa_cons (pv 4) (pa_cons (pv 5) pa_nil))) (pe_op op_add pe_int (pe_call T.ok hr1 (by rfl) T.g T.kp T.b .nil pass0 (pa_cons (pv 0) (pa_cons pe_int pa_nil)))) rfl)))))
      (pss_cons (ps_set (i := 6) nd rfl (Or.inl rfl) (pe_lst pa_nil))
      (pss_cons (ps_for PassesOwn.never rfl (pi_tup (pe_ix ix_tup (pv 1) pe_int (fun _ _ => rfl))) (pg_name (i := 7) nd rfl (Or.inl rfl))
        (C8.pss_cut (ps_if (pt_cmpR op_eq (pe_ix ix_tup (pv 7) pe_int (fun _ _ => rfl)) pe_str (nomark _))
          (pss_cons (ps_set (i := 8) nd rfl (Or.inl rfl) (pe_call TO.ok hr (by rfl) TO.g TO.kp TO.b .nil pass0 (pa_cons (pv 0) (pa_cons (pe_dget hu (pv 3) (pe_tup (pa_cons (pe_ix ix_tup (pv 7) pe_int (fun _ _ => rfl)) (pa_cons (pe_ix ix_tup (pv 7) pe_int (fun _ _ => rfl)) pa_nil))) (fun _ _ => rfl)) (pa_cons (pv 2) pa_nil)))))
          (pss_one (ps_set (i := 7) nd rfl (Or.inl rfl) (pe_op op_catS (pe_op op_catS (pe_slice sl_S (pv 7) po_none (po_some pe_int)) (pe_tup (pa_cons (pv 8) pa_nil))) (pe_slice sl_S (pv 7) (po_some pe_int) po_none)))))
          (pss_one (ps_expr (pe_call DN.ok hr2 (by rfl) DN.g DN.kp DN.b .nil pass0 (pa_cons (pv 0) (pa_cons (pv 3) (pa_cons (pv 7) (pa_cons (pe_ix ix_tup (pv 1) pe_int (fun _ _ => rfl)) pa_nil))))))))
        (pss_one (ps_expr (pe_bm PySem.F.plainAttrs_list PySem.F.slot_list_append PySem.F.type_list_append mt_append (pv 6) (pa_cons (pv 7) pa_nil))))))
      (pss_one (ps_ret (pe_tup (pa_cons (pe_ix ix_tup (pv 1) pe_int (fun _ _ => rfl)) (pa_cons (pe_ix ix_tup (pv 1) pe_int (fun _ _ => rfl)) (pa_cons (pe_callTy call_tuple_of (by rfl) mt (by decide +kernel) (pa_cons (pv 6) pa_nil)) pa_nil))))))))), ?_⟩
    refine fun d nd0 => ?_
    have s1 := @same_new _ _ (.dT []) nd0
    have hd1 : (upd H d (.dT [])) d = some (.dT []) := upd_same
    generalize upd H d (.dT []) = H1 at s1 hd1
    have pen1 := pen.same s1
    obtain ⟨hp, hg, he, tps, g1, g2, g3, g4, g5⟩ := (ho.on (TK.of s1)).ex
    have ndp : d ≠ p := by
      obtain ⟨kw, ns, a, l, g1, _⟩ := pen1.ex
      exact ne_of hd1 g1 (by intro z; cases z)
    have ndc : d ≠ c := by
      obtain ⟨kw, ns, a, l, _, _, _, _, _, g6, _⟩ := pen1.ex
      exact ne_of hd1 g6 (by intro z; cases z)
    have tk : ∀ {H' : Hp}, Bt2 p d H1 H' → TK H1 H' := fun b a xs e => by
      refine b _ _ e ?_ (ne_of e hd1 (by intro z; cases z))
      obtain ⟨kw, ns, a', l, g1, _⟩ := pen1.ex
      exact ne_of e g1 (by intro z; cases z)
    have sm : ∀ {H1 H2 : Hp}, Same H1 H2 → Bt2 p d H1 H2 := fun h b o e _ _ => h b o e
    refine ⟨_, rfl, h, _, 0, _, rfl, rfl, SqT.of g1, atI_nat (j := 0) rfl, hp, rfl, ⟨_, SqT.of g2⟩, ?_⟩
    refine for_tup (K := K) (a := hp) (xs := Ps.map V.str) (fun i σ H' => ∃ y4 y5, σ = [some (.ref p), some (.ref h), some (.int k), some (.ref d), y4, y5, none, none, none] ∧ PenAt H' p c (n + 3 * i) ∧ Bt2 p d H1 H' ∧ ∃ kvs, H' d = some (.dT kvs) ∧ kvs.length ≤ 3 * i ∧ ∀ x ∈ Ps.take i, ∀ g ∈ G, ∃ v : Int, valV kvs (stk x g) = some (.int v))
      ⟨_, _, rfl, pen1, fun b o e _ _ => e, [], hd1, Nat.le_refl _, fun x hx => absurd hx (by simp)⟩ (fun i σ H' _ z => by obtain ⟨_, _, _, _, z, _⟩ := z; exact SqT.of (tk z _ _ g2)) ?_ ?_
    · rintro i x σ H2 hx ⟨y4, y5, rfl, pen2, bt2, kvs, hd2, lk2, va2⟩
      rw [List.getElem?_map] at hx
      obtain ⟨x, hxi, rfl⟩ := Option.map_eq_some_iff.mp hx
      have lti : i < Ps.length := (List.getElem?_eq_some_iff.mp hxi).1
      refine ⟨_, rfl, h, _, 1, _, rfl, rfl, SqT.of (tk bt2 _ _ g1), atI_nat (j := 1) rfl, hg, rfl, ⟨_, SqT.of (tk bt2 _ _ g3)⟩, ?_⟩
      refine for_tup (K := K) (a := hg) (xs := G.map V.str) (fun j σ H' => ∃ y5, σ = [some (.ref p), some (.ref h), some (.int k), some (.ref d), some (.str x), y5, none, none, none] ∧ PenAt H' p c (n + 3 * i + j) ∧ Bt2 p d H1 H' ∧ ∃ kvs, H' d = some (.dT kvs) ∧ kvs.length ≤ 3 * i + j ∧ (∀ x ∈ Ps.take i, ∀ g ∈ G, ∃ v : Int, valV kvs (stk x g) = some (.int v)) ∧ ∀ g ∈ G.take j, ∃ v : Int, valV kvs (stk x g) = some (.int v))
        ⟨_, rfl, pen2, bt2, kvs, hd2, lk2, va2, fun x hx => absurd hx (by simp)⟩ (fun i σ H' _ z => by obtain ⟨_, _, _, z, _⟩ := z; exact SqT.of (tk z _ _ g3)) ?_ ?_
      · rintro j y σ H3 hy ⟨y5, rfl, pen3, bt3, kvs3, hd3, lk3, va3, vb3⟩
        rw [List.getElem?_map] at hy
        obtain ⟨g, hgj, rfl⟩ := Option.map_eq_some_iff.mp hy
        have ltj : j < G.length := (List.getElem?_eq_some_iff.mp hgj).1
        refine ⟨_, rfl, p, c, _, 9, rfl, pen3, by omega, by decide, by decide, fun r H4 _ _ pen4 bt4 => ⟨30, r, rfl, rfl, _, rfl, _, rfl, _, rfl, (by show 2 ≤ sizeLine; decide), fun k1 nk1 => ?_⟩⟩
        have s5 := @same_new _ _ (.tup [V.str x, .str g]) nk1
        have hd5 := s5 _ _ (bt4 _ _ hd3 ndp)
        refine ⟨d, _, rfl, DPut.t (k := stk x g) hd5 upd_same (small1000 (by omega)), ?_⟩
        refine ⟨_, rfl, (pen4.same s5).upd ndp ndc, ((bt3.tr (.of bt4)).tr (sm s5)).put, _, upd_same, Nat.le_trans put_leT (by omega), fun x' hx' g' hg' => val_put (va3 x' hx' g' hg'), fun g' hg' => ?_⟩
        rw [take_snoc hgj] at hg'
        rcases List.mem_append.mp hg' with z | z
        · exact val_put (vb3 g' z)
        · rw [List.mem_singleton.mp z, valV_put, if_pos rfl]
          exact ⟨_, rfl⟩
      · rintro σ H3 ⟨y5, rfl, pen3, bt3, kvs3, hd3, lk3, va3, vb3⟩
        rw [List.length_map] at pen3 lk3 vb3
        rw [List.take_length] at vb3
        refine ⟨_, _, rfl, pen3.mono (by omega), bt3, kvs3, hd3, by omega, fun x' hx' g' hg' => ?_⟩
        rw [take_snoc hxi] at hx'
        rcases List.mem_append.mp hx' with z | z
        · exact va3 x' z g' hg'
        · rw [List.mem_singleton.mp z]
          exact vb3 g' hg'
    rintro σ H2 ⟨y4, y5, rfl, pen2, bt2, kvs, hd2, lk2, va2⟩
    rw [List.length_map] at pen2 lk2 va2
    rw [List.take_length] at va2
    have st2 : StockAt H2 d Ps G := ⟨kvs, hd2, by omega, va2⟩
    replace pen2 := pen2.mono (m := n + 18) (by omega)
    clear hd2 lk2 va2
    refine ⟨Nat.zero_le _, fun L nL => ?_⟩
    have nLp : L ≠ p := fun z => pen2.there (z ▸ nL)
    have nLc : L ≠ c := fun z => pen2.cells (z ▸ nL)
    have nLd : L ≠ d := fun z => by
      obtain ⟨kvs, h1, _⟩ := st2
      rw [z, h1] at nL
      cases nL
    have nL1 : H1 L = none := by
      cases e : H1 L with
      | none => rfl
      | some o => rw [bt2 L o e nLp nLd] at nL; cases nL
    have s3 := @same_new _ _ (.lst []) nL
    have hL3 : (upd H2 L (.lst [])) L = some (.lst []) := upd_same
    generalize upd H2 L (.lst []) = H3 at s3 hL3
    have bt3 := bt2.tr (sm s3)
    refine ⟨_, rfl, h, _, 2, _, rfl, rfl, SqT.of (tk bt3 _ _ g1), atI_nat (j := 2) rfl, he, rfl, ⟨_, SqT.of (tk bt3 _ _ g4)⟩, ?_⟩
    refine for_tup (K := K) (a := he) (xs := tps.map V.ref) (fun i σ H' => ∃ (y7 y8 : Option V) (as : List Addr) (es' : List Ent), σ = [some (.ref p), some (.ref h), some (.int k), some (.ref d), y4, y5, some (.ref L), y7, y8] ∧ PenAt H' p c (n + 18 + 6 * i) ∧ Bt2 p d H1 H' ∧ StockAt H' d Ps G ∧ H' L = some (.lst (as.map V.ref)) ∧ EntsAt H' as es' ∧ Paired recount (es.take i) es')
      ⟨_, _, [], [], rfl, pen2.same s3, bt3, st2.same s3, hL3, .nil, .nil⟩ (fun i σ H' _ z => by obtain ⟨_, _, _, _, _, _, z, _⟩ := z; exact SqT.of (tk z _ _ g4)) ?_ ?_
    · rintro i x σ H4 hx ⟨y7, y8, as, es', rfl, pen4, bt4, st4, hL4, en4, rc⟩
      rw [List.getElem?_map] at hx
      obtain ⟨tp, htp, rfl⟩ := Option.map_eq_some_iff.mp hx
      obtain ⟨e, hes, hte0⟩ := g5.get htp
      have lti : i < es.length := (List.getElem?_eq_some_iff.mp hes).1
      have hte := tk bt4 _ _ hte0
      have me := List.mem_of_getElem? hes
      obtain ⟨HL, fr⟩ := frm e me
      have las : as.length = i := by
        have h1 := en4.len
        have h2 := Paired.length rc
        rw [List.length_take] at h2
        omega
      refine ⟨fun σ' H' => ∃ (t : Addr) (e' : Ent) (y8 : Option V), σ' = [some (.ref p), some (.ref h), some (.int k), some (.ref d), y4, y5, some (.ref L), some (.ref t), y8] ∧ recount e e' ∧ PenAt H' p c (n + 18 + 6 * (i + 1)) ∧ Bt2 p d H1 H' ∧ StockAt H' d Ps G ∧ H' L = some (.lst (as.map V.ref)) ∧ EntsAt H' as es' ∧ H' t = some (.tup e'.vals), ?_, ?_⟩
      · refine ⟨_, rfl, tp, _, 0, _, rfl, rfl, SqT.of hte, at0 e, rfl, _, rfl, ite2 (fun ew => ?_) (fun _ => ?_)⟩
        · obtain ⟨nm, mm, g, pl, k0, hd, rfl⟩ := count_ent (V.str.inj (of_decide_eq_true ew))
          obtain ⟨kvs, hd4, sk⟩ := st4
          obtain ⟨i1, v1⟩ := sk.val pl fr.2.1 g fr.1
          refine ⟨_, rfl, _, rfl, _, rfl, tp, _, 4, _, rfl, rfl, SqT.of hte, atI_nat (j := 4) rfl, _, rfl, tp, _, 3, _, rfl, rfl, SqT.of hte, atI_nat (j := 3) rfl, (by show 2 ≤ sizeLine; decide), fun k2 nk2 => ?_⟩
          have s5 := @same_new _ _ (.tup [V.str pl, .str g]) nk2
          have hk2 : (upd H4 k2 (.tup [V.str pl, .str g])) k2 = some (.tup [V.str pl, .str g]) := upd_same
          generalize upd H4 k2 (.tup [V.str pl, .str g]) = H5 at s5 hk2
          have d1 : DGet H5 d (.ref k2) (some (.int i1)) := by
            rw [← v1]
            exact DGet.t (s5 _ _ hd4) hk2
          refine ⟨d, _, rfl, d1, _, rfl, p, c, _, i1, k, rfl, pen4.same s5, by omega, k1, k40, fun r H6 r0 r1 pen6 bt6 => ?_⟩
          have b46 : Bt2 p d H4 H6 := (sm s5).tr (.of bt6)
          have bt46 := bt4.tr b46
          have hte6 := tk bt46 _ _ hte0
          refine ⟨_, rfl, 5, rfl, tp, _, rfl, hte6, fun u1 H7 s7 h7 => ?_⟩
          refine ⟨_, rfl, (by show 1 ≤ sizeLine; decide), fun u2 nu2 => ?_⟩
          have s8 := @same_new _ _ (.tup [V.int r]) nu2
          have hu2 : (upd H7 u2 (.tup [V.int r])) u2 = some (.tup [V.int r]) := upd_same
          generalize upd H7 u2 (.tup [V.int r]) = H8 at s8 hu2
          have h7' : H7 u1 = some (.tup [V.str "count", .str nm, .int mm, .str g, .str pl]) := h7.trans (congrArg (fun z => some (HO.tup z)) ((cut_head (k := 5)).trans rfl))
          refine ⟨u1, u2, _, _, rfl, rfl, s8 _ _ h7', hu2, by simp, (by show 6 ≤ sizeLine; decide), fun u3 H9 s9 h9 => ?_⟩
          have s69 := s7.trans (s8.trans s9)
          refine ⟨_, rfl, 6, rfl, tp, _, rfl, s69 _ _ hte6, fun u4 H10 s10 h10 => ?_⟩
          have h10' : H10 u4 = some (.tup [V.str hd]) := h10.trans (congrArg (fun z => some (HO.tup z)) ((cut_tail (k := 6)).trans rfl))
          refine ⟨u3, u4, _, _, rfl, rfl, s10 _ _ h9, h10', by simp, (by show 7 ≤ sizeLine; decide), fun u5 H11 s11 h11 => ?_⟩
          have sA := s69.trans (s10.trans s11)
          have bA := b46.tr (sm sA)
          refine ⟨u5, .count nm mm g pl r hd, _, rfl, .inr ⟨nm, mm, g, pl, k0, r, hd, rfl, rfl, r0, r1⟩, (pen6.same sA).mono (by omega), bt4.tr bA, ⟨kvs, sA _ _ (bt6 _ _ (s5 _ _ hd4) ndp), sk⟩, bA _ _ hL4 nLp nLd, en4.on fun a xs ea => bA _ _ ea ?_ (ne_of ea hd4 (by intro z; cases z)), h11⟩
          obtain ⟨kw, ns, a', l, g1', _⟩ := pen4.ex
          exact ne_of ea g1' (by intro z; cases z)
        · refine ⟨_, rfl, _, rfl, _, rfl, _, rfl, h, _, 1, _, rfl, rfl, SqT.of (tk bt4 _ _ g1), atI_nat (j := 1) rfl, p, c, _, d, tp, hg, Ps, G, HL, e, rfl, pen4, by omega, st4, hte, tk bt4 _ _ g3, fr, fun H5 st5 pen5 bt5 => ?_⟩
          obtain ⟨kvs, hd4, sk⟩ := st4
          have tp5 : TK H4 H5 := fun a xs ea => by
            refine bt5 _ _ ea ?_ (ne_of ea hd4 (by intro z; cases z))
            obtain ⟨kw, ns, a', l, g1', _⟩ := pen4.ex
            exact ne_of ea g1' (by intro z; cases z)
          exact ⟨tp, e, _, rfl, .inl rfl, pen5.mono (by omega), bt4.tr bt5, st5, bt5 _ _ hL4 nLp nLd, en4.on tp5, tp5 _ _ hte⟩
      · rintro σ' H5 ⟨t, e', z8, rfl, re, pen5, bt5, st5, hL5, en5, ht5⟩
        have kL : TK H5 (upd H5 L (.lst (as.map V.ref ++ [V.ref t]))) := TK.upd fun xs e => by rw [hL5] at e; cases e
        refine ⟨_, rfl, .inl ⟨rfl, _, SqL.of hL5⟩, _, rfl, L, _, _, rfl, rfl, hL5, (by rw [List.length_map]; exact small1000 (by omega)), ?_⟩
        refine ⟨_, _, as ++ [t], es' ++ [e'], rfl, pen5.upd nLp nLc, fun b o eb nb nb2 => (upd_ne (ne_of_none eb nL1)).trans (bt5 b o eb nb nb2), ?_, ?_, EntsAt.snoc (en5.on kL) (kL _ _ ht5), ?_⟩
        · obtain ⟨kvs, h1, h2⟩ := st5
          exact ⟨kvs, (upd_ne nLd.symm).trans h1, h2⟩
        · rw [upd_same, List.map_append]
          rfl
        · rw [take_snoc hes]
          exact Paired.snoc rc re
    · rintro σ H4 ⟨y7, y8, as, es', rfl, pen4, bt4, st4, hL4, en4, rc⟩
      have lt5 := g5.len
      rw [List.length_map] at pen4 rc
      rw [lt5, List.take_length] at rc
      refine ⟨_, rfl, h, _, 0, _, rfl, rfl, SqT.of (tk bt4 _ _ g1), atI_nat (j := 0) rfl, _, rfl, h, _, 1, _, rfl, rfl, SqT.of (tk bt4 _ _ g1), atI_nat (j := 1) rfl, _, rfl, L, _, rfl, .inl ⟨SqL.of hL4, fun t nt => ⟨(by show 3 ≤ sizeLine; decide), fun h' nh' => ?_⟩⟩⟩
      have s5 := @same_new _ _ (.tup (as.map V.ref)) nt
      have s6 := @same_new _ _ (.tup [V.ref hp, .ref hg, .ref t]) nh'
      have s56 := s5.trans s6
      refine q h' es' _ rc ⟨hp, hg, t, as, upd_same, s56 _ _ (tk bt4 _ _ g2), s56 _ _ (tk bt4 _ _ g3), s6 _ _ upd_same, en4.on (TK.of s56)⟩ ((pen4.mono (by omega)).same s56) fun b o e nb => ?_
      exact s56 _ _ (bt4 b o (s1 b o e) nb (ne_of_none e nd0))
end
/-! ### the names are names, and unlike -/
theorem Lc_one : ∀ i < 26, ∀ j < 26, Lc i = Lc j → i = j := by decide +kernel
theorem nw_len {b : Nat} {B : List Nat} {sp t st : Nat} (ok : NrOk b B sp t st) (k : Nat) : (nw B sp t st k).length = B.length + 1 + (if k % 2 = 1 then 1 else 0) + (if 26 ≤ k then 2 else 0) := by
  have := ok.s
  unfold nw moreL
  simp only [List.length_append, List.length_take, List.length_drop, List.length_cons, List.length_nil]
  split <;> split <;> simp <;> omega
theorem nw_at {b : Nat} {B : List Nat} {sp t st : Nat} (ok : NrOk b B sp t st) (k : Nat) : (nw B sp t st k)[sp]? = some (Lc ((t + st * k) % 26)) := by
  have h1 := ok.s
  have h : (B.take sp).length = sp := by rw [List.length_take]; omega
  unfold nw
  rw [List.append_assoc, List.append_assoc, List.getElem?_append_right (by omega), h, Nat.sub_self]
  rfl
theorem nw_one {b : Nat} {B : List Nat} {sp t st : Nat} (ok : NrOk b B sp t st) {k j : Nat} (hk : k < 30) (hj : j < 30) (e : nw B sp t st k = nw B sp t st j) : k = j := by
  have l := congrArg List.length e
  rw [nw_len ok, nw_len ok] at l
  have a := nw_at ok k
  rw [e, nw_at ok j] at a
  have c := Lc_one _ (Nat.mod_lt _ (by decide)) _ (Nat.mod_lt _ (by decide)) (Option.some.inj a)
  have par : k % 2 = j % 2 ∧ (26 ≤ k ↔ 26 ≤ j) := by
    split at l <;> split at l <;> split at l <;> split at l <;> omega
  rcases ok.st with rfl | rfl | rfl | rfl <;> omega
theorem nw_name {b : Nat} {B : List Nat} {sp t st : Nat} (ok : NrOk b B sp t st) {k : Nat} (h : b + (if 26 ≤ k then 4 else 2) ≤ 8) : nameB (sc (nw B sp t st k)) = true := by
  have l := nw_len ok k
  have hb := ok.b
  have le8 : (nw B sp t st k).length ≤ 8 ∧ 1 ≤ (nw B sp t st k).length := by
    rw [l]
    split <;> split <;> split at h <;> omega
  unfold nameB
  rw [Bool.and_eq_true, Bool.and_eq_true]
  refine ⟨⟨decide_eq_true (by rw [sc_len]; exact le8.2), decide_eq_true (by rw [sc_len]; exact le8.1)⟩, List.all_eq_true.mpr fun x hx => decide_eq_true ?_⟩
  have lc : Lc ((t + st * k) % 26) ∈ abc.cps.toList := Lc_in (Nat.mod_lt _ (by decide))
  have hx' : x ∈ nw B sp t st k := hx
  unfold nw moreL at hx'
  simp only [List.mem_append] at hx'
  rcases hx' with ((h1 | h1) | h1) | h1 | h1
  · exact ok.bl x (List.mem_of_mem_take h1)
  · rw [List.mem_singleton.mp h1]
    exact lc
  · exact ok.bl x (List.mem_of_mem_drop h1)
  · split at h1
    · rw [List.mem_singleton.mp h1]
      exact lc
    · cases h1
  · split at h1
    · simp only [List.mem_cons, List.not_mem_nil, or_false] at h1
      rcases h1 with rfl | rfl <;> decide +kernel
    · cases h1
/-! ### the law's house -/
def spBHouse : Sp := fun vs H Q _ => ∃ (p c : Addr) (n : Nat) (wl : Addr) (ws : List Str), vs = [.ref p, .ref wl] ∧ PenAt H p c n ∧ n ≤ 20000 ∧ StrsAt H wl ws ∧ ws ≠ [] ∧ ws.length ≤ 100 ∧
  ∀ (h : Addr) (P G : List Str) (es : List Ent) (m : Nat) (H' : Hp), HouseAt H' h P G es → Good P G es m → m ≤ 30 → PenAt H' p c (n + 2000) → But p H H' → Q (.ref h) H'
theorem ents_pairs {H : Hp} : ∀ {pr : List (Addr × Ent)}, (∀ x ∈ pr, H x.1 = some (.tup x.2.vals)) → EntsAt H (pr.map (·.1)) (pr.map (·.2))
  | [], _ => .nil
  | x :: r, h => .cons (h x List.mem_cons_self) (ents_pairs fun y hy => h y (List.mem_cons_of_mem _ hy))
theorem nw_nodup {b : Nat} {B : List Nat} {sp t st : Nat} (ok : NrOk b B sp t st) {m o : Nat} (h : m + o ≤ 30) : ((List.range m).map fun k => sc (nw B sp t st (k + o))).Nodup := by
  refine List.pairwise_map.mpr (List.Pairwise.imp_of_mem (fun {x y} ha hb ne q => ne ?_) List.nodup_range)
  have h1 := List.mem_range.mp ha
  have h2 := List.mem_range.mp hb
  have := nw_one ok (k := x + o) (j := y + o) (by omega) (by omega) (congrArg (fun z : Str => z.cps.toList) q)
  omega
theorem rc_names {es es' : List Ent} (h : Paired recount es es') : es'.map Ent.name = es.map Ent.name := by
  induction h with
  | nil => rfl
  | cons a _ ih => rw [List.map_cons, List.map_cons, ih, a.name]
theorem rc_mem {es es' : List Ent} (h : Paired recount es es') : ∀ e' ∈ es', ∃ e ∈ es, recount e e' := by
  induction h with
  | nil => exact fun e' z => absurd z List.not_mem_nil
  | cons a _ ih =>
    intro e' z
    rcases List.mem_cons.mp z with rfl | z
    · exact ⟨_, List.mem_cons_self, a⟩
    · obtain ⟨e, h1, h2⟩ := ih e' z
      exact ⟨e, List.mem_cons_of_mem _ h1, h2⟩
def prV (x : Addr × Ent) : V × PyData := (.ref x.1, ordD x.2)
section
variable {P : Program} {w : World} {K : PySem.W.Frag} {mg : Str → Option Value} {base : Heap}
abbrev bhN : List Str := ["_law_pen_here", "_law_words", "_law_way", "_law_size", "_law_one", "_law_other", "_law_k", "_law_places", "_law_goods", "_law_world", "_law_found", "_law_house_here"]
theorem scBH : FnScope bhN ["_law_pen_here", "_law_words"] (defScope sHouse) := ⟨rfl, rfl, rfl, by decide +kernel, rfl, by decide +kernel, by decide +kernel⟩
set_option maxHeartbeats 8000000 in
theorem ok_bhouse {f : Addr} {fd : FuncData} (F : Fun K "_law_house" "_law_house" sHouse f fd)
    {fT fN fA fM fE fO fC : Addr} {dT dN dA dM dE dO dC : FuncData} (T : TakeT P w K mg base fT dT)
    (NR : DefT P w K mg base "_law_namer" 2 fN dN ["_law_pen_here", "_law_most"] spNamer)
    (NM : DefT P w K mg base "_law_name" 1 fA dA ["_law_namer_here", "_law_k"] spName)
    (MO : DefT P w K mg base "_law_moments" 2 fM dM ["_law_pen_here"] spMoms)
    (EN : DefT P w K mg base "_law_entry" 3 fE dE ["_law_pen_here", "_law_world", "_law_name_here", "_law_word"] spEnt)
    (O : DefT P w K mg base "_law_order" 1 fO dO ["_law_entry_here"] spOrd)
    (LC : DefT P w K mg base "_law_counted" 4 fC dC ["_law_pen_here", "_law_house_here", "_law_spoilt"] spLCnt)
    (mr : mg "range" = none) (ms : mg "sorted" = none) (mt : mg "tuple" = none) (ml : mg "len" = none) (mi : mg "int" = none) : FnOk P w K mg base CX0 5 f fd ["_law_pen_here", "_law_words"] spBHouse := by
  refine F.ok scBH (fun vs H Q E h => ?_) (fun cdv A outer s H vs Q E hr h => ?_)
  · obtain ⟨p, c, n, wl, ws, rfl, _⟩ := h
    rfl
  · obtain ⟨p, c, n, wl, ws, rfl, pen, hn, hws, wne, w100, q⟩ := h
    have nd := scBH.nd
    have hr1 : Room 1 _ := hr.mono (by decide)
    have hr2 : Room 2 _ := hr.mono (by decide)
    have hr3 : Room 3 _ := hr.mono (by decide)
    refine ⟨_, pss_cons (ps_set (i := 2) nd rfl (Or.inl rfl) (pe_call T.ok hr1 (by rfl) T.g T.kp T.b .nil pass0 (pa_cons (pv 0) (pa_cons pe_int pa_nil))))
      (pss_cons (ps_set (i := 3) nd rfl (Or.inl rfl) pe_int)
      (C8.pss_cut (ps_if (pt_cmpR op_gt (pv 2) pe_int (nomark _)) (pss_one (ps_set (i := 3) nd rfl (Or.inl rfl) (pe_call T.ok hr1 (by rfl) T.g T.kp T.b .nil pass0 (pa_cons (pv 0) (pa_cons (pe_ix ix_list (pe_lst (pa_cons pe_int (pa_cons pe_int pa_nil))) (pe_op op_mod (pv 2) pe_int) (fun _ _ => rfl)) pa_nil))))) pss_nil)
      (pss_cons (ps_set (i := 4) nd rfl (Or.inr rfl) (pe_call NR.ok hr2 (by rfl) NR.g NR.kp NR.b .nil pass0 (pa_cons (pv 0) (pa_cons pe_int pa_nil))))
      (pss_cons (ps_set (i := 5) nd rfl (Or.inr rfl) (pv 4))
      (C8.pss_cut (ps_if (PW.pt (pw_or (pt_cmpR op_gt (pv 3) pe_int (nomark _)) (pw_or1 (pt_cmpR op_eq (pe_call T.ok hr1 (by rfl) T.g T.kp T.b .nil pass0 (pa_cons (pv 0) (pa_cons pe_int pa_nil))) pe_int (nomark _)))))
          (pss_one (ps_set (i := 5) nd rfl (Or.inr rfl) (pe_call NR.ok hr2 (by rfl) NR.g NR.kp NR.b .nil pass0 (pa_cons (pv 0) (pa_cons (pe_ix ix_list (pe_lst (pa_cons pe_int (pa_cons pe_int pa_nil))) (pe_callTy call_int1 (by rfl) mi (by decide +kernel) (pa_cons (pe_cmpR op_gt (pv 3) pe_int (nomark _)) pa_nil)) (fun _ _ => rfl)) pa_nil))))) pss_nil)
      (pss_cons (ps_setLc (i := 7) (own := [("_law_k", 6)]) (g := gName 6) (tt := tYes) (te := tCall spName [] E0 (tCons (tVar 4) (tCons (tVar 6) tNil))) rfl nd rfl rfl (sw_true rfl rfl rfl (by decide +kernel))
          (pi_range1 rfl mr (pa_cons (pe_op op_add pe_int (pe_call T.ok hr1 (by rfl) T.g T.kp T.b .nil pass0 (pa_cons (pv 0) (pa_cons pe_int pa_nil)))) pa_nil)) (blkOk_by (N := bhN) (sc := defScope sHouse) (by decide +kernel)) (fun _ _ _ _ _ => pg_name (i := 6) nd rfl (Or.inl rfl)) (fun _ _ _ _ _ => pts_nil)
          (fun _ _ _ _ _ => pe_call NM.ok hr1 (by rfl) NM.g NM.kp NM.b .nil pass0 (pa_cons (pv 4) (pa_cons (pv 6) pa_nil))))
      (pss_cons (ps_setLc (i := 8) (own := [("_law_k", 6)]) (g := gName 6) (tt := tYes) (te := tCall spName [] E0 (tCons (tVar 4) (tCons (tOp (rI0 fun i j => .int (i + j)) (tVar 6) (tC (V.int 2))) tNil))) rfl nd rfl rfl (sw_true rfl rfl rfl (by decide +kernel))
          (pi_range1 rfl mr (pa_cons (pe_op op_add pe_int (pe_call T.ok hr1 (by rfl) T.g T.kp T.b .nil pass0 (pa_cons (pv 0) (pa_cons pe_int pa_nil)))) pa_nil)) (blkOk_by (N := bhN) (sc := defScope sHouse) (by decide +kernel)) (fun _ _ _ _ _ => pg_name (i := 6) nd rfl (Or.inl rfl)) (fun _ _ _ _ _ => pts_nil)
          (fun _ _ _ _ _ => pe_call NM.ok hr1 (by rfl) NM.g NM.kp NM.b .nil pass0 (pa_cons (pv 4) (pa_cons (pe_op op_add (pv 6) pe_int) pa_nil))))
      (pss_cons (ps_set (i := 9) nd rfl (Or.inl rfl) (pe_tup (pa_cons (pv 7) (pa_cons (pv 8) (pa_cons (pe_call MO.ok hr2 (by rfl) MO.g MO.kp MO.b .nil pass0 (pa_cons (pv 0) pa_nil))
          (pa_cons (pe_lc (own := [("_law_k", 6)]) (g := gName 6) (tt := tYes) (te := tCall spName [] E0 (tCons (tVar 5) (tCons (tVar 6) tNil))) rfl nd (pi_range1 rfl mr (pa_cons pe_int pa_nil)) (blkOk_by (N := bhN) (sc := defScope sHouse) (by decide +kernel)) (fun _ _ _ _ _ => pg_name (i := 6) nd rfl (Or.inl rfl)) (fun _ _ _ _ _ => pts_nil)
            (fun _ _ _ _ _ => pe_call NM.ok hr1 (by rfl) NM.g NM.kp NM.b .nil pass0 (pa_cons (pv 5) (pa_cons (pv 6) pa_nil)))) pa_nil))))))
      (pss_cons (ps_set (i := 10) nd rfl (Or.inl rfl) (pe_lst pa_nil))
      (pss_cons (ps_for PassesOwn.never rfl (pi_range1 rfl mr (pa_cons (pv 3) pa_nil)) (pg_name (i := 6) nd rfl (Or.inl rfl))
        (pss_one (ps_expr (pe_bm PySem.F.plainAttrs_list PySem.F.slot_list_append PySem.F.type_list_append mt_append (pv 10) (pa_cons (pe_call EN.ok hr3 (by rfl) EN.g EN.kp EN.b .nil pass0 (pa_cons (pv 0) (pa_cons (pv 9) (pa_cons (pe_call NM.ok hr1 (by rfl) NM.g NM.kp NM.b .nil pass0 (pa_cons (pv 5) (pa_cons (pv 6) pa_nil)))
          (pa_cons (pe_ix ix_list (pv 1) (pe_call T.ok hr1 (by rfl) T.g T.kp T.b .nil pass0 (pa_cons (pv 0) (pa_cons (pe_callB call_len_seq (by rfl) ml PySem.boot_len (pa_cons (pv 1) pa_nil)) pa_nil))) (fun _ _ => rfl)) pa_nil))))) pa_nil)))))
      (pss_cons (ps_set (i := 11) nd rfl (Or.inl rfl) (pe_tup (pa_cons (pe_callTy call_tuple_of (by rfl) mt (by decide +kernel) (pa_cons (pe_callB cr_sortedS (by rfl) ms (by decide +kernel) (pa_cons (pv 7) pa_nil)) pa_nil))
        (pa_cons (pe_callTy call_tuple_of (by rfl) mt (by decide +kernel) (pa_cons (pe_callB cr_sortedS (by rfl) ms (by decide +kernel) (pa_cons (pv 8) pa_nil)) pa_nil))
        (pa_cons (pe_callTy call_tuple_of (by rfl) mt (by decide +kernel) (pa_cons (pe_callBK (cr_sortK O.ok hr3 O.b) (by rfl) ms (by decide +kernel) (pa_cons (pv 10) pa_nil) (pk_cons (pe_glob (v := .ref fO) (by rfl) O.g rfl) pk_nil)) pa_nil)) pa_nil)))))
      (pss_one (ps_ret (pe_call LC.ok hr (by rfl) LC.g LC.kp LC.b .nil pass0 (pa_cons (pv 0) (pa_cons (pv 11) (pa_cons (pe_ix ix_list (pe_lst (pa_cons pe_int (pa_cons pe_int (pa_cons pe_int pa_nil)))) (pe_call T.ok hr1 (by rfl) T.g T.kp T.b .nil pass0 (pa_cons (pv 0) (pa_cons pe_int pa_nil))) (fun _ _ => rfl)) pa_nil))))))))))))))))), ?_⟩
    refine ⟨_, rfl, p, c, n, 8, rfl, pen, by omega, by decide, by decide, fun r1 H1 a1 b1 pen1 bt1 => ?_⟩
    refine ⟨fun σ' H' => ∃ sz : Nat, σ' = [some (.ref p), some (.ref wl), some (.int r1), some (.int (sz : Int)), none, none, none, none, none, none, none, none] ∧ sz ≤ 30 ∧ PenAt H' p c (n + 2) ∧ But p H H', ?_, ?_⟩
    · refine ⟨_, rfl, r1, 0, rfl, rfl, _, rfl, ite2 (fun _ => ?_) (fun _ => ⟨16, rfl, by decide, pen1.mono (by omega), bt1⟩)⟩
      obtain ⟨lim, hlim, lin⟩ := at_ints (ns := [6, 12]) (r := r1 % 2) (Int.emod_nonneg _ (by decide)) (Int.emod_lt_of_pos _ (by decide))
      have l15 : 1 ≤ lim ∧ lim ≤ 12 := by
        simp only [List.mem_cons, List.not_mem_nil, or_false] at lin
        omega
      refine ⟨_, rfl, (by show 2 ≤ sizeLine; decide), fun l nl => ?_⟩
      have sl := @same_new _ _ (.lst [V.int 6, .int 12]) nl
      refine ⟨_, rfl, r1, 2, rfl, rfl, (by show (0 : Int) < 2; decide), l, _, _, _, rfl, rfl, SqL.of upd_same, hlim, p, c, n + 1, lim, rfl, pen1.same sl, by omega, by omega, by omega, fun r2 H2 a2 b2 pen2 bt2 => ?_⟩
      obtain ⟨z, rfl⟩ : ∃ z : Nat, r2 = z := ⟨r2.toNat, (Int.toNat_of_nonneg a2).symm⟩
      exact ⟨z, rfl, by omega, pen2, (bt1.tr (.of sl)).tr bt2⟩
    rintro σ' H2 ⟨sz, rfl, sz30, pen2, bt2⟩
    refine ⟨_, rfl, p, c, n + 2, 7, rfl, pen2, by omega, by decide, by decide, fun aO B sp t st H3 naO okO hO pen3 bt3 => ?_⟩
    have bt03 := bt2.tr bt3
    have naOp : aO ≠ p := by
      obtain ⟨kw, ns, a', l, g1, _⟩ := pen3.ex
      exact ne_of hO g1 (by intro z; cases z)
    obtain ⟨lim, hlim, l1, l7, l5⟩ : ∃ lim : Int, atI [V.int 7, .int 5] (if decide ((26 : Int) < (sz : Int)) = true then 1 else 0) = some (.int lim) ∧ 1 ≤ lim ∧ lim ≤ 7 ∧ (26 < sz → lim ≤ 5) := by
      by_cases z : 26 < sz
      · rw [decide_eq_true (by omega), if_pos rfl]
        exact ⟨5, atI_nat (j := 1) rfl, by decide, by decide, fun _ => by decide⟩
      · rw [decide_eq_false (by omega), if_neg (by decide)]
        exact ⟨7, atI_nat (j := 0) rfl, by decide, by decide, fun h => absurd h z⟩
    refine ⟨_, rfl, ?_⟩
    refine ⟨fun σ' H' => ∃ (aX : Addr) (b : Nat) (B' : List Nat) (sp' t' st' : Nat), σ' = [some (.ref p), some (.ref wl), some (.int r1), some (.int (sz : Int)), some (.ref aO), some (.ref aX), none, none, none, none, none, none] ∧ NrOk b B' sp' t' st' ∧ b ≤ 6 ∧ (26 < sz → b ≤ 4) ∧ H' aX = some (nrV B' sp' t' st') ∧ H' aO = some (nrV B sp t st) ∧ PenAt H' p c (n + 30) ∧ But p H H', ?_, ?_⟩
    · refine ⟨_, rfl, (sz : Int), 26, rfl, rfl, _, rfl, ite2 (fun _ => ?_) (fun e26 => ?_)⟩
      · refine ⟨_, rfl, (by show 2 ≤ sizeLine; decide), fun l nl => ?_⟩
        have sl := @same_new _ _ (.lst [V.int 7, .int 5]) nl
        refine ⟨_, rfl, (sz : Int), 26, rfl, rfl, .inr ⟨_, rfl, l, _, _, _, rfl, rfl, SqL.of upd_same, hlim, p, c, _, lim, rfl, pen3.same sl, by omega, by omega, by omega, fun aX B' sp' t' st' Hy na ok h pen' bt' => ?_⟩⟩
        exact ⟨aX, _, B', sp', t', st', rfl, ok, by omega, fun z => by have := l5 z; omega, h, bt' _ _ (sl _ _ hO) naOp, pen'.mono (by omega), (bt03.tr (.of sl)).tr bt'⟩
      · refine ⟨_, rfl, p, c, n + 12, 2, rfl, pen3, by omega, by decide, by decide, fun r4 H4 _ _ pen4 bt4 => ⟨rfl, _, rfl, ite2 (fun _ => ?_) (fun _ => ?_)⟩⟩
        · refine ⟨_, rfl, (by show 2 ≤ sizeLine; decide), fun l nl => ?_⟩
          have sl := @same_new _ _ (.lst [V.int 7, .int 5]) nl
          refine ⟨_, rfl, (sz : Int), 26, rfl, rfl, .inr ⟨_, rfl, l, _, _, _, rfl, rfl, SqL.of upd_same, hlim, p, c, _, lim, rfl, pen4.same sl, by omega, by omega, by omega, fun aX B' sp' t' st' Hy na ok h pen' bt' => ?_⟩⟩
          exact ⟨aX, _, B', sp', t', st', rfl, ok, by omega, fun z => by have := l5 z; omega, h, bt' _ _ (sl _ _ (bt4 _ _ hO naOp)) naOp, pen'.mono (by omega), ((bt03.tr bt4).tr (.of sl)).tr bt'⟩
        · exact ⟨aO, _, B, sp, t, st, rfl, okO, by decide, fun z => absurd (decide_eq_true (show (26 : Int) < (sz : Int) by omega)) e26, bt4 _ _ hO naOp, bt4 _ _ hO naOp, pen4.mono (by omega), bt03.tr bt4⟩
    rintro σ' H4 ⟨aX, b, B2, sp2, t2, st2, rfl, ok2, b6, b4, hX, hO4, pen4, bt4⟩
    have okO6 : NrOk 6 B sp t st := okO
    have naXp : aX ≠ p := by
      obtain ⟨kw, ns, a', l, g1, _⟩ := pen4.ex
      exact ne_of hX g1 (by intro z; cases z)
    -- the places
    refine ⟨_, rfl, p, c, n + 30, 6, rfl, pen4, by omega, by decide, by decide, fun r5 H5 a5 b5 pen5 bt5 => ⟨1, r5, rfl, rfl, 1 + r5, rfl, by omega, by omega, fun D1 nD1 => ?_⟩⟩
    have hO5 := bt5 _ _ hO4 naOp
    have hX5 := bt5 _ _ hX naXp
    refine lc_range (lo := 0) (n := (1 + r5).toNat) (fun j H' => Same H5 H' ∧ H' D1 = some (.lst (((List.range j).map fun k => sc (nw B sp t st k)).map V.str))) ⟨same_new nD1, upd_same⟩ ?_ ?_
    · rintro j H6 hj ⟨sm, hD⟩
      refine ⟨rfl, yesT ⟨_, rfl, _, rfl, aO, 6, B, sp, t, st, j, (by rw [Int.zero_add]; rfl), okO6, by decide, by omega, sm _ _ hO5, _, hD, ?_, fun b o e => (upd_ne (ne_of_none e nD1)).trans (sm b o e), ?_⟩⟩
      · rw [List.length_map, List.length_map, List.length_range]
        exact small1000 (by omega)
      · rw [upd_same, List.range_succ, List.map_append, List.map_append]
        rfl
    rintro H6 ⟨s6, hD1⟩
    -- the goods
    refine ⟨_, rfl, p, c, n + 31, 3, rfl, pen5.same s6, by omega, by decide, by decide, fun r7 H7 a7 b7 pen7 bt7 => ⟨1, r7, rfl, rfl, 1 + r7, rfl, by omega, by omega, fun D2 nD2 => ?_⟩⟩
    have hO7 := bt7 _ _ (s6 _ _ hO5) naOp
    have hX7 := bt7 _ _ (s6 _ _ hX5) naXp
    have hD17 := pen_l (pen5.same s6) bt7 hD1
    refine lc_range (lo := 0) (n := (1 + r7).toNat) (fun j H' => Same H7 H' ∧ H' D2 = some (.lst (((List.range j).map fun k => sc (nw B sp t st (k + 2))).map V.str))) ⟨same_new nD2, upd_same⟩ ?_ ?_
    · rintro j H8 hj ⟨sm, hD⟩
      refine ⟨rfl, yesT ⟨_, rfl, _, rfl, 0 + (j : Int), 2, rfl, rfl, aO, 6, B, sp, t, st, j + 2, (by rw [Int.zero_add]; rfl), okO6, by decide, by omega, sm _ _ hO7, _, hD, ?_, fun b o e => (upd_ne (ne_of_none e nD2)).trans (sm b o e), ?_⟩⟩
      · rw [List.length_map, List.length_map, List.length_range]
        exact small1000 (by omega)
      · rw [upd_same, List.range_succ, List.map_append, List.map_append]
        rfl
    rintro H8 ⟨s8, hD2⟩
    -- moments and hands
    refine ⟨_, rfl, _, rfl, _, rfl, p, c, n + 32, rfl, pen7.same s8, by omega, fun D3 ns H9 nD3 hD3 mom pen9 bt9 => ?_⟩
    have hX9 := bt9 _ _ (s8 _ _ hX7) naXp
    have hD19 := pen_l (pen7.same s8) bt9 (s8 _ _ hD17)
    have hD29 := pen_l (pen7.same s8) bt9 hD2
    refine ⟨3, rfl, by decide, by decide, fun D4 nD4 => ?_⟩
    refine lc_range (lo := 0) (n := (3 : Int).toNat) (fun j H' => Same H9 H' ∧ H' D4 = some (.lst (((List.range j).map fun k => sc (nw B2 sp2 t2 st2 k)).map V.str))) ⟨same_new nD4, upd_same⟩ ?_ ?_
    · rintro j H10 hj ⟨sm, hD⟩
      have hj3 : j < 3 := hj
      refine ⟨rfl, yesT ⟨_, rfl, _, rfl, aX, b, B2, sp2, t2, st2, j, (by rw [Int.zero_add]; rfl), ok2, b6, by omega, sm _ _ hX9, _, hD, ?_, fun b o e => (upd_ne (ne_of_none e nD4)).trans (sm b o e), ?_⟩⟩
      · rw [List.length_map, List.length_map, List.length_range]
        exact small1000 (by omega)
      · rw [upd_same, List.range_succ, List.map_append, List.map_append]
        rfl
    rintro H10 ⟨s10, hD4⟩
    refine ⟨(by show 4 ≤ sizeLine; decide), fun wo nwo => ⟨Nat.zero_le _, fun L nL => ?_⟩⟩
    have s11 := @same_new _ _ (.tup [V.ref D1, .ref D2, .ref D3, .ref D4]) nwo
    have s12 := @same_new _ _ (.lst []) nL
    have hwo : (upd (upd H10 wo (.tup [V.ref D1, .ref D2, .ref D3, .ref D4])) L (.lst [])) wo = some (.tup [V.ref D1, .ref D2, .ref D3, .ref D4]) := s12 _ _ upd_same
    have hL : (upd (upd H10 wo (.tup [V.ref D1, .ref D2, .ref D3, .ref D4])) L (.lst [])) L = some (.lst []) := upd_same
    have s912 := s10.trans (s11.trans s12)
    have pen12 := pen9.same s912
    generalize upd (upd H10 wo (.tup [V.ref D1, .ref D2, .ref D3, .ref D4])) L (.lst []) = H12 at s12 hwo hL s912 pen12
    have bt12 : But p H H12 := ((((bt4.tr bt5).tr (.of s6)).tr bt7).tr (.of s8)).tr (bt9.tr (.of s912))
    have w12 : Wld H12 D1 D2 D3 D4 ((List.range (1 + r5).toNat).map fun k => sc (nw B sp t st k)) ((List.range (1 + r7).toNat).map fun k => sc (nw B sp t st (k + 2))) ((List.range (3 : Int).toNat).map fun k => sc (nw B2 sp2 t2 st2 k)) ns :=
      ⟨s912 _ _ hD19, s912 _ _ hD29, s912 _ _ hD3, (s11.trans s12) _ _ hD4⟩
    have hX12 := s912 _ _ hX9
    have hws12 := pen_strs pen bt12 hws
    have nLp : L ≠ p := fun z => by
      obtain ⟨kw, ns, a', l, g1, _⟩ := pen12.ex
      rw [z, g1] at hL
      cases hL
    have nLc : L ≠ c := fun z => by
      have := (pen9.same (s10.trans s11)).cells
      rw [← z] at this
      exact this nL
    have hLn : H L = none := ((((((bt4.tr bt5).tr (.of s6)).tr bt7).tr (.of s8)).tr (bt9.tr (.of (s10.trans s11))))).free nL (pen9.same (s10.trans s11)).there
    have n1 : D1 ≠ L := ne_of_none ((s10.trans s11) _ _ hD19) nL
    have n2 : D2 ≠ L := ne_of_none ((s10.trans s11) _ _ hD29) nL
    have n3 : D3 ≠ L := ne_of_none ((s10.trans s11) _ _ hD3) nL
    have n4 : D4 ≠ L := ne_of_none (s11 _ _ hD4) nL
    have nwL : wl ≠ L := ne_of_none hws hLn
    generalize hPL : ((List.range (1 + r5).toNat).map fun k => sc (nw B sp t st k)) = PL at w12
    generalize hGL : ((List.range (1 + r7).toNat).map fun k => sc (nw B sp t st (k + 2))) = GL at w12
    generalize hHL : ((List.range (3 : Int).toNat).map fun k => sc (nw B2 sp2 t2 st2 k)) = HL at w12
    have lPL : PL.length = (1 + r5).toNat := by rw [← hPL, List.length_map, List.length_range]
    have lGL : GL.length = (1 + r7).toNat := by rw [← hGL, List.length_map, List.length_range]
    have lHL : HL.length = 3 := by rw [← hHL, List.length_map, List.length_range]; rfl
    have wpos : 0 < ws.length := List.length_pos_iff.mpr wne
    refine ⟨_, rfl, (sz : Int), rfl, by omega, by omega, for_range (lo := 0) (n := (sz : Int).toNat) (fun j σ H' => ∃ y6, σ = [some (.ref p), some (.ref wl), some (.int r1), some (.int (sz : Int)), some (.ref aO), some (.ref aX), y6, some (.ref D1), some (.ref D2), some (.ref wo), some (.ref L), none] ∧ PenAt H' p c (n + 46 + 31 * j) ∧ But p H H' ∧ Wld H' D1 D2 D3 D4 PL GL HL ns ∧
      H' wo = some (.tup [V.ref D1, .ref D2, .ref D3, .ref D4]) ∧ StrsAt H' wl ws ∧ H' aX = some (nrV B2 sp2 t2 st2) ∧ ∃ pr : List (Addr × Ent), pr.length = j ∧ (pr.map fun x => x.2.name) = (List.range j).map (fun k => sc (nw B2 sp2 t2 st2 k)) ∧ H' L = some (.lst ((pr.map (·.1)).map V.ref)) ∧ ∀ x ∈ pr, H' x.1 = some (.tup x.2.vals) ∧ 0 ≤ x.2.moment ∧ x.2.moment ≤ 9999 ∧ x.2.From PL GL HL)
      ⟨_, rfl, pen12.mono (by omega), bt12, w12, hwo, hws12, hX12, [], rfl, rfl, hL, fun x hx => absurd hx List.not_mem_nil⟩ ?_ ?_⟩
    · rintro j σ H13 hj ⟨y6, rfl, pen13, bt13, w13, hwo13, hws13, hX13, pr, lp, np, hL13, ep⟩
      have hj30 : j < 30 := by omega
      have lmap : ((ws.map V.str).length : Int) = (ws.length : Int) := by rw [List.length_map]
      refine ⟨_, rfl, .inl ⟨rfl, _, SqL.of hL13⟩, _, rfl, _, rfl, _, rfl, _, rfl, aX, b, B2, sp2, t2, st2, j, (by rw [Int.zero_add]; rfl), ok2, b6, hj30, hX13, ?_⟩
      refine ⟨_, rfl, _, rfl, _, rfl, wl, _, rfl, .inl (SqL.of hws13), p, c, _, _, rfl, pen13, by omega, by rw [lmap]; omega, by rw [lmap]; omega, fun r H14 b1 d1 pen14 bt14 => ?_⟩
      rw [lmap] at d1
      obtain ⟨wd, hwd, _, _⟩ := at_strs b1 d1
      have w14 := w13.by pen13 bt14
      have nwop : wo ≠ p := by
        obtain ⟨kw, ns, a', l, g1, _⟩ := pen13.ex
        exact ne_of hwo13 g1 (by intro z; cases z)
      refine ⟨wl, _, r, _, rfl, rfl, SqL.of (pen_strs pen13 bt14 hws13), hwd, ?_⟩
      refine ⟨p, c, _, wo, wd, _, D1, D2, D3, D4, PL, GL, HL, ns, rfl, pen14, by omega, bt14 _ _ hwo13 nwop, w14, mom, (fun z => by rw [z] at lPL; simp at lPL; omega), (fun z => by rw [z] at lGL; simp at lGL; omega), (fun z => by rw [z] at lHL; simp at lHL), by omega, by omega, by omega, fun tp e H15 ntp hte en m0 m1 ef pen15 bt15 => ?_⟩
      have bA := bt14.tr bt15
      have hL15 := bA _ _ hL13 nLp
      have kp : ∀ {a : Addr} {xs : List V}, H13 a = some (.tup xs) → (upd H15 L (.lst ((pr.map (·.1)).map V.ref ++ [V.ref tp]))) a = some (.tup xs) := fun {a xs} ea => by
        have nap : a ≠ p := by
          obtain ⟨kw, ns, a', l, g1, _⟩ := pen13.ex
          exact ne_of ea g1 (by intro z; cases z)
        exact (upd_ne (ne_of ea hL13 (by intro z; cases z))).trans (bA _ _ ea nap)
      have w15 := w14.by pen14 bt15
      refine ⟨L, _, _, rfl, rfl, hL15, (by rw [List.length_map, List.length_map, lp]; exact small1000 (by omega)), ⟨_, rfl, (pen15.mono (by omega)).upd nLp nLc, fun b o eb nb => (upd_ne (ne_of_none eb hLn)).trans ((bt13.tr bA) b o eb nb),
        ⟨(upd_ne n1).trans w15.h1, (upd_ne n2).trans w15.h2, (upd_ne n3).trans w15.h3, (upd_ne n4).trans w15.h4⟩, kp hwo13, (upd_ne nwL).trans (pen_strs pen14 bt15 (pen_strs pen13 bt14 hws13)), kp hX13, pr ++ [(tp, e)], by simp [lp], ?_, ?_, ?_⟩⟩
      · rw [List.map_append, np, List.range_succ, List.map_append]
        show _ ++ [e.name] = _
        rw [en]
        rfl
      · rw [upd_same, List.map_append, List.map_append]
        rfl
      · intro x hx
        rcases List.mem_append.mp hx with z | z
        · exact ⟨kp (ep x z).1, (ep x z).2⟩
        · rw [List.mem_singleton.mp z]
          exact ⟨(upd_ne (ne_of hte hL15 (by intro z; cases z))).trans hte, m0, m1, ef⟩
    · rintro σ H13 ⟨y6, rfl, pen13, bt13, w13, hwo13, hws13, hX13, pr, lp, np, hL13, ep⟩
      rw [Int.toNat_natCast] at lp np pen13
      have nPL : PL.Nodup := by
        rw [← hPL]
        exact nw_nodup (o := 0) okO6 (by omega)
      have nGL : GL.Nodup := by
        rw [← hGL]
        exact nw_nodup okO6 (by omega)
      have bPL : ∀ y ∈ PL, nameB y = true := fun y hy => by
        rw [← hPL] at hy
        obtain ⟨k, hk, rfl⟩ := List.mem_map.mp hy
        have := List.mem_range.mp hk
        exact nw_name okO6 (by rw [if_neg (by omega)]; decide)
      have bGL : ∀ y ∈ GL, nameB y = true := fun y hy => by
        rw [← hGL] at hy
        obtain ⟨k, hk, rfl⟩ := List.mem_map.mp hy
        have := List.mem_range.mp hk
        exact nw_name okO6 (by rw [if_neg (by omega)]; decide)
      have bHL : ∀ y ∈ HL, nameB y = true := fun y hy => by
        rw [← hHL] at hy
        obtain ⟨k, hk, rfl⟩ := List.mem_map.mp hy
        have : k < 3 := List.mem_range.mp hk
        exact nw_name ok2 (by rw [if_neg (by omega)]; omega)
      refine ⟨_, rfl, D1, PL, rfl, SqL.of w13.h1, by omega, fun P1 a1 pm1 so1 na1 => ⟨a1, _, rfl, .inl ⟨SqL.of upd_same, fun t1 nt1 => ?_⟩⟩⟩
      have s1 : Same H13 (upd (upd H13 a1 (.lst (P1.map V.str))) t1 (.tup (P1.map V.str))) := (same_new na1).trans (same_new nt1)
      have hp1 : (upd (upd H13 a1 (.lst (P1.map V.str))) t1 (.tup (P1.map V.str))) t1 = some (.tup (P1.map V.str)) := upd_same
      generalize upd (upd H13 a1 (.lst (P1.map V.str))) t1 (.tup (P1.map V.str)) = H14 at s1 hp1
      refine ⟨_, rfl, D2, GL, rfl, SqL.of (s1 _ _ w13.h2), by omega, fun G1 a2 pm2 so2 na2 => ⟨a2, _, rfl, .inl ⟨SqL.of upd_same, fun t2 nt2 => ?_⟩⟩⟩
      have s2 : Same H14 (upd (upd H14 a2 (.lst (G1.map V.str))) t2 (.tup (G1.map V.str))) := (same_new na2).trans (same_new nt2)
      have hp2 : (upd (upd H14 a2 (.lst (G1.map V.str))) t2 (.tup (G1.map V.str))) t2 = some (.tup (G1.map V.str)) := upd_same
      generalize upd (upd H14 a2 (.lst (G1.map V.str))) t2 (.tup (G1.map V.str)) = H15 at s2 hp2
      have s12' := s1.trans s2
      have eD : H15 L = some (.lst (((pr.map prV).map (·.1)))) := by
        rw [s12' _ _ hL13, List.map_map, List.map_map]
        rfl
      refine ⟨_, rfl, L, pr.map prV, rfl, rfl, SqL.of eD, ?_, .inl ?_, ?_, ?_, fun a3 H16 na3 s3 h3 => ⟨a3, _, rfl, .inl ⟨SqL.of h3, fun t3 nt3 => ?_⟩⟩⟩
      · intro d hd d' hd'
        rw [List.map_map] at hd hd'
        obtain ⟨x, _, rfl⟩ := List.mem_map.mp hd
        obtain ⟨y, _, rfl⟩ := List.mem_map.mp hd'
        exact ord_alike x.2 y.2
      · intro d hd
        rw [List.map_map] at hd
        obtain ⟨x, _, rfl⟩ := List.mem_map.mp hd
        exact ⟨_, _, rfl⟩
      · intro e he
        obtain ⟨x, _, rfl⟩ := List.mem_map.mp he
        show 1 ≤ 60
        decide
      · intro e he H1 sm Q1 hq
        obtain ⟨x, hx, rfl⟩ := List.mem_map.mp he
        exact ⟨x.1, x.2, rfl, sm _ _ (s12' _ _ (ep x hx).1), fun tp H2 sm2 h2 => hq _ _ sm2 (ord_dp h2)⟩
      · have key : keyed (pr.map prV) = (pr.mergeSort fun a b => PySem.W.dataLe false (fun e : V × PyData => e.2) (prV a) (prV b)).map prV := (List.map_mergeSort (f := prV) (s := PySem.W.dataLe false fun e : V × PyData => e.2) (r := fun a b => PySem.W.dataLe false (fun e : V × PyData => e.2) (prV a) (prV b)) (l := pr) fun a _ b _ => rfl).symm
        have pm3 : (pr.mergeSort fun a b => PySem.W.dataLe false (fun e : V × PyData => e.2) (prV a) (prV b)).Perm pr := List.mergeSort_perm _ _
        rw [key]
        generalize (pr.mergeSort fun a b => PySem.W.dataLe false (fun e : V × PyData => e.2) (prV a) (prV b)) = qr at pm3 ⊢
        have s4 : Same H16 (upd H16 t3 (.tup ((qr.map prV).map (·.1)))) := same_new nt3
        have e4 : (upd H16 t3 (.tup ((qr.map prV).map (·.1)))) t3 = some (.tup ((qr.map prV).map (·.1))) := upd_same
        generalize upd H16 t3 (.tup ((qr.map prV).map (·.1))) = H17 at s4 e4
        have sA := s12'.trans (s3.trans s4)
        refine ⟨(by show 3 ≤ sizeLine; decide), fun h nh => ?_⟩
        have s5 := @same_new _ _ (.tup [V.ref t1, .ref t2, .ref t3]) nh
        have ho : HouseAt (upd H17 h (.tup [V.ref t1, .ref t2, .ref t3])) h P1 G1 (qr.map (·.2)) := by
          refine ⟨t1, t2, t3, qr.map (·.1), upd_same, s5 _ _ (s4 _ _ (s3 _ _ (s2 _ _ hp1))), s5 _ _ (s4 _ _ (s3 _ _ hp2)), ?_, ents_pairs fun x hx => s5 _ _ (sA _ _ (ep x (pm3.mem_iff.mp hx)).1)⟩
          rw [s5 _ _ e4, List.map_map, List.map_map]
          rfl
        have sB := sA.trans s5
        generalize upd H17 h (.tup [V.ref t1, .ref t2, .ref t3]) = H18 at ho sB
        refine ⟨_, rfl, _, rfl, (by show 3 ≤ sizeLine; decide), fun l nl => ?_⟩
        have sl := @same_new _ _ (.lst [V.int 1, .int 3, .int 40]) nl
        have pen18 := (pen13.same sB).same sl
        have nlp : l ≠ p := fun z => (pen13.same sB).there (z ▸ nl)
        refine ⟨_, rfl, p, c, _, 3, rfl, pen18, by omega, by decide, by decide, fun r H19 ra rb pen19 bt19 => ?_⟩
        obtain ⟨kk, hkk, kin⟩ := at_ints (ns := [1, 3, 40]) (r := r) ra (by show r < 3; omega)
        have k40 : 1 ≤ kk ∧ kk ≤ 40 := by
          simp only [List.mem_cons, List.not_mem_nil, or_false] at kin
          omega
        have lq : qr.length = sz := by rw [pm3.length_eq, lp]
        refine ⟨l, _, r, _, rfl, rfl, SqL.of (bt19 l _ upd_same nlp), hkk, p, c, _, h, P1, G1, qr.map (·.2), kk, rfl, pen19, by omega, (ho.on (TK.of sl)).on (TK.but pen18 bt19), (by rw [pm1.length_eq]; omega), (by rw [pm2.length_eq]; omega), (by rw [List.length_map]; omega), k40.1, k40.2, fun e he => ?_, fun h' es' H20 rc ho' pen20 bt20 => ?_⟩
        · obtain ⟨x, hx, rfl⟩ := List.mem_map.mp he
          exact ⟨HL, From.perm (ep x (pm3.mem_iff.mp hx)).2.2.2 pm1 pm2⟩
        · have lr := Paired.length rc
          rw [List.length_map] at lr
          refine q h' P1 G1 es' sz H20 ho' ⟨pm1.nodup_iff.mpr nPL, fun z => ?_, by rw [pm1.length_eq]; omega, fun y hy => bPL y (pm1.mem_iff.mp hy), fun z => ?_, by rw [pm2.length_eq]; omega, fun y hy => bGL y (pm2.mem_iff.mp hy), pm2.nodup_iff.mpr nGL, by omega, ?_, so1, fun e' he' => ?_⟩ sz30 (pen20.mono (by omega)) (((bt13.tr (.of sB)).tr (.of sl)).tr (bt19.tr bt20))
          · have := pm1.length_eq
            rw [z, List.length_nil] at this
            omega
          · have := pm2.length_eq
            rw [z, List.length_nil] at this
            omega
          · rw [rc_names rc, List.map_map]
            refine (pm3.map fun x => x.2.name).nodup_iff.mpr ?_
            rw [np]
            exact nw_nodup (o := 0) ok2 (by omega)
          · obtain ⟨e, he, re⟩ := rc_mem rc e' he'
            obtain ⟨x, hx, rfl⟩ := List.mem_map.mp he
            obtain ⟨_, i2, i3, i4⟩ := ep x (pm3.mem_iff.mp hx)
            refine ⟨?_, by rw [re.moment]; exact i2, by rw [re.moment]; exact i3, HL, bHL, re.from (From.perm i4 pm1 pm2)⟩
            have mn : x.2.name ∈ pr.map fun x => x.2.name := List.mem_map.mpr ⟨x, pm3.mem_iff.mp hx, rfl⟩
            rw [np] at mn
            obtain ⟨k, hk, ek⟩ := List.mem_map.mp mn
            have hk' := List.mem_range.mp hk
            rw [re.name, ← ek]
            by_cases z : 26 ≤ k
            · exact nw_name ok2 (by rw [if_pos z]; have := b4 (by omega); omega)
            · exact nw_name ok2 (by rw [if_neg z]; omega)
end
/-! ### generator expressions whose parts may call: the generator's own frame as a context -/
abbrev gxc (X : Cx) (A' : Around) (s : Shared) (H : Hp) (ce : Env) (fp : List Addr) : Cx :=
  { X with A := A', s_0 := s, H_0 := H, env := ce, outer := X.stack, stack := ce :: X.stack, ex := fp, fn := fun _ => false, calm := true, pn := [], xe := fun _ _ => False }
abbrev genE (X : Cx) (scope : Scope) (C : Addr) (code : Value) : Env := genEnv scope (cloFrom X.env.cells scope.names []) C code builtinsNs X.env
structure GOk (N : List Str) (sc scope : Scope) (own : List (Str × Nat)) : Prop where
  blk : BlkOk N sc scope own
  co : scope.isCoroutine = false
  cell : ∀ y ∈ scope.names, y.2 ≠ .cell
  dot : scope.names.lookup (".0" : Str) = some NameKind.local
section
variable {X : Cx} {pins : List (Addr × Obj)} {σ : L2.St} {H : Hp} {s : Shared}
theorem gx_free {N : List Str} {scope : Scope} {own : List (Str × Nat)} (I : Inv X pins σ H s) (ok : GOk N X.env.scope scope own) : ∀ y ∈ scope.names, y.2 = .free → ∃ c, X.env.cells.lookup y.1 = some c := fun y hy e => by
  rcases ok.blk.free y hy e with k | k
  · exact I.ok.has _ (.inl k)
  · exact I.ok.has _ (.inr k)
/-- the generator's frame and the generator itself have come -/
theorem gx_start {scope : Scope} {own : List (Str × Nat)} {fp : List Addr} {A' : Around} {code it : Value} {h' : Heap} {oG : Obj} {g' : Array GenState} {t' : Nat} (I : Inv X pins σ H s) (ok : GOk X.N X.env.scope scope own) (hN : X.N.Nodup)
    (hfp : ∀ b ∈ fp, FpOk X pins H b ∧ b < s.heap.objs.size) (hA : A'.handled = none) (hfr : A'.frames = some (genE X scope s.heap.objs.size code :: X.stack))
    (hn : h'.Ns s.heap.objs.size (fun y => if y = ".0" then some it else none)) (hs : Heap.SameBut s.heap.objs.size (s.heap.push { cls := .type "frame", data := .dict #[] }) h')
    (hG : ∀ v, oG.data ≠ .cell v) (hb : AllBare g') (fG : oG.isFreed = false) :
    Inv (gxc X A' s H (genE X scope s.heap.objs.size code) fp) [(h'.objs.size, oG)] (wipe σ (own.map (·.2))) H { s with gens := g', toks := t', heap := h'.push oG } := by
  have sz : h'.objs.size = s.heap.objs.size + 1 := by rw [hs.1, Heap.size_push]
  have k1 : ∀ b o, s.heap.get? b = some o → h'.get? b = some o := fun b o e => hs.extBut b o (Nat.ne_of_lt (Heap.lt_size e)) (Heap.get?_push_of_some _ e)
  have kp : ∀ b o, s.heap.get? b = some o → (h'.push oG).get? b = some o := fun b o e => Heap.get?_push_of_some _ (k1 b o e)
  have fr := gx_free I ok
  have cm : ∀ {y c}, (cloFrom X.env.cells scope.names []).lookup y = some c → X.env.cells.lookup y = some c ∧ c < s.heap.objs.size ∧ (y, NameKind.free) ∈ scope.names := fun {y c} e => by
    rcases cloFrom_mem (PySem.mem_of_lookup e) with hm | ⟨h1, rfl⟩
    · cases hm
    · obtain ⟨c, hc⟩ := fr _ h1 rfl
      rw [hc]
      obtain ⟨w, z⟩ := I.cell _ _ hc
      exact ⟨rfl, z.lt, h1⟩
  have has : ∀ {y}, (y, NameKind.free) ∈ scope.names → ∃ c, (cloFrom X.env.cells scope.names []).lookup y = some c := fun {y} hy => mem_lookup (cloFrom_has (cells := X.env.cells) (acc := []) hy)
  have uq : ∀ {y k}, (y, k) ∈ scope.names → scope.names.lookup y = some k := fun {y k} h => ok.blk.uniq _ h
  have okG : (gxc X A' s H (genE X scope s.heap.objs.size code) fp).Ok := by
    refine ⟨I.ok.mod, ok.blk.kind, I.ok.glob, rfl, Nat.le_refl _, fun y z c e1 e2 => I.ok.inj y z c (cm e1).1 (cm e2).1, fun y hy => ?_, fun y c z _ => (nomatch z), fun _ => hA, hfr, .inr ⟨rfl, rfl⟩,
      fun b hb => ⟨Nat.ne_of_lt (hfp b hb).2, fun y c e z => (hfp b hb).1.2.2.2.2.1 y c (cm e).1 z⟩, I.bs, Nat.le_trans I.ok.bsz I.sz, fun b o e hb => ?_, fun b hb z => ?_, I.stack, I.stkFree⟩
    · rcases hy with hy | hy
      · exact absurd rfl (ok.cell _ (PySem.mem_of_lookup (show scope.names.lookup y = some .cell from hy)))
      · exact has (PySem.mem_of_lookup (show scope.names.lookup y = some .free from hy))
    · rcases (hfp b hb).1.2.2.2.1 with z | z
      · exact I.ok.noex b o e z
      · exact absurd (Nat.lt_of_lt_of_le (Heap.lt_size e) (Nat.le_trans I.ok.bsz z)) (Nat.lt_irrefl _)
    · rcases List.mem_cons.mp (I.stkSub b z) with z | z
      · exact (hfp b hb).1.2.1 z
      · exact (hfp b hb).1.2.2.1 z
  refine ⟨okG, rfl, hb, Un.kept kp, ⟨_, hn.push oG, fun i y v e1 e2 e3 => ?_⟩, fun y c e => ?_, I.hok.fresh (Nat.le_refl _), fun y c e => I.freeC y c (cm e).1, fun p hp => ?_, I.hok.kept kp, by rw [wipe_length]; exact I.len⟩
  · obtain ⟨e2, hne⟩ := wipe_some e2
    have key : scope.names.lookup y = some .free := by
      have no : ∀ k, scope.names.lookup y = some k → ¬ (k = .local ∨ k = .cell) := fun k hk hh => by
        rcases ok.blk.own _ (PySem.mem_of_lookup hk) hh with e' | e'
        · obtain ⟨p, hp, hpy⟩ := List.mem_map.mp e'
          have e4 := ok.blk.ix p hp
          have : p.1 = y := hpy
          rw [this] at e4
          exact hne (List.mem_map.mpr ⟨p, hp, nodup_ix hN e4 e1⟩)
        · exact e' (List.mem_of_getElem? e1)
      rcases (show Vis scope y from e3) with e3 | e3 | e3
      · exact absurd (.inl rfl) (no _ e3)
      · exact absurd (.inr rfl) (no _ e3)
      · exact e3
    obtain ⟨m, _, hl⟩ := I.loc
    have fy := PySem.mem_of_lookup key
    have hvis : Vis X.env.scope y := (ok.blk.free _ fy rfl).elim (fun k => .inr (.inl k)) (fun k => .inr (.inr k))
    obtain ⟨u, r, q⟩ := hl i y v e1 e2 hvis
    refine ⟨u, r, .inr ⟨.inr key, ?_⟩⟩
    obtain ⟨c, h1⟩ := has fy
    rcases q with ⟨k, _⟩ | ⟨_, c', e', z⟩
    · have k : X.env.scope.names.lookup y = some .local := k
      rcases ok.blk.free _ fy rfl with k' | k' <;> rw [show X.env.scope.names.lookup y = _ from k'] at k <;> cases k
    · have h2 := (cm h1).1
      rw [h2] at e'
      cases e'
      exact ⟨c, h1, z.keeps kp⟩
  · obtain ⟨v, z⟩ := I.cell y c (cm e).1
    exact ⟨v, z.keeps kp⟩
  · have hp' : p = (h'.objs.size, oG) := by simpa using hp
    subst hp'
    have nl : s.heap.objs.size ≤ h'.objs.size := by omega
    refine ⟨Heap.get?_push_size _ fG, I.hok.fresh nl, by show h'.objs.size ≠ s.heap.objs.size; omega, fun z => ?_, hG⟩
    rcases List.mem_cons.mp (I.stkSub _ z) with z | z
    · have := I.lt
      rw [← z] at this
      exact Nat.lt_irrefl _ (Nat.lt_of_lt_of_le this nl)
    · exact I.nofs nl z
end
/-! ### the generator's turns -/
abbrev gxl (X : Cx) (Ag : Around) (elt tg iter : Expr) (ifs : List Expr) (scope : Scope) (gpos : Pos) (it : Addr) (ce : Env) (s3 : Shared) (H3 : Hp) (fp : List Addr) : Cx :=
  gxc X (Ag.over (.compLoop (.GeneratorExp elt [⟨tg, iter, ifs, 0⟩] scope gpos) 0 (.ref it) .none ce) []) s3 H3 ce fp
/-- what stands between two turns: at most m turns are left, the i-th is next -/
def GTurns (J : It) (g : TG) (tt : TT) (te : TE) (vs : List Nat) (σ : L2.St) (W : Nat → Nat → Hp → Prop) (Out : Nat → Nat → V → Hp → Prop) (Fin : Hp → Prop) : Prop :=
  ∀ i m H, W i m H → (J.stop i H ∧ Fin H) ∨ (J.go i H ∧ ∀ x H', J.yld i H x H' → g x (wipe σ vs) H' fun σ2 H2 => wipe σ2 vs = wipe σ vs ∧ tt σ2 H2 fun b H3 =>
    if b = true then te σ2 H3 fun y H4 => Out i m y H4 else ∃ m', m' < m ∧ W (i + 1) m' H3)
def gxY (IG : Hp → Shared → Prop) (tn : Nat → Heap → Prop) (fp : List Addr) (W : Nat → Nat → Hp → Prop) (Out : Nat → Nat → V → Hp → Prop) (gn : Nat) : Protocol := fun n _ v s kap =>
  ∃ i m y H, RelV y v ∧ IG H s ∧ tn (i + 1) s.heap ∧ (∀ b ∈ fp, H b = none) ∧ Out i m y H ∧ gn < s.gens.size ∧ m ≤ n ∧
    ∀ m', m' < m → W (i + 1) m' H → ∀ s'' : Shared, IG H s'' → tn (i + 1) s''.heap → gn < s''.gens.size → kap (.send .none) s''
def gxR (IG : Hp → Shared → Prop) (Fin : Hp → Prop) : Nat → Shared → Shared → Prop := fun _ _ s1 => ∃ H, IG H s1 ∧ Fin H
section
variable {X : Cx} {σ : L2.St} {Ag : Around} {tg elt iter : Expr} {ifs : List Expr} {scope : Scope} {gpos : Pos} {it a : Addr} {oG : Obj} {ce : Env} {fp : List Addr} {s3 : Shared} {H3 : Hp} {tn : Nat → Heap → Prop} {J : It} {vs : List Nat} {gn : Nat}
  {g : TG} {tt : TT} {te : TE} {W : Nat → Nat → Hp → Prop} {Out : Nat → Nat → V → Hp → Prop} {Fin : Hp → Prop}
theorem gx_stat {σ' : L2.St} {H' : Hp} {s' : Shared} {A' : Around} (I' : Inv (gxc X A' s3 H3 ce fp) [(a, oG)] σ' H' s') (na : a ∉ fp) (hn : ∀ b ∈ fp, H' b = none) : ∀ b ∈ fp, FpOk (gxc X A' s3 H3 ce fp) [(a, oG)] H' b := fun b hb => by
  refine ⟨hn b hb, (I'.ok.exf b hb).1, I'.ok.exfs b hb, .inl hb, fun x c e => (I'.ok.exf b hb).2 x c e, fun p hp z => ?_⟩
  have hp' : p = (a, oG) := by simpa using hp
  subst hp'
  have z' : a = b := z
  exact na (z' ▸ hb)
theorem gx_seg (T : Turn X.prog X.w X.K tg J fp it tn) (na : a ∉ fp) (hco : ce.scope.isCoroutine = false)
    (pg : PG (gxl X Ag elt tg iter ifs scope gpos it ce s3 H3 fp) tg g)
    (pt : PTs (gxl X Ag elt tg iter ifs scope gpos it ce s3 H3 fp) ifs tt)
    (pe : PE (gxl X Ag elt tg iter ifs scope gpos it ce s3 H3 fp) elt te)
    (turn : GTurns J g tt te vs σ W Out Fin) (IG : Hp → Shared → Prop)
    (hIG : IG = fun H s => Inv (gxl X Ag elt tg iter ifs scope gpos it ce s3 H3 fp) [(a, oG)] (wipe σ vs) H s) :
    ∀ (m n i : Nat) (H : Hp) (s s0 : Shared), m < n → IG H s → tn i s.heap → (∀ b ∈ fp, H b = none) → W i m H → gn < s.gens.size →
      Seg (model X.prog X.w) Ag (fun n s0 r s1 => r = .ok .next ∧ gxR IG Fin n s0 s1) (gxY IG tn fp W Out gn) n s0
        (.compLoop (.GeneratorExp elt [⟨tg, iter, ifs, 0⟩] scope gpos) 0 (.ref it) .none ce)
        ((model X.prog X.w).den (.compLoop (.GeneratorExp elt [⟨tg, iter, ifs, 0⟩] scope gpos) 0 (.ref it) .none ce)) [] s := by
  intro m
  induction m using Nat.strongRecOn with
  | ind m ih =>
  intro n i H s s0 hmn I0 st n0 w0 hg
  have I : Inv (gxl X Ag elt tg iter ifs scope gpos it ce s3 H3 fp) [(a, oG)] (wipe σ vs) H s := by
    rw [hIG] at I0
    exact I0
  show Seg _ Ag _ _ _ s0 _ ((compTurn (.GeneratorExp elt [⟨tg, iter, ifs, 0⟩] scope gpos) 0 (.ref it) .none ce).onRaise (leaving ce)) [] s
  rw [compTurn_gen, Sem.onRaise_eq_wrap]
  refine seg_bind_wrap (wpAny_standAt ?_)
  rcases turn i m H w0 with ⟨stop, fin⟩ | ⟨go, step⟩
  · refine seg_bind_wrap (thnF (T.done (gxl X Ag elt tg iter ifs scope gpos it ce s3 H3 fp) rfl rfl rfl rfl i [(a, oG)] s _ H (fun _ _ => False) I (gx_stat I na n0) st stop) fun r s6 ⟨hr, I6⟩ => ?_)
    subst hr
    exact seg_end (.ok .next) ⟨rfl, H, by rw [hIG]; exact I6, fin⟩
  · refine seg_bind_wrap (GenW.wpAny_gsz hg (thnF (T.item (gxl X Ag elt tg iter ifs scope gpos it ce s3 H3 fp) rfl rfl rfl rfl i [(a, oG)] s _ H (fun _ _ => False) I (gx_stat I na n0) st go) fun r s6 ⟨u, hr, h6⟩ hg6 => ?_))
    subst hr
    refine seg_bind_wrap (GenW.wpAny_gsz hg6 (thnF h6 fun _ s7 ⟨x, H7, I7, r7, y7, st7, n7⟩ hg7 => ?_))
    have I7' := I7.pinned (gx_stat I7 na n7) (T.obj _ _ st7)
    refine seg_bind_wrap (GenW.wpAny_gsz hg7 (thnF (pg.run _ s7 _ H7 x u _ I7' r7 (step x H7 y7)) fun _ s8 ⟨σ8, H8, I8, hw8, q8⟩ hg8 => ?_))
    refine seg_bind_wrap (GenW.wpAny_gsz hg8 (thnF (pt.run _ s8 σ8 H8 _ I8 q8) fun b s9 ⟨H9, I9, q9⟩ hg9 => ?_))
    have hl : (wipe σ vs).length = σ8.length := by rw [← hw8, wipe_length]
    have back : ∀ {s' : Shared} {H' : Hp}, Inv (gxl X Ag elt tg iter ifs scope gpos it ce s3 H3 fp) ([(a, oG)] ++ pinsAt fp s7.heap) σ8 H' s' →
        IG H' s' ∧ tn (i + 1) s'.heap ∧ ∀ b ∈ fp, H' b = none := fun {s' H'} I' => by
      have pin' : ∀ b ∈ fp, ∀ o, s7.heap.get? b = some o → s'.heap.get? b = some o ∧ H' b = none := fun b hb o e =>
        let z := I'.pin (b, o) (List.mem_append_right _ (List.mem_append_right _ (mem_pinsAt hb e)))
        ⟨z.1, z.2.1⟩
      refine ⟨?_, T.keep _ _ _ st7 fun b hb o e => (pin' b hb o e).1, fun b hb => ?_⟩
      · rw [hIG]
        refine I'.unpinned.weak hl fun j v e => ?_
        rw [← hw8] at e
        exact (wipe_some e).1
      · obtain ⟨o, e, _⟩ := T.obj _ _ st7 b hb
        exact (pin' b hb o e).2
    cases b with
    | false =>
      simp only [Bool.false_eq_true, if_false] at q9 ⊢
      obtain ⟨m', hm, w'⟩ := q9
      obtain ⟨b1, b2, b3⟩ := back I9
      exact seg_again rfl (ih m' hm n (i + 1) H9 s9 s0 (Nat.lt_trans hm hmn) b1 b2 b3 w' hg9)
    | true =>
      simp only [if_true] at q9 ⊢
      have hy : ∀ v, yieldOut ce v = yieldValue v := fun v => by simp only [yieldOut, hco, Bool.false_eq_true, if_false]
      simp only [hy]
      rw [Sem.bind_eq_wrap', Sem.bind_eq_wrap', Sem.wrap_wrap, Sem.wrap_wrap]
      obtain ⟨n', rfl⟩ : ∃ n', n = n' + 1 := ⟨n - 1, by omega⟩
      refine seg_wrap (GenW.wpAny_gsz hg9 (thnF (pe.run _ s9 σ8 H9 _ I9 q9) fun z s10 ⟨yv, H10, I10, r10, out⟩ hg10 => ?_))
      obtain ⟨b1, b2, b3⟩ := back I10
      refine seg_at (seg_yield rfl rfl rfl ⟨i, m, yv, H10, r10, b1, b2, b3, out, hg10, by omega, fun m' hm w' s'' I'' st'' hg'' => ?_⟩)
      exact seg_again rfl (ih m' hm n' (i + 1) H10 s'' s'' (by omega) I'' st'' b3 w' hg'')
theorem gx_seg0 (T : Turn X.prog X.w X.K tg J fp it tn) {n : Nat} {s0 s : Shared} {R : GenEnd} {Y : Protocol} (st : tn 0 s.heap)
    (loop : Seg (model X.prog X.w) Ag R Y n s0 (.compLoop (.GeneratorExp elt [⟨tg, iter, ifs, 0⟩] scope gpos) 0 (.ref it) .none ce)
        ((model X.prog X.w).den (.compLoop (.GeneratorExp elt [⟨tg, iter, ifs, 0⟩] scope gpos) 0 (.ref it) .none ce)) [] s) :
    Seg (model X.prog X.w) Ag R Y n s0 (.compStart (.GeneratorExp elt [⟨tg, iter, ifs, 0⟩] scope gpos) 0 (.ref it) .none ce)
      ((model X.prog X.w).den (.compStart (.GeneratorExp elt [⟨tg, iter, ifs, 0⟩] scope gpos) 0 (.ref it) .none ce)) [] s := by
  show Seg _ Ag _ _ _ s0 _ ((compStart (.GeneratorExp elt [⟨tg, iter, ifs, 0⟩] scope gpos) 0 (.ref it) .none ce).onRaise (leaving ce)) [] s
  unfold compStart
  rw [Sem.onRaise_eq_wrap]
  show Seg _ Ag _ _ _ s0 _ ((ask >>= _).wrap _ _ _ _) [] s
  refine seg_bind_wrap (wpAny_askSetting ?_)
  split
  · exact seg_again rfl loop
  · refine seg_bind_wrap (wpAny_rule ?_)
    show Seg _ Ag _ _ _ s0 _ ((standAt iter.pos >>= _).wrap _ _ _ _) [] s
    exact seg_bind_wrap (wpAny_standAt (seg_bind_wrap (T.self _ 0 s _ _ st (seg_again rfl loop))))
end
/-! ### the generator asked for its next -/
structure IGok (X : Cx) (pins : List (Addr × Obj)) (σ : L2.St) (a : Addr) (gn : Nat) (IG : Hp → Shared → Prop) : Prop where
  bare : ∀ {H s}, IG H s → AllBare s.gens
  gens : ∀ {H s g'}, IG H s → AllBare g' → IG H { s with gens := g' }
  kept : ∀ {H : Hp} {s : Shared} {h' : Heap} {tk : Nat}, IG H s → (∀ b o, s.heap.get? b = some o → h'.get? b = some o) → IG H { s with heap := h', toks := tk }
  isgen : ∀ {H s}, IG H s → s.heap.IsGen a gn
  nolim : ∀ {H s}, IG H s → s.heap.NoLimit
  back : ∀ {H s}, IG H s → Inv X pins σ H s
def GRun (X : Cx) (Ac : Around) (IG : Hp → Shared → Prop) (tn : Nat → Heap → Prop) (fp : List Addr) (W : Nat → Nat → Hp → Prop) (Out : Nat → Nat → V → Hp → Prop) (Fin : Hp → Prop) (gn i m n : Nat) (H : Hp) (s : Shared) : Prop :=
  IG H s ∧ tn i s.heap ∧ (∀ b ∈ fp, H b = none) ∧ W i m H ∧ ∃ gs, s.gens[gn]? = some gs ∧ m < n ∧ ∀ s'' : Shared, IG H s'' → tn i s''.heap → gn < s''.gens.size →
    gs.Goes (model X.prog X.w) Ac.in1 (fun n s0 r s1 => r = .ok .next ∧ gxR IG Fin n s0 s1) (gxY IG tn fp W Out gn) n (.send .none) s''
theorem bare_set {s : Shared} {gn : Nat} {x : GenState} (h : AllBare s.gens) (hx : x.bare = true) : AllBare (s.setGen gn x).gens := by
  intro y hy
  have hy' : y ∈ s.gens.setIfInBounds gn x := hy
  rcases Array.mem_or_eq_of_mem_setIfInBounds hy' with h1 | h1
  · exact h y h1
  · rw [h1]; exact hx
section
variable {X : Cx} {pins : List (Addr × Obj)} {σ : L2.St} {Ac : Around} {IG : Hp → Shared → Prop} {tn : Nat → Heap → Prop} {fp : List Addr} {W : Nat → Nat → Hp → Prop} {Out : Nat → Nat → V → Hp → Prop} {Fin : Hp → Prop} {a : Addr} {gn : Nat}
theorem GRun.lt {i m n : Nat} {H : Hp} {s : Shared} (G : GRun X Ac IG tn fp W Out Fin gn i m n H s) : gn < s.gens.size := by
  obtain ⟨_, _, _, _, gs, h, _⟩ := G
  exact (Array.getElem?_eq_some_iff.mp h).1
/-- what a consumer lays beside it changes nothing -/
theorem GRun.kept (ig : IGok X pins σ a gn IG) (hk : ∀ i h h', tn i h → (∀ b o, h.get? b = some o → h'.get? b = some o) → tn i h') {i m n : Nat} {H : Hp} {s : Shared} {h' : Heap} {tk : Nat} (G : GRun X Ac IG tn fp W Out Fin gn i m n H s)
    (k : ∀ b o, s.heap.get? b = some o → h'.get? b = some o) : GRun X Ac IG tn fp W Out Fin gn i m n H { s with heap := h', toks := tk } := by
  obtain ⟨g1, g2, g3, g4, gs, g5, g6, g7⟩ := G
  exact ⟨ig.kept g1 k, hk _ _ _ g2 k, g3, g4, gs, g5, g6, g7⟩
theorem gx_next {E : Value → Shared → Prop} {Q : Option Value → Shared → Prop} {i m n : Nat} {H : Hp} {s : Shared} (ig : IGok X pins σ a gn IG) (hA : Ac.handled = none) (hd : Ac.depth < recursionLimit) (G : GRun X Ac IG tn fp W Out Fin gn i m n H s)
    (hout : ∀ v y H' s' i' m', RelV y v → Out i' m' y H' → IG H' s' → (∀ m'', m'' < m' → W (i' + 1) m'' H' → GRun X Ac IG tn fp W Out Fin gn (i' + 1) m'' (n - 1) H' s') → Q (some v) s')
    (hfin : ∀ H' s', Fin H' → IG H' s' → Q none s') : wpAny (model X.prog X.w) Ac (pyNext (.ref a)) Q E s := by
  have lt := G.lt
  obtain ⟨g1, g2, g3, g4, gs, g5, g6, g7⟩ := G
  have run : IG H (s.setGen gn .running) := ig.gens g1 (bare_set (ig.bare g1) rfl)
  refine wpAny_pyNext_genexpQ (P := gxR IG Fin) hA (ig.nolim g1) hd (ig.isgen g1) g5 (g7 _ run g2 (by rw [GenW.setGen_size]; exact lt)) (fun v s1 gs' hb hv => ?_) fun s1 hp h' hk => ?_
  · obtain ⟨i', m', y, H', r, I1, st1, nf, out, hg1, hmn, kap⟩ := hv
    have I2 : IG H' (s1.setGen gn gs') := ig.gens I1 (bare_set (ig.bare I1) hb)
    refine hout v y H' _ i' m' r out I2 fun m'' hm w' => ⟨I2, st1, nf, w', gs', ?_, by omega, fun s'' J'' st'' hg'' => ?_⟩
    · show (s1.gens.setIfInBounds gn gs')[gn]? = some gs'
      rw [Array.getElem?_setIfInBounds_self_of_lt hg1]
    · have q := kap m'' hm w' s'' J'' st'' hg''
      cases n with
      | zero => exact q.elim
      | succ n => exact q
  · obtain ⟨H', I1, fin⟩ := hp
    exact hfin H' _ fin (ig.kept (tk := (s1.setGen gn .finished).toks) (ig.gens I1 (bare_set (ig.bare I1) rfl)) hk)
end
/-! ### the generator made -/
section
variable {X : Cx} {pins : List (Addr × Obj)} {σ : L2.St} {H : Hp} {s : Shared}
theorem over_gen {Ag : Around} {stack : List Env} {elt tg iter : Expr} {ifs : List Expr} {scope : Scope} {gpos : Pos} {it : Value} {ce : Env} (hf : Ag.frames = some stack) :
    (Ag.over (.compLoop (.GeneratorExp elt [⟨tg, iter, ifs, 0⟩] scope gpos) 0 it .none ce) []).frames = some (ce :: stack) := by
  show pushEnvs [ce] (pushEnvs [] Ag.frames) = _
  rw [hf]
  rfl
theorem room_gen {Ag : Around} {k : Nat} {elt tg iter : Expr} {ifs : List Expr} {scope : Scope} {gpos : Pos} {it : Value} {ce : Env} (h1 : Ag.handled = none) (h2 : Ag.depth + 1 + 3 * k + 5 < recursionLimit) (h3 : Ag.units + 3 + 16 * k + 200 < cLine) :
    Room k (Ag.over (.compLoop (.GeneratorExp elt [⟨tg, iter, ifs, 0⟩] scope gpos) 0 it .none ce) []) := by
  refine ⟨h1, ?_, ?_⟩
  · show Ag.depth + 0 + 1 + 3 * k + 5 < _
    omega
  · show Ag.units + 0 + 3 + 16 * k + 200 < _
    omega
/-- a generator expression is made; Ac: where it will be asked -/
theorem gx_mk {c T : Addr} {elt tg iter : Expr} {ifs : List Expr} {scope : Scope} {own : List (Str × Nat)} {gpos : Pos} {wi : TI} {g : TG} {tt : TT} {te : TE} {k : Nat} {Q' : Value → Shared → Prop} {Outf : (Nat → Nat → Hp → Prop) → Nat → Nat → V → Hp → Prop} {Fin : Hp → Prop}
    (Ac : Around) (hA : Ac.handled = none) (hfr : Ac.frames = some X.stack) (hd : Ac.depth ≤ X.A.depth) (hu : Ac.units ≤ X.A.units + 8) (hr : Room (k + 1) X.A) (hc : X.calm = true) (hN : X.N.Nodup) (TB : GxR.TabB X.base X.mg c T) (hcode : X.env.code = .ref c) (ok : GOk X.N X.env.scope scope own) (hi : PI X tg iter wi)
    (hg : ∀ (A' : Around) (s3 : Shared) (H3 : Hp) (C : Addr) (code : Value) (fp : List Addr), PG (gxc X A' s3 H3 (genE X scope C code) fp) tg g)
    (ht : ∀ (A' : Around) (s3 : Shared) (H3 : Hp) (C : Addr) (code : Value) (fp : List Addr), Room k A' → PTs (gxc X A' s3 H3 (genE X scope C code) fp) ifs tt)
    (he : ∀ (A' : Around) (s3 : Shared) (H3 : Hp) (C : Addr) (code : Value) (fp : List Addr), Room k A' → PE (gxc X A' s3 H3 (genE X scope C code) fp) elt te)
    (hs : ∀ v, genFold iter X.env v = pure v) (I : Inv X pins σ H s)
    (h : wi σ H fun J H1 => GxR.TabG H1 T ∧ ∀ H2, GxR.Tabbed T H1 H2 → ∃ W, (∃ m, W 0 m H2) ∧ GTurns J g tt te (own.map (·.2)) σ W (Outf W) Fin)
    (hQ : ∀ (IG : Hp → Shared → Prop) (tn : Nat → Heap → Prop) (fp : List Addr) W (a : Addr) (gn m : Nat) (H2 : Hp) (s5 : Shared), IGok X pins σ a gn IG → (∀ i h h', tn i h → (∀ b o, h.get? b = some o → h'.get? b = some o) → tn i h') →
      GRun X Ac IG tn fp W (Outf W) Fin gn 0 m (m + 1) H2 s5 → Q' (.ref a) s5) :
    wpAny (model X.prog X.w) X.A (eval (.GeneratorExp elt [⟨tg, iter, ifs, 0⟩] scope gpos) X.env) Q' X.xe s := by
  have free := gx_free I ok
  refine wpAny_GeneratorExp_make ok.co (closure_ok free) ok.cell ok.dot ok.blk.kind (Nat.lt_of_le_of_lt (by omega : X.A.depth ≤ X.A.depth + 3 * (k + 1) + 5) hr.dp) ?_ hs
  refine thn (hi.run pins s σ H _ I h) fun xv s1 h1 => thn h1 fun itv s2 h2 => ?_
  obtain ⟨it, fp, tn, J, H1, rfl, J1, TU, st2, f2, ⟨ps, hT, hok⟩, q⟩ := h2
  have gT : s2.heap.get? T = some (PySem.W.tabObj ps) := J1.hok T _ hT
  have cd : PySem.W.CodeHd s2.heap c T := TB.code.keeps J1.bk
  refine ⟨J1.nolimit, ?_⟩
  have lts : ∀ b ∈ fp, b < s2.heap.objs.size := fun b hb => by
    obtain ⟨o, e, _⟩ := TU.obj _ _ st2 b hb
    exact Heap.lt_size e
  have nfT : ∀ b ∈ fp, b ≠ T := fun b hb z => by
    have := (f2 b hb).1
    rw [z, hT] at this
    cases this
  -- behind the code object
  have on : ∀ (code : Value) (h3 : Heap) (tk : Nat) (more : Array Value), Heap.ExtBut T s2.heap h3 → s2.heap.objs.size ≤ h3.objs.size → h3.get? T = some (PySem.W.tabObj (ps ++ more)) → TriplesOk (ps ++ more).toList →
      wpAny (model X.prog X.w) X.A (builtinsFor X.env.globals X.env.builtins) (fun bi s4 =>
        ∀ h', h'.Ns s4.heap.objs.size (fun y => if y = ".0" then some (.ref it) else none) → Heap.SameBut s4.heap.objs.size (s4.heap.push { cls := .type "frame", data := .dict #[] }) h' →
          Q' (.ref h'.objs.size) { s4 with
            gens := s4.gens.push (.fresh (.compStart (.GeneratorExp elt [⟨tg, iter, ifs, 0⟩] scope gpos) 0 (.ref it) .none (genEnv scope (cloFrom X.env.cells scope.names []) s4.heap.objs.size code bi X.env))),
            toks := s4.toks + 1 + 1 + 1,
            heap := h'.push { cls := .type "generator", data := .fields #[.int s4.gens.size 0, .str "<genexpr>" (s4.toks + 1), .str (X.env.qual ++ "<genexpr>") (s4.toks + 1 + 1)] } }) X.xe { s2 with heap := h3, toks := tk } := by
    intro code h3 tk more ext ge3 gT3 ok3
    have J3 : Inv X pins σ (upd H1 T (.tbl (ps ++ more))) { s2 with heap := h3, toks := tk } := GxR.inv_tab (g' := s2.gens) (d' := s2.drawn) J1 hT ext gT3 J1.bare
    have tb : GxR.Tabbed T H1 (upd H1 T (.tbl (ps ++ more))) := ⟨⟨_, upd_same, ok3⟩, fun b nb => upd_ne nb⟩
    obtain ⟨W, ⟨m0, w0⟩, turn⟩ := q _ tb
    obtain ⟨bm, ob, e1, e2, _, e4, e5, e6, e7, e8⟩ := TB.bm
    refine wpAny_builtinsFor (m := X.mg) (by rw [J3.ok.glob]; exact J3.mod.glob.keeps J3.bk) e1 e2 (ext _ _ e4 (J1.bk _ _ e5)) e6 e7 e8 ?_
    intro h' hn hsb
    have f3 : ∀ b ∈ fp, FpOk X pins (upd H1 T (.tbl (ps ++ more))) b ∧ b < h3.objs.size := fun b hb => by
      refine ⟨⟨?_, (f2 b hb).2⟩, Nat.lt_of_lt_of_le (lts b hb) ge3⟩
      rw [upd_ne (nfT b hb)]
      exact (f2 b hb).1
    have st3 : tn 0 h3 := TU.keep _ _ _ st2 fun b hb o e => ext b o (nfT b hb) e
    have nf3 : ∀ b ∈ fp, (upd H1 T (.tbl (ps ++ more))) b = none := fun b hb => (f3 b hb).1.1
    generalize hH3 : upd H1 T (.tbl (ps ++ more)) = H3 at J3 w0 f3 nf3
    generalize hs3 : ({ s2 with heap := h3, toks := tk } : Shared) = s3 at J3 hn hsb ⊢
    have eh : s3.heap = h3 := by rw [← hs3]
    have szh : h'.objs.size = s3.heap.objs.size + 1 := by rw [hsb.1, Heap.size_push]
    have kp : ∀ b o, s3.heap.get? b = some o → h'.get? b = some o := fun b o e => hsb.extBut b o (Nat.ne_of_lt (Heap.lt_size e)) (Heap.get?_push_of_some _ e)
    generalize hoG : ({ cls := .type "generator", data := .fields #[.int s3.gens.size 0, .str "<genexpr>" (s3.toks + 1), .str (X.env.qual ++ "<genexpr>") (s3.toks + 1 + 1)] } : Obj) = oG
    have na : h'.objs.size ∉ fp := fun z => by
      have := (f3 _ z).2
      rw [← eh] at this
      exact Nat.lt_irrefl _ (Nat.lt_of_lt_of_le this (by rw [szh]; exact Nat.le_succ _))
    have start := gx_start (A' := Ac.in1.over (.compLoop (.GeneratorExp elt [⟨tg, iter, ifs, 0⟩] scope gpos) 0 (.ref it) .none (genE X scope s3.heap.objs.size code)) []) (code := code) (it := .ref it) (oG := oG)
      (g' := s3.gens.push (.fresh (.compStart (.GeneratorExp elt [⟨tg, iter, ifs, 0⟩] scope gpos) 0 (.ref it) .none (genE X scope s3.heap.objs.size code)))) (t' := s3.toks + 1 + 1 + 1) J3 ok hN (fun b hb => ⟨(f3 b hb).1, by rw [eh]; exact (f3 b hb).2⟩) hA (over_gen hfr) hn hsb
      (fun v => by rw [← hoG]; exact fun z => nomatch z) (J3.bare.push rfl) (by rw [← hoG]; rfl)
    have rm : Room k (Ac.in1.over (.compLoop (.GeneratorExp elt [⟨tg, iter, ifs, 0⟩] scope gpos) 0 (.ref it) .none (genE X scope s3.heap.objs.size code)) []) :=
      room_gen hA (by have := hr.dp; show Ac.depth + 1 + 3 * k + 5 < _; omega) (by have := hr.un; show Ac.units + 1 + 3 + 16 * k + 200 < _; omega)
    refine hQ (fun H' s' => Inv (gxl X Ac.in1 elt tg iter ifs scope gpos it (genE X scope s3.heap.objs.size code) s3 H3 fp) [(h'.objs.size, oG)] (wipe σ (own.map (·.2))) H' s') tn fp W h'.objs.size s3.gens.size m0 H3 _ ?_ (fun i h h' st kk => TU.keep _ _ _ st fun b _ o e => kk b o e) ?_
    · refine ⟨fun I' => I'.bare, fun I' hb => ⟨I'.ok, I'.os, hb, I'.base, I'.loc, I'.cell, I'.free, I'.freeC, I'.pin, I'.hok, I'.len⟩, fun I' kk => I'.kept kk, fun I' => ?_, fun I' => I'.nolimit, fun I' => ?_⟩
      · have z := (I'.pin (h'.objs.size, oG) (by simp)).1
        rw [← hoG] at z
        exact ⟨_, _, _, z, rfl, rfl, rfl⟩
      · exact J3.call' (ch := fp) I'.os I'.base I'.hok I'.bare fun b hb => ⟨(f3 b hb).1.2.2.2.1, (f3 b hb).1.2.1, (f3 b hb).1.2.2.2.2.1, (f3 b hb).1.2.2.2.2.2⟩
    · refine ⟨start, TU.keep _ _ _ st3 fun b hb o e => Heap.get?_push_of_some _ (kp b o (by rw [eh]; exact e)), nf3, w0, _, Array.getElem?_push_size .., Nat.lt_succ_self _, fun s'' I'' st'' hg'' => ⟨rfl, ?_⟩⟩
      exact gx_seg0 TU st'' (gx_seg TU na ok.co (hg _ s3 H3 _ code fp) (ht _ s3 H3 _ code fp rm) (he _ s3 H3 _ code fp rm) turn _ rfl m0 (m0 + 1) 0 H3 s'' s'' (Nat.lt_succ_self _) I'' st'' nf3 w0 hg'')
  cases among : codeAmong gpos ps.toList with
  | some cv =>
    refine wpAny_genexprCode_hit hcode (cd.code gT hok) among ?_
    exact on cv s2.heap s2.toks #[] (Heap.ExtBut.refl _ _) (Nat.le_refl _) (by rw [Array.append_empty]; exact gT) (by rw [Array.append_empty]; exact hok)
  | none =>
    refine wpAny_genexprCodeX hcode (cd.code gT hok) (cd.tab gT) among fun c' h' tk hx hge hlt isC _ tab' _ => ?_
    obtain ⟨_, _, _, _, _, _, _, _, _, _, _, _, _, _, _, _, _, _, _, ok', _⟩ := isC
    exact on _ h' tk _ hx (Nat.le_trans hge (Nat.le_of_lt hlt)) tab'.2 ok'
end
/-! ### all(..) of a generator expression -/
def tAllG (T : Addr) (wi : TI) (g : TG) (tt : TT) (te : TE) (vs : List Nat) : TE := fun σ H Q => wi σ H fun J H1 => GxR.TabG H1 T ∧ ∀ H2, GxR.Tabbed T H1 H2 → ∃ W : Nat → Nat → Hp → Prop, (∃ m, W 0 m H2) ∧
  GTurns J g tt te vs σ W (fun i m y H' => ∃ k, y = .bl k ∧ (if k = true then ∃ m', m' < m ∧ W (i + 1) m' H' else Q (.bl false) H')) (fun H' => Q (.bl true) H')
section
variable {X : Cx} {pins : List (Addr × Obj)} {σ : L2.St}
theorem all_loop {IG : Hp → Shared → Prop} {tn : Nat → Heap → Prop} {fp : List Addr} {W : Nat → Nat → Hp → Prop} {a : Addr} {gn : Nat} {Q : VK} {R : Result → Shared → Prop} (ig : IGok X pins σ a gn IG) (hA : X.A.handled = none) (hd : X.A.depth < recursionLimit)
    (hR : ∀ b H s, Q (.bl b) H → IG H s → R (.ok (.ret (.bool b))) s) : ∀ (n i m : Nat) (H : Hp) (s : Shared),
    GRun X X.A.in1 IG tn fp W (fun i m y H' => ∃ k, y = .bl k ∧ (if k = true then ∃ m', m' < m ∧ W (i + 1) m' H' else Q (.bl false) H')) (fun H' => Q (.bl true) H') gn i m n H s →
    codeAny (model X.prog X.w) X.A (.builtin "all.loop" ⟨[.ref a], []⟩) R s := by
  intro n
  induction n with
  | zero =>
    intro i m H s G
    obtain ⟨_, _, _, _, gs, _, h, _⟩ := G
    exact absurd h (Nat.not_lt_zero _)
  | succ n ih =>
    intro i m H s G
    refine codeAny_builtin F.entry_all_loop ?_
    rw [Around.under_plainId F.plain_all_loop _]
    show wpAny _ X.A.in1 (pyNext (.ref a) >>= _) _ _ s
    refine wpAny_bind (gx_next ig hA hd G (fun v y H' s' i' m' r out I' cont => ?_) fun H' s' fin I' => ?_)
    · obtain ⟨k, rfl, hk⟩ := out
      obtain rfl : v = .bool k := r
      refine wpAny_bind (wpAny_holding (wpAny_truthy_bool ?_))
      refine wpAny_bind (wpAny_letGo ?_)
      cases k with
      | true =>
        obtain ⟨m'', hm, w'⟩ := hk
        exact wpAny_pure ⟨plainId_quiet F.plain_all_loop _, ih (i' + 1) m'' H' s' (cont m'' hm w')⟩
      | false =>
        refine wpAny_bind (wpAny_rule (wpAny_pure ?_))
        exact hR false H' s' hk I'
    · refine wpAny_bind (wpAny_rule (wpAny_pure ?_))
      exact hR true H' s' fin I'
theorem pe_allG {c T : Addr} {elt tg iter : Expr} {ifs : List Expr} {scope : Scope} {own : List (Str × Nat)} {gpos p pos : Pos} {wi : TI} {g : TG} {tt : TT} {te : TE} {k : Nat}
    (hr : Room (k + 1) X.A) (hgl : Gl X "all") (hm : X.mg "all" = none) (hc : X.calm = true) (hN : X.N.Nodup) (TB : GxR.TabB X.base X.mg c T) (hcode : X.env.code = .ref c) (ok : GOk X.N X.env.scope scope own) (hi : PI X tg iter wi)
    (hg : ∀ (A' : Around) (s3 : Shared) (H3 : Hp) (C : Addr) (code : Value) (fp : List Addr), PG (gxc X A' s3 H3 (genE X scope C code) fp) tg g)
    (ht : ∀ (A' : Around) (s3 : Shared) (H3 : Hp) (C : Addr) (code : Value) (fp : List Addr), Room k A' → PTs (gxc X A' s3 H3 (genE X scope C code) fp) ifs tt)
    (he : ∀ (A' : Around) (s3 : Shared) (H3 : Hp) (C : Addr) (code : Value) (fp : List Addr), Room k A' → PE (gxc X A' s3 H3 (genE X scope C code) fp) elt te)
    (hs : ∀ v, genFold iter X.env v = pure v := by intro _; rfl)
    (hst : starEach [.GeneratorExp elt [⟨tg, iter, ifs, 0⟩] scope gpos] X.env = (false, eval (.GeneratorExp elt [⟨tg, iter, ifs, 0⟩] scope gpos) X.env) :: starEach [] X.env := by rfl) :
    PE X (.Call (.Name "all" p) [.GeneratorExp elt [⟨tg, iter, ifs, 0⟩] scope gpos] [] pos) (tAllG T wi g tt te (own.map (·.2))) := by
  refine ⟨fun pins s σ H Q I h => wpAny_Call_Name_kw (ld_blt I hgl hm (show bootBuiltins "all" = some (.builtin "all") by decide +kernel) ?_)⟩
  refine PyProof.Rows.callWith_builtin1 ?_ hst (by rfl)
  rw [hst]
  have hA := I.ok.hd hc
  have hf := I.ok.frames
  refine Calls.spliced_cons (gx_mk (Outf := fun W i m y H' => ∃ k, y = .bl k ∧ (if k = true then ∃ m', m' < m ∧ W (i + 1) m' H' else Q (.bl false) H')) (Fin := fun H' => Q (.bl true) H')
    X.A.in1 hA hf (Nat.le_refl _) (by show X.A.units + 1 ≤ _; omega) hr hc hN TB hcode ok hi hg ht he hs I h ?_)
  · intro IG tn fp W a gn m H2 s5 ig hk G
    refine Calls.spliced_nil ?_
    refine call_function_tree F.kind_all F.plain_all F.entry_all (F.args_all1 _) ?_
    unfold Builtin.«all»
    refine wpAny_bind (m := oneArg "all" _) (wpAny_pure ?_)
    refine wpAny_bind (wpAny_pyIter_gen (ig.isgen G.1) ?_)
    exact wpAny_pure ⟨plainId_quiet F.plain_all_loop _, all_loop ig hA (Nat.lt_of_le_of_lt (by omega : X.A.depth ≤ X.A.depth + 3 * (k + 1) + 5) hr.dp) (fun b H s q I' => ⟨.bl b, H, ig.back I', rfl, q⟩) _ _ _ _ _ G⟩
end
/-! ### generators whose consumer keeps an object of its own -/
abbrev Pins := List (Addr × Obj)
def GTurnsL (J : It) (g : TG) (tt : TT) (te : TE) (vs : List Nat) (σ : L2.St) (W : Nat → Nat → List V → Hp → Prop) (Out : Nat → Nat → List V → V → Hp → Prop) (Fin : List V → Hp → Prop) : Prop :=
  ∀ i m ys H, W i m ys H → (J.stop i H ∧ Fin ys H) ∨ (J.go i H ∧ ∀ x H', J.yld i H x H' → g x (wipe σ vs) H' fun σ2 H2 => wipe σ2 vs = wipe σ vs ∧ tt σ2 H2 fun b H3 =>
    if b = true then te σ2 H3 fun y H4 => Out i m ys y H4 else ∃ m', m' < m ∧ W (i + 1) m' ys H3)
def gxYL (IG : Pins → Hp → Shared → Prop) (PX : List V → Pins → Prop) (tn : Nat → Heap → Prop) (fp : List Addr) (W : Nat → Nat → List V → Hp → Prop) (Out : Nat → Nat → List V → V → Hp → Prop) (gn : Nat) : Protocol := fun n s₀ v s kap =>
  ∃ i m ys y H px, (∀ p ∈ px, s₀.heap.get? p.1 = some p.2) ∧ RelV y v ∧ PX ys px ∧ IG px H s ∧ tn (i + 1) s.heap ∧ (∀ b ∈ fp, H b = none) ∧ Out i m ys y H ∧ gn < s.gens.size ∧ m ≤ n ∧
    ∀ m' px', m' < m → W (i + 1) m' (ys ++ [y]) H → PX (ys ++ [y]) px' → ∀ s'' : Shared, IG px' H s'' → tn (i + 1) s''.heap → gn < s''.gens.size → kap (.send .none) s''
def gxRL (IG : Pins → Hp → Shared → Prop) (PX : List V → Pins → Prop) (Fin : List V → Hp → Prop) : Nat → Shared → Shared → Prop := fun _ s₀ s1 => ∃ ys H px, (∀ p ∈ px, s₀.heap.get? p.1 = some p.2) ∧ PX ys px ∧ IG px H s1 ∧ Fin ys H
section
variable {X : Cx} {σ : L2.St} {Ag : Around} {tg elt iter : Expr} {ifs : List Expr} {scope : Scope} {gpos : Pos} {it a : Addr} {oG : Obj} {ce : Env} {fp : List Addr} {s3 : Shared} {H3 : Hp} {tn : Nat → Heap → Prop} {J : It} {vs : List Nat} {gn : Nat}
  {g : TG} {tt : TT} {te : TE} {W : Nat → Nat → List V → Hp → Prop} {Out : Nat → Nat → List V → V → Hp → Prop} {Fin : List V → Hp → Prop} {PX : List V → Pins → Prop}
theorem gx_statL {σ' : L2.St} {H' : Hp} {s' : Shared} {A' : Around} {px : Pins} (I' : Inv (gxc X A' s3 H3 ce fp) ((a, oG) :: px) σ' H' s') (na : a ∉ fp) (hpx : ∀ p ∈ px, p.1 ∉ fp) (hn : ∀ b ∈ fp, H' b = none) : ∀ b ∈ fp, FpOk (gxc X A' s3 H3 ce fp) ((a, oG) :: px) H' b := fun b hb => by
  refine ⟨hn b hb, (I'.ok.exf b hb).1, I'.ok.exfs b hb, .inl hb, fun x c e => (I'.ok.exf b hb).2 x c e, fun p hp z => ?_⟩
  have hp' : p ∈ (a, oG) :: px := by simpa using hp
  rcases List.mem_cons.mp hp' with e | e
  · subst e
    have z' : a = b := z
    exact na (z' ▸ hb)
  · exact hpx p e (z ▸ hb)
theorem gx_segL (T : Turn X.prog X.w X.K tg J fp it tn) (na : a ∉ fp) (hco : ce.scope.isCoroutine = false)
    (pg : PG (gxl X Ag elt tg iter ifs scope gpos it ce s3 H3 fp) tg g)
    (pt : PTs (gxl X Ag elt tg iter ifs scope gpos it ce s3 H3 fp) ifs tt)
    (pe : PE (gxl X Ag elt tg iter ifs scope gpos it ce s3 H3 fp) elt te)
    (turn : GTurnsL J g tt te vs σ W Out Fin) (IG : Pins → Hp → Shared → Prop) (Px : Pins → Prop) (hPx : ∀ px, Px px → ∀ p ∈ px, p.1 ∉ fp)
    (hIG : IG = fun px H s => Px px ∧ Inv (gxl X Ag elt tg iter ifs scope gpos it ce s3 H3 fp) ((a, oG) :: px) (wipe σ vs) H s) :
    ∀ (m n i : Nat) (ys : List V) (px : Pins) (H : Hp) (s s0 : Shared), m < n → (∀ p ∈ px, s0.heap.get? p.1 = some p.2) → PX ys px → IG px H s → tn i s.heap → (∀ b ∈ fp, H b = none) → W i m ys H → gn < s.gens.size →
      Seg (model X.prog X.w) Ag (fun n s0 r s1 => r = .ok .next ∧ gxRL IG PX Fin n s0 s1) (gxYL IG PX tn fp W Out gn) n s0
        (.compLoop (.GeneratorExp elt [⟨tg, iter, ifs, 0⟩] scope gpos) 0 (.ref it) .none ce)
        ((model X.prog X.w).den (.compLoop (.GeneratorExp elt [⟨tg, iter, ifs, 0⟩] scope gpos) 0 (.ref it) .none ce)) [] s := by
  intro m
  induction m using Nat.strongRecOn with
  | ind m ih =>
  intro n i ys px H s s0 hmn h00 hX I0 st n0 w0 hg
  have I1 : Px px ∧ Inv (gxl X Ag elt tg iter ifs scope gpos it ce s3 H3 fp) ((a, oG) :: px) (wipe σ vs) H s := by
    rw [hIG] at I0
    exact I0
  obtain ⟨hP, I⟩ := I1
  have hpx := hPx px hP
  show Seg _ Ag _ _ _ s0 _ ((compTurn (.GeneratorExp elt [⟨tg, iter, ifs, 0⟩] scope gpos) 0 (.ref it) .none ce).onRaise (leaving ce)) [] s
  rw [compTurn_gen, Sem.onRaise_eq_wrap]
  refine seg_bind_wrap (wpAny_standAt ?_)
  rcases turn i m ys H w0 with ⟨stop, fin⟩ | ⟨go, step⟩
  · refine seg_bind_wrap (thnF (T.done (gxl X Ag elt tg iter ifs scope gpos it ce s3 H3 fp) rfl rfl rfl rfl i ((a, oG) :: px) s _ H (fun _ _ => False) I (gx_statL I na hpx n0) st stop) fun r s6 ⟨hr, I6⟩ => ?_)
    subst hr
    exact seg_end (.ok .next) ⟨rfl, ys, H, px, h00, hX, by rw [hIG]; exact ⟨hP, I6⟩, fin⟩
  · refine seg_bind_wrap (GenW.wpAny_gsz hg (thnF (T.item (gxl X Ag elt tg iter ifs scope gpos it ce s3 H3 fp) rfl rfl rfl rfl i ((a, oG) :: px) s _ H (fun _ _ => False) I (gx_statL I na hpx n0) st go) fun r s6 ⟨u, hr, h6⟩ hg6 => ?_))
    subst hr
    refine seg_bind_wrap (GenW.wpAny_gsz hg6 (thnF h6 fun _ s7 ⟨x, H7, I7, r7, y7, st7, n7⟩ hg7 => ?_))
    have I7' := I7.pinned (gx_statL I7 na hpx n7) (T.obj _ _ st7)
    refine seg_bind_wrap (GenW.wpAny_gsz hg7 (thnF (pg.run _ s7 _ H7 x u _ I7' r7 (step x H7 y7)) fun _ s8 ⟨σ8, H8, I8, hw8, q8⟩ hg8 => ?_))
    refine seg_bind_wrap (GenW.wpAny_gsz hg8 (thnF (pt.run _ s8 σ8 H8 _ I8 q8) fun b s9 ⟨H9, I9, q9⟩ hg9 => ?_))
    have hl : (wipe σ vs).length = σ8.length := by rw [← hw8, wipe_length]
    have back : ∀ {s' : Shared} {H' : Hp}, Inv (gxl X Ag elt tg iter ifs scope gpos it ce s3 H3 fp) (((a, oG) :: px) ++ pinsAt fp s7.heap) σ8 H' s' →
        IG px H' s' ∧ tn (i + 1) s'.heap ∧ ∀ b ∈ fp, H' b = none := fun {s' H'} I' => by
      have pin' : ∀ b ∈ fp, ∀ o, s7.heap.get? b = some o → s'.heap.get? b = some o ∧ H' b = none := fun b hb o e =>
        let z := I'.pin (b, o) (List.mem_append_right _ (List.mem_append_right _ (mem_pinsAt hb e)))
        ⟨z.1, z.2.1⟩
      refine ⟨?_, T.keep _ _ _ st7 fun b hb o e => (pin' b hb o e).1, fun b hb => ?_⟩
      · rw [hIG]
        refine ⟨hP, I'.unpinned.weak hl fun j v e => ?_⟩
        rw [← hw8] at e
        exact (wipe_some e).1
      · obtain ⟨o, e, _⟩ := T.obj _ _ st7 b hb
        exact (pin' b hb o e).2
    cases b with
    | false =>
      simp only [Bool.false_eq_true, if_false] at q9 ⊢
      obtain ⟨m', hm, w'⟩ := q9
      obtain ⟨b1, b2, b3⟩ := back I9
      exact seg_again rfl (ih m' hm n (i + 1) ys px H9 s9 s0 (Nat.lt_trans hm hmn) h00 hX b1 b2 b3 w' hg9)
    | true =>
      simp only [if_true] at q9 ⊢
      have hy : ∀ v, yieldOut ce v = yieldValue v := fun v => by simp only [yieldOut, hco, Bool.false_eq_true, if_false]
      simp only [hy]
      rw [Sem.bind_eq_wrap', Sem.bind_eq_wrap', Sem.wrap_wrap, Sem.wrap_wrap]
      obtain ⟨n', rfl⟩ : ∃ n', n = n' + 1 := ⟨n - 1, by omega⟩
      refine seg_wrap (GenW.wpAny_gsz hg9 (thnF (pe.run _ s9 σ8 H9 _ I9 q9) fun z s10 ⟨yv, H10, I10, r10, out⟩ hg10 => ?_))
      obtain ⟨b1, b2, b3⟩ := back I10
      refine seg_at (seg_yield rfl rfl rfl ⟨i, m, ys, yv, H10, px, h00, r10, hX, b1, b2, b3, out, hg10, by omega, fun m' px' hm w' hX' s'' I'' st'' hg'' => ?_⟩)
      exact seg_again rfl (ih m' hm n' (i + 1) _ px' H10 s'' s'' (by omega) (fun p hp => by rw [hIG] at I''; exact (I''.2.pin p (by simp [hp])).1) hX' I'' st'' b3 w' hg'')
end
structure IGokL (X : Cx) (pins : List (Addr × Obj)) (σ : L2.St) (a : Addr) (gn : Nat) (tn : Nat → Heap → Prop) (IG : Pins → Hp → Shared → Prop) : Prop where
  bare : ∀ {px H s}, IG px H s → AllBare s.gens
  gens : ∀ {px H s g'}, IG px H s → AllBare g' → IG px H { s with gens := g' }
  kept : ∀ {px : Pins} {H : Hp} {s : Shared} {h' : Heap} {tk : Nat}, IG px H s → (∀ b o, s.heap.get? b = some o → h'.get? b = some o) → IG px H { s with heap := h', toks := tk }
  isgen : ∀ {px H s}, IG px H s → s.heap.IsGen a gn
  nolim : ∀ {px H s}, IG px H s → s.heap.NoLimit
  back : ∀ {px H s}, IG px H s → Inv X pins σ H s
  add : ∀ {H : Hp} {s : Shared} {h' : Heap} {tk : Nat} {S : Addr} {o : Obj}, IG [] H s → (∀ b u, s.heap.get? b = some u → h'.get? b = some u) → s.heap.objs.size ≤ S → h'.get? S = some o → (∀ v, o.data ≠ .cell v) → IG [(S, o)] H { s with heap := h', toks := tk }
  put : ∀ {H : Hp} {s : Shared} {h' : Heap} {tk : Nat} {S : Addr} {o o' : Obj}, IG [(S, o)] H s → (∀ b u, b ≠ S → s.heap.get? b = some u → h'.get? b = some u) → h'.get? S = some o' → (∀ v, o'.data ≠ .cell v) → IG [(S, o')] H { s with heap := h', toks := tk }
  own : ∀ {H s S o}, IG [(S, o)] H s → s.heap.get? S = some o
  tnk : ∀ {i h h'}, tn i h → (∀ b o, h.get? b = some o → h'.get? b = some o) → tn i h'
  tnp : ∀ {H s S o i h'}, IG [(S, o)] H s → tn i s.heap → (∀ b u, b ≠ S → s.heap.get? b = some u → h'.get? b = some u) → tn i h'
def GRunL (X : Cx) (Ac : Around) (IG : Pins → Hp → Shared → Prop) (PX : List V → Pins → Prop) (tn : Nat → Heap → Prop) (fp : List Addr) (W : Nat → Nat → List V → Hp → Prop) (Out : Nat → Nat → List V → V → Hp → Prop) (Fin : List V → Hp → Prop) (gn i m n : Nat) (ys : List V) (px : Pins) (H : Hp) (s : Shared) : Prop :=
  PX ys px ∧ IG px H s ∧ tn i s.heap ∧ (∀ b ∈ fp, H b = none) ∧ W i m ys H ∧ ∃ gs, s.gens[gn]? = some gs ∧ m < n ∧ ∀ (px' : Pins) (s'' : Shared), PX ys px' → IG px' H s'' → tn i s''.heap → gn < s''.gens.size →
    gs.Goes (model X.prog X.w) Ac.in1 (fun n s0 r s1 => r = .ok .next ∧ gxRL IG PX Fin n s0 s1) (gxYL IG PX tn fp W Out gn) n (.send .none) s''
def GStartL (X : Cx) (Ac : Around) (IG : Pins → Hp → Shared → Prop) (tn : Nat → Heap → Prop) (fp : List Addr) (W : Nat → Nat → List V → Hp → Prop) (Out : Nat → Nat → List V → V → Hp → Prop) (Fin : List V → Hp → Prop) (gn m : Nat) (H : Hp) (s : Shared) : Prop :=
  IG [] H s ∧ tn 0 s.heap ∧ (∀ b ∈ fp, H b = none) ∧ W 0 m [] H ∧ ∃ gs, s.gens[gn]? = some gs ∧ ∀ (PX : List V → Pins → Prop) (px' : Pins) (s'' : Shared), PX [] px' → IG px' H s'' → tn 0 s''.heap → gn < s''.gens.size →
    gs.Goes (model X.prog X.w) Ac.in1 (fun n s0 r s1 => r = .ok .next ∧ gxRL IG PX Fin n s0 s1) (gxYL IG PX tn fp W Out gn) (m + 1) (.send .none) s''
section
variable {X : Cx} {pins : List (Addr × Obj)} {σ : L2.St} {Ac : Around} {IG : Pins → Hp → Shared → Prop} {PX : List V → Pins → Prop} {tn : Nat → Heap → Prop} {fp : List Addr} {W : Nat → Nat → List V → Hp → Prop} {Out : Nat → Nat → List V → V → Hp → Prop} {Fin : List V → Hp → Prop} {a : Addr} {gn : Nat}
theorem gx_nextL {E : Value → Shared → Prop} {Q : Option Value → Shared → Prop} {i m n : Nat} {ys : List V} {px : Pins} {H : Hp} {s : Shared} (ig : IGokL X pins σ a gn tn IG) (hA : Ac.handled = none) (hd : Ac.depth < recursionLimit) (G : GRunL X Ac IG PX tn fp W Out Fin gn i m n ys px H s)
    (hout : ∀ v y H' s' i' m' ys' px', (∀ p ∈ px', s.heap.get? p.1 = some p.2) → RelV y v → Out i' m' ys' y H' → PX ys' px' → IG px' H' s' → tn (i' + 1) s'.heap →
      (∀ m'' px'' h' tk, m'' < m' → W (i' + 1) m'' (ys' ++ [y]) H' → PX (ys' ++ [y]) px'' → IG px'' H' { s' with heap := h', toks := tk } → tn (i' + 1) h' → GRunL X Ac IG PX tn fp W Out Fin gn (i' + 1) m'' (n - 1) (ys' ++ [y]) px'' H' { s' with heap := h', toks := tk }) → Q (some v) s')
    (hfin : ∀ ys' H' s' px', (∀ p ∈ px', s.heap.get? p.1 = some p.2) → Fin ys' H' → PX ys' px' → IG px' H' s' → Q none s') : wpAny (model X.prog X.w) Ac (pyNext (.ref a)) Q E s := by
  obtain ⟨g0, g1, g2, g3, g4, gs, g5, g6, g7⟩ := G
  have lt := (Array.getElem?_eq_some_iff.mp g5).1
  have run : IG px H (s.setGen gn .running) := ig.gens g1 (bare_set (ig.bare g1) rfl)
  refine wpAny_pyNext_genexpQ (P := gxRL IG PX Fin) hA (ig.nolim g1) hd (ig.isgen g1) g5 (g7 px _ g0 run g2 (by rw [GenW.setGen_size]; exact lt)) (fun v s1 gs' hb hv => ?_) fun s1 hp h' hk => ?_
  · obtain ⟨i', m', ys', y, H', px', h00, r, hX, I1, st1, nf, out, hg1, hmn, kap⟩ := hv
    have I2 : IG px' H' (s1.setGen gn gs') := ig.gens I1 (bare_set (ig.bare I1) hb)
    refine hout v y H' _ i' m' ys' px' h00 r out hX I2 st1 fun m'' px'' h' tk hm w' hX' I3 st3 => ⟨hX', I3, st3, nf, w', gs', ?_, by omega, fun pz s'' hXz J'' st'' hg'' => ?_⟩
    · show (s1.gens.setIfInBounds gn gs')[gn]? = some gs'
      rw [Array.getElem?_setIfInBounds_self_of_lt hg1]
    · have q := kap m'' pz hm w' hXz s'' J'' st'' hg''
      cases n with
      | zero => exact q.elim
      | succ n => exact q
  · obtain ⟨ys', H', px', h00, hX, I1, fin⟩ := hp
    exact hfin ys' H' _ px' h00 fin hX (ig.kept (tk := (s1.setGen gn .finished).toks) (ig.gens I1 (bare_set (ig.bare I1) rfl)) hk)
/-- from the start on, with what the consumer keeps -/
theorem GStartL.run {m : Nat} {H : Hp} {s : Shared} {px : Pins} {h' : Heap} {tk : Nat} (G : GStartL X Ac IG tn fp W Out Fin gn m H s) (hX : PX [] px) (I : IG px H { s with heap := h', toks := tk }) (st : tn 0 h') : GRunL X Ac IG PX tn fp W Out Fin gn 0 m (m + 1) [] px H { s with heap := h', toks := tk } := by
  obtain ⟨g1, g2, g3, g4, gs, g5, g7⟩ := G
  exact ⟨hX, I, st, g3, g4, gs, g5, Nat.lt_succ_self _, fun px' s'' hX' I' st' hg => g7 PX px' s'' hX' I' st' hg⟩
end
section
variable {X : Cx} {pins : List (Addr × Obj)} {σ : L2.St} {H : Hp} {s : Shared}
theorem gx_mkL {c T : Addr} {elt tg iter : Expr} {ifs : List Expr} {scope : Scope} {own : List (Str × Nat)} {gpos : Pos} {wi : TI} {g : TG} {tt : TT} {te : TE} {k : Nat} {Q' : Value → Shared → Prop} {Outf : (Nat → Nat → List V → Hp → Prop) → Nat → Nat → List V → V → Hp → Prop} {Fin : List V → Hp → Prop}
    (Ac : Around) (hA : Ac.handled = none) (hfr : Ac.frames = some X.stack) (hd : Ac.depth ≤ X.A.depth) (hu : Ac.units ≤ X.A.units + 8) (hr : Room (k + 1) X.A) (hc : X.calm = true) (hN : X.N.Nodup) (TB : GxR.TabB X.base X.mg c T) (hcode : X.env.code = .ref c) (ok : GOk X.N X.env.scope scope own) (hi : PI X tg iter wi)
    (hg : ∀ (A' : Around) (s3 : Shared) (H3 : Hp) (C : Addr) (code : Value) (fp : List Addr), PG (gxc X A' s3 H3 (genE X scope C code) fp) tg g)
    (ht : ∀ (A' : Around) (s3 : Shared) (H3 : Hp) (C : Addr) (code : Value) (fp : List Addr), Room k A' → PTs (gxc X A' s3 H3 (genE X scope C code) fp) ifs tt)
    (he : ∀ (A' : Around) (s3 : Shared) (H3 : Hp) (C : Addr) (code : Value) (fp : List Addr), Room k A' → PE (gxc X A' s3 H3 (genE X scope C code) fp) elt te)
    (hs : ∀ v, genFold iter X.env v = pure v) (I : Inv X pins σ H s)
    (h : wi σ H fun J H1 => GxR.TabG H1 T ∧ ∀ H2, GxR.Tabbed T H1 H2 → ∃ W, (∃ m, W 0 m [] H2) ∧ GTurnsL J g tt te (own.map (·.2)) σ W (Outf W) Fin)
    (hQ : ∀ (IG : Pins → Hp → Shared → Prop) (tn : Nat → Heap → Prop) (fp : List Addr) W (a : Addr) (gn m : Nat) (H2 : Hp) (s5 : Shared), IGokL X pins σ a gn tn IG →
      GStartL X Ac IG tn fp W (Outf W) Fin gn m H2 s5 → Q' (.ref a) s5) :
    wpAny (model X.prog X.w) X.A (eval (.GeneratorExp elt [⟨tg, iter, ifs, 0⟩] scope gpos) X.env) Q' X.xe s := by
  have free := gx_free I ok
  refine wpAny_GeneratorExp_make ok.co (closure_ok free) ok.cell ok.dot ok.blk.kind (Nat.lt_of_le_of_lt (by omega : X.A.depth ≤ X.A.depth + 3 * (k + 1) + 5) hr.dp) ?_ hs
  refine thn (hi.run pins s σ H _ I h) fun xv s1 h1 => thn h1 fun itv s2 h2 => ?_
  obtain ⟨it, fp, tn, J, H1, rfl, J1, TU, st2, f2, ⟨ps, hT, hok⟩, q⟩ := h2
  have gT : s2.heap.get? T = some (PySem.W.tabObj ps) := J1.hok T _ hT
  have cd : PySem.W.CodeHd s2.heap c T := TB.code.keeps J1.bk
  refine ⟨J1.nolimit, ?_⟩
  have lts : ∀ b ∈ fp, b < s2.heap.objs.size := fun b hb => by
    obtain ⟨o, e, _⟩ := TU.obj _ _ st2 b hb
    exact Heap.lt_size e
  have nfT : ∀ b ∈ fp, b ≠ T := fun b hb z => by
    have := (f2 b hb).1
    rw [z, hT] at this
    cases this
  -- behind the code object
  have on : ∀ (code : Value) (h3 : Heap) (tk : Nat) (more : Array Value), Heap.ExtBut T s2.heap h3 → s2.heap.objs.size ≤ h3.objs.size → h3.get? T = some (PySem.W.tabObj (ps ++ more)) → TriplesOk (ps ++ more).toList →
      wpAny (model X.prog X.w) X.A (builtinsFor X.env.globals X.env.builtins) (fun bi s4 =>
        ∀ h', h'.Ns s4.heap.objs.size (fun y => if y = ".0" then some (.ref it) else none) → Heap.SameBut s4.heap.objs.size (s4.heap.push { cls := .type "frame", data := .dict #[] }) h' →
          Q' (.ref h'.objs.size) { s4 with
            gens := s4.gens.push (.fresh (.compStart (.GeneratorExp elt [⟨tg, iter, ifs, 0⟩] scope gpos) 0 (.ref it) .none (genEnv scope (cloFrom X.env.cells scope.names []) s4.heap.objs.size code bi X.env))),
            toks := s4.toks + 1 + 1 + 1,
            heap := h'.push { cls := .type "generator", data := .fields #[.int s4.gens.size 0, .str "<genexpr>" (s4.toks + 1), .str (X.env.qual ++ "<genexpr>") (s4.toks + 1 + 1)] } }) X.xe { s2 with heap := h3, toks := tk } := by
    intro code h3 tk more ext ge3 gT3 ok3
    have J3 : Inv X pins σ (upd H1 T (.tbl (ps ++ more))) { s2 with heap := h3, toks := tk } := GxR.inv_tab (g' := s2.gens) (d' := s2.drawn) J1 hT ext gT3 J1.bare
    have tb : GxR.Tabbed T H1 (upd H1 T (.tbl (ps ++ more))) := ⟨⟨_, upd_same, ok3⟩, fun b nb => upd_ne nb⟩
    obtain ⟨W, ⟨m0, w0⟩, turn⟩ := q _ tb
    obtain ⟨bm, ob, e1, e2, _, e4, e5, e6, e7, e8⟩ := TB.bm
    refine wpAny_builtinsFor (m := X.mg) (by rw [J3.ok.glob]; exact J3.mod.glob.keeps J3.bk) e1 e2 (ext _ _ e4 (J1.bk _ _ e5)) e6 e7 e8 ?_
    intro h' hn hsb
    have f3 : ∀ b ∈ fp, FpOk X pins (upd H1 T (.tbl (ps ++ more))) b ∧ b < h3.objs.size := fun b hb => by
      refine ⟨⟨?_, (f2 b hb).2⟩, Nat.lt_of_lt_of_le (lts b hb) ge3⟩
      rw [upd_ne (nfT b hb)]
      exact (f2 b hb).1
    have st3 : tn 0 h3 := TU.keep _ _ _ st2 fun b hb o e => ext b o (nfT b hb) e
    have nf3 : ∀ b ∈ fp, (upd H1 T (.tbl (ps ++ more))) b = none := fun b hb => (f3 b hb).1.1
    generalize hH3 : upd H1 T (.tbl (ps ++ more)) = H3 at J3 w0 f3 nf3
    generalize hs3 : ({ s2 with heap := h3, toks := tk } : Shared) = s3 at J3 hn hsb ⊢
    have eh : s3.heap = h3 := by rw [← hs3]
    have szh : h'.objs.size = s3.heap.objs.size + 1 := by rw [hsb.1, Heap.size_push]
    have kp : ∀ b o, s3.heap.get? b = some o → h'.get? b = some o := fun b o e => hsb.extBut b o (Nat.ne_of_lt (Heap.lt_size e)) (Heap.get?_push_of_some _ e)
    generalize hoG : ({ cls := .type "generator", data := .fields #[.int s3.gens.size 0, .str "<genexpr>" (s3.toks + 1), .str (X.env.qual ++ "<genexpr>") (s3.toks + 1 + 1)] } : Obj) = oG
    have na : h'.objs.size ∉ fp := fun z => by
      have := (f3 _ z).2
      rw [← eh] at this
      exact Nat.lt_irrefl _ (Nat.lt_of_lt_of_le this (by rw [szh]; exact Nat.le_succ _))
    have start := gx_start (A' := Ac.in1.over (.compLoop (.GeneratorExp elt [⟨tg, iter, ifs, 0⟩] scope gpos) 0 (.ref it) .none (genE X scope s3.heap.objs.size code)) []) (code := code) (it := .ref it) (oG := oG)
      (g' := s3.gens.push (.fresh (.compStart (.GeneratorExp elt [⟨tg, iter, ifs, 0⟩] scope gpos) 0 (.ref it) .none (genE X scope s3.heap.objs.size code)))) (t' := s3.toks + 1 + 1 + 1) J3 ok hN (fun b hb => ⟨(f3 b hb).1, by rw [eh]; exact (f3 b hb).2⟩) hA (over_gen hfr) hn hsb
      (fun v => by rw [← hoG]; exact fun z => nomatch z) (J3.bare.push rfl) (by rw [← hoG]; rfl)
    have rm : Room k (Ac.in1.over (.compLoop (.GeneratorExp elt [⟨tg, iter, ifs, 0⟩] scope gpos) 0 (.ref it) .none (genE X scope s3.heap.objs.size code)) []) :=
      room_gen hA (by have := hr.dp; show Ac.depth + 1 + 3 * k + 5 < _; omega) (by have := hr.un; show Ac.units + 1 + 3 + 16 * k + 200 < _; omega)
    let Px : Pins → Prop := fun px => ∀ p ∈ px, h'.objs.size + 1 ≤ p.1
    have hPx : ∀ px, Px px → ∀ p ∈ px, p.1 ∉ fp := fun px z p hp q => by
      have l1 : h'.objs.size + 1 ≤ p.1 := z p hp
      have l2 := (f3 _ q).2
      rw [← eh] at l2
      have l0 : s3.heap.objs.size ≤ h'.objs.size + 1 := by omega
      exact Nat.lt_irrefl _ (Nat.lt_of_lt_of_le l2 (Nat.le_trans l0 l1))
    refine hQ (fun px H' s' => Px px ∧ Inv (gxl X Ac.in1 elt tg iter ifs scope gpos it (genE X scope s3.heap.objs.size code) s3 H3 fp) ((h'.objs.size, oG) :: px) (wipe σ (own.map (·.2))) H' s') tn fp W h'.objs.size s3.gens.size m0 H3 _ ?_ ?_
    · have bk : ∀ {px : Pins} {H' : Hp} {s' : Shared}, Inv (gxl X Ac.in1 elt tg iter ifs scope gpos it (genE X scope s3.heap.objs.size code) s3 H3 fp) ((h'.objs.size, oG) :: px) (wipe σ (own.map (·.2))) H' s' → Inv X pins σ H' s' := fun I' =>
        J3.call' (ch := fp) I'.os I'.base I'.hok I'.bare fun b hb => ⟨(f3 b hb).1.2.2.2.1, (f3 b hb).1.2.1, (f3 b hb).1.2.2.2.2.1, (f3 b hb).1.2.2.2.2.2⟩
      refine ⟨fun I' => I'.2.bare, fun I' hb => ⟨I'.1, I'.2.ok, I'.2.os, hb, I'.2.base, I'.2.loc, I'.2.cell, I'.2.free, I'.2.freeC, I'.2.pin, I'.2.hok, I'.2.len⟩, fun I' kk => ⟨I'.1, I'.2.kept kk⟩, fun I' => ?_, fun I' => I'.2.nolimit, fun I' => bk I'.2, ?_, ?_, ?_, ?_, ?_⟩
      · have z := (I'.2.pin (h'.objs.size, oG) (by simp)).1
        rw [← hoG] at z
        exact ⟨_, _, _, z, rfl, rfl, rfl⟩
      · intro H' s' h2' tk' S o I' kk hS e nc
        have g0 := (I'.2.pin (h'.objs.size, oG) (by simp)).1
        have l0 := Heap.lt_size g0
        refine ⟨fun p hp => ?_, ?_⟩
        · rw [List.mem_singleton.mp hp]
          exact Nat.le_trans l0 hS
        · have K1 := I'.2.kept (t' := tk') kk
          have F := I'.2.fpOk (b := S) hS (I'.2.hok.fresh hS)
          refine K1.pins_of fun p hp => ?_
          rcases List.mem_cons.mp hp with z | z
          · rw [z]
            exact K1.pin _ (by simp)
          · rw [List.mem_singleton.mp z]
            exact ⟨e, F.1, F.2.1, F.2.2.1, nc⟩
      · intro H' s' h2' tk' S o o' I' kk e nc
        obtain ⟨p1, I1⟩ := I'
        obtain ⟨q1, q2, q3, q4, q5⟩ := I1.pin (S, o) (by simp)
        have lS : h'.objs.size + 1 ≤ S := p1 (S, o) (by simp)
        have Iu : Inv (gxl X Ac.in1 elt tg iter ifs scope gpos it (genE X scope s3.heap.objs.size code) s3 H3 fp) [(h'.objs.size, oG)] (wipe σ (own.map (·.2))) H' s' := I1.pins_of fun p hp => I1.pin p (by rw [List.mem_singleton.mp hp]; simp)
        have K1 := Iu.turned (t' := tk') (it := S) kk q2 q3 (.inr (by show s3.heap.objs.size ≤ S; omega)) (fun y cc ec z => ?_) (fun p hp z => ?_)
        · refine ⟨fun p hp => by rw [List.mem_singleton.mp hp]; exact lS, K1.pins_of fun p hp => ?_⟩
          rcases List.mem_cons.mp hp with z | z
          · rw [z]
            exact K1.pin _ (by simp)
          · rw [List.mem_singleton.mp z]
            exact ⟨e, q2, q3, q4, nc⟩
        · obtain ⟨v, zc⟩ := J3.cell y cc (by
            have ec' : (cloFrom X.env.cells scope.names []).lookup y = some cc := ec
            rcases cloFrom_mem (PySem.mem_of_lookup ec') with hm | ⟨h1, rfl⟩
            · cases hm
            · obtain ⟨c0, hc0⟩ := free _ h1 rfl
              rw [hc0]
              rfl)
          have l0 : s3.heap.objs.size ≤ h'.objs.size + 1 := by omega
          have l4 := zc.lt
          rw [z] at l4
          exact Nat.lt_irrefl _ (Nat.lt_of_lt_of_le l4 (Nat.le_trans l0 lS))
        · have hp' : p = (h'.objs.size, oG) := by simpa using hp
          rw [hp'] at z
          have z' : h'.objs.size = S := z
          omega
      · intro H' s' S o I'
        exact (I'.2.pin (S, o) (by simp)).1
      · exact fun st kk => TU.keep _ _ _ st fun b _ o e => kk b o e
      · intro H' s' S o i h2' I' st kk
        refine TU.keep _ _ _ st fun b hb ob e => kk b ob (fun z => ?_) e
        exact hPx _ I'.1 (S, o) (by simp) (z ▸ hb)
    · refine ⟨⟨fun p hp => (nomatch hp), start⟩, TU.keep _ _ _ st3 fun b hb o e => Heap.get?_push_of_some _ (kp b o (by rw [eh]; exact e)), nf3, w0, _, Array.getElem?_push_size .., fun PX px s'' hX I'' st'' hg'' => ⟨rfl, ?_⟩⟩
      exact gx_seg0 TU st'' (gx_segL TU na ok.co (hg _ s3 H3 _ code fp) (ht _ s3 H3 _ code fp rm) (he _ s3 H3 _ code fp rm) turn _ Px hPx rfl m0 (m0 + 1) 0 [] px H3 s'' s'' (Nat.lt_succ_self _) (fun p hp => (I''.2.pin p (by simp [hp])).1) hX I'' st'' nf3 w0 hg'')
  cases among : codeAmong gpos ps.toList with
  | some cv =>
    refine wpAny_genexprCode_hit hcode (cd.code gT hok) among ?_
    exact on cv s2.heap s2.toks #[] (Heap.ExtBut.refl _ _) (Nat.le_refl _) (by rw [Array.append_empty]; exact gT) (by rw [Array.append_empty]; exact hok)
  | none =>
    refine wpAny_genexprCodeX hcode (cd.code gT hok) (cd.tab gT) among fun c' h' tk hx hge hlt isC _ tab' _ => ?_
    obtain ⟨_, _, _, _, _, _, _, _, _, _, _, _, _, _, _, _, _, _, _, ok', _⟩ := isC
    exact on _ h' tk _ hx (Nat.le_trans hge (Nat.le_of_lt hlt)) tab'.2 ok'
end
/-! ### tuple(..) of a generator expression -/
abbrev lsO (acc : Array Value) (c : Nat) : Obj := { cls := .type "list", dict := none, data := .seq acc c, slots := #[] }
def pxL (S : Addr) : List V → Pins → Prop := fun ys px => ∃ acc c, px = [(S, lsO acc c)] ∧ Vals ys acc.toList
abbrev outL (W : Nat → Nat → List V → Hp → Prop) : Nat → Nat → List V → V → Hp → Prop := fun i m ys y H' => ys.length < sizeLine ∧ ∃ m', m' < m ∧ W (i + 1) m' (ys ++ [y]) H'
section
variable {X : Cx} {pins : List (Addr × Obj)} {σ : L2.St} {IG : Pins → Hp → Shared → Prop} {tn : Nat → Heap → Prop} {fp : List Addr} {W : Nat → Nat → List V → Hp → Prop} {Fin : List V → Hp → Prop} {a : Addr} {gn : Nat} {B : Around}
theorem vals_len {ys : List V} {acc : Array Value} (h : Vals ys acc.toList) : acc.size = ys.length := by
  rw [← Array.length_toList]
  exact h.length.symm
theorem gx_extend {S : Addr} {res : Value} {R : Result → Shared → Prop} (ig : IGokL X pins σ a gn tn IG) (hA : B.handled = none) (hd : B.depth < recursionLimit)
    (hR : ∀ ys acc c H s, Vals ys acc.toList → Fin ys H → IG [(S, lsO acc c)] H s → R (.ok (.ret res)) s) : ∀ (n i m : Nat) (ys : List V) (px : Pins) (H : Hp) (s : Shared),
    GRunL X B.in1 IG (pxL S) tn fp W (outL W) Fin gn i m n ys px H s → codeAny (model X.prog X.w) B (.builtin "list.extend.loop" ⟨[.ref S, .ref a, res], []⟩) R s := by
  intro n
  induction n with
  | zero =>
    intro i m ys px H s G
    obtain ⟨_, _, _, _, _, gs, _, h, _⟩ := G
    exact absurd h (Nat.not_lt_zero _)
  | succ n ih =>
    intro i m ys px H s G
    refine codeAny_builtin F.entry_extend_loop (Around.under_plainId (A := B) F.plain_extend_loop _ ▸ ?_)
    show wpAny _ B.in1 (pyNext (.ref a) >>= _) _ _ s
    refine wpAny_bind (gx_nextL ig hA hd G (fun v y H' s' i' m' ys' px' _ r out hX I' st' cont => ?_) fun ys' H' s' px' _ fin hX I' => ?_)
    · obtain ⟨acc, c, rfl, hv⟩ := hX
      obtain ⟨hlt, m'', hm, w'⟩ := out
      have own := ig.own I'
      have ln := vals_len hv
      have oth : ∀ b u, b ≠ S → s'.heap.get? b = some u → (s'.heap.update S (Obj.mapSeq (·.push v))).get? b = some u := fun b u nb e => (Heap.get?_update_other _ _ (Ne.symm nb)).trans e
      have self := Heap.get?_update_self (Obj.mapSeq (·.push v)) own rfl
      show wpAny _ B.in1 (updateSeq S (·.push v) >>= _) _ _ _
      refine wpAny_bind (wpAny_updateSeq own rfl (wpAny_pure ⟨plainId_quiet F.plain_extend_loop _, ih (i' + 1) m'' _ _ H' _ (cont m'' _ _ s'.toks hm w' ⟨acc.push v, _, rfl, ?_⟩ (ig.put I' oth self fun u z => nomatch z) (ig.tnp I' st' oth))⟩) (by omega)
        (by show (acc.push v).size ≤ sizeLine + 1; rw [Array.size_push]; omega))
      rw [Array.toList_push]
      exact Paired.snoc hv r
    · obtain ⟨acc, c, rfl, hv⟩ := hX
      exact wpAny_pure (hR ys' acc c H' s' hv fin I')
/-- what is collected from it -/
theorem gx_collect {Q : List Value → Shared → Prop} {E : Value → Shared → Prop} {m : Nat} {H : Hp} {s : Shared} (ig : IGokL X pins σ a gn tn IG) (hA : B.handled = none) (hd : B.depth < recursionLimit)
    (G : GStartL X B.in1 IG tn fp W (outL W) Fin gn m H s) (hQ : ∀ ys (acc : Array Value) H' s', Vals ys acc.toList → Fin ys H' → Inv X pins σ H' s' → Q acc.toList s') : wpAny (model X.prog X.w) B (collect (.ref a)) Q E s := by
  have g0 := ig.isgen G.1
  have lt : (a : Nat) < s.heap.objs.size := by
    obtain ⟨o, nm, qn, ho, _⟩ := g0
    exact Heap.lt_size ho
  have nSa : s.heap.objs.size ≠ a := Nat.ne_of_gt lt
  unfold collect
  refine wpAny_bind (wpAny_runValue (codeAny_builtin F.entry_proto_collect (Around.under_plainId (A := B) F.plain_proto_collect _ ▸ ?_)))
  show wpAny _ B.in1 (newList [] >>= fun l => again (.builtin "list.__iadd__" ⟨[l, .ref a], []⟩)) _ _ s
  refine wpAny_bind (wpAny_newObj_type (wpAny_pure ⟨plainId_quiet F.plain_list_iadd _, codeAny_builtin F.entry_list_iadd (Around.under_plainId (A := B) F.plain_list_iadd _ ▸ ?_)⟩))
  have k1 : ∀ b u, s.heap.get? b = some u → (s.heap.push { cls := .type "list", data := .seq ([] : List Value).toArray }).get? b = some u := fun b u e => Heap.get?_push_of_some _ e
  have gS : (s.heap.push { cls := .type "list", data := .seq ([] : List Value).toArray }).get? s.heap.objs.size = some (lsO #[] 0) := Heap.get?_push_size _ rfl
  generalize s.heap.push { cls := .type "list", data := .seq ([] : List Value).toArray } = h1 at k1 gS
  have ty : Shared.TypeIs { s with heap := h1 } (.ref a) "generator" := Heap.IsGen.typeIs (s := { s with heap := h1 }) (g0.keeps k1)
  show wpAny _ B.in1 (Builtin.List.listExtendWith (.ref s.heap.objs.size) (.ref a) (.ref s.heap.objs.size)) _ _ _
  unfold Builtin.List.listExtendWith
  refine wpAny_bind (wpAny_typeOf ty ?_)
  simp only [show Builtin.List.listSameRef (.ref s.heap.objs.size) (.ref a) = false by simp [Builtin.List.listSameRef, nSa], show (Value.type "generator" == Value.type "list") = false by decide, show (Value.type "generator" == Value.type "tuple") = false by decide, Bool.or_false, Bool.false_eq_true, if_false]
  refine wpAny_bind (wpAny_pyIter_gen (s := { s with heap := h1 }) (g0.keeps k1) (wpAny_bind (wpAny_holding ?_)))
  unfold Builtin.List.listLengthHint
  refine wpAny_bind (wpAny_specialOf ty F.gen_no_len ?_)
  show wpAny _ B.in1 (specialOf (Value.ref a) (Str.ofString "__length_hint__") >>= _) _ _ _
  refine wpAny_bind (wpAny_specialOf ty F.gen_no_hint (wpAny_pure ?_))
  show wpAny _ B.in1 (rule "list.extend.makes-room" >>= fun _ => Builtin.List.listTouch (.ref s.heap.objs.size) >>= fun _ => again (.builtin "list.extend.loop" ⟨[.ref s.heap.objs.size, .ref a, .ref s.heap.objs.size], []⟩)) _ _ _
  refine wpAny_bind (wpAny_rule (wpAny_bind ?_))
  show wpAny _ B.in1 (updateSeq s.heap.objs.size (·.push .none) >>= fun _ => updateSeq s.heap.objs.size (·.pop)) _ _ _
  refine wpAny_bind (wpAny_updateSeq gS rfl ?_)
  have gS2 := Heap.get?_update_self (Obj.mapSeq (·.push Value.none)) gS rfl
  refine wpAny_updateSeq gS2 rfl ?_
  have gS3 := Heap.get?_update_self (Obj.mapSeq (·.pop)) gS2 rfl
  have oth : ∀ b u, b ≠ s.heap.objs.size → h1.get? b = some u → ((h1.update s.heap.objs.size (Obj.mapSeq (·.push Value.none))).update s.heap.objs.size (Obj.mapSeq (·.pop))).get? b = some u := fun b u nb e =>
    (Heap.get?_update_other _ _ (Ne.symm nb)).trans ((Heap.get?_update_other _ _ (Ne.symm nb)).trans e)
  have I1 := ig.add (tk := s.toks) G.1 k1 (Nat.le_refl _) gS fun u z => nomatch z
  have st1 := ig.tnk G.2.1 k1
  have I3 := ig.put (tk := s.toks) I1 oth gS3 fun u z => nomatch z
  have st3 := ig.tnp I1 st1 oth
  refine wpAny_pure ⟨plainId_quiet F.plain_extend_loop _, gx_extend ig hA hd (fun ys acc c H' s' hv fin I' => ?_) (m + 1) 0 m [] _ H _ (G.run (PX := pxL s.heap.objs.size) ⟨#[], _, rfl, .nil⟩ I3 st3)⟩
  show wpAny _ B (load s.heap.objs.size >>= _) _ _ s'
  exact wpAny_bind (wpAny_load (ig.own I') (wpAny_pure (hQ ys acc H' s' hv fin (ig.back I'))))
theorem gx_tuple {A : Around} {Q : Value → Shared → Prop} {E : Value → Shared → Prop} {m : Nat} {H : Hp} {s : Shared} (ig : IGokL X pins σ a gn tn IG) (hA : A.handled = none) (hd : A.depth < recursionLimit)
    (G : GStartL X A.in1.in1.in1 IG tn fp W (outL W) Fin gn m H s) (hz : ∀ ys H', Fin ys H' → ys.length ≤ sizeLine)
    (hQ : ∀ ys (acc : Array Value) H' s', Vals ys acc.toList → Fin ys H' → Inv X pins σ H' s' → Q (.ref s'.heap.objs.size) { s' with heap := s'.heap.push { cls := .type "tuple", data := .seq acc } }) :
    wpAny (model X.prog X.w) A (call (.type "tuple") [.ref a]) Q E s := by
  refine callType_codes (Q₁ := fun obj s1 => s1.TypeIs obj "tuple" ∧ Q obj s1) F.called_tuple (F.typeCall_tuple_1 _) F.entry_object_init (codeAny_of_tree ?_) fun obj s1 h1 =>
    ⟨h1.1, F.args_object_init_2 obj _, object_init_meets F.called_tuple.init.lookup F.called_tuple.made (by decide) X.prog X.w A.in1 _ s1 ⟨h1.1, rfl, h1.2⟩⟩
  show wpAny _ A.in1.in1 (do checkBuiltinCall "tuple.__new__" ⟨[.type "tuple", .ref a], []⟩; again (.builtin "tuple.__new__" ⟨[.type "tuple", .ref a], []⟩)) _ _ s
  refine wpAny_bind (wpAny_of_eq (F.newCall_tuple_1 _) (wpAny_pure ⟨plainId_quiet F.plain_tuple_new _, codeAny_builtin F.entry_tuple_new (Around.under_plainId (A := A.in1) F.plain_tuple_new _ ▸ ?_)⟩))
  have e1 := sub_tuple_self
  have e2 := init_tuple_lookup
  have e3 := madeHere_tuple
  have ty : s.TypeIs (.ref a) "generator" := Heap.IsGen.typeIs (ig.isgen G.1)
  wp_walk using wpAny_typeOf ty, gx_collect (B := A.in1.in1) ig hA hd G
  intro ys acc H' s' hv fin I'
  show wpAny _ _ (Builtin.Tuple.tupleExact acc.toList.toArray >>= fun v => ret v) _ _ _
  unfold Builtin.Tuple.tupleExact
  rw [show acc.toList.toArray = acc by simp]
  exact wpAny_bind (wpAny_newObj_type (wpAny_pure ⟨⟨_, Heap.get?_push_size _ rfl, rfl⟩, hQ ys acc H' s' hv fin I'⟩) (by show acc.size ≤ sizeLine; rw [vals_len hv]; exact hz ys H' fin))
end
def tTupG (T : Addr) (wi : TI) (g : TG) (tt : TT) (te : TE) (vs : List Nat) : TE := fun σ H Q => wi σ H fun J H1 => GxR.TabG H1 T ∧ ∀ H2, GxR.Tabbed T H1 H2 → ∃ W : Nat → Nat → List V → Hp → Prop, (∃ m, W 0 m [] H2) ∧
  GTurnsL J g tt te vs σ W (outL W) (fun ys H' => ys.length ≤ sizeLine ∧ ∀ p, H' p = none → Q (.ref p) (upd H' p (.tup ys)))
section
variable {X : Cx} {pins : List (Addr × Obj)} {σ : L2.St}
theorem pe_tupG {c T : Addr} {elt tg iter : Expr} {ifs : List Expr} {scope : Scope} {own : List (Str × Nat)} {gpos p pos : Pos} {wi : TI} {g : TG} {tt : TT} {te : TE} {k : Nat}
    (hr : Room (k + 1) X.A) (hgl : Gl X "tuple") (hm : X.mg "tuple" = none) (hc : X.calm = true) (hN : X.N.Nodup) (TB : GxR.TabB X.base X.mg c T) (hcode : X.env.code = .ref c) (ok : GOk X.N X.env.scope scope own) (hi : PI X tg iter wi)
    (hg : ∀ (A' : Around) (s3 : Shared) (H3 : Hp) (C : Addr) (code : Value) (fp : List Addr), PG (gxc X A' s3 H3 (genE X scope C code) fp) tg g)
    (ht : ∀ (A' : Around) (s3 : Shared) (H3 : Hp) (C : Addr) (code : Value) (fp : List Addr), Room k A' → PTs (gxc X A' s3 H3 (genE X scope C code) fp) ifs tt)
    (he : ∀ (A' : Around) (s3 : Shared) (H3 : Hp) (C : Addr) (code : Value) (fp : List Addr), Room k A' → PE (gxc X A' s3 H3 (genE X scope C code) fp) elt te)
    (hs : ∀ v, genFold iter X.env v = pure v := by intro _; rfl)
    (hst : starEach [.GeneratorExp elt [⟨tg, iter, ifs, 0⟩] scope gpos] X.env = (false, eval (.GeneratorExp elt [⟨tg, iter, ifs, 0⟩] scope gpos) X.env) :: starEach [] X.env := by rfl) :
    PE X (.Call (.Name "tuple" p) [.GeneratorExp elt [⟨tg, iter, ifs, 0⟩] scope gpos] [] pos) (tTupG T wi g tt te (own.map (·.2))) := by
  refine ⟨fun pins s σ H Q I h => wpAny_Call_Name_kw (ld_blt I hgl hm (show bootBuiltins "tuple" = some (.type "tuple") by decide +kernel) ?_)⟩
  refine PyProof.Rows.callWith_type1 ?_ hst (by rfl)
  rw [hst]
  have hA := I.ok.hd hc
  have hf := I.ok.frames
  refine Calls.spliced_cons (gx_mkL (Outf := outL) (Fin := fun ys H' => ys.length ≤ sizeLine ∧ ∀ p, H' p = none → Q (.ref p) (upd H' p (.tup ys)))
    X.A.in1.in1.in1 hA hf (Nat.le_refl _) (by show X.A.units + 1 + 1 + 1 ≤ _; omega) hr hc hN TB hcode ok hi hg ht he hs I h ?_)
  intro IG tn fp W a gn m H2 s5 ig G
  refine Calls.spliced_nil (gx_tuple ig hA (Nat.lt_of_le_of_lt (by omega : X.A.depth ≤ X.A.depth + 3 * (k + 1) + 5) hr.dp) G (fun ys H' z => z.1) fun ys acc H' s' hv fin I' => ?_)
  have nw := I'.hok.fresh (Nat.le_refl s'.heap.objs.size)
  exact ⟨.ref s'.heap.objs.size, _, I'.laid (t' := s'.toks) (o := .tup ys) (fun b u e => Heap.get?_push_of_some _ e) (Nat.le_refl _) ⟨fin.1, acc.toList, hv, ⟨_, Heap.get?_push_size _ rfl, rfl, 0, by show Data.seq acc 0 = Data.seq acc.toList.toArray 0; rw [Array.toArray_toList]⟩⟩, rfl, fin.2 _ nw⟩
end
/-! ### sum(..) of a generator expression -/
def pxN (S : Addr) : List V → Pins → Prop := fun ys px => ∃ (ns : List Int) (t : Tok) (c : Nat), ys = ns.map V.int ∧ px = [(S, lsO #[.int ns.sum t] c)]
abbrev outN (W : Nat → Nat → List V → Hp → Prop) : Nat → Nat → List V → V → Hp → Prop := fun i m ys y H' => (∃ k, y = .int k) ∧ ∃ m', m' < m ∧ W (i + 1) m' (ys ++ [y]) H'
theorem sum_snoc (ns : List Int) (k : Int) : (ns ++ [k]).sum = ns.sum + k := by simp
section
variable {X : Cx} {pins : List (Addr × Obj)} {σ : L2.St} {IG : Pins → Hp → Shared → Prop} {tn : Nat → Heap → Prop} {fp : List Addr} {W : Nat → Nat → List V → Hp → Prop} {Fin : List V → Hp → Prop} {a : Addr} {gn : Nat} {B : Around}
theorem gx_sumloop {S : Addr} {R : Result → Shared → Prop} (ig : IGokL X pins σ a gn tn IG) (hA : B.handled = none) (hd : B.depth < recursionLimit)
    (hR : ∀ (ns : List Int) (t : Tok) (H : Hp) (s : Shared), Fin (ns.map V.int) H → Inv X pins σ H s → R (.ok (.ret (.int ns.sum t))) s) : ∀ (n i m : Nat) (ys : List V) (px : Pins) (H : Hp) (s : Shared) (st : Int), (st = 0 ∨ st = 2) →
    GRunL X B.in1 IG (pxN S) tn fp W (outN W) Fin gn i m n ys px H s → codeAny (model X.prog X.w) B (.builtin "sum.loop" ⟨[.ref a, .ref S, rawInt st, rawInt 0], []⟩) R s := by
  intro n
  induction n with
  | zero =>
    intro i m ys px H s st _ G
    obtain ⟨_, _, _, _, _, gs, _, h, _⟩ := G
    exact absurd h (Nat.not_lt_zero _)
  | succ n ih =>
    intro i m ys px H s st hst G
    obtain ⟨ns, t, c, rfl, rfl⟩ := id G.1
    have own0 := ig.own G.2.1
    refine codeAny_builtin F.entry_sum_loop (Around.under_plainId (A := B) F.plain_sum_loop _ ▸ ?_)
    show wpAny _ B.in1 (seqItems? (.ref S) >>= _) _ _ s
    refine wpAny_bind (wpAny_seqItems own0 rfl ?_)
    show wpAny _ B.in1 (tryCatch (pyNext (.ref a)) _ >>= _) _ _ s
    refine wpAny_bind (wpAny_tryCatch (gx_nextL ig hA hd G (fun v y H' s' i' m' ys' px' h00 r out hX I' st' cont => ?_) fun ys' H' s' px' h00 fin hX I' => ?_))
    · obtain ⟨ns', t', c', rfl, rfl⟩ := hX
      have e0 := (h00 (S, lsO #[.int ns'.sum t'] c') (by simp)).symm.trans own0
      have es : ns'.sum = ns.sum ∧ t' = t ∧ c' = c := by
        simp only [Option.some.injEq, Obj.mk.injEq, Data.seq.injEq, Array.mk.injEq, List.cons.injEq, Value.int.injEq] at e0
        exact ⟨e0.2.2.1.1.1.1, e0.2.2.1.1.1.2, e0.2.2.1.2⟩
      obtain ⟨e1, rfl, rfl⟩ := es
      obtain ⟨⟨k, rfl⟩, m'', hm, w'⟩ := out
      obtain ⟨tk, rfl⟩ : ∃ tk, v = .int k tk := r
      have own := ig.own I'
      rw [e1] at own
      -- the state behind the store
      have next : ∀ (tq : Tok) (c2 : Nat) (h2 : Heap) (tks : Nat) (st2 : Int), (st2 = 0 ∨ st2 = 2) → (∀ b u, b ≠ S → s'.heap.get? b = some u → h2.get? b = some u) → h2.get? S = some (lsO #[.int (ns.sum + k) tq] c2) →
          codeAny (model X.prog X.w) B (.builtin "sum.loop" ⟨[.ref a, .ref S, rawInt st2, rawInt 0], []⟩) R { s' with heap := h2, toks := tks } := fun tq c2 h2 tks st2 hst2 oth self =>
        ih (i' + 1) m'' _ _ H' _ st2 hst2 (cont m'' [(S, lsO #[.int (ns.sum + k) tq] c2)] h2 tks hm w' ⟨ns' ++ [k], tq, c2, by rw [List.map_append]; rfl, by rw [sum_snoc, e1]⟩ (ig.put I' oth self fun u z => nomatch z) (ig.tnp I' st' oth))
      have oth1 : ∀ {f : Array Value → Array Value} {h : Heap}, (∀ b u, b ≠ S → s'.heap.get? b = some u → h.get? b = some u) → ∀ b u, b ≠ S → s'.heap.get? b = some u → (h.update S (Obj.mapSeq f)).get? b = some u := fun hh b u nb e => (Heap.get?_update_other _ _ (Ne.symm nb)).trans (hh b u nb e)
      have o0 : ∀ b u, b ≠ S → s'.heap.get? b = some u → s'.heap.get? b = some u := fun _ _ _ e => e
      rcases hst with rfl | rfl
      · show wpAny _ B.in1 (if (_ : Bool) = true then (mkInt (ns.sum + k) >>= _) else _) _ _ _
        split
        · refine wpAny_bind (wpAny_mkInt ?_)
          show wpAny _ B.in1 (updateSeq S (fun _ => #[.int (ns.sum + k) s'.toks]) >>= _) _ _ _
          exact wpAny_bind (wpAny_updateSeq own rfl (wpAny_pure ⟨plainId_quiet F.plain_sum_loop _, next s'.toks _ _ _ 0 (.inl rfl) (oth1 o0) (Heap.get?_update_self _ own rfl)⟩))
        · refine wpAny_bind (wpAny_rule (wpAny_bind (wpAny_attempt (wpAny_holding (wpAny_add_int ?_)))))
          show wpAny _ B.in1 (updateSeq S (fun _ => #[.int (ns.sum + k) s'.toks]) >>= _) _ _ _
          refine wpAny_bind (wpAny_updateSeq own rfl ?_)
          have own2 := Heap.get?_update_self (Obj.mapSeq fun _ => #[Value.int (ns.sum + k) s'.toks]) own rfl
          exact wpAny_bind (wpAny_letGo (wpAny_bind (wpAny_updateSeq own2 rfl (wpAny_pure ⟨plainId_quiet F.plain_sum_loop _, next s'.toks _ _ _ 2 (.inr rfl) (oth1 (oth1 o0)) (Heap.get?_update_self _ own2 rfl)⟩))))
      · show wpAny _ B.in1 ((holding [Value.int k tk] (binaryOp .Add (.int ns.sum t') (.int k tk))).attempt >>= _) _ _ _
        refine wpAny_bind (wpAny_attempt (wpAny_holding (wpAny_add_int ?_)))
        show wpAny _ B.in1 (updateSeq S (fun _ => #[.int (ns.sum + k) s'.toks]) >>= _) _ _ _
        refine wpAny_bind (wpAny_updateSeq own rfl ?_)
        have own2 := Heap.get?_update_self (Obj.mapSeq fun _ => #[Value.int (ns.sum + k) s'.toks]) own rfl
        exact wpAny_bind (wpAny_letGo (wpAny_bind (wpAny_updateSeq own2 rfl (wpAny_pure ⟨plainId_quiet F.plain_sum_loop _, next s'.toks _ _ _ 2 (.inr rfl) (oth1 (oth1 o0)) (Heap.get?_update_self _ own2 rfl)⟩))))
    · obtain ⟨ns', t', c', rfl, rfl⟩ := hX
      have e0 := (h00 (S, lsO #[.int ns'.sum t'] c') (by simp)).symm.trans own0
      have es : ns'.sum = ns.sum ∧ t' = t ∧ c' = c := by
        simp only [Option.some.injEq, Obj.mk.injEq, Data.seq.injEq, Array.mk.injEq, List.cons.injEq, Value.int.injEq] at e0
        exact ⟨e0.2.2.1.1.1.1, e0.2.2.1.1.1.2, e0.2.2.1.2⟩
      obtain ⟨e1, rfl, rfl⟩ := es
      have := hR ns' t' H' s' fin (ig.back I')
      rw [e1] at this
      exact wpAny_pure this
theorem gx_sum {Q : Value → Shared → Prop} {E : Value → Shared → Prop} {m : Nat} {H : Hp} {s : Shared} (ig : IGokL X pins σ a gn tn IG) (hA : B.handled = none) (hd : B.depth < recursionLimit)
    (G : GStartL X B.in1 IG tn fp W (outN W) Fin gn m H s) (hQ : ∀ (ns : List Int) (t : Tok) (H' : Hp) (s' : Shared), Fin (ns.map V.int) H' → Inv X pins σ H' s' → Q (.int ns.sum t) s') :
    wpAny (model X.prog X.w) B (call (.builtin "sum") [.ref a]) Q E s := by
  have g0 := ig.isgen G.1
  refine call_function_tree F.kind_sum F.plain_sum F.entry_sum (F.args_sum1 _) ?_
  unfold Builtin.«sum»
  simp only [List.length_cons, List.length_nil]
  rw [if_neg (by decide)]
  refine wpAny_bind (wpAny_of_eq (show Builtin.Builtins.bindParams "sum" ["start"] 0 { } = pure [none] from rfl) (wpAny_bind (wpAny_pyIter_gen g0 (wpAny_bind (wpAny_mkInt (wpAny_bind (wpAny_pure ?_)))))))
  simp only [List.forIn_cons, List.forIn_nil]
  refine wpAny_bind (wpAny_bind (wpAny_bind (wpAny_isInstance (T := "int") (b := false) (typeIs_int _ _ _) PySem.sub_int_str ?_)))
  simp only [Bool.false_eq_true, if_false]
  refine wpAny_pure (wpAny_bind (wpAny_bind (wpAny_isInstance (T := "int") (b := false) (typeIs_int _ _ _) PySem.sub_int_bytes ?_)))
  simp only [Bool.false_eq_true, if_false]
  refine wpAny_pure (wpAny_bind (wpAny_bind (wpAny_isInstance (T := "int") (b := false) (typeIs_int _ _ _) PySem.sub_int_bytearray ?_)))
  simp only [Bool.false_eq_true, if_false]
  refine wpAny_pure (wpAny_pure (wpAny_bind (wpAny_newObj_type ?_)))
  have k1 : ∀ b u, s.heap.get? b = some u → (s.heap.push { cls := .type "list", data := .seq ([Value.int 0 s.toks] : List Value).toArray }).get? b = some u := fun b u e => Heap.get?_push_of_some _ e
  have gS : (s.heap.push { cls := .type "list", data := .seq ([Value.int 0 s.toks] : List Value).toArray }).get? s.heap.objs.size = some (lsO #[.int ([] : List Int).sum s.toks] 0) := Heap.get?_push_size _ rfl
  exact wpAny_pure ⟨plainId_quiet F.plain_sum_loop _, gx_sumloop ig hA hd (fun ns t H' s' fin I' => hQ ns t H' s' fin I') (m + 1) 0 m [] _ H _ 0 (.inl rfl) (G.run (PX := pxN s.heap.objs.size) ⟨[], s.toks, 0, rfl, rfl⟩ (ig.add (tk := _) G.1 k1 (Nat.le_refl _) gS fun u z => nomatch z) (ig.tnk G.2.1 k1))⟩
end
def tSumG (T : Addr) (wi : TI) (g : TG) (tt : TT) (te : TE) (vs : List Nat) : TE := fun σ H Q => wi σ H fun J H1 => GxR.TabG H1 T ∧ ∀ H2, GxR.Tabbed T H1 H2 → ∃ W : Nat → Nat → List V → Hp → Prop, (∃ m, W 0 m [] H2) ∧
  GTurnsL J g tt te vs σ W (outN W) (fun ys H' => ∀ ns : List Int, ys = ns.map V.int → Q (.int ns.sum) H')
section
variable {X : Cx} {pins : List (Addr × Obj)} {σ : L2.St}
theorem pe_sumG {c T : Addr} {elt tg iter : Expr} {ifs : List Expr} {scope : Scope} {own : List (Str × Nat)} {gpos p pos : Pos} {wi : TI} {g : TG} {tt : TT} {te : TE} {k : Nat}
    (hr : Room (k + 1) X.A) (hgl : Gl X "sum") (hm : X.mg "sum" = none) (hc : X.calm = true) (hN : X.N.Nodup) (TB : GxR.TabB X.base X.mg c T) (hcode : X.env.code = .ref c) (ok : GOk X.N X.env.scope scope own) (hi : PI X tg iter wi)
    (hg : ∀ (A' : Around) (s3 : Shared) (H3 : Hp) (C : Addr) (code : Value) (fp : List Addr), PG (gxc X A' s3 H3 (genE X scope C code) fp) tg g)
    (ht : ∀ (A' : Around) (s3 : Shared) (H3 : Hp) (C : Addr) (code : Value) (fp : List Addr), Room k A' → PTs (gxc X A' s3 H3 (genE X scope C code) fp) ifs tt)
    (he : ∀ (A' : Around) (s3 : Shared) (H3 : Hp) (C : Addr) (code : Value) (fp : List Addr), Room k A' → PE (gxc X A' s3 H3 (genE X scope C code) fp) elt te)
    (hs : ∀ v, genFold iter X.env v = pure v := by intro _; rfl)
    (hst : starEach [.GeneratorExp elt [⟨tg, iter, ifs, 0⟩] scope gpos] X.env = (false, eval (.GeneratorExp elt [⟨tg, iter, ifs, 0⟩] scope gpos) X.env) :: starEach [] X.env := by rfl) :
    PE X (.Call (.Name "sum" p) [.GeneratorExp elt [⟨tg, iter, ifs, 0⟩] scope gpos] [] pos) (tSumG T wi g tt te (own.map (·.2))) := by
  refine ⟨fun pins s σ H Q I h => wpAny_Call_Name_kw (ld_blt I hgl hm (show bootBuiltins "sum" = some (.builtin "sum") by decide +kernel) ?_)⟩
  refine PyProof.Rows.callWith_builtin1 ?_ hst (by rfl)
  rw [hst]
  have hA := I.ok.hd hc
  have hf := I.ok.frames
  refine Calls.spliced_cons (gx_mkL (Outf := outN) (Fin := fun ys H' => ∀ ns : List Int, ys = ns.map V.int → Q (.int ns.sum) H')
    X.A.in1 hA hf (Nat.le_refl _) (by show X.A.units + 1 ≤ _; omega) hr hc hN TB hcode ok hi hg ht he hs I h ?_)
  intro IG tn fp W a gn m H2 s5 ig G
  exact Calls.spliced_nil (gx_sum ig hA (Nat.lt_of_le_of_lt (by omega : X.A.depth ≤ X.A.depth + 3 * (k + 1) + 5) hr.dp) G fun ns t H' s' fin I' => ⟨.int ns.sum, H', I', ⟨t, rfl⟩, fin ns rfl⟩)
end
section
variable {P : Program} {w : World} {K : PySem.W.Frag} {mg : Str → Option Value} {base : Heap}
theorem scBehind : FnScope ["house", "at", "there", "entry"] ["house", "at"] (defScope sBehind) := ⟨rfl, rfl, rfl, by decide +kernel, rfl, by decide +kernel, by decide +kernel⟩
theorem scTrackAt : FnScope ["house", "place", "at"] ["house", "place", "at"] (defScope sTrackAt) := ⟨rfl, rfl, rfl, by decide +kernel, rfl, by decide +kernel, by decide +kernel⟩
theorem ok_behind {f fF fX : Addr} {fd dF dX : FuncData} (F : Fun K "tracks_behind" "tracks_behind" sBehind f fd) (FI : DefT P w K mg base "tracks_at_first" 1 fF dF ["house"] spFirst) (XC : DefT P w K mg base "exchanged" 2 fX dX ["there", "entry"] spExch) :
    FnOk P w K mg base CX0 3 f fd ["house", "at"] spBehind := by
  refine F.ok scBehind (fun vs H Q E h => ?_) (fun cdv A outer s H vs Q E hr h => ?_)
  · obtain ⟨h, PL, G, es, m, k, rfl, _⟩ := h
    rfl
  · obtain ⟨h, PL, G, es, m, k, rfl, ho, gd, km, m30, q⟩ := h
    have nd := scBehind.nd
    have hr1 : Room 1 _ := hr.mono (by decide)
    refine ⟨_, pss_cons (ps_set (i := 2) nd rfl (Or.inl rfl) (pe_call FI.ok hr1 (by rfl) FI.g FI.kp FI.b .nil pass0 (pa_cons (pv 0) pa_nil)))
      (pss_cons (ps_for PassesOwn.never rfl (pi_tup (pe_slice sl_to (pe_ix ix_tup (pv 0) pe_int (fun _ _ => rfl)) po_none (po_some (pv 1)))) (pg_name (i := 3) nd rfl (Or.inl rfl))
        (pss_one (ps_set (i := 2) nd rfl (Or.inl rfl) (pe_call XC.ok hr (by rfl) XC.g XC.kp XC.b .nil pass0 (pa_cons (pv 2) (pa_cons (pv 3) pa_nil))))))
      (pss_one (ps_ret (pv 2)))), ?_⟩
    refine ⟨_, rfl, h, PL, G, es, m, rfl, ho, gd, fun d H1 s1 hd => ?_⟩
    obtain ⟨hp, hg, he, tps, h1, h2, h3, h4, h5⟩ := (ho.on (TK.of s1)).ex
    have lt : tps.length = m := h5.len.trans gd.many
    refine ⟨_, rfl, h, _, 2, _, rfl, rfl, SqT.of h1, atI_nat (j := 2) rfl, _, rfl, k, rfl, he, _, k, rfl, h4, rfl, rfl, fun a H2 s2 ha => ⟨a, rfl, ⟨_, SqT.of ha⟩, ?_⟩⟩
    refine for_tup (K := K) (a := a) (xs := (tps.map V.ref).take k) (fun i σ H' => ∃ y3 d, σ = [some (.ref h), some (.int (k : Nat)), some (.ref d), y3] ∧ Same H2 H' ∧ H' d = some (.dK (kvT PL (tau (es.take i)))))
      ⟨_, d, rfl, fun _ _ e => e, s2 _ _ hd⟩ (fun i σ H' _ z => by obtain ⟨_, _, _, sm, _⟩ := z; exact SqT.of (sm _ _ ha)) ?_ ?_
    · rintro i x σ H' hx ⟨y3, d', rfl, sm, hd'⟩
      have li : i < k := by
        have := (List.getElem?_eq_some_iff.mp hx).1
        rw [List.length_take] at this
        omega
      rw [List.getElem?_take_of_lt li, List.getElem?_map] at hx
      obtain ⟨tp, htp, rfl⟩ := Option.map_eq_some_iff.mp hx
      obtain ⟨e, hee, hte⟩ := h5.get htp
      refine ⟨_, rfl, _, rfl, d', tp, PL, _, e, rfl, hd', sm _ _ (s2 _ _ hte), gd.sw (List.mem_of_getElem? hee), gd.nd, gd.le, fun d2 H3 s3 h3 => ⟨_, d2, rfl, sm.trans s3, ?_⟩⟩
      rw [h3, take_snoc hee, tau_snoc]
    · rintro σ H' ⟨y3, d', rfl, sm, hd'⟩
      refine ⟨_, rfl, q d' H' (s1.trans (s2.trans sm)) ?_⟩
      rw [hd', List.length_take, List.length_map, Nat.min_eq_left (by omega)]
theorem ok_trackAt {f fB : Addr} {fd dB : FuncData} (F : Fun K "track_at" "track_at" sTrackAt f fd) (BH : DefT P w K mg base "tracks_behind" 3 fB dB ["house", "at"] spBehind) : FnOk P w K mg base CX0 4 f fd ["house", "place", "at"] spTrackAt := by
  refine F.ok scTrackAt (fun vs H Q E h => ?_) (fun cdv A outer s H vs Q E hr h => ?_)
  · obtain ⟨h, PL, G, es, m, k, x, rfl, _⟩ := h
    rfl
  · obtain ⟨h, PL, G, es, m, k, x, rfl, ho, gd, km, m30, hx, q⟩ := h
    refine ⟨_, pss_one (ps_ret (pe_dget (hu_of hr) (pe_call BH.ok hr (by rfl) BH.g BH.kp BH.b .nil pass0 (pa_cons (pv 0) (pa_cons (pv 2) pa_nil))) (pv 1) (fun _ _ => rfl))), ?_⟩
    refine ⟨_, rfl, _, rfl, h, PL, G, es, m, k, rfl, ho, gd, km, m30, fun d H1 s1 hd => ?_⟩
    exact ⟨_, rfl, d, _, rfl, DGet.k (k := Sum.inr x) hd |> fun g => (valV_kvT hx) ▸ g, q H1 s1⟩
end
/-! ### along_tracks -/
/-- nothing but the tables has changed -/
def TabsG (Ts : List Addr) (H : Hp) : Prop := ∀ T ∈ Ts, GxR.TabG H T
structure TB1 (Ts : List Addr) (H H' : Hp) : Prop where
  tg : TabsG Ts H'
  kp : ∀ a o, H a = some o → (∀ ps, o ≠ .tbl ps) → H' a = some o
  free : ∀ a, H' a = none → H a = none
  oth : ∀ a o, H a = some o → a ∉ Ts → H' a = some o
theorem tabg_sm {H H' : Hp} {T : Addr} (sm : Same H H') (t : GxR.TabG H T) : GxR.TabG H' T := by
  obtain ⟨ps, e, ok⟩ := t
  exact ⟨ps, sm _ _ e, ok⟩
theorem tabs_sm {H H' : Hp} {Ts : List Addr} (sm : Same H H') (t : TabsG Ts H) : TabsG Ts H' := fun T hT => tabg_sm sm (t T hT)
theorem TB1.same {Ts : List Addr} {H H' : Hp} (t : TabsG Ts H) (sm : Same H H') : TB1 Ts H H' := ⟨tabs_sm sm t, fun a o e _ => sm a o e, fun a n => sm.free n, fun a o e _ => sm a o e⟩
theorem TB1.tr {Ts : List Addr} {H H1 H2 : Hp} (a : TB1 Ts H H1) (b : TB1 Ts H1 H2) : TB1 Ts H H2 := ⟨b.1, fun c o e n => b.2 c o (a.2 c o e n) n, fun c n => a.free c (b.free c n), fun c o e n => b.oth c o (a.oth c o e n) n⟩
theorem TB1.tab {Ts : List Addr} {T : Addr} {H H' : Hp} (t : GxR.Tabbed T H H') (g : TabsG Ts H) (hT : T ∈ Ts) : TB1 Ts H H' := by
  refine ⟨fun T' hT' => ?_, fun a o e n => ?_, fun a n => ?_, fun a o e n => (t.2 a fun z => n (z ▸ hT)).trans e⟩
  · by_cases z : T' = T
    · rw [z]
      exact t.1
    · obtain ⟨ps, e, ok⟩ := g T' hT'
      exact ⟨ps, (t.2 T' z).trans e, ok⟩
  · have na : a ≠ T := fun z => by
      obtain ⟨ps, e', _⟩ := g T hT
      rw [z, e'] at e
      exact n ps (Option.some.inj e).symm
    rw [t.2 a na]
    exact e
  · by_cases z : a = T
    · obtain ⟨ps, e, _⟩ := t.1
      rw [z, e] at n
      cases n
    · rw [← t.2 a z]
      exact n
theorem TB1.tk {Ts : List Addr} {H H' : Hp} (t : TB1 Ts H H') : TK H H' := fun a xs e => t.2 a _ e fun ps z => nomatch z
theorem TB1.lst {Ts : List Addr} {H H' : Hp} (t : TB1 Ts H H') {a : Addr} {xs : List V} (e : H a = some (.lst xs)) : H' a = some (.lst xs) := t.2 a _ e fun ps z => nomatch z
theorem TB1.dct {Ts : List Addr} {H H' : Hp} (t : TB1 Ts H H') {a : Addr} {kvs : List (Key × V)} (e : H a = some (.dK kvs)) : H' a = some (.dK kvs) := t.2 a _ e fun ps z => nomatch z
theorem tabs_upd {H : Hp} {Ts : List Addr} {l : Addr} {xs : List V} {o : HO} (t : TabsG Ts H) (e : H l = some (.lst xs)) : TabsG Ts (upd H l o) := fun T hT => by
  obtain ⟨ps, e1, ok⟩ := t T hT
  exact ⟨ps, (upd_ne (ne_of e1 e (by intro z; cases z))).trans e1, ok⟩
/-- a list that came since is written -/
theorem TB1.put {Ts : List Addr} {H H' : Hp} {l : Addr} {xs : List V} {o : HO} (t : TB1 Ts H H') (n : H l = none) (e : H' l = some (.lst xs)) : TB1 Ts H (upd H' l o) :=
  ⟨tabs_upd t.1 e, fun a u eu na => (upd_ne (ne_of_none eu n)).trans (t.2 a u eu na), fun a na => by
    by_cases z : a = l
    · rw [z]
      exact n
    · rw [upd_ne z] at na
      exact t.free a na, fun a u eu na => (upd_ne (ne_of_none eu n)).trans (t.oth a u eu na)⟩
def spAlong (Ts : List Addr) : Sp := fun vs H Q _ => ∃ (h : Addr) (P G : List Str) (es : List Ent) (m : Nat), vs = [.ref h] ∧ HouseAt H h P G es ∧ Good P G es m ∧ m ≤ 30 ∧ TabsG Ts H ∧
  ∀ (l : Addr) (as : List Addr) (H' : Hp), TB1 Ts H H' → H l = none → H' l = some (.lst (as.map V.ref)) → EntsAt H' as (along es) → Q (.ref l) H'
theorem Ent.From.placesIn {e : Ent} {P G HL : List Str} (h : e.From P G HL) : ∀ y ∈ e.places, y ∈ P := by
  intro y hy
  cases e with
  | come n m g p k r => rw [List.mem_singleton.mp hy]; exact h.2.1
  | go n m g p k => rw [List.mem_singleton.mp hy]; exact h.2.1
  | move n m g o t k =>
    simp only [Ent.places, List.mem_cons, List.not_mem_nil, or_false] at hy
    rcases hy with rfl | rfl
    · exact h.2.1
    · exact h.2.2.1
  | some_ n m g o t =>
    by_cases z : t = ""
    · rw [show Ent.places (.some_ n m g o t) = [o] from if_pos z] at hy
      rw [List.mem_singleton.mp hy]
      exact h.2.1
    · rw [show Ent.places (.some_ n m g o t) = [o, t] from if_neg z] at hy
      simp only [List.mem_cons, List.not_mem_nil, or_false] at hy
      rcases hy with rfl | rfl
      · exact h.2.1
      · rcases h.2.2 with q | q
        · exact absurd q z
        · exact q.1
  | swap n m o t =>
    simp only [Ent.places, List.mem_cons, List.not_mem_nil, or_false] at hy
    rcases hy with rfl | rfl
    · exact h.1
    · exact h.2.1
  | count n m g p k hd => rw [List.mem_singleton.mp hy]; exact h.2.1
  | look n m g p => rw [List.mem_singleton.mp hy]; exact h.2
theorem Good.placesIn {P G : List Str} {es : List Ent} {m : Nat} (g : Good P G es m) {e : Ent} (he : e ∈ es) : ∀ y ∈ e.places, y ∈ P := by
  obtain ⟨_, _, _, HL, _, f⟩ := g.ents e he
  exact f.placesIn
theorem name_ne {y : Str} (h : nameB y = true) : y ≠ "" := fun z => by
  rw [z] at h
  exact absurd h (by decide +kernel)
section
variable {P : Program} {w : World} {K : PySem.W.Frag} {mg : Str → Option Value} {base : Heap}
abbrev alongN : List Str := ["house", "there", "told", "entry", "place"]
theorem scAlong : FnScope alongN ["house"] (defScope sAlong) := ⟨rfl, rfl, rfl, by decide +kernel, rfl, by decide +kernel, by decide +kernel⟩
set_option maxHeartbeats 2000000 in
theorem ok_along {f cA T fP fW fF fX : Addr} {dP dW dF dX : FuncData} {oc kV doc pm ct : Value} {od an : Option Addr} {osl : Array (Option Value)}
    (lk : K.lookup f = some ⟨oc, od, .func (PySem.W.fnOf "along_tracks" "along_tracks" (defArgs sAlong) (defBody sAlong) (defScope sAlong) .none kV doc pm an (.ref cA) ct), osl⟩) (cd : PySem.W.codeIn K (.ref cA) "along_tracks" = true)
    (TB : GxR.TabB base mg cA T) {Ts : List Addr} (hT : T ∈ Ts) (PO : DefT P w K mg base "places_of" 1 fP dP ["entry"] spPlaces) (WP : DefT P w K mg base "with_places" 1 fW dW ["entry", "places"] spWithPl)
    (FI : DefT P w K mg base "tracks_at_first" 1 fF dF ["house"] spFirst) (XC : DefT P w K mg base "exchanged" 2 fX dX ["there", "entry"] spExch) (mt : mg "tuple" = none) :
    FnOk P w K mg base CX0 3 f (PySem.W.fnOf "along_tracks" "along_tracks" (defArgs sAlong) (defBody sAlong) (defScope sAlong) .none kV doc pm an (.ref cA) ct) ["house"] (spAlong Ts) := by
  refine fn_of lk cd scAlong (fun vs H Q E h => ?_) (fun A outer s H vs Q E hr h => ?_)
  · obtain ⟨h, Ps, G, es, m, rfl, _⟩ := h
    rfl
  · obtain ⟨h, Ps, G, es, m, rfl, ho, gd, m30, tg, q⟩ := h
    have nd := scAlong.nd
    have hr1 : Room 1 _ := hr.mono (by decide)
    refine ⟨_, PSs.nox (pss_cons (ps_set (i := 1) nd rfl (Or.inr rfl) (pe_call FI.ok hr1 (by rfl) FI.g FI.kp FI.b .nil pass0 (pa_cons (pv 0) pa_nil)))
      (pss_cons (ps_set (i := 2) nd rfl (Or.inl rfl) (pe_lst pa_nil))
      (pss_cons (ps_for PassesOwn.never rfl (pi_tup (pe_ix ix_tup (pv 0) pe_int (fun _ _ => rfl))) (pg_name (i := 3) nd rfl (Or.inl rfl))
        (pss_cons (ps_expr (pe_bm PySem.F.plainAttrs_list PySem.F.slot_list_append PySem.F.type_list_append mt_append (pv 2)
          (pa_cons (pe_call WP.ok hr1 (by rfl) WP.g WP.kp WP.b .nil pass0 (pa_cons (pv 3) (pa_cons
            (pe_tupG (T := T) (c := cA) (k := 1) (own := [("place", 4)]) (g := gName 4) (tt := tYes) (te := tDGet (tVar 1) (tVar 4)) hr (by rfl) mt rfl nd TB rfl ⟨blkOk_by (N := alongN) (sc := defScope sAlong) (by decide +kernel), rfl, by decide +kernel, rfl⟩
              (pi_tup (pe_call PO.ok hr1 (by rfl) PO.g PO.kp PO.b .nil pass0 (pa_cons (pv 3) pa_nil)))
              (fun _ _ _ _ _ _ => pg_name (i := 4) nd rfl (Or.inl rfl)) (fun _ _ _ _ _ _ _ => pts_nil) (fun _ _ _ _ _ _ hr' => pe_dget (hu_of hr') (pv 1) (pv 4) (fun _ _ => rfl))) pa_nil))) pa_nil)))
        (pss_one (ps_set (i := 1) nd rfl (Or.inr rfl) (pe_call XC.ok hr (by rfl) XC.g XC.kp XC.b .nil pass0 (pa_cons (pv 1) (pa_cons (pv 3) pa_nil)))))))
      (pss_one (ps_ret (pv 2)))))), ?_⟩
    refine ⟨_, rfl, h, Ps, G, es, m, rfl, ho, gd, fun d H1 s1 h1 => ?_⟩
    refine ⟨Nat.zero_le _, fun D nD => ?_⟩
    have s2 := s1.trans (@same_new _ _ (.lst []) nD)
    have hD2 : (upd H1 D (.lst [])) D = some (.lst []) := upd_same
    have hd2 : (upd H1 D (.lst [])) d = some (.dK (kvT Ps id)) := (upd_ne (ne_of_none h1 nD)).trans h1
    have nD0 : H D = none := s1.free nD
    generalize upd H1 D (.lst []) = H2 at s2 hD2 hd2
    obtain ⟨hp, hg, he, tps, g1, g2, g3, g4, g5⟩ := ho.ex
    have tb2 : TB1 Ts H H2 := .same tg s2
    refine ⟨_, rfl, h, _, 2, _, rfl, rfl, SqT.of (s2 _ _ g1), atI_nat (j := 2) rfl, he, rfl, ⟨_, SqT.of (s2 _ _ g4)⟩, ?_⟩
    refine for_tup (K := K) (a := he) (xs := tps.map V.ref) (fun i σ H' => ∃ (d : Addr) (as : List Addr) (y3 : Option V), σ = [some (.ref h), some (.ref d), some (.ref D), y3, none] ∧ TB1 Ts H H' ∧
        H' d = some (.dK (kvT Ps (tau (es.take i)))) ∧ H' D = some (.lst (as.map V.ref)) ∧ EntsAt H' as ((along es).take i))
      ⟨d, [], none, rfl, tb2, hd2, hD2, .nil⟩ (fun i σ H' _ z => by obtain ⟨_, _, _, _, z, _⟩ := z; exact SqT.of (z.tk _ _ g4)) ?_ ?_
    · rintro i x σ H3 hx ⟨d3, as, y3, rfl, t3, hd3, hD3, en3⟩
      rw [List.getElem?_map] at hx
      obtain ⟨tp, htp, rfl⟩ := Option.map_eq_some_iff.mp hx
      obtain ⟨e, hes, hte⟩ := (g5.on t3.tk).get htp
      have me : e ∈ es := List.mem_of_getElem? hes
      have lt : i < es.length := (List.getElem?_eq_some_iff.mp hes).1
      have las : as.length = i := by
        rw [en3.len, List.length_take, along_len]
        omega
      refine ⟨_, rfl, .inl ⟨rfl, _, SqL.of hD3⟩, _, rfl, _, rfl, tp, e, rfl, hte, fun pl H4 s4 hpl => ?_⟩
      have t4 : TB1 Ts H H4 := t3.tr (.same t3.1 s4)
      refine ⟨pl, rfl, ⟨_, SqT.of hpl⟩, t4.1 T hT, fun H5 tb5 => ?_⟩
      have u5 : TB1 Ts H4 H5 := .tab tb5 t4.1 hT
      have plc : ∀ y ∈ e.places, y ∈ Ps := gd.placesIn me
      have hpl5 := u5.tk _ _ hpl
      have hd5 := u5.2 _ _ (s4 _ _ hd3) (fun ps z => nomatch z)
      refine ⟨fun k n ys H' => n = e.places.length - k ∧ k ≤ e.places.length ∧ H' = H5 ∧ ys = ((e.places.map (tau (es.take i))).take k).map V.str, ⟨_, rfl, Nat.zero_le _, rfl, rfl⟩, ?_⟩
      rintro k n ys H6 ⟨rfl, hk, rfl, rfl⟩
      by_cases lk : k < e.places.length
      · refine .inr ⟨⟨_, _, SqT.of hpl5, List.getElem?_eq_getElem (by rw [List.length_map]; exact lk)⟩, fun v H7 yl => ?_⟩
        obtain ⟨rfl, yl⟩ := yl
        have gy := yl _ (SqT.of hpl5)
        rw [List.getElem?_map] at gy
        obtain ⟨y, hy, rfl⟩ := Option.map_eq_some_iff.mp gy
        have my : y ∈ e.places := List.mem_of_getElem? hy
        refine ⟨rfl, yesT ⟨_, rfl, _, rfl, d3, _, rfl, dget_s hd5 (valV_kvT (plc y my)), ?_, _, Nat.sub_lt_sub_left lk (Nat.lt_succ_self _), rfl, lk, rfl, ?_⟩⟩
        · rw [List.length_map, List.length_take, List.length_map]
          exact small1000 (by have := (places_le e).1; omega)
        · rw [take_snoc (i := k) (x := tau (es.take i) y) (by rw [List.getElem?_map, hy]; rfl), List.map_append]
          rfl
      · have ek : k = e.places.length := by omega
        subst ek
        refine .inl ⟨⟨_, SqT.of hpl5, by rw [List.length_map]; exact Nat.le_refl _⟩, ?_, fun tt ntt => ?_⟩
        · rw [List.length_map, List.length_take, List.length_map]
          exact small_sz (by have := (places_le e).1; omega)
        have et : (e.places.map (tau (es.take i))).take e.places.length = e.places.map (tau (es.take i)) := List.take_of_length_le (by rw [List.length_map]; exact Nat.le_refl _)
        rw [et]
        have s7 := @same_new _ _ (.tup ((e.places.map (tau (es.take i))).map V.str)) ntt
        have h7 : (upd H6 tt (.tup ((e.places.map (tau (es.take i))).map V.str))) tt = some (.tup ((e.places.map (tau (es.take i))).map V.str)) := upd_same
        generalize upd H6 tt (.tup ((e.places.map (tau (es.take i))).map V.str)) = H7 at s7 h7
        have u7 : TB1 Ts H4 H7 := u5.tr (.same u5.1 s7)
        have inn := in_n gd.inn i (by omega)
        refine ⟨tp, tt, e, tau (es.take i), rfl, u7.tk _ _ (s4 _ _ hte), h7, fun y hy => name_ne (gd.nm _ (inn y (plc y hy)).1), fun t' H8 s8 h8 => ?_⟩
        have u8 : TB1 Ts H4 H8 := u7.tr (.same u7.1 s8)
        have hD8 := u8.2 _ _ (s4 _ _ hD3) (fun ps z => nomatch z)
        refine ⟨D, _, _, rfl, rfl, hD8, (by rw [List.length_map, las]; exact small1000 (by have := gd.many; omega)), ?_⟩
        have nt'D : t' ≠ D := ne_of h8 hD8 (by intro z; cases z)
        have ntpD : ∀ {a : Addr} {xs : List V}, H8 a = some (.tup xs) → a ≠ D := fun e => ne_of e hD8 (by intro z; cases z)
        have k8 : TK H8 (upd H8 D (.lst (as.map V.ref ++ [V.ref t']))) := fun a xs e => (upd_ne (ntpD e)).trans e
        have hd8 := u8.2 _ _ (s4 _ _ hd3) (fun ps z => nomatch z)
        have ndD : d3 ≠ D := ne_of hd8 hD8 (by intro z; cases z)
        have hte8 := u8.tk _ _ (s4 _ _ hte)
        have tgD := tabs_upd (o := .lst (as.map V.ref ++ [V.ref t'])) u8.1 hD8
        refine ⟨_, rfl, _, rfl, d3, tp, Ps, tau (es.take i), e, rfl, (upd_ne ndD).trans hd8, k8 _ _ hte8, gd.sw me, gd.nd, gd.le, fun d' H9 s9 h9 => ?_⟩
        refine ⟨d', as ++ [t'], _, rfl, ((t4.tr u8).put nD0 hD8).tr (.same tgD s9), ?_, ?_, ?_⟩
        · rw [h9, take_snoc hes, tau_snoc]
        · rw [s9 _ _ upd_same, List.map_append]
          rfl
        · rw [take_snoc (along_at hes)]
          exact EntsAt.snoc (((en3.on (TK.of s4)).on u8.tk).on (k8.tr (TK.of s9))) (s9 _ _ (k8 _ _ h8))
    · rintro σ H3 ⟨d3, as, y3, rfl, t3, hd3, hD3, en3⟩
      rw [List.length_map, g5.len, ← along_len es, List.take_length] at en3
      exact ⟨_, rfl, q D as H3 t3 nD0 hD3 en3⟩
end
/-! ### the good of an entry -/
def Ent.goodV : Ent → V
  | .come _ _ g _ _ _ => .str g
  | .go _ _ g _ _ => .str g
  | .move _ _ g _ _ _ => .str g
  | .some_ _ _ g _ _ => .str g
  | .swap _ _ _ _ => .non
  | .count _ _ g _ _ _ => .str g
  | .look _ _ g _ => .str g
def spGood : Sp := fun vs H Q _ => ∃ (a : Addr) (e : Ent), vs = [.ref a] ∧ H a = some (.tup e.vals) ∧ Q e.goodV H
section
variable {P : Program} {w : World} {K : PySem.W.Frag} {mg : Str → Option Value} {base : Heap}
theorem scGood : FnScope ["entry"] ["entry"] (defScope sGood) := ⟨rfl, rfl, rfl, by decide +kernel, rfl, by decide +kernel, by decide +kernel⟩
theorem at3 {e : Ent} (h : e.goodV ≠ .non) : atI e.vals 3 = some e.goodV := by
  cases e <;> first | exact atI_nat (j := 3) rfl | exact absurd rfl h
theorem sw_word (e : Ent) : e.word = "swap" ↔ e.goodV = .non := by
  have k1 : ("come" : Str) ≠ "swap" := by decide +kernel
  have k2 : ("go" : Str) ≠ "swap" := by decide +kernel
  have k3 : ("move" : Str) ≠ "swap" := by decide +kernel
  have k4 : ("some" : Str) ≠ "swap" := by decide +kernel
  have k6 : ("count" : Str) ≠ "swap" := by decide +kernel
  have k7 : ("look" : Str) ≠ "swap" := by decide +kernel
  cases e
  · exact ⟨fun h => absurd h k1, fun h => nomatch h⟩
  · exact ⟨fun h => absurd h k2, fun h => nomatch h⟩
  · exact ⟨fun h => absurd h k3, fun h => nomatch h⟩
  · exact ⟨fun h => absurd h k4, fun h => nomatch h⟩
  · exact ⟨fun _ => rfl, fun _ => rfl⟩
  · exact ⟨fun h => absurd h k6, fun h => nomatch h⟩
  · exact ⟨fun h => absurd h k7, fun h => nomatch h⟩
theorem ok_good {f : Addr} {fd : FuncData} (F : Fun K "good_of" "good_of" sGood f fd) : FnOk P w K mg base CX0 1 f fd ["entry"] spGood := by
  refine F.ok scGood (fun vs H Q E h => ?_) (fun cdv A outer s H vs Q E hr h => ?_)
  · obtain ⟨a, e, rfl, _⟩ := h
    rfl
  · obtain ⟨a, e, rfl, ha, q⟩ := h
    refine ⟨_, pss_cons (ps_if (pt_cmpR op_eq (pe_ix ix_tup (pv 0) pe_int (fun _ _ => rfl)) pe_str (nomark _)) (pss_one (ps_ret pe_non)) pss_nil) (pss_one (ps_ret (pe_ix ix_tup (pv 0) pe_int (fun _ _ => rfl)))), ?_⟩
    refine ⟨_, rfl, a, _, 0, _, rfl, rfl, SqT.of ha, at0 e, rfl, _, rfl, ite2 (fun z => ?_) (fun z => ?_)⟩
    · have z' : e.word = "swap" := V.str.inj (of_decide_eq_true z)
      rw [(sw_word e).mp z'] at q
      exact q
    · have z' : e.goodV ≠ .non := fun h => z (decide_eq_true (congrArg V.str ((sw_word e).mpr h)))
      exact ⟨_, rfl, a, _, 3, _, rfl, rfl, SqT.of ha, at3 z', q⟩
end
theorem mp_places {e : Ent} {τ : Str → Str} (h : ∀ y ∈ e.places, τ y ≠ "") : (e.mp τ).places = e.places.map τ := by
  cases e with
  | some_ n m g o t =>
    by_cases z : t = ""
    · subst z
      simp [Ent.places, Ent.mp]
    · rw [show Ent.places (.some_ n m g o t) = [o, t] from if_neg z, show Ent.mp τ (.some_ n m g o t) = .some_ n m g (τ o) (τ t) from congrArg (Ent.some_ n m g (τ o)) (if_neg z)]
      have : τ t ≠ "" := h t (by rw [show Ent.places (.some_ n m g o t) = [o, t] from if_neg z]; simp)
      exact if_neg this
  | _ => rfl
theorem Good.full {P G : List Str} {es : List Ent} {m : Nat} (g : Good P G es m) {e : Ent} (he : e ∈ es) {i : Nat} (hi : i ≤ es.length) : ∀ y ∈ e.places, tau (es.take i) y ≠ "" := fun y hy =>
  name_ne (g.nm _ ((in_n g.inn i hi) y (g.placesIn he y hy)).1)
theorem Ent.From.un {e : Ent} {P G HL : List Str} (h : e.From P G HL) (nd : P.Nodup) : e.places.Nodup := by
  have one : ∀ x : Str, [x].Nodup := fun x => List.nodup_cons.mpr ⟨fun z => (nomatch z), .nil⟩
  have two : ∀ {x y : Str}, x ≠ y → [x, y].Nodup := fun {x y} n => List.nodup_cons.mpr ⟨fun z => n (List.mem_singleton.mp z), one y⟩
  cases e with
  | come n m g p k r => exact one p
  | go n m g p k => exact one p
  | move n m g o t k => exact two (h.2.2.2.1 nd)
  | some_ n m g o t =>
    by_cases z : t = ""
    · rw [show Ent.places (.some_ n m g o t) = [o] from if_pos z]
      exact one o
    · rw [show Ent.places (.some_ n m g o t) = [o, t] from if_neg z]
      rcases h.2.2 with q | q
      · exact absurd q z
      · exact two (q.2 nd)
  | swap n m o t => exact two (h.2.2 nd)
  | count n m g p k hd => exact one p
  | look n m g p => exact one p
/-! ### pieces -/
namespace Ent
def mark : Ent → Bool
  | .count .. => true
  | .look .. => true
  | _ => false
def cnt : Ent → Int
  | .count _ _ _ _ k _ => k
  | _ => 0
def chg (p : Str) : Ent → Int
  | .come _ _ _ q k _ => if p = q then k else 0
  | .go _ _ _ q k => if p = q then -k else 0
  | .move _ _ _ o t k => if p = o then -k else if p = t then k else 0
  | _ => 0
end Ent
structure Row where
  tr : Str
  k : Nat
  op : Option Str
  cl : Option Str
  ins : List Str
  bal : Int
def cntO : Option Ent → Int
  | none => 0
  | some e => e.cnt
def mkRow (tr : Str) (k : Nat) (op cl : Option Ent) (ins : List Ent) : Row := ⟨tr, k, op.map Ent.name, cl.map Ent.name, ins.map Ent.name, cntO cl - cntO op - (ins.map (Ent.chg tr)).sum⟩
def cutRows (tr : Str) : List Ent → List Row → Option Ent → List Ent → List Row
  | [], rows, op, ins => rows ++ [mkRow tr rows.length op none ins]
  | e :: r, rows, op, ins => if e.mark = true then cutRows tr r (rows ++ [mkRow tr rows.length op (some e) ins]) (some e) [] else cutRows tr r rows op (ins ++ [e])
def toldOf (g : Str) (es : List Ent) : List Ent := (along es).filter fun e => decide (e.goodV = .str g)
def onTrack (t : Str) (es : List Ent) : List Ent := es.filter fun e => decide (t ∈ e.places)
def piecesM (P : List Str) (es : List Ent) (g : Str) : List Row := P.flatMap fun t => cutRows t (onTrack t (toldOf g es)) [] none []
def optS : Option Str → V
  | none => .non
  | some x => .str x
/-- an entry, or none -/
def EntO (H : Hp) (v : V) : Option Ent → Prop
  | none => v = .non
  | some e => ∃ a, v = .ref a ∧ H a = some (.tup e.vals) ∧ e.mark = true
theorem EntO.on {H H' : Hp} (k : TK H H') {v : V} {o : Option Ent} (h : EntO H v o) : EntO H' v o := by
  cases o with
  | none => exact h
  | some e =>
    obtain ⟨a, h1, h2, h3⟩ := h
    exact ⟨a, h1, k _ _ h2, h3⟩
structure RowAt (H : Hp) (r : Addr) (x : Row) : Prop where
  ex : ∃ (pc it : Addr), H r = some (.tup [.ref pc, optS x.op, optS x.cl, .ref it, .int x.bal]) ∧ H pc = some (.tup [.str x.tr, .int x.k]) ∧ H it = some (.tup (x.ins.map V.str))
theorem RowAt.on {H H' : Hp} (k : TK H H') {r : Addr} {x : Row} (h : RowAt H r x) : RowAt H' r x := by
  obtain ⟨pc, it, h1, h2, h3⟩ := h.ex
  exact ⟨pc, it, k _ _ h1, k _ _ h2, k _ _ h3⟩
def RowsAt (H : Hp) : List Addr → List Row → Prop := Paired (RowAt H)
theorem RowsAt.on {H H' : Hp} (k : TK H H') {rs : List Addr} {xs : List Row} (h : RowsAt H rs xs) : RowsAt H' rs xs := Paired.mapP h fun _ _ z => z.on k
def spChange : Sp := fun vs H Q _ => ∃ (a : Addr) (e : Ent) (p : Str), vs = [.ref a, .str p] ∧ H a = some (.tup e.vals) ∧ Q (.int (e.chg p)) H
def spCounted : Sp := fun vs H Q _ => ∃ (v : V) (o : Option Ent), vs = [v] ∧ EntO H v o ∧ Q (.int (cntO o)) H
def spNameOf : Sp := fun vs H Q _ => ∃ (v : V) (o : Option Ent), vs = [v] ∧ EntO H v o ∧ Q (optS (o.map Ent.name)) H
def spRow (Ts : List Addr) : Sp := fun vs H Q _ => ∃ (pc li : Addr) (vo vc : V) (op cl : Option Ent) (tr : Str) (k : Nat) (as : List Addr) (ins : List Ent), vs = [.ref pc, vo, vc, .ref li] ∧ H pc = some (.tup [.str tr, .int k]) ∧ EntO H vo op ∧ EntO H vc cl ∧
  H li = some (.lst (as.map V.ref)) ∧ EntsAt H as ins ∧ ins.length ≤ 30 ∧ TabsG Ts H ∧ ∀ (r : Addr) (H' : Hp), TB1 Ts H H' → RowAt H' r (mkRow tr k op cl ins) → Q (.ref r) H'
def spPoT (Ts : List Addr) : Sp := fun vs H Q _ => ∃ (l : Addr) (tr : Str) (as : List Addr) (es : List Ent), vs = [.str tr, .ref l] ∧ H l = some (.lst (as.map V.ref)) ∧ EntsAt H as es ∧ es.length ≤ 30 ∧ TabsG Ts H ∧
  ∀ (r : Addr) (rs : List Addr) (H' : Hp), TB1 Ts H H' → H r = none → H' r = some (.lst (rs.map V.ref)) → RowsAt H' rs (cutRows tr es [] none []) → Q (.ref r) H'
def spPieces (Ts : List Addr) : Sp := fun vs H Q _ => ∃ (h : Addr) (P G : List Str) (es : List Ent) (m : Nat) (g : Str), vs = [.ref h, .str g] ∧ HouseAt H h P G es ∧ Good P G es m ∧ m ≤ 30 ∧ TabsG Ts H ∧
  ∀ (r : Addr) (rs : List Addr) (H' : Hp), TB1 Ts H H' → H r = none → H' r = some (.lst (rs.map V.ref)) → RowsAt H' rs (piecesM P es g) → Q (.ref r) H'
section
variable {P : Program} {w : World} {K : PySem.W.Frag} {mg : Str → Option Value} {base : Heap}
theorem scChange : FnScope ["entry", "place", "word"] ["entry", "place"] (defScope sChange) := ⟨rfl, rfl, rfl, by decide +kernel, rfl, by decide +kernel, by decide +kernel⟩
theorem scCounted : FnScope ["entry"] ["entry"] (defScope sCounted) := ⟨rfl, rfl, rfl, by decide +kernel, rfl, by decide +kernel, by decide +kernel⟩
theorem scNameOf : FnScope ["entry"] ["entry"] (defScope sNameOf) := ⟨rfl, rfl, rfl, by decide +kernel, rfl, by decide +kernel, by decide +kernel⟩
theorem w_come_come : decide (V.str "come" = V.str "come") = true := by decide +kernel
theorem w_come_go : decide (V.str "come" = V.str "go") = false := by decide +kernel
theorem w_come_move : decide (V.str "come" = V.str "move") = false := by decide +kernel
theorem w_come_some : decide (V.str "come" = V.str "some") = false := by decide +kernel
theorem w_come_swap : decide (V.str "come" = V.str "swap") = false := by decide +kernel
theorem w_come_count : decide (V.str "come" = V.str "count") = false := by decide +kernel
theorem w_come_look : decide (V.str "come" = V.str "look") = false := by decide +kernel
theorem w_go_come : decide (V.str "go" = V.str "come") = false := by decide +kernel
theorem w_go_go : decide (V.str "go" = V.str "go") = true := by decide +kernel
theorem w_go_move : decide (V.str "go" = V.str "move") = false := by decide +kernel
theorem w_go_some : decide (V.str "go" = V.str "some") = false := by decide +kernel
theorem w_go_swap : decide (V.str "go" = V.str "swap") = false := by decide +kernel
theorem w_go_count : decide (V.str "go" = V.str "count") = false := by decide +kernel
theorem w_go_look : decide (V.str "go" = V.str "look") = false := by decide +kernel
theorem w_move_come : decide (V.str "move" = V.str "come") = false := by decide +kernel
theorem w_move_go : decide (V.str "move" = V.str "go") = false := by decide +kernel
theorem w_move_move : decide (V.str "move" = V.str "move") = true := by decide +kernel
theorem w_move_some : decide (V.str "move" = V.str "some") = false := by decide +kernel
theorem w_move_swap : decide (V.str "move" = V.str "swap") = false := by decide +kernel
theorem w_move_count : decide (V.str "move" = V.str "count") = false := by decide +kernel
theorem w_move_look : decide (V.str "move" = V.str "look") = false := by decide +kernel
theorem w_some_come : decide (V.str "some" = V.str "come") = false := by decide +kernel
theorem w_some_go : decide (V.str "some" = V.str "go") = false := by decide +kernel
theorem w_some_move : decide (V.str "some" = V.str "move") = false := by decide +kernel
theorem w_some_some : decide (V.str "some" = V.str "some") = true := by decide +kernel
theorem w_some_swap : decide (V.str "some" = V.str "swap") = false := by decide +kernel
theorem w_some_count : decide (V.str "some" = V.str "count") = false := by decide +kernel
theorem w_some_look : decide (V.str "some" = V.str "look") = false := by decide +kernel
theorem w_swap_come : decide (V.str "swap" = V.str "come") = false := by decide +kernel
theorem w_swap_go : decide (V.str "swap" = V.str "go") = false := by decide +kernel
theorem w_swap_move : decide (V.str "swap" = V.str "move") = false := by decide +kernel
theorem w_swap_some : decide (V.str "swap" = V.str "some") = false := by decide +kernel
theorem w_swap_swap : decide (V.str "swap" = V.str "swap") = true := by decide +kernel
theorem w_swap_count : decide (V.str "swap" = V.str "count") = false := by decide +kernel
theorem w_swap_look : decide (V.str "swap" = V.str "look") = false := by decide +kernel
theorem w_count_come : decide (V.str "count" = V.str "come") = false := by decide +kernel
theorem w_count_go : decide (V.str "count" = V.str "go") = false := by decide +kernel
theorem w_count_move : decide (V.str "count" = V.str "move") = false := by decide +kernel
theorem w_count_some : decide (V.str "count" = V.str "some") = false := by decide +kernel
theorem w_count_swap : decide (V.str "count" = V.str "swap") = false := by decide +kernel
theorem w_count_count : decide (V.str "count" = V.str "count") = true := by decide +kernel
theorem w_count_look : decide (V.str "count" = V.str "look") = false := by decide +kernel
theorem w_look_come : decide (V.str "look" = V.str "come") = false := by decide +kernel
theorem w_look_go : decide (V.str "look" = V.str "go") = false := by decide +kernel
theorem w_look_move : decide (V.str "look" = V.str "move") = false := by decide +kernel
theorem w_look_some : decide (V.str "look" = V.str "some") = false := by decide +kernel
theorem w_look_swap : decide (V.str "look" = V.str "swap") = false := by decide +kernel
theorem w_look_count : decide (V.str "look" = V.str "count") = false := by decide +kernel
theorem w_look_look : decide (V.str "look" = V.str "look") = true := by decide +kernel
theorem str_dec {p q : Str} : decide (V.str p = V.str q) = decide (p = q) := by
  by_cases h : p = q
  · rw [decide_eq_true h, decide_eq_true (congrArg V.str h)]
  · rw [decide_eq_false h, decide_eq_false fun z => h (V.str.inj z)]
theorem ok_change {f : Addr} {fd : FuncData} (F : Fun K "change_at" "change_at" sChange f fd) : FnOk P w K mg base CX0 1 f fd ["entry", "place"] spChange := by
  refine F.ok scChange (fun vs H Q E h => ?_) (fun cdv A outer s H vs Q E hr h => ?_)
  · obtain ⟨a, e, p, rfl, _⟩ := h
    rfl
  · obtain ⟨a, e, p, rfl, ha, q⟩ := h
    have nd := scChange.nd
    refine ⟨_, pss_cons (ps_set (i := 2) nd rfl (Or.inl rfl) (pe_ix ix_tup (pv 0) pe_int (fun _ _ => rfl)))
      (pss_cons (ps_if (PW.pt (pw_and (pt_cmpR op_eq (pv 2) pe_str (nomark _)) (pw_and1 (pt_cmpR op_eq (pv 1) (pe_ix ix_tup (pv 0) pe_int (fun _ _ => rfl)) (nomark _))))) (pss_one (ps_ret (pe_ix ix_tup (pv 0) pe_int (fun _ _ => rfl)))) pss_nil)
      (pss_cons (ps_if (PW.pt (pw_and (pt_cmpR op_eq (pv 2) pe_str (nomark _)) (pw_and1 (pt_cmpR op_eq (pv 1) (pe_ix ix_tup (pv 0) pe_int (fun _ _ => rfl)) (nomark _))))) (pss_one (ps_ret (pe_un un_neg (pe_ix ix_tup (pv 0) pe_int (fun _ _ => rfl))))) pss_nil)
      (pss_cons (ps_if (PW.pt (pw_and (pt_cmpR op_eq (pv 2) pe_str (nomark _)) (pw_and1 (pt_cmpR op_eq (pv 1) (pe_ix ix_tup (pv 0) pe_int (fun _ _ => rfl)) (nomark _))))) (pss_one (ps_ret (pe_un un_neg (pe_ix ix_tup (pv 0) pe_int (fun _ _ => rfl))))) pss_nil)
      (pss_cons (ps_if (PW.pt (pw_and (pt_cmpR op_eq (pv 2) pe_str (nomark _)) (pw_and1 (pt_cmpR op_eq (pv 1) (pe_ix ix_tup (pv 0) pe_int (fun _ _ => rfl)) (nomark _))))) (pss_one (ps_ret (pe_ix ix_tup (pv 0) pe_int (fun _ _ => rfl)))) pss_nil)
      (pss_one (ps_ret pe_int)))))), ?_⟩
    refine ⟨_, rfl, a, _, 0, _, rfl, rfl, SqT.of ha, at0 e, ?_⟩
    have d : ∀ {x y : Str} {b : Bool}, decide (V.str x = V.str y) = b → V.bl (decide (V.str x = V.str y)) = V.bl b := fun h => congrArg V.bl h
    cases e with
    | come n m g pl k r =>
      refine ⟨_, rfl, rfl, true, d w_come_come, iteT ⟨_, rfl, _, rfl, a, _, 4, _, rfl, rfl, SqT.of ha, atI_nat (j := 4) rfl, rfl, _, rfl, ?_⟩⟩
      by_cases z : p = pl
      · rw [decide_eq_true (congrArg V.str z)]
        refine iteT ⟨_, rfl, a, _, 5, _, rfl, rfl, SqT.of ha, atI_nat (j := 5) rfl, ?_⟩
        rw [show Ent.chg p (.come n m g pl k r) = k from if_pos z] at q
        exact q
      · rw [decide_eq_false fun y => z (V.str.inj y)]
        rw [show Ent.chg p (.come n m g pl k r) = 0 from if_neg z] at q
        exact iteF ⟨_, rfl, rfl, false, d w_come_go, iteF ⟨_, rfl, rfl, false, d w_come_move, iteF ⟨_, rfl, rfl, false, d w_come_move, iteF q⟩⟩⟩
    | go n m g pl k =>
      refine ⟨_, rfl, rfl, false, d w_go_come, iteF ⟨_, rfl, rfl, true, d w_go_go, iteT ⟨_, rfl, _, rfl, a, _, 4, _, rfl, rfl, SqT.of ha, atI_nat (j := 4) rfl, rfl, _, rfl, ?_⟩⟩⟩
      by_cases z : p = pl
      · rw [decide_eq_true (congrArg V.str z)]
        refine iteT ⟨_, rfl, a, _, 5, _, rfl, rfl, SqT.of ha, atI_nat (j := 5) rfl, k, rfl, ?_⟩
        rw [show Ent.chg p (.go n m g pl k) = -k from if_pos z] at q
        exact q
      · rw [decide_eq_false fun y => z (V.str.inj y)]
        rw [show Ent.chg p (.go n m g pl k) = 0 from if_neg z] at q
        exact iteF ⟨_, rfl, rfl, false, d w_go_move, iteF ⟨_, rfl, rfl, false, d w_go_move, iteF q⟩⟩
    | move n m g o t k =>
      refine ⟨_, rfl, rfl, false, d w_move_come, iteF ⟨_, rfl, rfl, false, d w_move_go, iteF ⟨_, rfl, rfl, true, d w_move_move, iteT ⟨_, rfl, _, rfl, a, _, 4, _, rfl, rfl, SqT.of ha, atI_nat (j := 4) rfl, rfl, _, rfl, ?_⟩⟩⟩⟩
      by_cases z : p = o
      · rw [decide_eq_true (congrArg V.str z)]
        refine iteT ⟨_, rfl, a, _, 6, _, rfl, rfl, SqT.of ha, atI_nat (j := 6) rfl, k, rfl, ?_⟩
        rw [show Ent.chg p (.move n m g o t k) = -k from if_pos z] at q
        exact q
      · rw [decide_eq_false fun y => z (V.str.inj y)]
        refine iteF ⟨_, rfl, rfl, true, d w_move_move, iteT ⟨_, rfl, _, rfl, a, _, 5, _, rfl, rfl, SqT.of ha, atI_nat (j := 5) rfl, rfl, _, rfl, ?_⟩⟩
        by_cases z2 : p = t
        · rw [decide_eq_true (congrArg V.str z2)]
          refine iteT ⟨_, rfl, a, _, 6, _, rfl, rfl, SqT.of ha, atI_nat (j := 6) rfl, ?_⟩
          rw [show Ent.chg p (.move n m g o t k) = k from (if_neg z).trans (if_pos z2)] at q
          exact q
        · rw [decide_eq_false fun y => z2 (V.str.inj y)]
          rw [show Ent.chg p (.move n m g o t k) = 0 from (if_neg z).trans (if_neg z2)] at q
          exact iteF q
    | some_ n m g o t => exact ⟨_, rfl, rfl, false, d w_some_come, iteF ⟨_, rfl, rfl, false, d w_some_go, iteF ⟨_, rfl, rfl, false, d w_some_move, iteF ⟨_, rfl, rfl, false, d w_some_move, iteF q⟩⟩⟩⟩
    | swap n m o t => exact ⟨_, rfl, rfl, false, d w_swap_come, iteF ⟨_, rfl, rfl, false, d w_swap_go, iteF ⟨_, rfl, rfl, false, d w_swap_move, iteF ⟨_, rfl, rfl, false, d w_swap_move, iteF q⟩⟩⟩⟩
    | count n m g pl k hd => exact ⟨_, rfl, rfl, false, d w_count_come, iteF ⟨_, rfl, rfl, false, d w_count_go, iteF ⟨_, rfl, rfl, false, d w_count_move, iteF ⟨_, rfl, rfl, false, d w_count_move, iteF q⟩⟩⟩⟩
    | look n m g pl => exact ⟨_, rfl, rfl, false, d w_look_come, iteF ⟨_, rfl, rfl, false, d w_look_go, iteF ⟨_, rfl, rfl, false, d w_look_move, iteF ⟨_, rfl, rfl, false, d w_look_move, iteF q⟩⟩⟩⟩
theorem ok_counted {f : Addr} {fd : FuncData} (F : Fun K "counted" "counted" sCounted f fd) : FnOk P w K mg base CX0 1 f fd ["entry"] spCounted := by
  refine F.ok scCounted (fun vs H Q E h => ?_) (fun cdv A outer s H vs Q E hr h => ?_)
  · obtain ⟨v, o, rfl, _⟩ := h
    rfl
  · obtain ⟨v, o, rfl, ho, q⟩ := h
    refine ⟨_, pss_cons (ps_if (PW.pt (pw_or (pt_cmpR op_isN (pv 0) pe_non (nomark _)) (pw_or1 (pt_cmpR op_eq (pe_ix ix_tup (pv 0) pe_int (fun _ _ => rfl)) pe_str (nomark _))))) (pss_one (ps_ret pe_int)) pss_nil)
      (pss_one (ps_ret (pe_ix ix_tup (pv 0) pe_int (fun _ _ => rfl)))), ?_⟩
    cases o with
    | none =>
      obtain rfl : v = .non := ho
      exact ⟨_, rfl, rfl, true, rfl, iteT q⟩
    | some e =>
      obtain ⟨a, rfl, ha, mk⟩ := ho
      refine ⟨_, rfl, rfl, false, rfl, iteF ⟨_, rfl, a, _, 0, _, rfl, rfl, SqT.of ha, at0 e, rfl, ?_⟩⟩
      cases e with
      | count n m g pl k hd => exact ⟨false, congrArg V.bl (show decide (V.str "count" = V.str "look") = false by decide +kernel), iteF ⟨_, rfl, a, _, 5, _, rfl, rfl, SqT.of ha, atI_nat (j := 5) rfl, q⟩⟩
      | look n m g pl => exact ⟨true, congrArg V.bl (show decide (V.str "look" = V.str "look") = true by decide +kernel), iteT q⟩
      | _ => exact nomatch mk
theorem ok_nameOf {f : Addr} {fd : FuncData} (F : Fun K "name_of" "name_of" sNameOf f fd) : FnOk P w K mg base CX0 1 f fd ["entry"] spNameOf := by
  refine F.ok scNameOf (fun vs H Q E h => ?_) (fun cdv A outer s H vs Q E hr h => ?_)
  · obtain ⟨v, o, rfl, _⟩ := h
    rfl
  · obtain ⟨v, o, rfl, ho, q⟩ := h
    refine ⟨_, pss_cons (ps_if (pt_cmpR op_isN (pv 0) pe_non (nomark _)) (pss_one (ps_ret pe_non)) pss_nil) (pss_one (ps_ret (pe_ix ix_tup (pv 0) pe_int (fun _ _ => rfl)))), ?_⟩
    cases o with
    | none =>
      obtain rfl : v = .non := ho
      exact ⟨_, rfl, rfl, true, rfl, iteT q⟩
    | some e =>
      obtain ⟨a, rfl, ha, mk⟩ := ho
      exact ⟨_, rfl, rfl, false, rfl, iteF ⟨_, rfl, a, _, 1, _, rfl, rfl, SqT.of ha, at1 e, q⟩⟩
abbrev rowN : List Str := ["piece", "opens", "closes", "inside", "moved", "balance", "entry"]
theorem scRow : FnScope rowN ["piece", "opens", "closes", "inside"] (defScope sRow) := ⟨rfl, rfl, rfl, by decide +kernel, rfl, by decide +kernel, by decide +kernel⟩
set_option maxHeartbeats 2000000 in
theorem ok_row {f cA T fC fN fH : Addr} {dC dN dH : FuncData} {oc kV doc pm ct : Value} {od an : Option Addr} {osl : Array (Option Value)}
    (lk : K.lookup f = some ⟨oc, od, .func (PySem.W.fnOf "piece_row" "piece_row" (defArgs sRow) (defBody sRow) (defScope sRow) .none kV doc pm an (.ref cA) ct), osl⟩) (cd : PySem.W.codeIn K (.ref cA) "piece_row" = true)
    (TB : GxR.TabB base mg cA T) {Ts : List Addr} (hT : T ∈ Ts) (CH : DefT P w K mg base "change_at" 1 fH dH ["entry", "place"] spChange) (CO : DefT P w K mg base "counted" 1 fC dC ["entry"] spCounted) (NO : DefT P w K mg base "name_of" 1 fN dN ["entry"] spNameOf) (mt : mg "tuple" = none) (ms : mg "sum" = none) :
    FnOk P w K mg base CX0 3 f (PySem.W.fnOf "piece_row" "piece_row" (defArgs sRow) (defBody sRow) (defScope sRow) .none kV doc pm an (.ref cA) ct) ["piece", "opens", "closes", "inside"] (spRow Ts) := by
  refine fn_of lk cd scRow (fun vs H Q E h => ?_) (fun A outer s H vs Q E hr h => ?_)
  · obtain ⟨pc, li, vo, vc, op, cl, tr, k, as, ins, rfl, _⟩ := h
    rfl
  · obtain ⟨pc, li, vo, vc, op, cl, tr, k, as, ins, rfl, hpc, hop, hcl, hli, hin, l30, tg, q⟩ := h
    have nd := scRow.nd
    have hr1 : Room 1 _ := hr.mono (by decide)
    refine ⟨_, PSs.nox (pss_cons (ps_set (i := 4) nd rfl (Or.inl rfl) (pe_sumG (T := T) (c := cA) (k := 1) (own := [("entry", 6)]) (g := gName 6) (tt := tYes) (te := tCall spChange [] E0 (tCons (tVar 6) (tCons (tOp (rIxT K) (tVar 0) (tC (V.int 0))) tNil))) hr (by rfl) ms rfl nd TB rfl ⟨blkOk_by (N := rowN) (sc := defScope sRow) (by decide +kernel), rfl, by decide +kernel, rfl⟩
        (pi_list (pv 3)) (fun _ _ _ _ _ _ => pg_name (i := 6) nd rfl (Or.inl rfl)) (fun _ _ _ _ _ _ _ => pts_nil) (fun _ _ _ _ _ _ hr' => pe_call CH.ok hr' (by rfl) CH.g CH.kp CH.b .nil pass0 (pa_cons (pv 6) (pa_cons (pe_ix ix_tup (pv 0) pe_int (fun _ _ => rfl)) pa_nil)))))
      (pss_cons (ps_set (i := 5) nd rfl (Or.inl rfl) (pe_op op_sub (pe_op op_sub (pe_call CO.ok hr1 (by rfl) CO.g CO.kp CO.b .nil pass0 (pa_cons (pv 2) pa_nil)) (pe_call CO.ok hr1 (by rfl) CO.g CO.kp CO.b .nil pass0 (pa_cons (pv 1) pa_nil))) (pv 4)))
      (pss_one (ps_ret (pe_tup (pa_cons (pv 0) (pa_cons (pe_call NO.ok hr1 (by rfl) NO.g NO.kp NO.b .nil pass0 (pa_cons (pv 1) pa_nil)) (pa_cons (pe_call NO.ok hr1 (by rfl) NO.g NO.kp NO.b .nil pass0 (pa_cons (pv 2) pa_nil)) (pa_cons
        (pe_tupG (T := T) (c := cA) (k := 1) (own := [("entry", 6)]) (g := gName 6) (tt := tYes) (te := tOp (rIxT K) (tVar 6) (tC (V.int 1))) hr (by rfl) mt rfl nd TB rfl ⟨blkOk_by (N := rowN) (sc := defScope sRow) (by decide +kernel), rfl, by decide +kernel, rfl⟩
          (pi_list (pv 3)) (fun _ _ _ _ _ _ => pg_name (i := 6) nd rfl (Or.inl rfl)) (fun _ _ _ _ _ _ _ => pts_nil) (fun _ _ _ _ _ _ hr' => pe_ix ix_tup (pv 6) pe_int (fun _ _ => rfl))) (pa_cons (pv 5) pa_nil)))))))))), ?_⟩
    have la := hin.len
    refine ⟨_, rfl, li, rfl, ⟨_, SqL.of hli⟩, tg T hT, fun H1 tb1 => ?_⟩
    have t1 : TB1 Ts H H1 := .tab tb1 tg hT
    have hli1 := t1.lst hli
    have hin1 := hin.on t1.tk
    have hpc1 := t1.tk _ _ hpc
    refine ⟨fun i n ys H' => n = ins.length - i ∧ i ≤ ins.length ∧ H' = H1 ∧ ys = ((ins.take i).map (Ent.chg tr)).map V.int, ⟨_, rfl, Nat.zero_le _, rfl, rfl⟩, ?_⟩
    rintro i n ys H2 ⟨rfl, hi, rfl, rfl⟩
    by_cases lt : i < ins.length
    · refine .inr ⟨⟨_, _, SqL.of hli1, List.getElem?_eq_getElem (by rw [List.length_map, la]; exact lt)⟩, fun v H3 yl => ?_⟩
      obtain ⟨rfl, yl⟩ := yl
      have gy := yl _ (SqL.of hli1)
      rw [List.getElem?_map] at gy
      obtain ⟨a, ha, rfl⟩ := Option.map_eq_some_iff.mp gy
      obtain ⟨e, hes, hae⟩ := hin1.get ha
      refine ⟨rfl, yesT ⟨_, rfl, _, rfl, pc, _, 0, _, rfl, rfl, SqT.of hpc1, atI_nat (j := 0) rfl, a, e, tr, rfl, hae, ⟨_, rfl⟩, _, Nat.sub_lt_sub_left lt (Nat.lt_succ_self _), rfl, lt, rfl, ?_⟩⟩
      rw [take_snoc hes, List.map_append, List.map_append]
      rfl
    · have ei : i = ins.length := by omega
      subst ei
      refine .inl ⟨⟨_, SqL.of hli1, by rw [List.length_map, la]; exact Nat.le_refl _⟩, fun ns hns => ?_⟩
      have ens : ns = ins.map (Ent.chg tr) := by
        rw [List.take_length] at hns
        have inj : ∀ {xs ys : List Int}, xs.map V.int = ys.map V.int → xs = ys := fun {xs} => by
          induction xs with
          | nil => intro ys h; cases ys with | nil => rfl | cons _ _ => cases h
          | cons x r ih => intro ys h; cases ys with | nil => cases h | cons y s => rw [V.int.inj (List.cons.inj h).1, ih (List.cons.inj h).2]
        exact (inj hns).symm
      subst ens
      refine ⟨_, rfl, vc, cl, rfl, hcl.on t1.tk, _, rfl, vo, op, rfl, hop.on t1.tk, _, _, rfl, rfl, _, rfl, _, _, rfl, rfl, ?_⟩
      refine ⟨_, rfl, _, rfl, vo, op, rfl, hop.on t1.tk, _, rfl, vc, cl, rfl, hcl.on t1.tk, _, rfl, li, rfl, ⟨_, SqL.of hli1⟩, t1.1 T hT, fun H3 tb3 => ?_⟩
      have t3 : TB1 Ts H2 H3 := .tab tb3 t1.1 hT
      have hli3 := t3.lst hli1
      have hin3 := hin1.on t3.tk
      refine ⟨fun i n ys H' => n = ins.length - i ∧ i ≤ ins.length ∧ H' = H3 ∧ ys = ((ins.take i).map Ent.name).map V.str, ⟨_, rfl, Nat.zero_le _, rfl, rfl⟩, ?_⟩
      rintro i n ys H4 ⟨rfl, hi, rfl, rfl⟩
      by_cases lt : i < ins.length
      · refine .inr ⟨⟨_, _, SqL.of hli3, List.getElem?_eq_getElem (by rw [List.length_map, la]; exact lt)⟩, fun v H5 yl => ?_⟩
        obtain ⟨rfl, yl⟩ := yl
        have gy := yl _ (SqL.of hli3)
        rw [List.getElem?_map] at gy
        obtain ⟨a, ha, rfl⟩ := Option.map_eq_some_iff.mp gy
        obtain ⟨e, hes, hae⟩ := hin3.get ha
        refine ⟨rfl, yesT ⟨_, rfl, a, _, 1, _, rfl, rfl, SqT.of hae, at1 e, ?_, _, Nat.sub_lt_sub_left lt (Nat.lt_succ_self _), rfl, lt, rfl, ?_⟩⟩
        · rw [List.length_map, List.length_map, List.length_take]
          exact small1000 (by omega)
        · rw [take_snoc hes, List.map_append, List.map_append]
          rfl
      · have ei : i = ins.length := by omega
        subst ei
        refine .inl ⟨⟨_, SqL.of hli3, by rw [List.length_map, la]; exact Nat.le_refl _⟩, ?_, fun it nit => ?_⟩
        · rw [List.length_map, List.length_map, List.length_take]
          exact small_sz (by omega)
        rw [List.take_length]
        have s5 := @same_new _ _ (.tup ((ins.map Ent.name).map V.str)) nit
        refine ⟨_, rfl, (by show 5 ≤ sizeLine; decide), fun r nr => ?_⟩
        have s6 := s5.trans (@same_new _ _ (.tup [.ref pc, optS (op.map Ent.name), optS (cl.map Ent.name), .ref it, .int (cntO cl - cntO op - (ins.map (Ent.chg tr)).sum)]) nr)
        refine q r _ (t1.tr (t3.tr (.same t3.1 s6))) ⟨pc, it, upd_same, s6 _ _ (t3.tk _ _ hpc1), ?_⟩
        exact (same_new nr) _ _ upd_same
end
/-! ### pieces of a track, of all -/
theorem mark_in (e : Ent) : inV (.str e.word) [V.str "count", .str "look"] = e.mark := by
  have h1 : inV (.str "come") [V.str "count", .str "look"] = false := by decide +kernel
  have h2 : inV (.str "go") [V.str "count", .str "look"] = false := by decide +kernel
  have h3 : inV (.str "move") [V.str "count", .str "look"] = false := by decide +kernel
  have h4 : inV (.str "some") [V.str "count", .str "look"] = false := by decide +kernel
  have h5 : inV (.str "swap") [V.str "count", .str "look"] = false := by decide +kernel
  have h6 : inV (.str "count") [V.str "count", .str "look"] = true := by decide +kernel
  have h7 : inV (.str "look") [V.str "count", .str "look"] = true := by decide +kernel
  cases e
  · exact h1
  · exact h2
  · exact h3
  · exact h4
  · exact h5
  · exact h6
  · exact h7
theorem cut_len (tr : Str) : ∀ (es : List Ent) (rows : List Row) (op : Option Ent) (ins : List Ent), (cutRows tr es rows op ins).length ≤ rows.length + es.length + 1
  | [], rows, op, ins => by
    show (rows ++ [_]).length ≤ _
    rw [List.length_append]
    simp
  | e :: r, rows, op, ins => by
    show (if e.mark = true then _ else _ : List Row).length ≤ _
    split
    · have := cut_len tr r (rows ++ [mkRow tr rows.length op (some e) ins]) (some e) []
      rw [List.length_append] at this
      simp only [List.length_cons, List.length_nil] at this ⊢
      omega
    · have := cut_len tr r rows op (ins ++ [e])
      simp only [List.length_cons]
      omega
theorem inV_iff {x : Str} {ys : List Str} : inV (.str x) (ys.map V.str) = decide (x ∈ ys) := by
  unfold inV
  rw [List.any_map]
  by_cases h : x ∈ ys
  · rw [decide_eq_true h]
    exact List.any_eq_true.mpr ⟨x, h, by show (x == x) = true; simp⟩
  · rw [decide_eq_false h, List.any_eq_false]
    intro y hy z
    have z' : (y == x) = true := z
    exact h (eq_of_beq z' ▸ hy)
theorem all_flat (ys : List Str) : (ys.map V.str).all flatV = true := by
  rw [List.all_map]
  exact List.all_eq_true.mpr fun y _ => rfl
theorem scal_good (e : Ent) (g : Str) : scal e.goodV (.str g) = true := by cases e <;> rfl
section
variable {P : Program} {w : World} {K : PySem.W.Frag} {mg : Str → Option Value} {base : Heap}
abbrev potN : List Str := ["track", "told", "rows", "opens", "inside", "entry"]
theorem scPoT : FnScope potN ["track", "told"] (defScope sPoT) := ⟨rfl, rfl, rfl, by decide +kernel, rfl, by decide +kernel, by decide +kernel⟩
set_option maxHeartbeats 2000000 in
theorem ok_pot {f fR : Addr} {fd dR : FuncData} {Ts : List Addr} (F : Fun K "pieces_of_track" "pieces_of_track" sPoT f fd) (RW : DefT P w K mg base "piece_row" 3 fR dR ["piece", "opens", "closes", "inside"] (spRow Ts)) (ml : mg "len" = none) :
    FnOk P w K mg base CX0 4 f fd ["track", "told"] (spPoT Ts) := by
  refine F.ok scPoT (fun vs H Q E h => ?_) (fun cdv A outer s H vs Q E hr h => ?_)
  · obtain ⟨l, tr, as, es, rfl, _⟩ := h
    rfl
  · obtain ⟨l, tr, as, es, rfl, hl, hen, l30, tg, q⟩ := h
    have nd := scPoT.nd
    refine ⟨_, pss_cons (ps_set (i := 2) nd rfl (Or.inl rfl) (pe_lst pa_nil))
      (pss_cons (ps_set (i := 3) nd rfl (Or.inl rfl) pe_non)
      (pss_cons (ps_set (i := 4) nd rfl (Or.inl rfl) (pe_lst pa_nil))
      (pss_cons (ps_for PassesOwn.never rfl (pi_list (pv 1)) (pg_name (i := 5) nd rfl (Or.inl rfl))
        (pss_one (ps_if (pt_cmpR op_in_seq (pe_ix ix_tup (pv 5) pe_int (fun _ _ => rfl)) (pe_tup (pa_cons pe_str (pa_cons pe_str pa_nil))) (by rfl))
          (pss_cons (ps_expr (pe_bm PySem.F.plainAttrs_list PySem.F.slot_list_append PySem.F.type_list_append mt_append (pv 2) (pa_cons (pe_call RW.ok hr (by rfl) RW.g RW.kp RW.b .nil pass0 (pa_cons (pe_tup (pa_cons (pv 0) (pa_cons (pe_callB call_len_seq (by rfl) ml PySem.boot_len (pa_cons (pv 2) pa_nil)) pa_nil))) (pa_cons (pv 3) (pa_cons (pv 5) (pa_cons (pv 4) pa_nil))))) pa_nil)))
          (pss_cons (ps_set (i := 3) nd rfl (Or.inl rfl) (pv 5)) (pss_one (ps_set (i := 4) nd rfl (Or.inl rfl) (pe_lst pa_nil)))))
          (pss_one (ps_expr (pe_bm PySem.F.plainAttrs_list PySem.F.slot_list_append PySem.F.type_list_append mt_append (pv 4) (pa_cons (pv 5) pa_nil)))))))
      (pss_cons (ps_expr (pe_bm PySem.F.plainAttrs_list PySem.F.slot_list_append PySem.F.type_list_append mt_append (pv 2) (pa_cons (pe_call RW.ok hr (by rfl) RW.g RW.kp RW.b .nil pass0 (pa_cons (pe_tup (pa_cons (pv 0) (pa_cons (pe_callB call_len_seq (by rfl) ml PySem.boot_len (pa_cons (pv 2) pa_nil)) pa_nil))) (pa_cons (pv 3) (pa_cons pe_non (pa_cons (pv 4) pa_nil))))) pa_nil)))
      (pss_one (ps_ret (pv 2))))))), ?_⟩
    refine ⟨Nat.zero_le _, fun R nR => ⟨Nat.zero_le _, fun I nI => ?_⟩⟩
    have sR := @same_new _ _ (.lst []) nR
    have sI := @same_new _ _ (.lst []) nI
    have nRI : R ≠ I := fun z => by rw [← z, upd_same] at nI; cases nI
    have nI0 : H I = none := sR.free nI
    have s0 := sR.trans sI
    have hI0 : (upd (upd H R (.lst [])) I (.lst [])) I = some (.lst []) := upd_same
    have hR0 : (upd (upd H R (.lst [])) I (.lst [])) R = some (.lst []) := (upd_ne nRI).trans upd_same
    generalize upd (upd H R (.lst [])) I (.lst []) = H0 at s0 hI0 hR0
    -- a row put behind the others
    have la := hen.len
    refine ⟨_, rfl, l, rfl, ⟨_, SqL.of (s0 _ _ hl)⟩, ?_⟩
    refine for_list (K := K) (a := l) (xs := as.map V.ref) (fun i σ H' => ∃ (I : Addr) (rs : List Addr) (rows : List Row) (vo : V) (op : Option Ent) (ias : List Addr) (ins : List Ent) (y5 : Option V), σ = [some (.str tr), some (.ref l), some (.ref R), some vo, some (.ref I), y5] ∧
        TB1 Ts H H' ∧ H I = none ∧ R ≠ I ∧ H' R = some (.lst (rs.map V.ref)) ∧ RowsAt H' rs rows ∧ EntO H' vo op ∧ H' I = some (.lst (ias.map V.ref)) ∧ EntsAt H' ias ins ∧ rows.length ≤ i ∧ ins.length ≤ i ∧ cutRows tr es [] none [] = cutRows tr (es.drop i) rows op ins)
      ⟨I, [], [], .non, none, [], [], _, rfl, .same tg s0, nI0, nRI, hR0, .nil, rfl, hI0, .nil, Nat.le_refl _, Nat.le_refl _, rfl⟩ (fun i σ H' _ z => by obtain ⟨_, _, _, _, _, _, _, _, _, z, _⟩ := z; exact SqL.of (z.lst hl)) ?_ ?_
    · rintro i x σ H1 hx ⟨I, rs, rows, vo, op, ias, ins, y5, rfl, t1, nI0, nRI, hR1, ro1, eo1, hI1, en1, lr, li, ec⟩
      rw [List.getElem?_map] at hx
      obtain ⟨a, ha, rfl⟩ := Option.map_eq_some_iff.mp hx
      obtain ⟨e, hes, hae⟩ := (hen.on t1.tk).get ha
      have lt : i < es.length := (List.getElem?_eq_some_iff.mp hes).1
      have dr : es.drop i = e :: es.drop (i + 1) := by
        rw [List.drop_eq_getElem_cons lt]
        rw [List.getElem?_eq_getElem lt] at hes
        rw [Option.some.inj hes]
      rw [dr] at ec
      refine ⟨_, rfl, a, _, 0, _, rfl, rfl, SqT.of hae, at0 e, (by show 2 ≤ sizeLine; decide), fun tq ntq => ?_⟩
      have s2 := @same_new _ _ (.tup [V.str "count", .str "look"]) ntq
      have h2 : (upd H1 tq (.tup [V.str "count", .str "look"])) tq = some (.tup [V.str "count", .str "look"]) := upd_same
      generalize upd H1 tq (.tup [V.str "count", .str "look"]) = H2 at s2 h2
      have t2 := t1.tr (.same t1.1 s2)
      refine ⟨tq, _, rfl, .inr (SqT.of h2), rfl, rfl, e.mark, congrArg V.bl (mark_in e), ?_⟩
      by_cases mk : e.mark = true
      · rw [mk]
        refine iteT ?_
        refine ⟨_, rfl, .inl ⟨rfl, _, SqL.of (s2 _ _ hR1)⟩, _, rfl, _, rfl, R, _, rfl, .inl (SqL.of (s2 _ _ hR1)), (by show 2 ≤ sizeLine; decide), fun pc npc => ?_⟩
        have s3 := @same_new _ _ (.tup [V.str tr, .int (((rs.map V.ref).length : Nat) : Int)]) npc
        have h3 : (upd H2 pc (.tup [V.str tr, .int (((rs.map V.ref).length : Nat) : Int)])) pc = some (.tup [V.str tr, .int (((rs.map V.ref).length : Nat) : Int)]) := upd_same
        have t3 := t2.tr (.same t2.1 s3)
        have s23 := s2.trans s3
        refine ⟨_, rfl, _, rfl, _, rfl, pc, I, vo, .ref a, op, some e, tr, (rs.map V.ref).length, ias, ins, rfl, h3, (eo1.on (TK.of s23)), ⟨a, rfl, s23 _ _ hae, mk⟩, s23 _ _ hI1, en1.on (TK.of s23), by omega, t3.1, fun r H4 t4 rw4 => ?_⟩
        have t34 := t3.tr t4
        have hR4 := t4.lst (s23 _ _ hR1)
        have lrs : rs.length = rows.length := Paired.length ro1
        refine ⟨R, _, _, rfl, rfl, hR4, (by rw [List.length_map]; exact small1000 (by omega)), _, rfl, Nat.zero_le _, fun I2 nI2 => ?_⟩
        have nR0 : H R = none := nR
        have t5 := t34.put (o := .lst (rs.map V.ref ++ [V.ref r])) nR0 hR4
        have k5 : TK H4 (upd H4 R (.lst (rs.map V.ref ++ [V.ref r]))) := TK.upd fun xs e => by rw [hR4] at e; cases e
        have hR5 : (upd H4 R (.lst (rs.map V.ref ++ [V.ref r]))) R = some (.lst ((rs ++ [r]).map V.ref)) := by rw [upd_same, List.map_append]; rfl
        generalize upd H4 R (.lst (rs.map V.ref ++ [V.ref r])) = H5 at nI2 t5 k5 hR5
        have s6 := @same_new _ _ (.lst []) nI2
        have nI20 : H I2 = none := t5.free _ nI2
        have nRI2 : R ≠ I2 := ne_of_none hR5 nI2
        refine ⟨I2, rs ++ [r], rows ++ [mkRow tr rows.length op (some e) ins], _, some e, [], [], _, rfl, t5.tr (.same t5.1 s6), nI20, nRI2, s6 _ _ hR5, ?_, ⟨a, rfl, s6 _ _ (k5 _ _ (t4.tk _ _ (s23 _ _ hae))), mk⟩, upd_same, .nil, ?_, Nat.zero_le _, ?_⟩
        · refine Paired.snoc ((((ro1.on (TK.of s23)).on t4.tk).on k5).on (TK.of s6)) ?_
          rw [List.length_map, lrs] at rw4
          exact (rw4.on k5).on (TK.of s6)
        · rw [List.length_append]
          simp
          omega
        · rw [ec]
          exact if_pos mk
      · rw [Bool.eq_false_iff.mpr mk]
        refine iteF ?_
        have hI2 := s2 _ _ hI1
        refine ⟨_, rfl, .inl ⟨rfl, _, SqL.of hI2⟩, _, rfl, I, _, _, rfl, rfl, hI2, (by rw [List.length_map, en1.len]; exact small1000 (by omega)), ?_⟩
        have k5 : TK H2 (upd H2 I (.lst (ias.map V.ref ++ [V.ref a]))) := TK.upd fun xs e => by rw [hI2] at e; cases e
        refine ⟨I, rs, rows, vo, op, ias ++ [a], ins ++ [e], _, rfl, t2.put nI0 hI2, nI0, nRI, (upd_ne nRI).trans (s2 _ _ hR1), (ro1.on (TK.of s2)).on k5, (eo1.on (TK.of s2)).on k5, ?_, EntsAt.snoc ((en1.on (TK.of s2)).on k5) (k5 _ _ (s2 _ _ hae)), by omega, ?_, ?_⟩
        · rw [upd_same, List.map_append]
          rfl
        · rw [List.length_append]
          simp
          omega
        · rw [ec]
          exact if_neg mk
    · rintro σ H1 ⟨I, rs, rows, vo, op, ias, ins, y5, rfl, t1, nI0, nRI, hR1, ro1, eo1, hI1, en1, lr, li, ec⟩
      rw [List.length_map, la] at lr li ec
      rw [List.drop_length] at ec
      refine ⟨_, rfl, .inl ⟨rfl, _, SqL.of hR1⟩, _, rfl, _, rfl, R, _, rfl, .inl (SqL.of hR1), (by show 2 ≤ sizeLine; decide), fun pc npc => ?_⟩
      have s3 := @same_new _ _ (.tup [V.str tr, .int (((rs.map V.ref).length : Nat) : Int)]) npc
      have h3 : (upd H1 pc (.tup [V.str tr, .int (((rs.map V.ref).length : Nat) : Int)])) pc = some (.tup [V.str tr, .int (((rs.map V.ref).length : Nat) : Int)]) := upd_same
      have t3 := t1.tr (.same t1.1 s3)
      refine ⟨_, rfl, _, rfl, pc, I, vo, .non, op, none, tr, (rs.map V.ref).length, ias, ins, rfl, h3, (eo1.on (TK.of s3)), rfl, s3 _ _ hI1, en1.on (TK.of s3), by omega, t3.1, fun r H4 t4 rw4 => ?_⟩
      have t34 := t3.tr t4
      have hR4 := t4.lst (s3 _ _ hR1)
      have lrs : rs.length = rows.length := Paired.length ro1
      refine ⟨R, _, _, rfl, rfl, hR4, (by rw [List.length_map]; exact small1000 (by omega)), _, rfl, ?_⟩
      have k5 : TK H4 (upd H4 R (.lst (rs.map V.ref ++ [V.ref r]))) := TK.upd fun xs e => by rw [hR4] at e; cases e
      refine q R (rs ++ [r]) _ (t34.put nR hR4) nR ?_ ?_
      · rw [upd_same, List.map_append]
        rfl
      · rw [ec]
        rw [List.length_map, lrs] at rw4
        exact Paired.snoc (((ro1.on (TK.of s3)).on t4.tk).on k5) (rw4.on k5)
end
section
variable {P : Program} {w : World} {K : PySem.W.Frag} {mg : Str → Option Value} {base : Heap}
abbrev piecesN : List Str := ["house", "good", "told", "rows", "track", "entry"]
theorem scPieces : FnScope piecesN ["house", "good"] (defScope sPieces) := ⟨rfl, rfl, rfl, by decide +kernel, rfl, by decide +kernel, by decide +kernel⟩
theorem told_len (g : Str) (es : List Ent) : (toldOf g es).length ≤ es.length := by
  unfold toldOf
  refine Nat.le_trans (List.length_filter_le _ _) ?_
  rw [along_len]
  exact Nat.le_refl _
theorem on_len (t : Str) (es : List Ent) : (onTrack t es).length ≤ es.length := List.length_filter_le _ _
theorem flat_len {P : List Str} {f : Str → List Row} {n : Nat} (h : ∀ t, (f t).length ≤ n) : ∀ k, ((P.take k).flatMap f).length ≤ k * n
  | 0 => by simp
  | k + 1 => by
    by_cases z : k < P.length
    · rw [take_snoc (List.getElem?_eq_getElem z), List.flatMap_append, List.length_append, Nat.succ_mul]
      have := flat_len (P := P) h k
      have h2 := h P[k]
      simp only [List.flatMap_cons, List.flatMap_nil, List.append_nil]
      omega
    · rw [List.take_of_length_le (by omega)]
      have := flat_len (P := P) h k
      rw [List.take_of_length_le (by omega)] at this
      rw [Nat.succ_mul]
      omega
theorem RowsAt.app {H : Hp} {rs qs : List Addr} {xs ys : List Row} (a : RowsAt H rs xs) (b : RowsAt H qs ys) : RowsAt H (rs ++ qs) (xs ++ ys) := by
  induction a with
  | nil => exact b
  | cons h _ ih => exact .cons h ih
set_option maxHeartbeats 2000000 in
theorem ok_pieces {f fA fG fT fP : Addr} {fd dA dG dT dP : FuncData} {Ts : List Addr} (F : Fun K "pieces" "pieces" sPieces f fd) (AL : DefT P w K mg base "along_tracks" 3 fA dA ["house"] (spAlong Ts)) (GO : DefT P w K mg base "good_of" 1 fG dG ["entry"] spGood)
    (PT : DefT P w K mg base "pieces_of_track" 4 fT dT ["track", "told"] (spPoT Ts)) (PO : DefT P w K mg base "places_of" 1 fP dP ["entry"] spPlaces) : FnOk P w K mg base CX0 5 f fd ["house", "good"] (spPieces Ts) := by
  refine F.ok scPieces (fun vs H Q E h => ?_) (fun cdv A outer s H vs Q E hr h => ?_)
  · obtain ⟨h, Ps, G, es, m, g, rfl, _⟩ := h
    rfl
  · obtain ⟨h, Ps, G, es, m, g, rfl, ho, gd, m30, tg, q⟩ := h
    have nd := scPieces.nd
    have hr1 : Room 1 _ := hr.mono (by decide)
    have hr3 : Room 3 _ := hr.mono (by decide)
    refine ⟨_, pss_cons (ps_setLc (i := 2) (own := [("entry", 5)]) (g := gName 5) (te := tVar 5) rfl nd rfl rfl (sw_true rfl rfl rfl (by decide +kernel)) (pi_list (pe_call AL.ok hr3 (by rfl) AL.g AL.kp AL.b .nil pass0 (pa_cons (pv 0) pa_nil)))
          (blkOk_by (N := piecesN) (sc := defScope sPieces) (by decide +kernel)) (fun _ _ _ _ _ => pg_name (i := 5) nd rfl (Or.inl rfl)) (fun _ _ _ _ _ => pts_one (pt_cmpR op_eq (pe_call GO.ok hr1 (by rfl) GO.g GO.kp GO.b .nil pass0 (pa_cons (pv 5) pa_nil)) (pv 1) (nomark _))) (fun _ _ _ _ _ => pv 5))
      (pss_cons (ps_set (i := 3) nd rfl (Or.inl rfl) (pe_lst pa_nil))
      (pss_cons (ps_for PassesOwn.never rfl (pi_tup (pe_ix ix_tup (pv 0) pe_int (fun _ _ => rfl))) (pg_name (i := 4) nd rfl (Or.inr rfl))
        (pss_one (ps_expr (pe_bm PySem.F.plainAttrs_list PySem.F.slot_list_extend PySem.F.type_list_extend mt_extend (pv 3) (pa_cons (pe_call PT.ok hr (by rfl) PT.g PT.kp PT.b .nil pass0 (pa_cons (pv 4) (pa_cons
          (pe_lc (own := [("entry", 5)]) (g := gName 5) (tt := tTest (tOp (rIn K false) (tVar 4) (tCall spPlaces [] E0 (tCons (tVar 5) tNil)))) (te := tVar 5) rfl nd (pi_list (pv 2)) (blkOk_by (N := piecesN) (sc := defScope sPieces) (by decide +kernel)) (fun _ _ _ _ _ => pg_name (i := 5) nd rfl (Or.inl rfl))
            (fun _ _ _ _ _ => pts_one (pt_cmpR op_in_seq (pv 4) (pe_call PO.ok hr1 (by rfl) PO.g PO.kp PO.b .nil pass0 (pa_cons (pv 5) pa_nil)) (by rfl))) (fun _ _ _ _ _ => pv 5)) pa_nil))) pa_nil)))))
      (pss_one (ps_ret (pv 3))))), ?_⟩
    refine ⟨_, rfl, h, Ps, G, es, m, rfl, ho, gd, m30, tg, fun l as H1 t1 nl hl en => ⟨l, rfl, ⟨_, SqL.of hl⟩, fun D nD => ?_⟩⟩
    have la := en.len
    rw [along_len] at la
    have nD0 : H D = none := t1.free _ nD
    have lm : es.length = m := gd.many
    refine lc_list (K := K) (a := l) (xs := as.map V.ref) (fun i H' => Same H1 H' ∧ ∃ ts : List Addr, H' D = some (.lst (ts.map V.ref)) ∧ EntsAt H' ts (((along es).take i).filter fun e => decide (e.goodV = .str g)))
      ⟨same_new nD, [], upd_same, .nil⟩ (fun i H' _ z => SqL.of (z.1 _ _ hl)) ?_ ?_
    · rintro i x H2 hx ⟨s2, ts, hD2, en2⟩
      rw [List.getElem?_map] at hx
      obtain ⟨a, ha, rfl⟩ := Option.map_eq_some_iff.mp hx
      obtain ⟨e, hes, hae⟩ := (en.on (TK.of s2)).get ha
      have lt : i < as.length := (List.getElem?_eq_some_iff.mp ha).1
      refine ⟨rfl, _, rfl, a, e, rfl, hae, _, rfl, scal_good e g, _, rfl, ?_⟩
      by_cases z : e.goodV = .str g
      · rw [decide_eq_true z]
        have k3 : TK H2 (upd H2 D (.lst (ts.map V.ref ++ [V.ref a]))) := TK.upd fun xs e => by rw [hD2] at e; cases e
        refine iteT ⟨_, rfl, _, hD2, ?_, fun b o e => (upd_ne (ne_of_none e nD)).trans (s2 b o e), ts ++ [a], ?_, ?_⟩
        · rw [List.length_map, en2.len]
          exact small1000 (by have := List.length_filter_le (fun e => decide (Ent.goodV e = .str g)) ((along es).take i); rw [List.length_take, along_len] at this; omega)
        · rw [upd_same, List.map_append]
          rfl
        · rw [take_snoc hes, List.filter_append]
          have f1 : [e].filter (fun e => decide (e.goodV = .str g)) = [e] := by simp [z]
          rw [f1]
          exact EntsAt.snoc (en2.on k3) (k3 _ _ hae)
      · rw [decide_eq_false z]
        refine iteF ⟨s2, ts, hD2, ?_⟩
        rw [take_snoc hes, List.filter_append]
        have f1 : [e].filter (fun e => decide (e.goodV = .str g)) = [] := by simp [z]
        rw [f1, List.append_nil]
        exact en2
    · rintro H2 ⟨s2, ts, hD2, en2⟩
      rw [List.length_map, la, ← along_len es, List.take_length] at en2
      have en2' : EntsAt H2 ts (toldOf g es) := en2
      have t2 := t1.tr (.same t1.1 s2)
      refine ⟨Nat.zero_le _, fun R nR => ?_⟩
      have nR0 : H R = none := t2.free _ nR
      have nDR : D ≠ R := ne_of_none hD2 nR
      have s3 := @same_new _ _ (.lst []) nR
      have hR3 : (upd H2 R (.lst [])) R = some (.lst []) := upd_same
      generalize upd H2 R (.lst []) = H3 at s3 hR3
      have t3 := t2.tr (.same t2.1 s3)
      obtain ⟨hp, hg, he, tps, g1, g2, g3, g4, g5⟩ := ho.ex
      refine ⟨_, rfl, h, _, 0, _, rfl, rfl, SqT.of (t3.tk _ _ g1), atI_nat (j := 0) rfl, hp, rfl, ⟨_, SqT.of (t3.tk _ _ g2)⟩, ?_⟩
      have cl31 : ∀ t, (cutRows t (onTrack t (toldOf g es)) [] none []).length ≤ 31 := fun t => by
        have h1 := cut_len t (onTrack t (toldOf g es)) [] none []
        have h2 := on_len t (toldOf g es)
        have h3 := told_len g es
        simp only [List.length_nil] at h1
        omega
      refine for_tup (K := K) (a := hp) (xs := Ps.map V.str) (fun i σ H' => ∃ (rs : List Addr) (y4 : Option V), σ = [some (.ref h), some (.str g), some (.ref D), some (.ref R), y4, none] ∧ TB1 Ts H H' ∧ H' D = some (.lst (ts.map V.ref)) ∧ EntsAt H' ts (toldOf g es) ∧
          H' R = some (.lst (rs.map V.ref)) ∧ RowsAt H' rs ((Ps.take i).flatMap fun t => cutRows t (onTrack t (toldOf g es)) [] none []))
        ⟨[], _, rfl, t3, s3 _ _ hD2, en2'.on (TK.of s3), hR3, .nil⟩ (fun i σ H' _ z => by obtain ⟨_, _, _, z, _⟩ := z; exact SqT.of (z.tk _ _ g2)) ?_ ?_
      · rintro i x σ H4 hx ⟨rs, y4, rfl, t4, hD4, en4, hR4, ro4⟩
        rw [List.getElem?_map] at hx
        obtain ⟨t, ht, rfl⟩ := Option.map_eq_some_iff.mp hx
        have lt : i < Ps.length := (List.getElem?_eq_some_iff.mp ht).1
        refine ⟨_, rfl, .inl ⟨rfl, _, SqL.of hR4⟩, _, rfl, _, rfl, D, rfl, ⟨_, SqL.of hD4⟩, fun C nC => ?_⟩
        have nC0 : H C = none := t4.free _ nC
        refine lc_list (K := K) (a := D) (xs := ts.map V.ref) (fun j H' => Same H4 H' ∧ ∃ us : List Addr, H' C = some (.lst (us.map V.ref)) ∧ EntsAt H' us (onTrack t ((toldOf g es).take j)))
          ⟨same_new nC, [], upd_same, .nil⟩ (fun j H' _ z => SqL.of (z.1 _ _ hD4)) ?_ ?_
        · rintro j x H5 hx ⟨s5, us, hC5, en5⟩
          rw [List.getElem?_map] at hx
          obtain ⟨a, ha, rfl⟩ := Option.map_eq_some_iff.mp hx
          obtain ⟨e, hes, hae⟩ := (en4.on (TK.of s5)).get ha
          refine ⟨rfl, _, rfl, _, rfl, a, e, rfl, hae, fun tp H6 s6 h6 => ?_⟩
          refine ⟨tp, _, rfl, .inr (SqT.of h6), rfl, all_flat _, decide (t ∈ e.places), congrArg V.bl inV_iff, ?_⟩
          have hC6 := s6 _ _ hC5
          by_cases z : t ∈ e.places
          · rw [decide_eq_true z]
            have k7 : TK H6 (upd H6 C (.lst (us.map V.ref ++ [V.ref a]))) := TK.upd fun xs e => by rw [hC6] at e; cases e
            refine iteT ⟨_, rfl, _, hC6, ?_, fun b o e => (upd_ne (ne_of_none e nC)).trans (s6 _ _ (s5 b o e)), us ++ [a], ?_, ?_⟩
            · rw [List.length_map, en5.len]
              exact small1000 (by have := on_len t ((toldOf g es).take j); have h3 := told_len g es; rw [List.length_take] at this; omega)
            · rw [upd_same, List.map_append]
              rfl
            · rw [take_snoc hes]
              unfold onTrack
              rw [List.filter_append]
              have f1 : [e].filter (fun e => decide (t ∈ e.places)) = [e] := by simp [z]
              rw [f1]
              exact EntsAt.snoc ((en5.on (TK.of s6)).on k7) (k7 _ _ (s6 _ _ hae))
          · rw [decide_eq_false z]
            refine iteF ⟨s5.trans s6, us, hC6, ?_⟩
            rw [take_snoc hes]
            unfold onTrack
            rw [List.filter_append]
            have f1 : [e].filter (fun e => decide (t ∈ e.places)) = [] := by simp [z]
            rw [f1, List.append_nil]
            exact en5.on (TK.of s6)
        · rintro H5 ⟨s5, us, hC5, en5⟩
          rw [List.length_map, en4.len, List.take_length] at en5
          have t5 := t4.tr (.same t4.1 s5)
          refine ⟨C, t, us, _, rfl, hC5, en5, ?_, t5.1, fun r qs H6 t6 nr hr6 ro6 => ?_⟩
          · have h2 := on_len t (toldOf g es)
            have h3 := told_len g es
            omega
          have hR6 := t6.lst (s5 _ _ hR4)
          have k7 : TK H6 (upd H6 R (.lst (rs.map V.ref ++ qs.map V.ref))) := TK.upd fun xs e => by rw [hR6] at e; cases e
          have nDR7 : D ≠ R := nDR
          have l1 : rs.length ≤ i * 31 := by
            rw [Paired.length ro4]
            exact flat_len cl31 i
          have l2 : qs.length ≤ 31 := by
            rw [Paired.length ro6]
            exact cl31 t
          refine ⟨R, r, _, _, rfl, rfl, hR6, hr6, small_sz (by rw [List.length_map, List.length_map]; have := gd.le; omega), ⟨rs ++ qs, _, rfl, (t5.tr t6).put nR0 hR6, (upd_ne nDR7).trans (t6.lst (s5 _ _ hD4)), ((en4.on (TK.of s5)).on t6.tk).on k7, ?_, ?_⟩⟩
          · rw [upd_same, List.map_append]
          · rw [take_snoc ht, List.flatMap_append]
            simp only [List.flatMap_cons, List.flatMap_nil, List.append_nil]
            exact RowsAt.app (((ro4.on (TK.of s5)).on t6.tk).on k7) (ro6.on k7)
      · rintro σ H4 ⟨rs, y4, rfl, t4, hD4, en4, hR4, ro4⟩
        rw [List.length_map, List.take_length] at ro4
        exact ⟨_, rfl, q R rs H4 t4 nR0 hR4 ro4⟩
end
/-! ### x in d.values(), texts -/
section
variable {prog : Program} {w : World} {A : Around} {E : Value → Shared → Prop} {s : Shared}
theorem plain_ci : plainId "proto.contains_iter" = true := by decide +kernel
theorem entry_ci : entryFor table "proto.contains_iter" = some Builtin.«proto.contains_iter» := entryFor_of_tree (by kernel_rfl)
theorem nocont_vals : typeLookup (.type "dict_values") "__contains__" = pure none := by rw [typeLookup_type, builtinLookup_eq_fast]; kernel_rfl
theorem ci_loop {it d : Addr} {ep : Nat} {vs : List (Key × Value)} {ys : List Str} {z : Str} {t : Tok} (hA : A.handled = none) (hv : ∀ (i : Nat) (p : Key × Value), vs[i]? = some p → ∃ y u, ys[i]? = some y ∧ p.2 = .str y u) (hl : ys.length = vs.length) (hdi : d ≠ it) {R : Result → Shared → Prop} :
    ∀ (n i : Nat) (s : Shared), i + n = vs.length → s.heap.IsValIter it d i vs.length ep → s.heap.DictAt (mixKind prog w) d vs ep → (∀ h', Heap.ExtBut it s.heap h' → R (.ok (.ret (.bool (decide (z ∈ ys.drop i))))) { s with heap := h' }) →
      codeAny (model prog w) A (.builtin "proto.contains_iter" ⟨[.ref it, .str z t], []⟩) R s
  | 0, i, s, hn, hit, hd, hR => by
    refine codeAny_builtin entry_ci ?_
    rw [Around.under_plainId plain_ci]
    unfold Builtin.«proto.contains_iter»
    refine wpAny_bind (wpAny_pyNext_values_end hA hit hd (List.getElem?_eq_none (by omega)) fun h' eb => ?_)
    refine wpAny_bind (wpAny_rule (wpAny_pure ?_))
    have e : ys.drop i = [] := List.drop_eq_nil_of_le (by omega)
    have q := hR h' eb
    rw [e] at q
    exact q
  | n + 1, i, s, hn, hit, hd, hR => by
    refine codeAny_builtin entry_ci ?_
    rw [Around.under_plainId plain_ci]
    unfold Builtin.«proto.contains_iter»
    obtain ⟨p, hp⟩ : ∃ p, vs[i]? = some p := ⟨_, List.getElem?_eq_getElem (by omega)⟩
    obtain ⟨y, u, hy, ev⟩ := hv i p hp
    have ed : ys.drop i = y :: ys.drop (i + 1) := by
      rw [List.drop_eq_getElem_cons (by omega)]
      rw [List.getElem?_eq_getElem (by omega)] at hy
      rw [Option.some.inj hy]
    refine wpAny_bind (wpAny_pyNext_values_item hit hd (k := p.1) (v := p.2) hp fun h' hit' sb => ?_)
    rw [ev]
    refine wpAny_bind ((mixKind prog w).eqBool (a := Sum.inr y) (b := Sum.inr z) (kV_is (k := Sum.inr y) ⟨u, rfl⟩) (kV_is (k := Sum.inr z) ⟨t, rfl⟩) ?_)
    by_cases e : y = z
    · rw [if_pos (by simp [e])]
      refine wpAny_bind (wpAny_rule (wpAny_pure ?_))
      have q := hR h' fun b o hb eo => (sb.2 b hb).trans eo
      rw [ed, decide_eq_true (by rw [e]; exact List.mem_cons_self)] at q
      exact q
    · rw [if_neg (by simp [e])]
      refine wpAny_pure ⟨plainId_quiet plain_ci _, ci_loop hA hv hl hdi n (i + 1) { s with heap := h' } (by omega) hit' (let ⟨o, es, ho, r⟩ := hd; ⟨o, es, (sb.2 d hdi).trans ho, r⟩) fun h2 eb2 => ?_⟩
      have q := hR h2 (fun b o hb eo => eb2 b o hb ((sb.2 b hb).trans eo))
      rw [ed] at q
      have e2 : decide (z ∈ y :: ys.drop (i + 1)) = decide (z ∈ ys.drop (i + 1)) := by
        have : ¬ z = y := fun h => e h.symm
        simp [this]
      rw [e2] at q
      exact q
end
def valsO (v d : Addr) : HO := .ext fun h => h.get? v = some { cls := .type "dict_values", data := .fields #[.ref d] }
/-- d.values(), as a value -/
def tVals (td : TE) : TE := fun σ H Q => td σ H fun x H1 => ∃ (d : Addr) (kvs : List (Key × V)), x = .ref d ∧ H1 d = some (.dK kvs) ∧ ∀ v, H1 v = none → Q (.ref v) (upd H1 v (valsO v d))
theorem pe_vals {X : Cx} {e : Expr} {td : TE} {apos cpos : Pos} (he : PE X e td) (hbase : attributeBase e "values" X.env (eval e X.env) = eval e X.env := by rfl) (hline : (apos.endLine == cpos.line) = true := by rfl) :
    PE X (.Call (.Attribute e "values" apos) [] [] cpos) (tVals td) := by
  refine ⟨fun pins s σ H Q I h => ?_⟩
  refine wpAny_Call_method (T := "dict") (id := "dict.values") hbase rfl hline F.plainAttrs_dict F.slot_dict_values F.type_dict_values (thn (he.run pins s σ H _ I h) ?_)
  rintro u s1 ⟨x, H1, I1, rx, d, kvs, rfl, hd, q⟩
  obtain rfl : u = Value.ref d := rx
  obtain ⟨_, dS, vs, rel, dd⟩ := dk_of I1.hok hd
  refine ⟨dd.typeIs, dd.mapOf.noDict, ?_⟩
  show wpAny _ _ (callWith cpos (.builtin "dict.values") [.ref d] [] []) _ X.xe s1
  refine method_meetsIn F.slot_dict_values F.entry_dict_values rfl (PySem.evalArgs_none ⟨rfl, dd.typeIs, F.args_dict_values_1 _, _, meets_dict_values (mixKind X.prog X.w) d dS, ⟨vs, dd⟩, ?_⟩)
  refine ⟨.ref s1.heap.objs.size, _, I1.laid (t' := s1.toks) (a := s1.heap.objs.size) (o := valsO s1.heap.objs.size d) (fun b ob q => Heap.get?_push_of_some _ q) (Nat.le_refl _) ?_, rfl, q _ (I1.hok.fresh (Nat.le_refl _))⟩
  have e : (s1.heap.push { cls := .type "dict_values", data := .fields #[.ref d] }).get? s1.heap.objs.size = some { cls := .type "dict_values", data := .fields #[.ref d] } := Heap.get?_push_size _ rfl
  exact ⟨e, ⟨_, e⟩, fun h1 h2 p k => k _ p⟩
def rInVals : R2 := fun x y H Q => ∃ (z : Str) (v d : Addr) (kvs : List (Key × V)) (ys : List Str), x = .str z ∧ y = .ref v ∧ H v = some (valsO v d) ∧ H d = some (.dK kvs) ∧ kvs.map (·.2) = ys.map V.str ∧ Q (.bl (decide (z ∈ ys))) H
theorem op_inVals {X : Cx} (hc : X.calm = true) : OpR X (compareOp .In) rInVals := by
  rintro pins s σ H x y vx vy Q I rx ry ⟨z, v, d, kvs, ys, rfl, rfl, hv, hd, hy, q⟩
  obtain ⟨t, rfl⟩ : ∃ t, vx = Value.str z t := rx
  obtain rfl : vy = Value.ref v := ry
  obtain ⟨ev, _, _⟩ := I.hok v _ hv
  obtain ⟨_, dS, vs, rel, o, es, ep, dd⟩ := dk_of I.hok hd
  have dA : s.heap.DictAt (mixKind X.prog X.w) d vs ep := ⟨o, es, dd⟩
  have tv : s.TypeIs (.ref v) "dict_values" := ⟨_, ev, rfl⟩
  have lv : kvs.length = vs.length := Paired.length rel
  have ly : ys.length = vs.length := by
    have := congrArg List.length hy
    rw [List.length_map, List.length_map] at this
    omega
  show wpAny _ _ (contains (.ref v) (.str z t) >>= fun b => pure (Value.bool b)) _ _ s
  refine wpAny_bind ?_
  unfold contains
  refine wpAny_holding ?_
  show wpAny _ _ (specialOf (.ref v) "__contains__" >>= _) _ _ s
  refine wpAny_bind (wpAny_specialOf tv nocont_vals ?_)
  show wpAny _ _ (if ((none : Option Value) == some Value.none) = true then _ else _) _ _ s
  rw [if_neg (by decide)]
  refine wpAny_bind (wpAny_callSpecialUnlessNone?_none tv nocont_vals ?_)
  refine wpAny_bind (wpAny_rule ?_)
  refine wpAny_bind (wpAny_tryCatch (wpAny_pyIter_values (d := d) (knd := mixKind X.prog X.w) ⟨_, ev, rfl, rfl⟩ dA ?_))
  have nvi : d ≠ s.heap.objs.size := Nat.ne_of_lt (Heap.lt_size dd.1)
  refine wpAny_bind (wpAny_runValue (ci_loop (ys := ys) (I.ok.hd hc) ?_ ly nvi vs.length 0 _ (by omega) ⟨_, Heap.get?_push_size _ rfl, rfl, rfl⟩ ?_ fun h' eb => ?_))
  · intro i p hp
    have hi : i < vs.length := (List.getElem?_eq_some_iff.mp hp).1
    obtain ⟨⟨k, v'⟩, hk⟩ : ∃ e, kvs[i]? = some e := ⟨_, List.getElem?_eq_getElem (by omega)⟩
    obtain ⟨u, hu, ru⟩ := kv_get rel hk
    obtain ⟨y, hy'⟩ : ∃ y, ys[i]? = some y := ⟨_, List.getElem?_eq_getElem (by omega)⟩
    have e1 : (kvs.map (·.2))[i]? = some v' := by rw [List.getElem?_map, hk]; rfl
    rw [hy, List.getElem?_map, hy'] at e1
    obtain rfl : V.str y = v' := Option.some.inj e1
    obtain ⟨t2, rfl⟩ := ru
    rw [hp] at hu
    exact ⟨y, t2, hy', by rw [Option.some.inj hu]⟩
  · exact ⟨o, es, Heap.get?_push_of_some _ dd.1, dd.2⟩
  · refine wpAny_pure (wpAny_pure ⟨.bl _, H, I.kept (t' := s.toks) (fun b ob e => eb b ob (Nat.ne_of_lt (Heap.lt_size e)) (Heap.get?_push_of_some _ e)), rfl, ?_⟩)
    rw [List.drop_zero]
    exact q
/-! ### books -/
def bkIn (t : Str) (s : Option (Str × Int)) : Ent → Option (Str × Int)
  | .count n _ _ _ k _ => some (n, k)
  | .some_ _ _ _ _ _ => none
  | e => s.map fun x => (x.1, x.2 + e.chg t)
def bkStep (g t : Str) (s : Option (Str × Int)) (e : Ent) : Option (Str × Int) := if e.goodV = .str g ∧ t ∈ e.places then bkIn t s e else s
def lastC (es : List Ent) (g t : Str) : Option (Str × Int) := es.foldl (bkStep g t) none
theorem lastC_snoc (es : List Ent) (e : Ent) (g t : Str) : lastC (es ++ [e]) g t = bkStep g t (lastC es g t) e := by
  unfold lastC
  rw [List.foldl_append]
  rfl
theorem bkIn_else {t : Str} {s : Option (Str × Int)} {e : Ent} (h1 : e.word ≠ "count") (h2 : e.word ≠ "some") : bkIn t s e = s.map fun x => (x.1, x.2 + e.chg t) := by
  cases e with
  | count n m g p k hd => exact absurd rfl h1
  | some_ n m g o t => exact absurd rfl h2
  | _ => rfl
def bkN : Option (Str × Int) → V
  | none => .non
  | some x => .str x.1
def bkB : Option (Str × Int) → V
  | none => .non
  | some x => .int x.2
theorem EntsAt.take {H : Hp} {as : List Addr} {es : List Ent} (h : EntsAt H as es) (k : Nat) : EntsAt H (as.take k) (es.take k) := by
  induction h generalizing k with
  | nil => simp only [List.take_nil]; exact .nil
  | cons a _ ih =>
    cases k with
    | zero => exact .nil
    | succ n => exact .cons a (ih n)
def spLastC : Sp := fun vs H Q _ => ∃ (l : Addr) (as : List Addr) (es : List Ent) (g t : Str), vs = [.ref l, .str g, .str t] ∧ H l = some (.lst (as.map V.ref)) ∧ EntsAt H as es ∧
  ∀ (a : Addr) (H' : Hp), Same H H' → H' a = some (.tup [bkN (lastC es g t), bkB (lastC es g t)]) → Q (.ref a) H'
section
variable {P : Program} {w : World} {K : PySem.W.Frag} {mg : Str → Option Value} {base : Heap}
abbrev sLastCN : List Str := ["told", "good", "track", "name", "book", "entry"]
theorem sc_sLastC : FnScope sLastCN ["told", "good", "track"] (defScope sLastC) := ⟨rfl, rfl, rfl, by decide +kernel, rfl, by decide +kernel, by decide +kernel⟩
set_option maxHeartbeats 2000000 in
theorem ok_lastC {f fG fP fC : Addr} {fd dG dP dC : FuncData} (F : Fun K "last_counted" "last_counted" sLastC f fd) (GO : DefT P w K mg base "good_of" 1 fG dG ["entry"] spGood) (PO : DefT P w K mg base "places_of" 1 fP dP ["entry"] spPlaces)
    (CH : DefT P w K mg base "change_at" 1 fC dC ["entry", "place"] spChange) : FnOk P w K mg base CX0 2 f fd ["told", "good", "track"] spLastC := by
  refine F.ok sc_sLastC (fun vs H Q E h => ?_) (fun cdv A outer s H vs Q E hr h => ?_)
  · obtain ⟨l, as, es, g, t, rfl, _⟩ := h
    rfl
  · obtain ⟨l, as, es, g, t, rfl, hl, en, q⟩ := h
    have nd := sc_sLastC.nd
    refine ⟨_, pss_cons (ps_set (i := 3) nd rfl (Or.inl rfl) pe_non)
      (pss_cons (ps_set (i := 4) nd rfl (Or.inl rfl) pe_non)
      (pss_cons (ps_for PassesOwn.never rfl (pi_list (pv 0)) (pg_name (i := 5) nd rfl (Or.inl rfl))
        (pss_one (ps_if (PW.pt (pw_and (pt_cmpR op_eq (pe_call GO.ok hr (by rfl) GO.g GO.kp GO.b .nil pass0 (pa_cons (pv 5) pa_nil)) (pv 1) (nomark _)) (pw_and1 (pt_cmpR op_in_seq (pv 2) (pe_call PO.ok hr (by rfl) PO.g PO.kp PO.b .nil pass0 (pa_cons (pv 5) pa_nil)) (by rfl))))) (pss_one (ps_if (pt_cmpR op_eq (pe_ix ix_tup (pv 5) pe_int (fun _ _ => rfl)) pe_str (nomark _)) (pss_cons (ps_set (i := 3) nd rfl (Or.inl rfl) (pe_ix ix_tup (pv 5) pe_int (fun _ _ => rfl)))
            (pss_one (ps_set (i := 4) nd rfl (Or.inl rfl) (pe_ix ix_tup (pv 5) pe_int (fun _ _ => rfl))))) (pss_one (ps_if (pt_cmpR op_eq (pe_ix ix_tup (pv 5) pe_int (fun _ _ => rfl)) pe_str (nomark _)) (pss_cons (ps_set (i := 3) nd rfl (Or.inl rfl) pe_non)
              (pss_one (ps_set (i := 4) nd rfl (Or.inl rfl) pe_non))) (pss_one (ps_if (pt_cmpR op_notN (pv 4) pe_non (by rfl)) (pss_one (ps_aug (i := 4) nd rfl (Or.inl rfl) (pe_call CH.ok hr (by rfl) CH.g CH.kp CH.b .nil pass0 (pa_cons (pv 5) (pa_cons (pv 2) pa_nil))) ip_add)) pss_nil)))))) pss_nil)))
      (pss_one (ps_ret (pe_tup (pa_cons (pv 3) (pa_cons (pv 4) pa_nil))))))), ?_⟩
    refine ⟨_, rfl, l, rfl, ⟨_, SqL.of hl⟩, ?_⟩
    refine for_list (K := K) (a := l) (xs := as.map V.ref) (fun i σ H' => ∃ y5, σ = [some (.ref l), some (.str g), some (.str t), some (bkN (lastC (es.take i) g t)), some (bkB (lastC (es.take i) g t)), y5] ∧ Same H H')
      ⟨_, rfl, fun _ _ z => z⟩ (fun i σ H' _ z => by obtain ⟨_, _, z⟩ := z; exact SqL.of (z _ _ hl)) ?_ ?_
    · rintro i x σ H1 hx ⟨y5, rfl, s1⟩
      rw [List.getElem?_map] at hx
      obtain ⟨a, ha, rfl⟩ := Option.map_eq_some_iff.mp hx
      obtain ⟨e, hes, hae⟩ := (en.on (TK.of s1)).get ha
      have sn : lastC (es.take (i + 1)) g t = bkStep g t (lastC (es.take i) g t) e := by rw [take_snoc hes, lastC_snoc]
      have no : ¬ (e.goodV = .str g ∧ t ∈ e.places) → lastC (es.take (i + 1)) g t = lastC (es.take i) g t := fun z => by rw [sn]; exact if_neg z
      refine ⟨_, rfl, a, e, rfl, hae, _, rfl, scal_good e g, _, rfl, ?_⟩
      by_cases zg : e.goodV = .str g
      · rw [decide_eq_true zg]
        refine iteT ⟨_, rfl, _, rfl, a, e, rfl, hae, fun tp H2 s2 h2 => ?_⟩
        refine ⟨tp, _, rfl, .inr (SqT.of h2), rfl, all_flat _, decide (t ∈ e.places), congrArg V.bl inV_iff, ?_⟩
        by_cases zt : t ∈ e.places
        · rw [decide_eq_true zt]
          have ye : lastC (es.take (i + 1)) g t = bkIn t (lastC (es.take i) g t) e := by rw [sn]; exact if_pos ⟨zg, zt⟩
          have hae2 := s2 _ _ hae
          generalize lastC (es.take i) g t = s at ye
          generalize lastC (es.take (i + 1)) g t = s' at ye ⊢
          refine iteT ⟨_, rfl, a, _, 0, _, rfl, rfl, SqT.of hae2, at0 e, rfl, _, rfl, ite2 (fun ew => ?_) (fun nc => ?_)⟩
          · obtain ⟨nm, mm, gg, pl, k, hd, rfl⟩ := count_ent (V.str.inj (of_decide_eq_true ew))
            refine ⟨_, rfl, a, _, 1, _, rfl, rfl, SqT.of hae2, atI_nat (j := 1) rfl, _, rfl, a, _, 5, _, rfl, rfl, SqT.of hae2, atI_nat (j := 5) rfl, ⟨some (.ref a), ?_, s1.trans s2⟩⟩
            rw [ye]
            rfl
          · refine ⟨_, rfl, a, _, 0, _, rfl, rfl, SqT.of hae2, at0 e, rfl, _, rfl, ite2 (fun ew => ?_) (fun ns => ?_)⟩
            · obtain ⟨nm, mm, gg, o, tt, rfl⟩ := some_ent (V.str.inj (of_decide_eq_true ew))
              refine ⟨some (.ref a), ?_, s1.trans s2⟩
              rw [ye]
              rfl
            · have c1 : e.word ≠ "count" := fun z => nc (decide_eq_true (congrArg V.str z))
              have c2 : e.word ≠ "some" := fun z => ns (decide_eq_true (congrArg V.str z))
              rw [bkIn_else c1 c2] at ye
              subst ye
              refine ⟨_, rfl, rfl, _, rfl, ?_⟩
              cases s with
              | none => exact iteF ⟨_, rfl, s1.trans s2⟩
              | some x => exact iteT ⟨_, rfl, _, rfl, _, rfl, a, e, t, rfl, hae2, x.2, e.chg t, rfl, rfl, ⟨_, rfl, s1.trans s2⟩⟩
        · rw [decide_eq_false zt]
          refine iteF ⟨some (.ref a), ?_, s1.trans s2⟩
          rw [no fun z => zt z.2]
          rfl
      · rw [decide_eq_false zg]
        refine iteF (iteF ⟨some (.ref a), ?_, s1⟩)
        rw [no fun z => zg z.1]
        rfl
    · rintro σ H1 ⟨y5, rfl, s1⟩
      rw [List.length_map, en.len, List.take_length]
      refine ⟨_, rfl, _, rfl, (by show 2 ≤ sizeLine; decide), fun tp ntp => q tp _ (s1.trans (same_new ntp)) upd_same⟩
def spBookB (Ts : List Addr) : Sp := fun vs H Q _ => ∃ (h : Addr) (P G : List Str) (es : List Ent) (m k : Nat) (g x : Str), vs = [.ref h, .str g, .str x, .int k] ∧ HouseAt H h P G es ∧ Good P G es m ∧ m ≤ 30 ∧ k ≤ m ∧ x ∈ P ∧ TabsG Ts H ∧
  ∀ H', TB1 Ts H H' → Q (bkB (lastC ((along es).take k) g (tau (es.take k) x))) H'
abbrev sBookBN : List Str := ["house", "good", "place", "at", "name", "book"]
theorem sc_sBookB : FnScope sBookBN ["house", "good", "place", "at"] (defScope sBookB) := ⟨rfl, rfl, rfl, by decide +kernel, rfl, by decide +kernel, by decide +kernel⟩
theorem ok_bookB {f fL fA fT : Addr} {fd dL dA dT : FuncData} {Ts : List Addr} (F : Fun K "book_behind" "book_behind" sBookB f fd) (LC : DefT P w K mg base "last_counted" 2 fL dL ["told", "good", "track"] spLastC)
    (AL : DefT P w K mg base "along_tracks" 3 fA dA ["house"] (spAlong Ts)) (TA : DefT P w K mg base "track_at" 4 fT dT ["house", "place", "at"] spTrackAt) : FnOk P w K mg base CX0 5 f fd ["house", "good", "place", "at"] (spBookB Ts) := by
  refine F.ok sc_sBookB (fun vs H Q E h => ?_) (fun cdv A outer s H vs Q E hr h => ?_)
  · obtain ⟨h, Ps, G, es, m, k, g, x, rfl, _⟩ := h
    rfl
  · obtain ⟨h, Ps, G, es, m, k, g, x, rfl, ho, gd, m30, km, hx, tg, q⟩ := h
    have nd := sc_sBookB.nd
    have hr2 : Room 2 _ := hr.mono (by decide)
    have hr3 : Room 3 _ := hr.mono (by decide)
    refine ⟨_, pss_cons (ps_asg (pe_call LC.ok hr2 (by rfl) LC.g LC.kp LC.b .nil pass0 (pa_cons (pe_slice sl_list (pe_call AL.ok hr3 (by rfl) AL.g AL.kp AL.b .nil pass0 (pa_cons (pv 0) pa_nil)) po_none (po_some (pv 3))) (pa_cons (pv 1) (pa_cons (pe_call TA.ok hr (by rfl) TA.g TA.kp TA.b .nil pass0 (pa_cons (pv 0) (pa_cons (pv 2) (pa_cons (pv 3) pa_nil)))) pa_nil)))) (pg_tup (by rfl) (pgs_cons (pg_name (i := 4) nd rfl (Or.inl rfl)) (pgs_cons (pg_name (i := 5) nd rfl (Or.inl rfl)) pgs_nil))))
      (pss_one (ps_ret (pv 5))), ?_⟩
    refine ⟨_, rfl, h, Ps, G, es, m, rfl, ho, gd, m30, tg, fun l as H1 t1 nl hl en => ?_⟩
    refine ⟨_, rfl, (k : Int), rfl, l, _, rfl, SqL.of hl, fun C nC => ?_⟩
    have s2 := @same_new _ _ (.lst (cutV (as.map V.ref) none (some (k : Int)))) nC
    have hC : (upd H1 C (.lst (cutV (as.map V.ref) none (some (k : Int))))) C = some (.lst ((as.take k).map V.ref)) := by rw [upd_same, cut_head, List.map_take]
    generalize upd H1 C (.lst (cutV (as.map V.ref) none (some (k : Int)))) = H2 at s2 hC
    have t2 := t1.tr (.same t1.1 s2)
    refine ⟨_, rfl, _, rfl, _, rfl, _, rfl, h, Ps, G, es, m, k, x, rfl, ho.on t2.tk, gd, km, m30, hx, fun H3 s3 => ?_⟩
    have t3 := t2.tr (.same t2.1 s3)
    refine ⟨C, as.take k, (along es).take k, g, _, rfl, s3 _ _ hC, ((en.take k).on (TK.of s2)).on (TK.of s3), fun a H4 s4 h4 => ?_⟩
    exact ⟨a, _, rfl, SqT.of h4, rfl, _, _, rfl, _, _, rfl, rfl, ⟨_, rfl, q H4 (t3.tr (.same t3.1 s4))⟩⟩
end
/-! ### sorted(..) of a list of data -/
theorem each_unmap {R : Value → PyData → Prop} {f : V × PyData → PyData} : ∀ {es : List (V × PyData)} {us : List Value}, PySem.W.EachIs R us (es.map f) → PySem.W.EachIs (fun v e => R v (f e)) us es
  | [], _, .nil => .nil
  | _ :: _, _, .cons a t => .cons a (each_unmap t)
theorem cr_sortD {X : Cx} (hu : X.A.units + 64 < cLine) : CallR X (.builtin "sorted") (fun vs H Q => ∃ (l : Addr) (es : List (V × PyData)), vs = [.ref l] ∧ SqL X.K H l (es.map (·.1)) ∧ DpAll X.K H (es.map (·.1)) (es.map (·.2)) ∧ PySem.W.AllAlike (es.map (·.2)) ∧ PySem.W.Sortable (es.map (·.2)) ∧
    (∀ e ∈ es, e.2.depth ≤ 60) ∧ ∀ p, H p = none → Q (.ref p) (upd H p (.lst ((keyed es).map (·.1))))) := by
  rintro pins s σ H vs us Q I r ⟨l, es, rfl, hs, dp, al, so, de, q⟩
  obtain rfl := Vals.ref1 r
  obtain ⟨its, rv, hl, hz⟩ := I.list hs
  have hlen : its.length = es.length := by rw [← rv.length, List.length_map]
  have hL : es.length ≤ sizeLine := by rw [← hlen, ← rv.length]; exact hz
  refine PySem.W.sorted_data (R := fun v (e : V × PyData) => RelV e.1 v) (enc := fun e : V × PyData => e.2) hl.isList (each_pairs rv) (each_unmap (each_dp I dp rv)) al so hL (fun b hb => ?_) fun out lo eo => ?_
  · have := de b hb
    omega
  · obtain ⟨c, hc⟩ := sortedAll_at s.heap its out.toArray
    have l2 : ((keyed es).map (·.1)).length ≤ sizeLine := by
      rw [List.length_map, List.length_mergeSort]
      exact hL
    exact ⟨.ref (s.heap.objs.size + 1), upd H (s.heap.objs.size + 1) (.lst ((keyed es).map (·.1))), I.laid (t' := s.toks) (fun b o => sortedAll_old) (Nat.le_succ _) ⟨l2, out, c, pairs_each eo, hc⟩, rfl, q _ (I.hok.fresh (Nat.le_succ _))⟩
/-! their text isn't long -/
theorem toString_neg (i : Int) (h : i < 0) : (toString i).length ≤ (toString (-i)).length + 1 := by
  obtain ⟨n, rfl⟩ : ∃ n : Nat, i = -((n + 1 : Nat) : Int) := ⟨(-i).toNat - 1, by omega⟩
  rw [Int.neg_neg]
  show ("-" ++ toString (n + 1)).length ≤ (toString (n + 1)).length + 1
  rw [String.length_append]
  have : ("-" : String).length = 1 := rfl
  omega
theorem short_big {i : Int} (h0 : -100000000000 < i) (h1 : i < 100000000000) : Short (.int i) 8 0 := by
  have e : (PyData.shown (.int i)).length ≤ 13 := by
    by_cases z : 0 ≤ i
    · exact Nat.le_trans (toString_length_le z (k := 11) (by decide) (by omega)) (by decide)
    · show (Str.ofString (toString i)).length ≤ 13
      have h := toString_length_le (v := -i) (by omega) (k := 11) (by decide) (by omega)
      rw [PySem.ofString_length] at h ⊢
      have := toString_neg i (by omega)
      omega
  refine ⟨?_, rfl, decide_eq_true e, Nat.zero_le _, Nat.zero_le _⟩
  show decide (i.natAbs.log2 < 1920) = true
  refine decide_eq_true ?_
  by_cases z : i.natAbs = 0
  · rw [z]
    decide
  · exact Nat.lt_trans ((Nat.log2_lt z).mpr (show i.natAbs < 2 ^ 40 by omega)) (by decide)
theorem short_lst {n k m : Nat} {ds : List PyData} (h : ∀ d ∈ ds, Short d n k) (l : ds.length * (n + 1) ≤ m) : Short (.list ds) m (k + 1) := by
  obtain ⟨a1, a2, a3, a4, a5⟩ := short_all h
  refine ⟨?_, ?_, ?_, ?_, ?_⟩
  · rw [PyData.showable]; exact a1
  · rw [PyData.hasDict]; exact a2
  · rw [PyData.leavesShort]; exact a3
  · rw [PyData.bulk]; omega
  · rw [PyData.depth]; omega
theorem Short.fits2 {d : PyData} {n k : Nat} (h : Short d n k) (hn : n ≤ 400000) : d.shown.length ≤ sizeLine := by
  have q := PyData.shown_le_bulk 13 (by decide) d h.ls
  have := h.bk
  rw [sizeLine_eq]
  omega
/-! ### data sorted -/
def sortD (ds : List PyData) : List PyData := ds.mergeSort (PySem.W.dataLe false id)
theorem keyed_snd (es : List (V × PyData)) : (keyed es).map (·.2) = sortD (es.map (·.2)) := List.map_mergeSort fun _ _ _ _ => rfl
theorem dle_iff (a b : PyData) : PySem.W.dataLe false id a b = !PySem.W.dataLt b a := rfl
theorem dlt_asym {a b : PyData} (h : PySem.W.dataLt a b = true) : PySem.W.dataLt b a = false := by
  cases e : PySem.W.dataLt b a with
  | false => rfl
  | true =>
    have := PyProof.Rows.lex_trans (O := PyProof.Rows.itemOrd) _ _ _ h e
    rw [PyProof.Rows.lex_irrefl] at this
    cases this
theorem dle_tr (a b c : PyData) (h1 : PySem.W.dataLe false id a b = true) (h2 : PySem.W.dataLe false id b c = true) : PySem.W.dataLe false id a c = true := by
  rw [dle_iff] at *
  have g1 : PySem.W.dataLt b a = false := by simpa using h1
  have g2 : PySem.W.dataLt c b = false := by simpa using h2
  cases e : PySem.W.dataLt c a with
  | false => rfl
  | true =>
    rcases PyProof.Rows.lex_negTrans (O := PyProof.Rows.itemOrd) _ (PySem.W.keyToks b) _ e with z | z
    · exact absurd (g2.symm.trans z) (by decide)
    · exact absurd (g1.symm.trans z) (by decide)
theorem dle_tot (a b : PyData) : (PySem.W.dataLe false id a b || PySem.W.dataLe false id b a) = true := by
  rw [dle_iff, dle_iff]
  cases e : PySem.W.dataLt b a with
  | false => rfl
  | true => rw [dlt_asym e]; rfl
theorem sortD_mem {ds : List PyData} {d : PyData} : d ∈ sortD ds ↔ d ∈ ds := (List.mergeSort_perm ds _).mem_iff
theorem sortD_len (ds : List PyData) : (sortD ds).length = ds.length := (List.mergeSort_perm ds _).length_eq
theorem sortD_perm {a b : List PyData} (p : a.Perm b) (inj : ∀ x ∈ a, ∀ y ∈ a, PySem.W.keyToks x = PySem.W.keyToks y → x = y) : sortD a = sortD b := by
  have pa := List.mergeSort_perm a (PySem.W.dataLe false id)
  have pb := List.mergeSort_perm b (PySem.W.dataLe false id)
  refine List.Perm.eq_of_pairwise (le := fun x y => PySem.W.dataLe false id x y = true) (fun x y hx hy h1 h2 => ?_) (List.pairwise_mergeSort dle_tr dle_tot a) (List.pairwise_mergeSort dle_tr dle_tot b) (pa.trans (p.trans pb.symm))
  rw [dle_iff] at h1 h2
  have g1 : PySem.W.dataLt y x = false := by simpa using h1
  have g2 : PySem.W.dataLt x y = false := by simpa using h2
  exact inj x (pa.mem_iff.mp hx) y (p.mem_iff.mpr (pb.mem_iff.mp hy)) (PyProof.Rows.lex_total (O := PyProof.Rows.itemOrd) _ _ g2 g1)
theorem str_of_cps {x y : Str} (h : x.cps.toList = y.cps.toList) : x = y := by
  cases x with
  | mk a =>
    cases y with
    | mk b =>
      have : a = b := Array.toList_inj.mp h
      rw [this]
theorem dpall_of {K : PySem.W.Frag} {H : Hp} : ∀ {es : List (V × PyData)}, (∀ e ∈ es, Dp K H e.1 e.2) → DpAll K H (es.map (·.1)) (es.map (·.2))
  | [], _ => .nil
  | e :: r, h => .cons (h e List.mem_cons_self) (dpall_of fun x hx => h x (List.mem_cons_of_mem _ hx))
/-! rows of four -/
structure R4 where
  g : Str
  a : Str
  n : Str
  d : Int
def R4.vals (x : R4) : List V := [.str x.g, .str x.a, .str x.n, .int x.d]
def R4.D (x : R4) : PyData := .tuple [.str x.g, .str x.a, .str x.n, .int x.d]
def R4sAt (H : Hp) : List Addr → List R4 → Prop := Paired fun a x => H a = some (.tup x.vals)
theorem R4sAt.on {H H' : Hp} (k : TK H H') {as : List Addr} {xs : List R4} (h : R4sAt H as xs) : R4sAt H' as xs := Paired.mapP h fun a x e => k _ _ e
theorem R4.dp {K : PySem.W.Frag} {H : Hp} {a : Addr} {x : R4} (h : H a = some (.tup x.vals)) : Dp K H (.ref a) x.D := .tup (SqT.of h) (.cons (.str _) (.cons (.str _) (.cons (.str _) (.cons (.int _) .nil))))
theorem R4.alike (x y : R4) : PySem.W.alike x.D y.D = true := rfl
theorem R4.inj {x y : R4} (h : PySem.W.keyToks x.D = PySem.W.keyToks y.D) : x.D = y.D := by
  have h' : ([.inl 1, .inr x.g.cps.toList, .inl 1, .inr x.a.cps.toList, .inl 1, .inr x.n.cps.toList, .inl 1, .inl x.d, .inl 0] : List (Int ⊕ List Nat)) = [.inl 1, .inr y.g.cps.toList, .inl 1, .inr y.a.cps.toList, .inl 1, .inr y.n.cps.toList, .inl 1, .inl y.d, .inl 0] := by
    simpa [R4.D, PySem.W.keyToks, PySem.W.keyToksAll] using h
  simp only [List.cons.injEq, Sum.inr.injEq, Sum.inl.injEq, true_and, and_true] at h'
  obtain ⟨h1, h2, h3, h4⟩ := h'
  unfold R4.D
  rw [str_of_cps h1, str_of_cps h2, str_of_cps h3, h4]
theorem sort_r4 {xs ys : List R4} (p : xs.Perm ys) : sortD (xs.map R4.D) = sortD (ys.map R4.D) := by
  refine sortD_perm (p.map _) fun x hx y hy h => ?_
  obtain ⟨u, _, rfl⟩ := List.mem_map.mp hx
  obtain ⟨v, _, rfl⟩ := List.mem_map.mp hy
  exact R4.inj h
theorem cr_sortR4 {X : Cx} (hu : X.A.units + 64 < cLine) : CallR X (.builtin "sorted") (fun vs H Q => ∃ (l : Addr) (as : List Addr) (xs : List R4), vs = [.ref l] ∧ H l = some (.lst (as.map V.ref)) ∧ R4sAt H as xs ∧
    ∀ (p : Addr) (ws : List V) (H' : Hp), H p = none → Same H H' → H' p = some (.lst ws) → DpAll X.K H' ws (sortD (xs.map R4.D)) → Q (.ref p) H') := by
  rintro pins s σ H vs us Q I r ⟨l, as, xs, rfl, hl, pr, q⟩
  have ln : as.length = xs.length := Paired.length pr
  let es : List (V × PyData) := (as.zip xs).map fun p => (V.ref p.1, p.2.D)
  have e1 : es.map (·.1) = as.map V.ref := by
    show ((as.zip xs).map _).map _ = _
    rw [List.map_map]
    have : ((·.1) ∘ fun p : Addr × R4 => (V.ref p.1, p.2.D)) = V.ref ∘ Prod.fst := rfl
    rw [this, ← List.map_map, List.map_fst_zip (by omega)]
  have e2 : es.map (·.2) = xs.map R4.D := by
    show ((as.zip xs).map _).map _ = _
    rw [List.map_map]
    have : ((·.2) ∘ fun p : Addr × R4 => (V.ref p.1, p.2.D)) = R4.D ∘ Prod.snd := rfl
    rw [this, ← List.map_map, List.map_snd_zip (by omega)]
  have me : ∀ e ∈ es, ∃ (a : Addr) (x : R4), e = (V.ref a, x.D) ∧ H a = some (.tup x.vals) := fun e he => by
    obtain ⟨⟨a, x⟩, hp, rfl⟩ := List.mem_map.mp he
    obtain ⟨i, hi⟩ := List.mem_iff_getElem?.mp hp
    obtain ⟨h1, h2⟩ := List.getElem?_zip_eq_some.mp hi
    obtain ⟨x', h3, h4⟩ := paired_get pr h1
    rw [h2] at h3
    rw [← Option.some.inj h3] at h4
    exact ⟨a, x, rfl, h4⟩
  have dp0 : ∀ {H' : Hp}, Same H H' → ∀ e ∈ es, Dp X.K H' e.1 e.2 := fun sm e he => by
    obtain ⟨a, x, rfl, h⟩ := me e he
    exact R4.dp (sm _ _ h)
  refine cr_sortD hu pins s σ H _ us Q I r ⟨l, es, rfl, by rw [e1]; exact SqL.of hl, dpall_of (dp0 fun _ _ z => z), ?_, .inl ?_, ?_, fun p np => ?_⟩
  · rw [e2]
    exact PySem.W.AllAlike.of R4.alike
  · rw [e2]
    intro d hd
    obtain ⟨x, _, rfl⟩ := List.mem_map.mp hd
    exact ⟨_, _, rfl⟩
  · intro e he
    obtain ⟨a, x, rfl, _⟩ := me e he
    show (R4.D x).depth ≤ 60
    simp [R4.D, PyData.depth, PyData.depthAll]
  · refine q p _ _ np (same_new np) upd_same ?_
    have := dpall_of (K := X.K) (H := upd H p (.lst ((keyed es).map (·.1)))) (es := keyed es) fun e he => dp0 (same_new np) e ((List.mergeSort_perm es _).mem_iff.mp he)
    rw [keyed_snd, e2] at this
    exact this
/-! ### data that can be compared up to the first place where they differ -/
namespace Cs
open PySem PySem.SeqAt PySem.W PyProof.Rows
mutual
def cmpOk : PyData → PyData → Bool
  | .none, .none => true
  | .bool _, .bool _ => true
  | .int _, .int _ => true
  | .str _, .str _ => true
  | .tuple xs, .tuple ys => cmpAll xs ys
  | _, _ => false
def cmpAll : List PyData → List PyData → Bool
  | x :: xs, y :: ys => cmpOk x y && (!PyData.eqv x y || cmpAll xs ys)
  | [], _ => true
  | _ :: _, [] => true
end
theorem cmp_cons {x y : PyData} {xs ys : List PyData} (h : cmpAll (x :: xs) (y :: ys) = true) : cmpOk x y = true ∧ (PyData.eqv x y = true → cmpAll xs ys = true) := by
  rw [cmpAll, Bool.and_eq_true] at h
  refine ⟨h.1, fun e => ?_⟩
  have := h.2
  rw [e] at this
  simpa using this
abbrev lx := PyProof.Rows.lexLt itemOrd
mutual
theorem toks : ∀ (x y : PyData), cmpOk x y = true → (PyData.eqv x y = true → keyToks x = keyToks y) ∧ (PyData.eqv x y = false → ∀ l m, lx (keyToks x ++ l) (keyToks y ++ m) = lx (keyToks x) (keyToks y))
  | .tuple xs, y, h => by
    cases y with
    | tuple ys =>
      have t := toksA xs ys (by simpa [cmpOk] using h)
      simp only [keyToks, PyData.eqv]
      exact t
    | _ => exact absurd h (by simp [cmpOk])
  | .none, y, h => toks_eqv _ y (by cases y <;> first | rfl | exact absurd h (by simp [cmpOk]))
  | .bool a, y, h => toks_eqv _ y (by cases y <;> first | rfl | exact absurd h (by simp [cmpOk]))
  | .int a, y, h => toks_eqv _ y (by cases y <;> first | rfl | exact absurd h (by simp [cmpOk]))
  | .str a, y, h => toks_eqv _ y (by cases y <;> first | rfl | exact absurd h (by simp [cmpOk]))
  | .list _, y, h => absurd h (by cases y <;> simp [cmpOk])
  | .dict _, y, h => absurd h (by cases y <;> simp [cmpOk])
theorem toksA : ∀ (xs ys : List PyData), cmpAll xs ys = true → (PyData.eqvAll xs ys = true → keyToksAll xs = keyToksAll ys) ∧ (PyData.eqvAll xs ys = false → ∀ l m, lx (keyToksAll xs ++ l) (keyToksAll ys ++ m) = lx (keyToksAll xs) (keyToksAll ys))
  | [], ys, _ => toksAll_eqv [] ys (by cases ys <;> rfl)
  | x :: xs, [], _ => toksAll_eqv (x :: xs) [] rfl
  | x :: xs, y :: ys, h => by
    obtain ⟨c1, c2⟩ := cmp_cons h
    obtain ⟨a1, a2⟩ := toks x y c1
    rw [eqv_all_cons, toks_all_cons, toks_all_cons]
    by_cases hx : PyData.eqv x y = true
    · obtain ⟨b1, b2⟩ := toksA xs ys (c2 hx)
      rw [hx, a1 hx, Bool.true_and]
      refine ⟨fun e => by rw [b1 e], fun e l m => ?_⟩
      have k1 : ∀ (u v : List (Int ⊕ List Nat)), lx (Sum.inl 1 :: (keyToks y ++ u)) (Sum.inl 1 :: (keyToks y ++ v)) = lx u v := fun u v => (lex_self (O := itemOrd) _ _ _).trans (lex_pre _ _ _)
      rw [List.cons_append, List.cons_append, List.append_assoc, List.append_assoc, k1, k1]
      exact b2 e l m
    · have hx' : PyData.eqv x y = false := Bool.eq_false_iff.mpr hx
      rw [hx', Bool.false_and]
      refine ⟨fun e => (nomatch e), fun _ l m => ?_⟩
      have k1 : ∀ (u v : List (Int ⊕ List Nat)), lx (Sum.inl 1 :: (keyToks x ++ u)) (Sum.inl 1 :: (keyToks y ++ v)) = lx (keyToks x) (keyToks y) := fun u v => (lex_self (O := itemOrd) _ _ _).trans (a2 hx' _ _)
      rw [List.cons_append, List.cons_append, List.append_assoc, List.append_assoc, k1, k1]
end
theorem lt_yes {x y : PyData} {xs ys : List PyData} (h : cmpOk x y = true) (e : PyData.eqv x y = true) : lx (keyToksAll (x :: xs)) (keyToksAll (y :: ys)) = lx (keyToksAll xs) (keyToksAll ys) := by
  rw [toks_all_cons, toks_all_cons, (toks x y h).1 e]
  exact (lex_self (O := itemOrd) _ _ _).trans (lex_pre _ _ _)
theorem lt_no {x y : PyData} {xs ys : List PyData} (h : cmpOk x y = true) (e : PyData.eqv x y = false) : lx (keyToksAll (x :: xs)) (keyToksAll (y :: ys)) = dataLt x y := by
  rw [toks_all_cons, toks_all_cons]
  exact (lex_self (O := itemOrd) _ _ _).trans ((toks x y h).2 e _ _)
theorem first_toks : ∀ (xs ys : List PyData), cmpAll xs ys = true →
    firstLt (pairEq xs ys) (fun j => dataLt (xs.getD j .none) (ys.getD j .none)) (decide (xs.length < ys.length)) (List.range (min xs.length ys.length)) = lx (keyToksAll xs) (keyToksAll ys)
  | [], ys, _ => firstLt_toks [] ys (by cases ys <;> rfl)
  | x :: xs, [], _ => firstLt_toks (x :: xs) [] rfl
  | x :: xs, y :: ys, h => by
    obtain ⟨h1, h2⟩ := cmp_cons h
    have em : min (x :: xs).length (y :: ys).length = min xs.length ys.length + 1 := Nat.add_min_add_right _ _ 1
    have ed : decide ((x :: xs).length < (y :: ys).length) = decide (xs.length < ys.length) := decide_eq_decide.mpr (by rw [List.length_cons, List.length_cons]; omega)
    rw [em, ed, List.range_succ_eq_map]
    by_cases hx : PyData.eqv x y = true
    · have ih := first_toks xs ys (h2 hx)
      rw [firstLt_yes (show pairEq (x :: xs) (y :: ys) 0 = true from hx), firstLt_map, lt_yes h1 hx, ← ih]
      rfl
    · have hx' : PyData.eqv x y = false := Bool.eq_false_iff.mpr hx
      rw [firstLt_no (show pairEq (x :: xs) (y :: ys) 0 = false from hx'), lt_no h1 hx']
      rfl
theorem not_none {x y : PyData} (h : cmpOk x y = true) (e : PyData.eqv x y = false) : x ≠ .none := by
  rintro rfl
  cases y with
  | none => exact nomatch e
  | _ => exact absurd h (by simp [cmpOk])
/-- tuple.__lt__, where items behind the first place that differs aren't asked -/
theorem tup_lt (l b : Addr) (us vs : Array Value) (n m : Nat) (du dv : Option Addr) (su sv : Array (Option Value)) (e r : Nat → Bool) :
    Meets (Builtin.«tuple.__lt__» ⟨[.ref l, .ref b], []⟩) (fun A R s => s.heap.get? l = some { cls := .type "tuple", dict := du, data := .seq us n, slots := su } ∧ s.heap.get? b = some { cls := .type "tuple", dict := dv, data := .seq vs m, slots := sv } ∧
      (∀ j (h1 : j < us.size) (h2 : j < vs.size), EqAt A.in1 s us[j] vs[j] (e j)) ∧ (∀ j (h1 : j < us.size) (h2 : j < vs.size), (∀ i < j, e i = true) → e j = false → RcLt A.in1 s us[j] vs[j] (r j)) ∧
      R (.ok (.ret (.bool (firstLt e r (decide (us.size < vs.size)) (List.range (min us.size vs.size)))))) s) :=
  .of_wp fun prog w A R s h => by
    obtain ⟨hp, g, d, tk, os⟩ := s
    obtain ⟨hl, hb, he, hr, h⟩ := h
    have ft := AutoSeq1.sub_tuple_tuple
    have lz : (us.toList.zip vs.toList).length = min us.size vs.size := by simp
    wp_walk using AutoSeq1.wpAny_loadPart' hl, AutoSeq1.wpAny_loadPart' hb, wpAny_forIn_list _ (fun rest c s' => c.1 = none ∧ s' = ⟨hp, g, d, tk, os⟩ ∧ ∃ i, (∀ k < i, e k = true) ∧ rest = (us.toList.zip vs.toList).drop i ∧
      R (.ok (.ret (.bool (firstLt e r (decide (us.size < vs.size)) ((List.range (min us.size vs.size)).drop i))))) ⟨hp, g, d, tk, os⟩) _
    case turn =>
      rintro ⟨y, x⟩ rest c s' ⟨hc, rfl, i, al, hz, hR⟩
      have lt : i < (us.toList.zip vs.toList).length := Nat.lt_of_not_le fun q => by rw [List.drop_of_length_le q] at hz; cases hz
      have lm : i < min us.size vs.size := by omega
      have i1 : i < us.size := by omega
      have i2 : i < vs.size := by omega
      rw [List.drop_eq_getElem_cons lt] at hz
      injection hz with pq hrest
      obtain rfl : y = us[i] := by simpa using congrArg Prod.fst pq
      obtain rfl : x = vs[i] := by simpa using congrArg Prod.snd pq
      rw [show (List.range (min us.size vs.size)).drop i = i :: (List.range (min us.size vs.size)).drop (i + 1) by simp [List.drop_eq_getElem_cons, lm]] at hR
      refine wpAny_bind (he i i1 i2 prog w _ _ ?_)
      by_cases hy : e i = true
      · rw [firstLt_yes hy] at hR
        rw [hy]
        wp_walk
        exact ⟨rfl, rfl, i + 1, fun k hk => if z : k = i then z ▸ hy else al k (by omega), hrest, hR⟩
      · have hy' : e i = false := Bool.eq_false_iff.mpr hy
        rw [firstLt_no hy'] at hR
        rw [hy']
        have step : ∀ (E' : Value → Shared → Prop) (Q' : Value → Shared → Prop), Q' (.bool (r i)) ⟨hp, g, d, tk, os⟩ → wpAny (model prog w) A.in1 (richCompare .Lt us[i] vs[i]) Q' E' ⟨hp, g, d, tk, os⟩ := fun E' Q' q' => hr i i1 i2 al hy' prog w E' Q' q'
        revert step
        generalize richCompare .Lt us[i] vs[i] = cmp
        intro step
        wp_walk
        refine step _ _ ?_
        wp_walk
        exact ⟨_, rfl, hR⟩
    case fin =>
      rintro ⟨c1, c2⟩ s' ⟨hc, rfl, i, al, hz, hR⟩
      simp only at hc
      subst hc
      have ge : min us.size vs.size ≤ i := Nat.le_of_not_lt fun q => by rw [List.drop_eq_getElem_cons (by omega)] at hz; cases hz
      rw [List.drop_of_length_le (by simpa using ge)] at hR
      wp_walk
      exact ⟨_, rfl, by simpa [Builtin.Tuple.tupleCompareSizes, firstLt] using hR⟩
    case h => exact ⟨rfl, rfl, 0, fun k hk => absurd hk (Nat.not_lt_zero _), rfl, by simpa using h⟩
theorem rc_tup {A : Around} {s : Shared} {l b : Addr} {us vs : Array Value} {e r : Nat → Bool} (hl : s.heap.IsTuple l us) (hb : s.heap.IsTuple b vs) (hu : A.units < cLine)
    (he : ∀ j (h1 : j < us.size) (h2 : j < vs.size), EqAt A.in1 s us[j] vs[j] (e j)) (hr : ∀ j (h1 : j < us.size) (h2 : j < vs.size), (∀ i < j, e i = true) → e j = false → RcLt A.in1 s us[j] vs[j] (r j)) :
    RcLt A s (.ref l) (.ref b) (firstLt e r (decide (us.size < vs.size)) (List.range (min us.size vs.size))) := fun prog w E Q h => by
  obtain ⟨⟨c1, d1, t1, s1⟩, ho, hc, n, hd⟩ := id hl
  obtain ⟨⟨c2, d2, t2, s2⟩, ho2, hc2, n2, hd2⟩ := id hb
  dsimp only at hc hd hc2 hd2
  subst hc hd hc2 hd2
  exact richCompare_meets_room (op := .Lt) ⟨_, ho, rfl⟩ ⟨_, ho2, rfl⟩ F.slot_tuple_lt F.entry_tuple_lt (F.args_tuple_lt_2 _ _) (tup_lt l b us vs n n2 d1 d2 s1 s2 e r) ⟨ho, ho2, he, hr, (fun x => nomatch x), h⟩ hu
mutual
theorem rc : ∀ (da db : PyData) (A : Around) (s : Shared) (a b : Value) (as bs : List Addr), Reads s.heap a da as → Reads s.heap b db bs → da.canLay0 = true → db.canLay0 = true → cmpOk da db = true → da ≠ .none → A.units + min da.depth db.depth < cLine → RcLt A s a b (dataLt da db)
  | .tuple xs, db, A, s, a, b, as, bs, ra, rb, la, lb, h, e, hu => by
    cases db with
    | tuple ys =>
      have hal : cmpAll xs ys = true := by simpa [cmpOk] using h
      cases ra with
      | @tuple l o us n _ as₁ h1 h2 h3 h4 =>
        cases rb with
        | @tuple l' o' vs n' _ bs₁ k1 k2 k3 k4 =>
          have n1 : us.size = xs.length := by simpa using ReadsAll.length _ _ _ h4
          have n2 : vs.size = ys.length := by simpa using ReadsAll.length _ _ _ k4
          have la' : PyData.canLayAll0 xs = true := by simpa [PyData.canLay0] using la
          have lb' : PyData.canLayAll0 ys = true := by simpa [PyData.canLay0] using lb
          rw [dataLt_tuple]
          show RcLt A s (.ref l) (.ref l') (lx (keyToksAll xs) (keyToksAll ys))
          rw [← first_toks xs ys hal, ← n1, ← n2]
          refine rc_tup ⟨_, h1, h2, _, h3⟩ ⟨_, k1, k2, _, k3⟩ (room_here hu) (fun j j1 j2 => ?_) fun j j1 j2 al hj => ?_
          · have := eqAt_readsAll xs ys A.in1 s us.toList vs.toList _ _ h4 k4 la' lb' (room_in hu) j (by simpa using j1) (by simpa using j2)
            simpa using this
          · have := rcA xs ys A.in1 s us.toList vs.toList _ _ h4 k4 la' lb' hal (room_in hu) j (by simpa using j1) (by simpa using j2) al hj
            simpa using this
    | _ => exact absurd h (by simp [cmpOk])
  | .none, _, _, _, _, _, _, _, _, _, _, _, _, hn, _ => absurd rfl hn
  | .bool x, db, A, s, a, b, as, bs, ra, rb, _, _, h, e, hu => rcLt_alike _ db A s a b as bs ra rb (by cases db <;> first | rfl | exact absurd h (by simp [cmpOk])) e hu
  | .int x, db, A, s, a, b, as, bs, ra, rb, _, _, h, e, hu => rcLt_alike _ db A s a b as bs ra rb (by cases db <;> first | rfl | exact absurd h (by simp [cmpOk])) e hu
  | .str x, db, A, s, a, b, as, bs, ra, rb, _, _, h, e, hu => rcLt_alike _ db A s a b as bs ra rb (by cases db <;> first | rfl | exact absurd h (by simp [cmpOk])) e hu
  | .list _, db, _, _, _, _, _, _, _, _, _, _, h, _, _ => absurd h (by cases db <;> simp [cmpOk])
  | .dict _, db, _, _, _, _, _, _, _, _, _, _, h, _, _ => absurd h (by cases db <;> simp [cmpOk])
theorem rcA : ∀ (xs ys : List PyData) (A : Around) (s : Shared) (us vs : List Value) (as bs : List Addr), ReadsAll s.heap us xs as → ReadsAll s.heap vs ys bs → PyData.canLayAll0 xs = true → PyData.canLayAll0 ys = true → cmpAll xs ys = true →
    A.units + min (PyData.depthAll xs) (PyData.depthAll ys) < cLine → ∀ j (h1 : j < us.length) (h2 : j < vs.length), (∀ i < j, pairEq xs ys i = true) → pairEq xs ys j = false → RcLt A s us[j] vs[j] (dataLt (xs.getD j .none) (ys.getD j .none))
  | [], _, _, _, _, _, _, _, ra, _, _, _, _, _, j, h1, _, _, _ => by cases ra; exact absurd h1 (Nat.not_lt_zero _)
  | _ :: _, [], _, _, _, _, _, _, _, rb, _, _, _, _, j, _, h2, _, _ => by cases rb; exact absurd h2 (Nat.not_lt_zero _)
  | x :: xs, y :: ys, A, s, _, _, _, _, ra, rb, la, lb, h, hu, j, h1, h2, al, hj => by
    have la' : x.canLay0 = true ∧ PyData.canLayAll0 xs = true := by simpa [PyData.canLayAll0] using la
    have lb' : y.canLay0 = true ∧ PyData.canLayAll0 ys = true := by simpa [PyData.canLayAll0] using lb
    cases ra with
    | cons r rs =>
      cases rb with
      | cons r' rs' =>
        cases j with
        | zero => exact rc x y A s _ _ _ _ r r' la'.1 lb'.1 (cmp_cons h).1 (not_none (cmp_cons h).1 hj) (room_head hu)
        | succ j => exact rcA xs ys A s _ _ _ _ rs rs' la'.2 lb'.2 ((cmp_cons h).2 (al 0 (Nat.succ_pos _))) (room_tail hu) j (Nat.lt_of_succ_lt_succ h1) (Nat.lt_of_succ_lt_succ h2) (fun i hi => al (i + 1) (Nat.succ_lt_succ hi)) hj
end
/-! as sorting compares -/
section
variable {prog : Program} {w : World} {A : Around} {E : Value → Shared → Prop} {s : Shared}
theorem alike_of {da db : PyData} (h : cmpOk da db = true) (hf : ∀ xs, da ≠ .tuple xs) : alike da db = true := by
  cases da with
  | tuple xs => exact absurd rfl (hf xs)
  | list _ => exact absurd h (by cases db <;> simp [cmpOk])
  | dict _ => exact absurd h (by cases db <;> simp [cmpOk])
  | _ => cases db <;> first | rfl | exact absurd h (by simp [cmpOk])
theorem one {f : Bool} {da db : PyData} {a b : Value} {as bs : List Addr} {Q : Bool → Shared → Prop} (hf : f = true → ∀ xs, da ≠ .tuple xs) (ra : Reads s.heap a da as) (rb : Reads s.heap b db bs) (la : da.canLay0 = true) (lb : db.canLay0 = true) (h : cmpOk da db = true) (hn : da ≠ .none)
    (hu : A.units + min da.depth db.depth < cLine) (hq : Q (dataLt da db) s) : wpAny (model prog w) A (oneLt' f a b) Q E s := by
  cases f with
  | true => exact oneLt_alike (fun _ => hf rfl) ra rb (alike_of h (hf rfl)) hn hu hq
  | false =>
    rw [oneLt'_eq, if_neg (by decide)]
    exact wpAny_bind (rc da db A s a b as bs ra rb la lb h hn hu prog w E _ (wpAny_truthy_bool hq))
theorem kat {b fin : Bool} {Q : Bool → Shared → Prop} : ∀ (xs ys : List PyData) (i : Nat) (us vs : List Value) (as bs : List Addr), ReadsAll s.heap us xs as → ReadsAll s.heap vs ys bs → PyData.canLayAll0 xs = true → PyData.canLayAll0 ys = true → cmpAll xs ys = true →
    A.units + min (PyData.depthAll xs) (PyData.depthAll ys) < cLine → (b = true → i = 0 → ∀ x r t, xs = x :: r → x ≠ .tuple t) → fin = decide (xs.length < ys.length) → Q (lx (keyToksAll xs) (keyToksAll ys)) s → KatLex prog w A b fin Q (us.zip vs) i s
  | [], ys, i, us, vs, as, bs, ra, rb, _, _, _, hu, hb, hf, hq => katLex_alike [] ys i us vs as bs ra rb (by cases ys <;> rfl) hu hb hf hq
  | x :: xs, [], i, us, vs, as, bs, ra, rb, _, _, _, hu, hb, hf, hq => katLex_alike (x :: xs) [] i us vs as bs ra rb rfl hu hb hf hq
  | x :: xs, y :: ys, i, _, _, _, _, ra, rb, la, lb, h, hu, hb, hf, hq => by
    have la' : x.canLay0 = true ∧ PyData.canLayAll0 xs = true := by simpa [PyData.canLayAll0] using la
    have lb' : y.canLay0 = true ∧ PyData.canLayAll0 ys = true := by simpa [PyData.canLayAll0] using lb
    obtain ⟨h1, h2⟩ := cmp_cons h
    have hf' : fin = decide (xs.length < ys.length) := by
      rw [hf, List.length_cons, List.length_cons]
      exact decide_eq_decide.mpr (by omega)
    cases ra with
    | cons r rs =>
      cases rb with
      | cons r' rs' =>
        rw [List.zip_cons_cons]
        refine kat_cons (eqAt_reads x y A s _ _ _ _ r r' la'.1 lb'.1 (room_head hu) prog w _ _ (kat_go (fun hx => ?_) fun hx => ?_))
        · rw [lt_yes h1 hx] at hq
          exact kat_yes (kat xs ys (i + 1) _ _ _ _ rs rs' la'.2 lb'.2 (h2 hx) (room_tail hu) (fun _ hi => absurd hi (Nat.succ_ne_zero i)) hf' hq)
        · rw [lt_no h1 hx] at hq
          refine kat_no (one (fun hbi t => ?_) r r' la'.1 lb'.1 h1 (not_none h1 hx) (room_head hu) hq)
          rw [Bool.and_eq_true] at hbi
          exact hb hbi.1 (by simpa using hbi.2) x xs t rfl
theorem dk_some {h : Heap} {ds : List PyData} (lay : ∀ d ∈ ds, d.canLay0 = true) {v : Value} {d : PyData} {as : List Addr} (hd : d ∈ ds) (r : Reads h v d as) : (dataKind h ds).keyOf v = some (keyToks d) := by
  cases e : (dataKind h ds).keyOf v with
  | none =>
    exfalso
    have q : ∃ d, d ∈ ds ∧ ∃ as, Reads h v d as := ⟨d, hd, as, r⟩
    have e' : (open Classical in if q : ∃ d, d ∈ ds ∧ ∃ as, Reads h v d as then some (keyToks q.choose) else none) = none := e
    rw [dif_pos q] at e'
    cases e'
  | some k =>
    obtain ⟨d', as', hd', r', rfl⟩ := dataKind_inv e
    rw [← readOf_eq (lay d hd) r, ← readOf_eq (lay d' hd') r']
    rfl
theorem sorts {vs : List Value} {ds : List PyData} {T : Value} (e : EachIs (fun v d => ∃ as, Reads s.heap v d as) vs ds) (lay : ∀ d ∈ ds, d.canLay0 = true) (cmp : ∀ d ∈ ds, ∀ d' ∈ ds, cmpOk d d' = true) (ht : ∀ d ∈ ds, ∃ x r, d = .tuple (x :: r) ∧ dataType x = T)
    (hu : ∀ d ∈ ds, A.units + d.depth < cLine) : SortsAt prog w A s (dataKind s.heap ds) vs := by
  refine ⟨fun v hv => ?_, tuples' (T != Value.type "tuple"), ?_, fun h2 E Q hq => ?_⟩
  · obtain ⟨d, hd, as, r⟩ := e.left v hv
    exact ⟨_, dk_some lay hd r⟩
  · intro E x y a b Q ha hb hq
    obtain ⟨d, as, hd, ra, rfl⟩ := dataKind_inv ha
    obtain ⟨d', as', hd', rb, rfl⟩ := dataKind_inv hb
    have cm := cmp d hd d' hd'
    have ld := lay d hd
    have ld' := lay d' hd'
    have rm : A.units + min d.depth d'.depth < cLine := Nat.lt_of_le_of_lt (Nat.add_le_add_left (Nat.min_le_left _ _) _) (hu d hd)
    obtain ⟨x1, r1, rfl, t1⟩ := ht d hd
    obtain ⟨x2, r2, rfl, t2⟩ := ht d' hd'
    have hq' : Q (dataLt (.tuple (x1 :: r1)) (.tuple (x2 :: r2))) s := hq
    rw [dataLt_tuple] at hq'
    cases ra with
    | @tuple l o xs n _ _ h1 h2 h3 h4 =>
      cases rb with
      | @tuple l' o' xs' n' _ _ k1 k2 k3 k4 =>
        have n1 : xs.size = (x1 :: r1).length := by simpa using SeqAt.ReadsAll.length _ _ _ h4
        have n2 : xs'.size = (x2 :: r2).length := by simpa using SeqAt.ReadsAll.length _ _ _ k4
        refine kat_lt h1 h3 k1 k3 (kat (x1 :: r1) (x2 :: r2) 0 _ _ _ _ h4 k4 (by simpa [PyData.canLay0] using ld) (by simpa [PyData.canLay0] using ld') (by simpa [cmpOk] using cm) (by have q := SeqAt.room_in rm; omega) (fun hb _ x r t ex => ?_) (by rw [n1, n2]) hq')
        obtain ⟨rfl, rfl⟩ := List.cons.inj ex
        rw [← t1] at hb
        exact dataType_tuple hb t
  · obtain ⟨fs, f1, f2, f3⟩ := each_katTups e fun d hd => let ⟨x, r, e, _⟩ := ht d hd; ⟨x, r, e⟩
    refine kat_kind (T := T) f1 (by omega) (fun f hf => ?_) (beq_self_eq_true _) hq
    obtain ⟨x, r, as, m1, m2⟩ := f3 f hf
    obtain ⟨x', r', ex, tx⟩ := ht _ m1
    obtain ⟨rfl, rfl⟩ := List.cons.inj (PyData.tuple.inj ex)
    rw [← tx]
    exact looks_reads m2
/-- sorted(..) of a list or a tuple, by the way its items are sorted -/
theorem sorted_seq {κ : Heap → PyProof.Rows.KeyKind} {x : Addr} {T : String} {o : Obj} {items : Array Value} {n : Nat} {Q : Value → Shared → Prop} (hT : T = "list" ∨ T = "tuple") (ho : s.heap.get? x = some o) (hc : o.cls = .type T) (hd : o.data = .seq items n) (hL : items.size ≤ sizeLine)
    (S : ∀ h', (∀ b ob, s.heap.get? b = some ob → h'.get? b = some ob) → SortsAt prog w A.in1.in1 { s with heap := h' } (κ h') items.toList)
    (hQ : ∀ (h1 h' h2 : Heap) (ep : Nat), (∀ b ob, s.heap.get? b = some ob → h2.get? b = some ob) → (∀ b ob, s.heap.get? b = some ob → h1.get? b = some ob) → (∀ b ob, h1.get? b = some ob → h'.get? b = some ob) → h'.get? h1.objs.size = some (seqObj "list" (sortVals (κ h2) false items.toList items.toList).toArray ep) → Q (.ref h1.objs.size) { s with heap := h' }) :
    wpAny (model prog w) A (call (.builtin "sorted") [.ref x]) Q E s := by
  refine Calls.call_function_entry kind_sorted plain_sorted entry_sorted (args_sorted1 _) ?_
  unfold Builtin.«sorted»
  refine wpAny_bind (m := checkCount "sorted" 1 1 _) (wpAny_pure (wpAny_bind (wpAny_collect_seq x hT ho hc hd (fun h1 k1 => ?_) hL)))
  have oL : (h1.push (seqObj "list" items.toList.toArray 0)).get? h1.objs.size = some (seqObj "list" items.toList.toArray 0) := Heap.get?_push_size _ rfl
  have lL : items.toList.length ≤ sizeLine := by rw [Array.length_toList]; exact hL
  have k2 : ∀ b ob, h1.get? b = some ob → (sortingHeap (h1.push (seqObj "list" items.toList.toArray 0)) h1.objs.size items.toList).get? b = some ob := fun b ob e =>
    sortingHeap_old (Nat.ne_of_lt (Heap.lt_size e)) (Heap.get?_push_of_some _ e)
  refine wpAny_bind (wpAny_newList (wpAny_bind (wpAny_holding (wpAny_call_entry slot_list_sort ⟨_, oL, rfl⟩ entry_list_sort (list_sort_vals oL (S _ fun b ob e => k2 b ob (k1 b ob e)) lL ⟨_, rfl, ?_⟩) (args_list_sort _)))))
  obtain ⟨ep, he⟩ := sortedHeap_at (out := (sortVals (κ (sortingHeap (h1.push (seqObj "list" items.toList.toArray 0)) h1.objs.size items.toList)) false items.toList items.toList).toArray) oL
  refine wpAny_pure ⟨_, rfl, hQ h1 _ _ ep (fun b ob e => k2 b ob (k1 b ob e)) k1 (fun b ob e => ?_) he⟩
  have lt := Heap.lt_size e
  rw [sortedHeap_old (Nat.ne_of_lt lt) (by rw [Heap.size_push]; exact Nat.lt_succ_of_lt lt)]
  exact Heap.get?_push_of_some _ e
end
end Cs
/-! ### sorted(..) of such data -/
theorem cr_sortC {X : Cx} (hu : X.A.units + 64 < cLine) : CallR X (.builtin "sorted") (fun vs H Q => ∃ (l : Addr) (es : List (V × PyData)) (T : Value), vs = [.ref l] ∧ (SqL X.K H l (es.map (·.1)) ∨ SqT X.K H l (es.map (·.1))) ∧ DpAll X.K H (es.map (·.1)) (es.map (·.2)) ∧
    (∀ e ∈ es, e.2.canLay0 = true ∧ e.2.depth ≤ 60 ∧ ∃ x r, e.2 = .tuple (x :: r) ∧ PySem.W.dataType x = T) ∧ (∀ e ∈ es, ∀ f ∈ es, Cs.cmpOk e.2 f.2 = true) ∧ ∀ p, H p = none → Q (.ref p) (upd H p (.lst ((keyed es).map (·.1))))) := by
  rintro pins s σ H vs us Q I r ⟨l, es, T, rfl, hs, dp, ok, cm, q⟩
  obtain rfl := Vals.ref1 r
  obtain ⟨its, rv, To, o, n, hT, ho, hc, hd, hz⟩ : ∃ (its : List Value), Vals (es.map (·.1)) its ∧ ∃ (To : String) (o : Obj) (n : Nat), (To = "list" ∨ To = "tuple") ∧ s.heap.get? l = some o ∧ o.cls = .type To ∧ o.data = .seq its.toArray n ∧ its.length ≤ sizeLine := by
    rcases hs with hs | hs
    · obtain ⟨its, rv, ⟨o, n, e1, e2, e3, e4⟩, hz⟩ := I.list hs
      exact ⟨its, rv, "list", o, n, .inl rfl, e1, e2, e4, by rw [← rv.length]; exact hz⟩
    · obtain ⟨its, rv, ⟨o, e1, e2, n, e3⟩, hz⟩ := I.tuple hs
      exact ⟨its, rv, "tuple", o, n, .inr rfl, e1, e2, e3, by rw [← rv.length]; exact hz⟩
  have hlen : its.length = es.length := by rw [← rv.length, List.length_map]
  have er := each_dp I dp rv
  have lay : ∀ d ∈ es.map (·.2), d.canLay0 = true := fun d hd => by
    obtain ⟨e, he, rfl⟩ := List.mem_map.mp hd
    exact (ok e he).1
  have key : ∀ h', (∀ b ob, s.heap.get? b = some ob → h'.get? b = some ob) → PySem.W.EachIs (fun v d => ∃ as, Reads h' v d as) its (es.map (·.2)) := fun h' k => er.mono fun _ _ ⟨as, r⟩ => ⟨as, PyProof.Rows.Reads.keeps k r⟩
  refine Cs.sorted_seq (κ := fun h' => PySem.W.dataKind h' (es.map (·.2))) hT ho hc hd (by simpa using hz) (fun h' k => ?_) fun h1 h' h2 ep k0 k1 k2 he => ?_
  · refine Cs.sorts (s := { s with heap := h' }) (T := T) (key h' k) lay (fun d hd d' hd' => ?_) (fun d hd => ?_) fun d hd => ?_
    · obtain ⟨e, he, rfl⟩ := List.mem_map.mp hd
      obtain ⟨f, hf, rfl⟩ := List.mem_map.mp hd'
      exact cm e he f hf
    · obtain ⟨e, he, rfl⟩ := List.mem_map.mp hd
      exact (ok e he).2.2
    · obtain ⟨e, he, rfl⟩ := List.mem_map.mp hd
      have := (ok e he).2.1
      show X.A.units + 2 + e.2.depth < cLine
      omega
  · have eo := PySem.W.sortVals_each (κ := PySem.W.dataKind h2 (es.map (·.2))) (R := fun v (e : V × PyData) => RelV e.1 v) (rev := false) (ks := its) (vs := its) (bs := es) (fun e => PySem.W.keyToks e.2) (each_pairs rv)
      (each_unmap (R := fun v d => (PySem.W.dataKind h2 (es.map (·.2))).keyOf v = some (PySem.W.keyToks d)) (f := (·.2)) ((PySem.W.each_mem (key h2 k0)).mono fun v d x => let ⟨⟨as, r⟩, hd⟩ := x; Cs.dk_some lay hd r))
    have vo : Vals ((keyed es).map (·.1)) (PySem.W.sortVals (PySem.W.dataKind h2 (es.map (·.2))) false its its) := pairs_each eo
    have I1 := I.kept (t' := s.toks) k1
    have l2 : ((keyed es).map (·.1)).length ≤ sizeLine := by
      rw [List.length_map, List.length_mergeSort, ← hlen]
      exact hz
    simp only [List.toList_toArray] at he
    exact ⟨.ref h1.objs.size, upd H h1.objs.size (.lst ((keyed es).map (·.1))), I1.laid (t' := s.toks) k2 (Nat.le_refl _) ⟨l2, _, ep, vo, he⟩, rfl, q _ (I1.hok.fresh (Nat.le_refl _))⟩
theorem cr_sortR4b {X : Cx} (hu : X.A.units + 64 < cLine) : CallR X (.builtin "sorted") (fun vs H Q => ∃ (l : Addr) (as : List Addr) (xs : List R4), vs = [.ref l] ∧ H l = some (.lst (as.map V.ref)) ∧ R4sAt H as xs ∧
    ∀ (p : Addr) (bs : List Addr) (ys : List R4) (H' : Hp), H p = none → Same H H' → H' p = some (.lst (bs.map V.ref)) → R4sAt H' bs ys → ys.Perm xs → ys.map R4.D = sortD (xs.map R4.D) → Q (.ref p) H') := by
  rintro pins s σ H vs us Q I r ⟨l, as, xs, rfl, hl, pr, q⟩
  have ln : as.length = xs.length := Paired.length pr
  let f : Addr × R4 → V × PyData := fun p => (V.ref p.1, p.2.D)
  let es : List (V × PyData) := (as.zip xs).map f
  let zs : List (Addr × R4) := (as.zip xs).mergeSort fun a b => PySem.W.dataLe false (fun e : V × PyData => e.2) (f a) (f b)
  have kz : keyed es = zs.map f := (List.map_mergeSort (f := f) (s := PySem.W.dataLe false fun e : V × PyData => e.2) (r := fun a b => PySem.W.dataLe false (fun e : V × PyData => e.2) (f a) (f b)) (l := as.zip xs) fun a _ b _ => rfl).symm
  have pz : zs.Perm (as.zip xs) := List.mergeSort_perm _ _
  have e1 : es.map (·.1) = as.map V.ref := by
    show ((as.zip xs).map _).map _ = _
    rw [List.map_map]
    have : ((·.1) ∘ f) = V.ref ∘ Prod.fst := rfl
    rw [this, ← List.map_map, List.map_fst_zip (by omega)]
  have e2 : es.map (·.2) = xs.map R4.D := by
    show ((as.zip xs).map _).map _ = _
    rw [List.map_map]
    have : ((·.2) ∘ f) = R4.D ∘ Prod.snd := rfl
    rw [this, ← List.map_map, List.map_snd_zip (by omega)]
  have mz : ∀ z ∈ as.zip xs, H z.1 = some (.tup z.2.vals) := fun z hz => by
    obtain ⟨i, hi⟩ := List.mem_iff_getElem?.mp hz
    obtain ⟨h1, h2⟩ := List.getElem?_zip_eq_some.mp hi
    obtain ⟨x', h3, h4⟩ := paired_get pr h1
    rw [h2] at h3
    rw [← Option.some.inj h3] at h4
    exact h4
  have me : ∀ e ∈ es, ∃ (a : Addr) (x : R4), e = (V.ref a, x.D) ∧ H a = some (.tup x.vals) := fun e he => by
    obtain ⟨z, hz, rfl⟩ := List.mem_map.mp he
    exact ⟨z.1, z.2, rfl, mz z hz⟩
  have dp0 : ∀ {H' : Hp}, Same H H' → ∀ e ∈ es, Dp X.K H' e.1 e.2 := fun sm e he => by
    obtain ⟨a, x, rfl, h⟩ := me e he
    exact R4.dp (sm _ _ h)
  refine cr_sortD hu pins s σ H _ us Q I r ⟨l, es, rfl, by rw [e1]; exact SqL.of hl, dpall_of (dp0 fun _ _ z => z), ?_, .inl ?_, ?_, fun p np => ?_⟩
  · rw [e2]
    exact PySem.W.AllAlike.of R4.alike
  · rw [e2]
    intro d hd
    obtain ⟨x, _, rfl⟩ := List.mem_map.mp hd
    exact ⟨_, _, rfl⟩
  · intro e he
    obtain ⟨a, x, rfl, _⟩ := me e he
    show (R4.D x).depth ≤ 60
    simp [R4.D, PyData.depth, PyData.depthAll]
  · have s1 := @same_new _ _ (.lst ((keyed es).map (·.1))) np
    refine q p (zs.map (·.1)) (zs.map (·.2)) _ np s1 ?_ ?_ ?_ ?_
    · rw [upd_same, kz, List.map_map, List.map_map]
      rfl
    · have go : ∀ {l : List (Addr × R4)}, (∀ z ∈ l, H z.1 = some (.tup z.2.vals)) → R4sAt (upd H p (.lst ((keyed es).map (·.1)))) (l.map (·.1)) (l.map (·.2)) := fun {l} => by
        induction l with
        | nil => exact fun _ => .nil
        | cons z t ih => exact fun h => .cons (s1 _ _ (h z List.mem_cons_self)) (ih fun y hy => h y (List.mem_cons_of_mem _ hy))
      exact go fun z hz => mz z (pz.mem_iff.mp hz)
    · have := pz.map (fun z : Addr × R4 => z.2)
      rw [List.map_snd_zip (by omega)] at this
      exact this
    · have := keyed_snd es
      rw [kz, e2, List.map_map] at this
      rw [← this, List.map_map]
      rfl
/-! ### differences -/
def dRow (L : List Ent) : Ent → Option R4
  | .count n _ g p k _ => (lastC L g p).map fun x => ⟨g, x.1, n, k - x.2⟩
  | _ => none
def diffN (es : List Ent) (n : Nat) : List R4 := (List.range n).filterMap fun i => dRow ((along es).take i) (alg es i)
theorem diffN_snoc (es : List Ent) (n : Nat) : diffN es (n + 1) = diffN es n ++ (dRow ((along es).take n) (alg es n)).toList := by
  unfold diffN
  rw [List.range_succ, List.filterMap_append]
  refine congrArg _ ?_
  rw [List.filterMap_cons]
  cases dRow ((along es).take n) (alg es n) <;> rfl
theorem alg_at {es : List Ent} {i : Nat} {e : Ent} (h : (along es)[i]? = some e) : alg es i = e := by
  have lt : i < es.length := by
    have := (List.getElem?_eq_some_iff.mp h).1
    rw [along_len] at this
    exact this
  unfold along at h
  rw [List.getElem?_map, List.getElem?_range lt] at h
  exact Option.some.inj h
theorem diffN_len (es : List Ent) : ∀ n, (diffN es n).length ≤ n
  | 0 => Nat.le_refl _
  | n + 1 => by
    rw [diffN_snoc, List.length_append]
    have h := diffN_len es n
    have : (dRow ((along es).take n) (alg es n)).toList.length ≤ 1 := by cases dRow ((along es).take n) (alg es n) <;> simp
    omega
def spDiff (K : PySem.W.Frag) (Ts : List Addr) : Sp := fun vs H Q _ => ∃ (h : Addr) (P G : List Str) (es : List Ent) (m : Nat), vs = [.ref h] ∧ HouseAt H h P G es ∧ Good P G es m ∧ m ≤ 30 ∧ TabsG Ts H ∧
  ∀ (l : Addr) (bs : List Addr) (ys : List R4) (H' : Hp), TB1 Ts H H' → H l = none → H' l = some (.lst (bs.map V.ref)) → R4sAt H' bs ys → ys.Perm (diffN es es.length) → ys.map R4.D = sortD ((diffN es es.length).map R4.D) → Q (.ref l) H'
theorem R4sAt.snoc {H : Hp} {as : List Addr} {xs : List R4} {a : Addr} {x : R4} (h : R4sAt H as xs) (q : H a = some (.tup x.vals)) : R4sAt H (as ++ [a]) (xs ++ [x]) := Paired.snoc h q
section
variable {P : Program} {w : World} {K : PySem.W.Frag} {mg : Str → Option Value} {base : Heap}
abbrev sDiffN : List Str := ["house", "told", "found", "at", "entry", "ahead", "book"]
theorem sc_sDiff : FnScope sDiffN ["house"] (defScope sDiff) := ⟨rfl, rfl, rfl, by decide +kernel, rfl, by decide +kernel, by decide +kernel⟩
set_option maxHeartbeats 4000000 in
theorem ok_diff {f fA fL : Addr} {fd dA dL : FuncData} {Ts : List Addr} (F : Fun K "differences" "differences" sDiff f fd) (AL : DefT P w K mg base "along_tracks" 3 fA dA ["house"] (spAlong Ts)) (LC : DefT P w K mg base "last_counted" 2 fL dL ["told", "good", "track"] spLastC)
    (me : mg "enumerate" = none) (ms : mg "sorted" = none) : FnOk P w K mg base CX0 4 f fd ["house"] (spDiff K Ts) := by
  refine F.ok sc_sDiff (fun vs H Q E h => ?_) (fun cdv A outer s H vs Q E hr h => ?_)
  · obtain ⟨h, Ps, G, es, m, rfl, _⟩ := h
    rfl
  · obtain ⟨h, Ps, G, es, m, rfl, ho, gd, m30, tg, q⟩ := h
    have nd := sc_sDiff.nd
    have hr2 : Room 2 _ := hr.mono (by decide)
    refine ⟨_, pss_cons (ps_set (i := 1) nd rfl (Or.inl rfl) (pe_call AL.ok hr (by rfl) AL.g AL.kp AL.b .nil pass0 (pa_cons (pv 0) pa_nil)))
      (pss_cons (ps_set (i := 2) nd rfl (Or.inl rfl) (pe_lst pa_nil))
      (pss_cons (ps_for PassesOwn.never rfl (pi_enum (by rfl) me (pa_cons (pv 1) pa_nil)) (pg_tup (by rfl) (pgs_cons (pg_name (i := 3) nd rfl (Or.inl rfl)) (pgs_cons (pg_name (i := 4) nd rfl (Or.inl rfl)) pgs_nil)))
        (pss_one (ps_if (pt_cmpR op_eq (pe_ix ix_tup (pv 4) pe_int (fun _ _ => rfl)) pe_str (nomark _)) (pss_cons (ps_asg (pe_call LC.ok hr2 (by rfl) LC.g LC.kp LC.b .nil pass0 (pa_cons (pe_slice sl_list (pv 1) po_none (po_some (pv 3))) (pa_cons (pe_ix ix_tup (pv 4) pe_int (fun _ _ => rfl)) (pa_cons (pe_ix ix_tup (pv 4) pe_int (fun _ _ => rfl)) pa_nil)))) (pg_tup (by rfl) (pgs_cons (pg_name (i := 5) nd rfl (Or.inl rfl)) (pgs_cons (pg_name (i := 6) nd rfl (Or.inl rfl)) pgs_nil))))
          (pss_one (ps_if (pt_cmpR op_notN (pv 6) pe_non (by rfl)) (pss_one (ps_expr (pe_bm PySem.F.plainAttrs_list PySem.F.slot_list_append PySem.F.type_list_append mt_append (pv 2) (pa_cons (pe_tup (pa_cons (pe_ix ix_tup (pv 4) pe_int (fun _ _ => rfl)) (pa_cons (pv 5) (pa_cons (pe_ix ix_tup (pv 4) pe_int (fun _ _ => rfl)) (pa_cons (pe_op op_sub (pe_ix ix_tup (pv 4) pe_int (fun _ _ => rfl)) (pv 6)) pa_nil))))) pa_nil)))) pss_nil))) pss_nil)))
      (pss_one (ps_ret (pe_callB (cr_sortR4b hr.units) (by rfl) ms (by decide +kernel) (pa_cons (pv 2) pa_nil)))))), ?_⟩
    refine ⟨_, rfl, h, Ps, G, es, m, rfl, ho, gd, m30, tg, fun l as H1 t1 nl hl en => ⟨Nat.zero_le _, fun D nD => ?_⟩⟩
    have s2 := @same_new _ _ (.lst []) nD
    have hD2 : (upd H1 D (.lst [])) D = some (.lst (([] : List Addr).map V.ref)) := upd_same
    have nD0 : H D = none := t1.free _ nD
    have nlD : l ≠ D := ne_of_none hl nD
    generalize upd H1 D (.lst []) = H2 at s2 hD2
    have t2 := t1.tr (.same t1.1 s2)
    have la := en.len
    rw [along_len] at la
    have lm := gd.many
    refine ⟨_, rfl, l, _, rfl, SqL.of (s2 _ _ hl), ?_⟩
    refine for_it (walk_enum (K := K) (a := l) (xs := as.map V.ref)) (fun i σ H' => ∃ y3 y4 y5 y6, ∃ ras : List Addr, σ = [some (.ref h), some (.ref l), some (.ref D), y3, y4, y5, y6] ∧ TB1 Ts H H' ∧ H' l = some (.lst (as.map V.ref)) ∧ EntsAt H' as (along es) ∧ H' D = some (.lst (ras.map V.ref)) ∧ R4sAt H' ras (diffN es i))
      ⟨_, _, _, _, [], rfl, t2, s2 _ _ hl, en.on (TK.of s2), hD2, .nil⟩ (fun i σ H' _ z => by obtain ⟨_, _, _, _, _, _, _, z, _⟩ := z; exact SqL.of z) ?_ ?_
    · rintro i v σ H3 H4 hi ⟨y3, y4, y5, y6, ras, rfl, t3, hl3, en3, hD3, ro3⟩ ⟨T, x, y, rfl, nT, rfl, hx, hy⟩
      obtain rfl := Option.some.inj hx
      replace hy : (as.map V.ref)[i]? = some y := hy
      rw [List.getElem?_map] at hy
      obtain ⟨a, ha, rfl⟩ := Option.map_eq_some_iff.mp hy
      have s4 := @same_new _ _ (.tup [V.int (i : Nat), .ref a]) nT
      have hT : (upd H3 T (.tup [V.int (i : Nat), .ref a])) T = some (.tup [V.int (i : Nat), .ref a]) := upd_same
      generalize upd H3 T (.tup [V.int (i : Nat), .ref a]) = H4 at s4 hT
      have t4 := t3.tr (.same t3.1 s4)
      have en4 := en3.on (TK.of s4)
      have ro4 := ro3.on (TK.of s4)
      have hl4 := s4 _ _ hl3
      have hD4 := s4 _ _ hD3
      clear en3 ro3 hl3 hD3 t3 s4 nT
      obtain ⟨e, hes, hae⟩ := en4.get ha
      have ea := alg_at hes
      have lr : ras.length ≤ i := by rw [Paired.length ro4]; exact diffN_len es i
      have li : i < 30 := by rw [List.length_map] at hi; omega
      refine ⟨T, _, rfl, SqT.of hT, rfl, _, _, rfl, _, _, rfl, rfl, ?_⟩
      refine ⟨_, rfl, a, _, 0, _, rfl, rfl, SqT.of hae, at0 e, rfl, _, rfl, ite2 (fun ew => ?_) (fun nw => ?_)⟩
      · obtain ⟨nm, mm, g, pl, k, hd, rfl⟩ := count_ent (V.str.inj (of_decide_eq_true ew))
        refine ⟨_, rfl, _, rfl, ((i : Nat) : Int), rfl, l, _, rfl, SqL.of hl4, fun C nC => ?_⟩
        have s5 := @same_new _ _ (.lst (cutV (as.map V.ref) none (some ((i : Nat) : Int)))) nC
        have hC : (upd H4 C (.lst (cutV (as.map V.ref) none (some ((i : Nat) : Int))))) C = some (.lst ((as.take i).map V.ref)) := by rw [upd_same, cut_head, List.map_take]
        generalize upd H4 C (.lst (cutV (as.map V.ref) none (some ((i : Nat) : Int)))) = H5 at s5 hC
        have hae5 := s5 _ _ hae
        refine ⟨_, rfl, a, _, 3, _, rfl, rfl, SqT.of hae5, atI_nat (j := 3) rfl, _, rfl, a, _, 4, _, rfl, rfl, SqT.of hae5, atI_nat (j := 4) rfl, C, as.take i, (along es).take i, g, pl, rfl, hC, (en4.take i).on (TK.of s5), fun b H6 s6 h6 => ?_⟩
        have s46 := s5.trans s6
        have t6 := t4.tr (.same t4.1 s46)
        have dr : dRow ((along es).take i) (alg es i) = (lastC ((along es).take i) g pl).map fun x => ⟨g, x.1, nm, k - x.2⟩ := by rw [ea]; rfl
        have sn := diffN_snoc es i
        rw [dr] at sn
        generalize lastC ((along es).take i) g pl = sx at sn h6
        refine ⟨b, _, rfl, SqT.of h6, rfl, _, _, rfl, _, _, rfl, rfl, ?_⟩
        refine ⟨_, rfl, rfl, _, rfl, ?_⟩
        cases sx with
        | none =>
          refine iteF ⟨_, _, _, _, ras, rfl, t6, s46 _ _ hl4, en4.on (TK.of s46), s46 _ _ hD4, ?_⟩
          rw [sn, show (Option.map (fun x : Str × Int => R4.mk g x.1 nm (k - x.2)) none).toList = [] from rfl, List.append_nil]
          exact ro4.on (TK.of s46)
        | some x =>
          have hae6 := s46 _ _ hae
          have hD6 := s46 _ _ hD4
          refine iteT ⟨_, rfl, .inl ⟨rfl, _, SqL.of hD6⟩, _, rfl, a, _, 3, _, rfl, rfl, SqT.of hae6, atI_nat (j := 3) rfl, _, rfl, _, rfl, a, _, 1, _, rfl, rfl, SqT.of hae6, atI_nat (j := 1) rfl, _, rfl, a, _, 5, _, rfl, rfl, SqT.of hae6, atI_nat (j := 5) rfl, _, rfl, k, x.2, rfl, rfl, (by show 4 ≤ sizeLine; decide), fun t nt => ?_⟩
          dsimp only [bkN, Ent.name]
          have s7 := @same_new _ _ (.tup [V.str g, .str x.1, .str nm, .int (k - x.2)]) nt
          have ht : (upd H6 t (.tup [V.str g, .str x.1, .str nm, .int (k - x.2)])) t = some (.tup (R4.vals ⟨g, x.1, nm, k - x.2⟩)) := upd_same
          generalize upd H6 t (.tup [V.str g, .str x.1, .str nm, .int (k - x.2)]) = H7 at s7 ht
          have s47 := s46.trans s7
          have t7 := t4.tr (.same t4.1 s47)
          have hD7 := s47 _ _ hD4
          have k8 : TK H7 (upd H7 D (.lst (ras.map V.ref ++ [V.ref t]))) := TK.upd fun xs e => by rw [hD7] at e; cases e
          refine ⟨D, _, _, rfl, rfl, hD7, (by rw [List.length_map]; exact small1000 (by omega)), ⟨_, _, _, _, ras ++ [t], rfl, t7.put nD0 hD7, (upd_ne nlD).trans (s47 _ _ hl4), (en4.on (TK.of s47)).on k8, ?_, ?_⟩⟩
          · rw [upd_same, List.map_append]
            rfl
          · rw [sn]
            exact R4sAt.snoc ((ro4.on (TK.of s47)).on k8) (k8 _ _ ht)
      · refine ⟨_, _, _, _, ras, rfl, t4, hl4, en4, hD4, ?_⟩
        have dr : dRow ((along es).take i) (alg es i) = none := by
          rw [ea]
          cases e with
          | count n m g p k hd => exact absurd (decide_eq_true rfl) nw
          | _ => rfl
        rw [diffN_snoc, dr, show (none : Option R4).toList = [] from rfl, List.append_nil]
        exact ro4
    · rintro σ H3 ⟨y3, y4, y5, y6, ras, rfl, t3, hl3, en3, hD3, ro3⟩
      rw [List.length_map, la] at ro3
      exact ⟨_, rfl, D, ras, _, rfl, hD3, ro3, fun p bs ys H4 np s4 hp ra pm ey => q p bs ys H4 (t3.tr (.same t3.1 s4)) (t3.free _ np) hp ra pm ey⟩
end
/-! ### the law's walk: last counts and books by places -/
def kpF (es : List Ent) (g : Str) : Str → Option (Str × Int) := es.foldl (fun F e p => bkStep g p (F (swE e p)) e) fun _ => none
theorem kpF_snoc (es : List Ent) (e : Ent) (g : Str) : kpF (es ++ [e]) g = fun p => bkStep g p (kpF es g (swE e p)) e := by
  unfold kpF
  rw [List.foldl_append]
  rfl
theorem chg_mpI {e : Ent} {τ : Str → Str} {p : Str} (inj : ∀ a b, τ a = τ b → a = b) : (e.mp τ).chg (τ p) = e.chg p := by
  have ie : ∀ {α : Type} {a b : Str} {x y : α}, (if τ a = τ b then x else y) = if a = b then x else y := fun {α a b x y} => by
    by_cases z : a = b
    · rw [if_pos z, if_pos (congrArg τ z)]
    · rw [if_neg z, if_neg fun q => z (inj _ _ q)]
  cases e with
  | come n m g q k r => exact ie
  | go n m g q k => exact ie
  | move n m g o t k =>
    show (if τ p = τ o then -k else if τ p = τ t then k else 0) = if p = o then -k else if p = t then k else 0
    rw [ie, ie]
  | _ => rfl
theorem bkIn_mp {e : Ent} {τ : Str → Str} {p : Str} {s : Option (Str × Int)} (inj : ∀ a b, τ a = τ b → a = b) : bkIn (τ p) s (e.mp τ) = bkIn p s e := by
  have c := chg_mpI (e := e) (p := p) inj
  cases e with
  | count n m g q k hd => rfl
  | some_ n m g o t => rfl
  | come n m g q k r => exact congrArg (fun z => s.map fun x => (x.1, x.2 + z)) c
  | go n m g q k => exact congrArg (fun z => s.map fun x => (x.1, x.2 + z)) c
  | move n m g o t k => exact congrArg (fun z => s.map fun x => (x.1, x.2 + z)) c
  | swap n m o t => rfl
  | look n m g q => rfl
theorem goodV_mp (e : Ent) (τ : Str → Str) : (e.mp τ).goodV = e.goodV := by cases e <;> rfl
theorem swE_no {e : Ent} (h : e.word ≠ "swap") (x : Str) : swE e x = x := by
  cases e with
  | swap n m o t => exact absurd rfl h
  | _ => rfl
theorem bkStep_sw {g p : Str} {s : Option (Str × Int)} {e : Ent} (h : e.word = "swap") : bkStep g p s e = s := if_neg fun z => by
  rw [(sw_word e).mp h] at z
  exact nomatch z.1
theorem bkStep_mp {g p : Str} {s : Option (Str × Int)} {e : Ent} {τ : Str → Str} (inj : ∀ a b, τ a = τ b → a = b) (full : ∀ y ∈ e.places, τ y ≠ "") : bkStep g (τ (swE e p)) s (e.mp τ) = bkStep g p s e := by
  by_cases sw : e.word = "swap"
  · rw [bkStep_sw sw]
    refine if_neg fun z => ?_
    rw [goodV_mp, (sw_word e).mp sw] at z
    exact nomatch z.1
  · rw [swE_no sw]
    unfold bkStep
    rw [goodV_mp, mp_places full, bkIn_mp inj]
    by_cases z : e.goodV = .str g ∧ p ∈ e.places
    · rw [if_pos z, if_pos ⟨z.1, List.mem_map.mpr ⟨p, z.2, rfl⟩⟩]
    · rw [if_neg z, if_neg fun y => z ⟨y.1, by
        obtain ⟨q, hq, eq⟩ := List.mem_map.mp y.2
        exact inj _ _ eq ▸ hq⟩]
theorem kp_main {P G : List Str} {es : List Ent} {m : Nat} (gd : Good P G es m) (g : Str) : ∀ n, n ≤ es.length → ∀ p, kpF (es.take n) g p = lastC ((along es).take n) g (tau (es.take n) p)
  | 0, _, p => rfl
  | n + 1, h, p => by
    have he : es[n]? = some es[n] := List.getElem?_eq_getElem (by omega)
    have td := td_n es n (by omega)
    rw [take_snoc (along_at he), lastC_snoc, take_snoc he, kpF_snoc, tau_snoc]
    show bkStep g p (kpF (es.take n) g (swE es[n] p)) es[n] = _
    rw [kp_main gd g n (by omega)]
    exact (bkStep_mp (fun a b z => by rw [← (td a).2, z, (td b).2]) (gd.full (List.getElem_mem _) (by omega))).symm
def lRow (F : Str → Option (Str × Int)) (g : Str) : Ent → Option R4
  | .count n _ g' q k _ => if g' = g then (F q).map fun x => ⟨g, x.1, n, k - x.2⟩ else none
  | _ => none
def lRows (es : List Ent) (g : Str) (n : Nat) : List R4 := (List.range n).filterMap fun i => lRow (kpF (es.take i) g) g (es.getD i (.look "" 0 "" ""))
theorem lRows_snoc {es : List Ent} {g : Str} {n : Nat} {e : Ent} (h : es[n]? = some e) : lRows es g (n + 1) = lRows es g n ++ (lRow (kpF (es.take n) g) g e).toList := by
  unfold lRows
  rw [List.range_succ, List.filterMap_append]
  refine congrArg _ ?_
  rw [List.filterMap_cons, List.getD_eq_getElem?_getD, h, Option.getD_some]
  cases lRow (kpF (es.take n) g) g e <;> rfl
theorem lRow_no {F : Str → Option (Str × Int)} {g : Str} {e : Ent} (h : e.word ≠ "count") : lRow F g e = none := by
  cases e with
  | count n m g' p k hd => exact absurd rfl h
  | _ => rfl
theorem lRow_og {F : Str → Option (Str × Int)} {g : Str} {e : Ent} (h : e.goodV ≠ .str g) : lRow F g e = none := by
  cases e with
  | count n m g' p k hd => exact if_neg fun z => h (congrArg V.str z)
  | _ => rfl
theorem lRows_len (es : List Ent) (g : Str) (n : Nat) : (lRows es g n).length ≤ n := by
  unfold lRows
  have := List.length_filterMap_le (fun i => lRow (kpF (es.take i) g) g (es.getD i (.look "" 0 "" ""))) (List.range n)
  rw [List.length_range] at this
  exact this
theorem fm_congr0 {α β : Type} {f g : α → Option β} : ∀ {L : List α}, (∀ i ∈ L, f i = g i) → L.filterMap f = L.filterMap g
  | [], _ => rfl
  | x :: L, h => by rw [List.filterMap_cons, List.filterMap_cons, h x List.mem_cons_self, fm_congr0 fun i hi => h i (List.mem_cons_of_mem _ hi)]
def keyG (es : List Ent) (i : Nat) : Str := match (es.getD i (.look "" 0 "" "")).goodV with
  | .str g => g
  | _ => ""
theorem keyG_at {es : List Ent} {i : Nat} {e : Ent} (h : es[i]? = some e) {g : Str} (hg : e.goodV = .str g) : keyG es i = g := by
  unfold keyG
  rw [List.getD_eq_getElem?_getD, h, Option.getD_some, hg]
theorem row_one {P G : List Str} {es : List Ent} {m : Nat} (gd : Good P G es m) (g : Str) {i : Nat} (hi : i < es.length) : lRow (kpF (es.take i) g) g (es.getD i (.look "" 0 "" "")) = if keyG es i = g then dRow ((along es).take i) (alg es i) else none := by
  have he : es[i]? = some es[i] := List.getElem?_eq_getElem hi
  have ea : alg es i = es[i].mp (tau (es.take i)) := alg_at (along_at he)
  rw [ea, List.getD_eq_getElem?_getD, he, Option.getD_some]
  cases e : es[i] with
  | count n mo g' q k hd =>
    have kg : keyG es i = g' := keyG_at he (by rw [e]; rfl)
    rw [kg]
    by_cases z : g' = g
    · rw [if_pos z]
      show (if g' = g then _ else none) = (lastC ((along es).take i) g' (tau (es.take i) q)).map fun x => R4.mk g' x.1 n (k - x.2)
      rw [if_pos z, kp_main gd g i (Nat.le_of_lt hi), z]
    · rw [if_neg z]
      exact if_neg z
  | come n mo g' q k r => exact (ite_self none).symm
  | go n mo g' q k => exact (ite_self none).symm
  | move n mo g' o t k => exact (ite_self none).symm
  | some_ n mo g' o t => exact (ite_self none).symm
  | swap n mo o t => exact (ite_self none).symm
  | look n mo g' q => exact (ite_self none).symm
/-! ### dicts by names -/
def kvN (ns : List Str) (vs : List V) : List (Key × V) := (ns.zip vs).map fun p => ((Sum.inr p.1 : Key), p.2)
theorem kvN_len {ns : List Str} {vs : List V} (h : ns.length = vs.length) : (kvN ns vs).length = ns.length := by
  unfold kvN
  rw [List.length_map, List.length_zip, h, Nat.min_self]
theorem kvN_at {ns : List Str} {vs : List V} {i : Nat} {n : Str} {v : V} (h1 : ns[i]? = some n) (h2 : vs[i]? = some v) : (kvN ns vs)[i]? = some ((Sum.inr n : Key), v) := by
  unfold kvN
  rw [List.getElem?_map, show (ns.zip vs)[i]? = some (n, v) from List.getElem?_zip_eq_some.mpr ⟨h1, h2⟩]
  rfl
theorem kvN_keys {ns : List Str} {vs : List V} (h : ns.length = vs.length) : (kvN ns vs).map (·.1) = ns.map fun n => (Sum.inr n : Key) := by
  unfold kvN
  rw [List.map_map]
  have : ((·.1) ∘ fun p : Str × V => ((Sum.inr p.1 : Key), p.2)) = (fun n => (Sum.inr n : Key)) ∘ Prod.fst := rfl
  rw [this, ← List.map_map, List.map_fst_zip (by omega)]
theorem merge_nd : ∀ {more acc : List (Key × V)}, ((acc ++ more).map (·.1)).Nodup → mergeK acc more = acc ++ more
  | [], acc, _ => by
    rw [List.append_nil]
    rfl
  | kv :: r, acc, h => by
    have nk : valV acc kv.1 = none := by
      cases e : valV acc kv.1 with
      | none => rfl
      | some v =>
        have := valV_in e
        rw [List.map_append, List.nodup_append] at h
        exact absurd rfl (h.2.2 _ this kv.1 List.mem_cons_self)
    show mergeK (putK acc kv.1 kv.2) r = _
    rw [putK_new _ nk, merge_nd (by rw [List.append_assoc]; exact h), List.append_assoc]
    rfl
theorem merge_kvN {ns : List Str} {vs : List V} (h : ns.length = vs.length) (nd : ns.Nodup) : mergeK [] (kvN ns vs) = kvN ns vs := by
  refine merge_nd (acc := []) ?_
  rw [List.nil_append, kvN_keys h]
  exact List.Pairwise.map (R := fun a b => a ≠ b) _ (fun a b z q => z (Sum.inr.inj q)) nd
theorem valV_at : ∀ {kvs : List (Key × V)} {i : Nat} {k : Key} {v : V}, (kvs.map (·.1)).Nodup → kvs[i]? = some (k, v) → valV kvs k = some v
  | kv :: r, 0, k, v, _, h => by
    rw [Option.some.inj h]
    exact valV_pos rfl
  | kv :: r, i + 1, k, v, nd, h => by
    have h' : r[i]? = some (k, v) := h
    obtain ⟨n1, n2⟩ := List.nodup_cons.mp (show (kv.1 :: r.map (·.1)).Nodup from nd)
    rw [valV_neg fun z => n1 (by rw [z]; exact List.mem_map.mpr ⟨_, List.mem_of_getElem? h', rfl⟩)]
    exact valV_at n2 h'
theorem valV_kvN {ns : List Str} {vs : List V} {i : Nat} {n : Str} {v : V} (h : ns.length = vs.length) (nd : ns.Nodup) (h1 : ns[i]? = some n) (h2 : vs[i]? = some v) : valV (kvN ns vs) (Sum.inr n) = some v := by
  refine valV_at ?_ (kvN_at h1 h2)
  rw [kvN_keys h]
  exact List.Pairwise.map (R := fun a b => a ≠ b) _ (fun a b z q => z (Sum.inr.inj q)) nd
def Prk (H : Hp) : List Addr → List (Key × V) → Prop := Paired fun a kv => H a = some (.tup [kV kv.1, kv.2])
theorem Prk.on {H H' : Hp} (k : TK H H') {as : List Addr} {ys : List (Key × V)} (h : Prk H as ys) : Prk H' as ys := Paired.mapP h fun a y e => k _ _ e
theorem Prk.kv {K : PySem.W.Frag} {H : Hp} {as : List Addr} {ys : List (Key × V)} (h : Prk H as ys) : Paired (fun p (kv : Key × V) => SqT K H p [kV kv.1, kv.2]) as ys := Paired.mapP h fun a y e => SqT.of e
theorem get_of_at {α : Type} {xs : List α} {j : Nat} (h : j < xs.length) : ∃ x, xs[j]? = some x ∧ x ∈ xs := ⟨xs[j], List.getElem?_eq_getElem h, List.getElem_mem h⟩
/-- one more at the end of a list that is made -/
theorem lc_put {H H' : Hp} {D t : Addr} {as : List Addr} {kvs : List (Key × V)} {x y : V} (sm : Same H H') (nD : H D = none) (hD : H' D = some (.lst (as.map V.ref))) (pr : Prk H' as kvs) (nt : H' t = none) (k : Key) (e : [kV k, y] = [x, y]) :
    Same H (upd (upd H' t (.tup [x, y])) D (.lst (as.map V.ref ++ [V.ref t]))) ∧ ∃ as' : List Addr, (upd (upd H' t (.tup [x, y])) D (.lst (as.map V.ref ++ [V.ref t]))) D = some (.lst (as'.map V.ref)) ∧ Prk (upd (upd H' t (.tup [x, y])) D (.lst (as.map V.ref ++ [V.ref t]))) as' (kvs ++ [(k, y)]) := by
  refine ⟨fun b o e => (upd_ne (ne_of_none e nD)).trans ((same_new nt) b o (sm b o e)), as ++ [t], ?_, ?_⟩
  · rw [upd_same, List.map_append]
    rfl
  · have ntD : t ≠ D := fun z => by rw [z, hD] at nt; cases nt
    refine Paired.snoc (pr.on fun b xs e => ?_) ((upd_ne ntD).trans ?_)
    · rw [upd_ne (ne_of e hD (by intro z; cases z))]
      exact same_new nt _ _ e
    · rw [upd_same, e]
/-! ### repr of any data, with lists, tuples and dicts one within the other -/
def keyD : Key → PyData
  | .inl i => .int i
  | .inr x => .str x
mutual
inductive Dq (K : PySem.W.Frag) (H : Hp) : V → PyData → Prop where
  | non : Dq K H .non .none
  | bl (b : Bool) : Dq K H (.bl b) (.bool b)
  | int (i : Int) : Dq K H (.int i) (.int i)
  | str (x : Str) : Dq K H (.str x) (.str x)
  | lst {a : Addr} {xs : List V} {ds : List PyData} (h : SqL K H a xs) (t : DqAll K H xs ds) : Dq K H (.ref a) (.list ds)
  | tup {a : Addr} {xs : List V} {ds : List PyData} (h : SqT K H a xs) (t : DqAll K H xs ds) : Dq K H (.ref a) (.tuple ds)
  | dct {a : Addr} {kvs : List (Key × V)} {D : List (PyData × PyData)} (h : H a = some (.dK kvs)) (t : DqAll K H (kvs.map (·.2)) (D.map (·.2))) (ke : D.map (·.1) = kvs.map fun p => keyD p.1) : Dq K H (.ref a) (.dict D)
  | dtt {a : Addr} {kvs : List (List Key × V)} {D : List (PyData × PyData)} (h : H a = some (.dT kvs)) (t : DqAll K H (kvs.map (·.2)) (D.map (·.2))) (ke : D.map (·.1) = kvs.map fun p => .tuple (p.1.map keyD)) : Dq K H (.ref a) (.dict D)
inductive DqAll (K : PySem.W.Frag) (H : Hp) : List V → List PyData → Prop where
  | nil : DqAll K H [] []
  | cons {v : V} {vs : List V} {d : PyData} {ds : List PyData} (h : Dq K H v d) (t : DqAll K H vs ds) : DqAll K H (v :: vs) (d :: ds)
end
section
variable {P : Program} {w : World}
theorem key_reads {h : Heap} {k : Key} {u : Value} (e : keyIs k u = true) : Reads h u (keyD k) [] := by
  rcases keyIs_shape e with ⟨i, t, rfl, rfl⟩ | ⟨x, t, rfl, rfl⟩
  · exact .int i t
  · exact .str x t
theorem rel_reads {h : Heap} {k : Key} {u : Value} (e : RelV (kV k) u) : Reads h u (keyD k) [] := by
  cases k with
  | inl i =>
    obtain ⟨t, rfl⟩ := e
    exact .int i t
  | inr x =>
    obtain ⟨t, rfl⟩ := e
    exact .str x t
theorem kv_reads {h : Heap} : ∀ {kvs : List (Key × V)} {vs : List (Key × Value)} {es : List DictEntry}, KV kvs vs → Pairs (mixKind P w) es vs → ReadsAll h (es.map (·.key)) (kvs.map fun p => keyD p.1) [] ∧ Vals (kvs.map (·.2)) (es.map (·.val))
  | _, _, _, .nil, p => by
    cases p
    exact ⟨.nil, .nil⟩
  | _, _, _, .cons ⟨e1, e2⟩ t, p => by
    cases p with
    | cons k v r =>
      obtain ⟨i1, i2⟩ := kv_reads t r
      refine ⟨?_, ?_⟩
      · refine ReadsAll.cons (as := []) (bs := []) (key_reads ?_) i1
        rw [e1]
        exact k
      · refine .cons ?_ i2
        show RelV _ (DictEntry.val _)
        rw [v]
        exact e2
theorem tup_reads {h : Heap} : ∀ {ks : List Key} {us : List Value}, Vals (ks.map kV) us → ReadsAll h us (ks.map keyD) []
  | [], _, r => by
    cases r
    exact .nil
  | k :: ks, _, r => by
    cases r with
    | cons r1 r2 => exact ReadsAll.cons (as := []) (bs := []) (rel_reads r1) (tup_reads r2)
theorem kt_reads {H : Hp} {h : Heap} (hok : HOk P w H h) : ∀ {kvs : List (List Key × V)} {xs : List (List Key × Addr × Value)},
    Paired (fun (p : List Key × V) (q : List Key × Addr × Value) => p.1 = q.1 ∧ H q.2.1 = some (.tup (p.1.map kV)) ∧ RelV p.2 q.2.2) kvs xs →
    ReadsAll h ((xs.map (entryOfKey (tupleKind (mixKind P w)))).map (·.key)) (kvs.map fun p => .tuple (p.1.map keyD)) [] ∧ Vals (kvs.map (·.2)) ((xs.map (entryOfKey (tupleKind (mixKind P w)))).map (·.val))
  | _, _, .nil => ⟨.nil, .nil⟩
  | _, _, .cons ⟨e1, e2, e3⟩ t => by
    obtain ⟨i1, i2⟩ := kt_reads hok t
    refine ⟨?_, .cons e3 i2⟩
    obtain ⟨_, its, rv, o, ho, hc, n, hd⟩ := (show ObjOk P w H h _ (.tup _) from hok _ _ e2)
    exact ReadsAll.cons (as := []) (bs := []) (.tuple ho hc hd (tup_reads rv)) i1
end
section
variable {X : Cx} {pins : List (Addr × Obj)} {σ : L2.St} {H : Hp} {s : Shared}
/-- what a dict's object holds -/
theorem dk_obj (I : Inv X pins σ H s) {a : Addr} {kvs : List (Key × V)} (h : H a = some (.dK kvs)) : ∃ o es ep, s.heap.get? a = some o ∧ o.cls = .type "dict" ∧ o.data = .dict es ep ∧ (a == sysModules) = false ∧
    ReadsAll s.heap (es.toList.map (·.key)) (kvs.map fun p => keyD p.1) [] ∧ Vals (kvs.map (·.2)) (es.toList.map (·.val)) := by
  obtain ⟨_, ns, vs, kv, o, es, ep, h1, h2, h3, h4⟩ := dk_of I.hok h
  obtain ⟨r1, r2⟩ := kv_reads (h := s.heap) kv h4.2.1
  exact ⟨o, es, ep, h1, h2.1, h3, ns, r1, r2⟩
theorem dt_obj (I : Inv X pins σ H s) {a : Addr} {kvs : List (List Key × V)} (h : H a = some (.dT kvs)) : ∃ o es ep, s.heap.get? a = some o ∧ o.cls = .type "dict" ∧ o.data = .dict es ep ∧ (a == sysModules) = false ∧
    ReadsAll s.heap (es.toList.map (·.key)) (kvs.map fun p => PyData.tuple (p.1.map keyD)) [] ∧ Vals (kvs.map (·.2)) (es.toList.map (·.val)) := by
  obtain ⟨_, ns, xs, pr, o, es, ep, h1, h2, h3, h4, _⟩ := (show ObjOk X.prog X.w H s.heap a (.dT kvs) from I.hok a _ h)
  obtain ⟨r1, r2⟩ := kt_reads I.hok pr
  rw [← h4] at r1 r2
  exact ⟨o, es, ep, h1, h2.1, h3, ns, r1, r2⟩
mutual
theorem Dq.reads (I : Inv X pins σ H s) : ∀ {v : V} {d : PyData}, Dq X.K H v d → ∀ u, RelV v u → ∃ as, Reads s.heap u d as
  | _, _, .non, _, r => by
    cases r
    exact ⟨_, .none⟩
  | _, _, .bl b, _, r => by
    cases r
    exact ⟨_, .bool b⟩
  | _, _, .int i, _, r => by
    obtain ⟨t, rfl⟩ := r
    exact ⟨_, .int i t⟩
  | _, _, .str x, _, r => by
    obtain ⟨t, rfl⟩ := r
    exact ⟨_, .str x t⟩
  | _, _, .lst h t, _, r => by
    cases r
    obtain ⟨its, rv, ⟨o, n, ho, hc, _, hd⟩, _⟩ := I.list h
    obtain ⟨as, q⟩ := DqAll.reads I t its rv
    exact ⟨_, .list ho hc hd q⟩
  | _, _, .tup h t, _, r => by
    cases r
    obtain ⟨its, rv, ⟨o, ho, hc, n, hd⟩, _⟩ := I.tuple h
    obtain ⟨as, q⟩ := DqAll.reads I t its rv
    exact ⟨_, .tuple ho hc hd q⟩
  | _, _, .dct h t ke, _, r => by
    cases r
    obtain ⟨o, es, ep, h1, h2, h3, _, r1, r2⟩ := dk_obj I h
    obtain ⟨as, q⟩ := DqAll.reads I t _ r2
    rw [← ke] at r1
    exact ⟨_, .dict h1 h2 h3 r1 q⟩
  | _, _, .dtt h t ke, _, r => by
    cases r
    obtain ⟨o, es, ep, h1, h2, h3, _, r1, r2⟩ := dt_obj I h
    obtain ⟨as, q⟩ := DqAll.reads I t _ r2
    rw [← ke] at r1
    exact ⟨_, .dict h1 h2 h3 r1 q⟩
theorem DqAll.reads (I : Inv X pins σ H s) : ∀ {vs : List V} {ds : List PyData}, DqAll X.K H vs ds → ∀ us, Vals vs us → ∃ as, ReadsAll s.heap us ds as
  | _, _, .nil, _, r => by
    cases r
    exact ⟨_, .nil⟩
  | _, _, .cons h t, _, r => by
    cases r with
    | cons r1 r2 =>
      obtain ⟨as, q1⟩ := Dq.reads I h _ r1
      obtain ⟨bs, q2⟩ := DqAll.reads I t _ r2
      exact ⟨_, .cons q1 q2⟩
end
mutual
theorem Dq.rep (I : Inv X pins σ H s) : ∀ {v : V} {d : PyData}, Dq X.K H v d → ∀ u, RelV v u → d.showable = true → d.shown.length ≤ sizeLine → ∃ bs, ReadAtMost s.heap d.depth bs ∧ ReprK X.prog X.w bs s.heap d.depth u d.shown
  | _, _, .non, _, r, _, _ => by
    cases r
    exact ⟨[], (fun _ h => nomatch h), by simp only [PyData.shown]; exact .of_is ReprIs.none _ _ _⟩
  | _, _, .bl b, _, r, _, _ => by
    cases r
    exact ⟨[], (fun _ h => nomatch h), by simp only [PyData.shown]; exact .of_is (ReprIs.bool b) _ _ _⟩
  | _, _, .int i, _, r, hs, _ => by
    obtain ⟨t, rfl⟩ := r
    exact ⟨[], (fun _ h => nomatch h), by simp only [PyData.shown]; exact .of_is (ReprIs.int t (by simpa [PyData.showable] using hs)) _ _ _⟩
  | _, _, .str x, _, r, _, hz => by
    obtain ⟨t, rfl⟩ := r
    exact ⟨[], (fun _ h => nomatch h), by simp only [PyData.shown]; exact .of_is (ReprIs.str x t (by simpa only [PyData.shown] using hz)) _ _ _⟩
  | _, _, .lst (ds := ds) h t, _, r, hs, hz => by
    cases r
    obtain ⟨its, rv, ⟨o, n, ho, hc, _, hd⟩, _⟩ := I.list h
    have hz' : (listText (PyData.shownAll ds)).length ≤ sizeLine := by simpa only [PyData.shown] using hz
    obtain ⟨as, q⟩ := DqAll.reads I t its rv
    obtain ⟨bs, hb, hk⟩ := DqAll.rep I t its rv (by simpa [PyData.showable] using hs) fun t ht => Nat.le_trans (listText_mem_le ht) hz'
    have r := Reads.list ho hc hd q
    have hna := not_mem_of_deeper r (by simp only [PyData.depth]; omega) hb
    refine ⟨_ :: bs, ReadAtMost.cons r (by simp only [PyData.depth]; omega) hb, ?_⟩
    simp only [PyData.depth, PyData.shown]
    cases its with
    | nil =>
      cases rv
      cases t
      simp only [PyData.shownAll, listText_nil]
      exact ReprK.listEmpty ho hc hd
    | cons x l => exact ReprK.list ho hc hd hna (by simpa using hk.length_eq) (fun i y e => hk.item i y (by simpa using e))
  | _, _, .tup (ds := ds) h t, _, r, hs, hz => by
    cases r
    obtain ⟨its, rv, ⟨o, ho, hc, n, hd⟩, _⟩ := I.tuple h
    have hz' : (tupleText (PyData.shownAll ds)).length ≤ sizeLine := by simpa only [PyData.shown] using hz
    obtain ⟨as, q⟩ := DqAll.reads I t its rv
    obtain ⟨bs, hb, hk⟩ := DqAll.rep I t its rv (by simpa [PyData.showable] using hs) fun t ht => Nat.le_trans (tupleText_mem_le ht) hz'
    have r := Reads.tuple ho hc hd q
    have hna := not_mem_of_deeper r (by simp only [PyData.depth]; omega) hb
    refine ⟨_ :: bs, ReadAtMost.cons r (by simp only [PyData.depth]; omega) hb, ?_⟩
    simp only [PyData.depth, PyData.shown]
    exact ReprK.tuple ho hc hd hna hk
  | _, _, .dct (D := D) h t ke, _, r, hs, hz => by
    cases r
    obtain ⟨o, es, ep, h1, h2, h3, ns, r1, r2⟩ := dk_obj I h
    rw [← ke] at r1
    have hz' : (dictText (PyData.shownKv D)).length ≤ sizeLine := by simpa only [PyData.shown] using hz
    obtain ⟨as, q⟩ := DqAll.reads I t _ r2
    obtain ⟨hs1, hs2⟩ := PyData.showableKv_split D (by simpa [PyData.showable] using hs)
    obtain ⟨b1, hb1, k1⟩ := ReprAllK.of_readsAll (prog := X.prog) (w := X.w) r1 hs1 (fun _ hm => nomatch hm) fun t ht => let ⟨p, hp, hl⟩ := PyData.shownKv_key_le D t ht; Nat.le_trans hl (Nat.le_trans (dictText_mem_le hp) hz')
    obtain ⟨b2, hb2, k2⟩ := DqAll.rep I t _ r2 hs2 fun t ht => let ⟨p, hp, hl⟩ := PyData.shownKv_val_le D t ht; Nat.le_trans hl (Nat.le_trans (dictText_mem_le hp) hz')
    have r := Reads.dict h1 h2 h3 r1 q
    have hb : ReadAtMost s.heap (PyData.depthKv D) (b1 ++ b2) := (hb1.mono (PyData.depthAll_keys_le D)).append (hb2.mono (PyData.depthAll_vals_le D))
    have hna := not_mem_of_deeper r (by simp only [PyData.depth]; omega) hb
    refine ⟨_ :: (b1 ++ b2), ReadAtMost.cons r (by simp only [PyData.depth]; omega) hb, ?_⟩
    simp only [PyData.depth, PyData.shown, PyData.shownKv_eq]
    exact ReprK.dict h1 h2 h3 ns hna (ReprEntriesK.of_two es.toList _ _
      (k1.more_le (fun b hb => List.mem_append_left _ hb) (PyData.depthAll_keys_le D)) (k2.more_le (fun b hb => List.mem_append_right _ hb) (PyData.depthAll_vals_le D)))
  | _, _, .dtt (D := D) h t ke, _, r, hs, hz => by
    cases r
    obtain ⟨o, es, ep, h1, h2, h3, ns, r1, r2⟩ := dt_obj I h
    rw [← ke] at r1
    have hz' : (dictText (PyData.shownKv D)).length ≤ sizeLine := by simpa only [PyData.shown] using hz
    obtain ⟨as, q⟩ := DqAll.reads I t _ r2
    obtain ⟨hs1, hs2⟩ := PyData.showableKv_split D (by simpa [PyData.showable] using hs)
    obtain ⟨b1, hb1, k1⟩ := ReprAllK.of_readsAll (prog := X.prog) (w := X.w) r1 hs1 (fun _ hm => nomatch hm) fun t ht => let ⟨p, hp, hl⟩ := PyData.shownKv_key_le D t ht; Nat.le_trans hl (Nat.le_trans (dictText_mem_le hp) hz')
    obtain ⟨b2, hb2, k2⟩ := DqAll.rep I t _ r2 hs2 fun t ht => let ⟨p, hp, hl⟩ := PyData.shownKv_val_le D t ht; Nat.le_trans hl (Nat.le_trans (dictText_mem_le hp) hz')
    have r := Reads.dict h1 h2 h3 r1 q
    have hb : ReadAtMost s.heap (PyData.depthKv D) (b1 ++ b2) := (hb1.mono (PyData.depthAll_keys_le D)).append (hb2.mono (PyData.depthAll_vals_le D))
    have hna := not_mem_of_deeper r (by simp only [PyData.depth]; omega) hb
    refine ⟨_ :: (b1 ++ b2), ReadAtMost.cons r (by simp only [PyData.depth]; omega) hb, ?_⟩
    simp only [PyData.depth, PyData.shown, PyData.shownKv_eq]
    exact ReprK.dict h1 h2 h3 ns hna (ReprEntriesK.of_two es.toList _ _
      (k1.more_le (fun b hb => List.mem_append_left _ hb) (PyData.depthAll_keys_le D)) (k2.more_le (fun b hb => List.mem_append_right _ hb) (PyData.depthAll_vals_le D)))
theorem DqAll.rep (I : Inv X pins σ H s) : ∀ {vs : List V} {ds : List PyData}, DqAll X.K H vs ds → ∀ us, Vals vs us → PyData.showableAll ds = true → (∀ t ∈ PyData.shownAll ds, t.length ≤ sizeLine) →
    ∃ bs, ReadAtMost s.heap (PyData.depthAll ds) bs ∧ ReprAllK X.prog X.w bs s.heap (PyData.depthAll ds) us (PyData.shownAll ds)
  | _, _, .nil, _, r, _, _ => by
    cases r
    exact ⟨[], (fun _ h => nomatch h), by simp only [PyData.shownAll]; exact .nil⟩
  | _, _, .cons (d := d) (ds := ds) h t, _, r, hs, hz => by
    cases r with
    | cons r1 r2 =>
      have hs' : d.showable = true ∧ PyData.showableAll ds = true := by simpa [PyData.showableAll] using hs
      obtain ⟨b1, hb1, k1⟩ := Dq.rep I h _ r1 hs'.1 (hz _ (by simp only [PyData.shownAll]; exact List.mem_cons_self ..))
      obtain ⟨b2, hb2, k2⟩ := DqAll.rep I t _ r2 hs'.2 fun t ht => hz t (by simp only [PyData.shownAll]; exact List.mem_cons_of_mem _ ht)
      refine ⟨b1 ++ b2, ?_, ?_⟩
      · intro b hm
        simp only [PyData.depthAll]
        rcases List.mem_append.mp hm with hm | hm
        · obtain ⟨d', as', r', hd'⟩ := hb1 b hm
          exact ⟨d', as', r', Nat.le_trans hd' (Nat.le_max_left _ _)⟩
        · obtain ⟨d', as', r', hd'⟩ := hb2 b hm
          exact ⟨d', as', r', Nat.le_trans hd' (Nat.le_max_right _ _)⟩
      · simp only [PyData.depthAll, PyData.shownAll]
        exact .cons ((k1.more fun b hb => List.mem_append_left _ hb).level_le (Nat.le_max_left _ _)) (k2.more_le (fun b hb => List.mem_append_right _ hb) (Nat.le_max_right _ _))
end
end
def rShowQ (K : PySem.W.Frag) : List V → Hp → VK → Prop := fun vs H Q => ∃ (a : Addr) (d : PyData), vs = [.ref a] ∧ Dq K H (.ref a) d ∧ d.showable = true ∧ d.depth ≤ 60 ∧ d.shown.length ≤ sizeLine ∧ Q (.str d.shown) H
theorem cr_reprQ {X : Cx} (hG : X.A.guards = some []) (hu : X.A.units + 64 < cLine) : CallR X (.builtin "repr") (rShowQ X.K) := by
  rintro pins s σ H vs us Q I r ⟨a, d, rfl, dq, sh, dp, sz, q⟩
  rw [Vals.ref1 r]
  have hQ : ∀ (h' : Heap) (u : Tok) (tk : _), (∀ b o, s.heap.get? b = some o → h'.get? b = some o) → EP X pins σ Q (.str d.shown u) { s with heap := h', toks := tk } := fun h' u tk hk => ⟨.str d.shown, H, I.kept hk, ⟨_, rfl⟩, q⟩
  cases dq with
  | @lst _ xs ds h t =>
    obtain ⟨its, rv, ⟨o, n, ho, hc, _, hd⟩, _⟩ := I.list h
    have hz' : (listText (PyData.shownAll ds)).length ≤ sizeLine := by simpa only [PyData.shown] using sz
    obtain ⟨as, q1⟩ := DqAll.reads I t its rv
    obtain ⟨bs, hb, hk⟩ := DqAll.rep I t its rv (by simpa [PyData.showable] using sh) fun t ht => Nat.le_trans (listText_mem_le ht) hz'
    have r := Reads.list ho hc hd q1
    have hna := not_mem_of_deeper r (by simp only [PyData.depth]; omega) hb
    simp only [PyData.depth] at dp
    simp only [PyData.shown] at hQ
    refine call_repr_slot (by omega) ⟨o, ho, hc⟩ F.slot_list_repr.toG ?_
    cases its with
    | nil =>
      cases rv
      cases t
      simp only [PyData.shownAll, listText_nil] at hQ
      exact call_list_repr_empty ⟨o, ho, hc⟩ ho hd ⟨_, _, rfl, hQ s.heap _ _ fun _ _ e => e⟩
    | cons x l => exact call_list_reprK ho hc hd hna (by simpa using hk.length_eq) (fun i y e => hk.item i y (by simpa using e)) hG (fun b _ => Clear.nil b) (by show X.A.units + 1 + _ < cLine; omega) (fun _ _ e => e) (fun h' u tk hk => ⟨_, _, rfl, hQ h' u tk hk⟩) hz'
  | @tup _ xs ds h t =>
    obtain ⟨its, rv, ⟨o, ho, hc, n, hd⟩, _⟩ := I.tuple h
    have hz' : (tupleText (PyData.shownAll ds)).length ≤ sizeLine := by simpa only [PyData.shown] using sz
    obtain ⟨as, q1⟩ := DqAll.reads I t its rv
    obtain ⟨bs, hb, hk⟩ := DqAll.rep I t its rv (by simpa [PyData.showable] using sh) fun t ht => Nat.le_trans (tupleText_mem_le ht) hz'
    have r := Reads.tuple ho hc hd q1
    have hna := not_mem_of_deeper r (by simp only [PyData.depth]; omega) hb
    simp only [PyData.depth] at dp
    simp only [PyData.shown] at hQ
    refine call_repr_slot (by omega) ⟨o, ho, hc⟩ F.slot_tuple_repr ?_
    exact call_tuple_reprK ho hc hd hna hk hG (fun b _ => Clear.nil b) (by show X.A.units + 1 + _ < cLine; omega) (fun _ _ e => e) (fun h' u tk hk => ⟨_, _, rfl, hQ h' u tk hk⟩) hz'
  | @dct _ kvs D h t ke =>
    obtain ⟨o, es, ep, h1, h2, h3, ns, r1, r2⟩ := dk_obj I h
    rw [← ke] at r1
    have hz' : (dictText (PyData.shownKv D)).length ≤ sizeLine := by simpa only [PyData.shown] using sz
    obtain ⟨as, q1⟩ := DqAll.reads I t _ r2
    obtain ⟨hs1, hs2⟩ := PyData.showableKv_split D (by simpa [PyData.showable] using sh)
    obtain ⟨b1, hb1, k1⟩ := ReprAllK.of_readsAll (prog := X.prog) (w := X.w) r1 hs1 (fun _ hm => nomatch hm) fun t ht => let ⟨p, hp, hl⟩ := PyData.shownKv_key_le D t ht; Nat.le_trans hl (Nat.le_trans (dictText_mem_le hp) hz')
    obtain ⟨b2, hb2, k2⟩ := DqAll.rep I t _ r2 hs2 fun t ht => let ⟨p, hp, hl⟩ := PyData.shownKv_val_le D t ht; Nat.le_trans hl (Nat.le_trans (dictText_mem_le hp) hz')
    have r := Reads.dict h1 h2 h3 r1 q1
    have hb : ReadAtMost s.heap (PyData.depthKv D) (b1 ++ b2) := (hb1.mono (PyData.depthAll_keys_le D)).append (hb2.mono (PyData.depthAll_vals_le D))
    have hna := not_mem_of_deeper r (by simp only [PyData.depth]; omega) hb
    simp only [PyData.depth] at dp
    simp only [PyData.shown, PyData.shownKv_eq] at hQ
    refine call_repr_slot (by omega) ⟨o, h1, h2⟩ F.slot_dict_repr ?_
    exact call_dict_reprK h1 h2 h3 ns hna (ReprEntriesK.of_two es.toList _ _
      (k1.more_le (fun b hb => List.mem_append_left _ hb) (PyData.depthAll_keys_le D)) (k2.more_le (fun b hb => List.mem_append_right _ hb) (PyData.depthAll_vals_le D))) hG (fun b _ => Clear.nil b) (by show X.A.units + 1 + _ < cLine; omega) (fun _ _ e => e) (fun h' u tk hk => ⟨_, _, rfl, hQ h' u tk hk⟩) (by rw [← PyData.shownKv_eq]; exact hz')
  | @dtt _ kvs D h t ke =>
    obtain ⟨o, es, ep, h1, h2, h3, ns, r1, r2⟩ := dt_obj I h
    rw [← ke] at r1
    have hz' : (dictText (PyData.shownKv D)).length ≤ sizeLine := by simpa only [PyData.shown] using sz
    obtain ⟨as, q1⟩ := DqAll.reads I t _ r2
    obtain ⟨hs1, hs2⟩ := PyData.showableKv_split D (by simpa [PyData.showable] using sh)
    obtain ⟨b1, hb1, k1⟩ := ReprAllK.of_readsAll (prog := X.prog) (w := X.w) r1 hs1 (fun _ hm => nomatch hm) fun t ht => let ⟨p, hp, hl⟩ := PyData.shownKv_key_le D t ht; Nat.le_trans hl (Nat.le_trans (dictText_mem_le hp) hz')
    obtain ⟨b2, hb2, k2⟩ := DqAll.rep I t _ r2 hs2 fun t ht => let ⟨p, hp, hl⟩ := PyData.shownKv_val_le D t ht; Nat.le_trans hl (Nat.le_trans (dictText_mem_le hp) hz')
    have r := Reads.dict h1 h2 h3 r1 q1
    have hb : ReadAtMost s.heap (PyData.depthKv D) (b1 ++ b2) := (hb1.mono (PyData.depthAll_keys_le D)).append (hb2.mono (PyData.depthAll_vals_le D))
    have hna := not_mem_of_deeper r (by simp only [PyData.depth]; omega) hb
    simp only [PyData.depth] at dp
    simp only [PyData.shown, PyData.shownKv_eq] at hQ
    refine call_repr_slot (by omega) ⟨o, h1, h2⟩ F.slot_dict_repr ?_
    exact call_dict_reprK h1 h2 h3 ns hna (ReprEntriesK.of_two es.toList _ _
      (k1.more_le (fun b hb => List.mem_append_left _ hb) (PyData.depthAll_keys_le D)) (k2.more_le (fun b hb => List.mem_append_right _ hb) (PyData.depthAll_vals_le D))) hG (fun b _ => Clear.nil b) (by show X.A.units + 1 + _ < cLine; omega) (fun _ _ e => e) (fun h' u tk hk => ⟨_, _, rfl, hQ h' u tk hk⟩) (by rw [← PyData.shownKv_eq]; exact hz')
/-! ### shown data, as the heap grows; how long they are -/
theorem SqL.keep {K : PySem.W.Frag} {H H' : Hp} {a : Addr} {xs : List V} (k : ∀ a o, H a = some o → (∀ ps, o ≠ .tbl ps) → H' a = some o) (h : SqL K H a xs) : SqL K H' a xs := by
  rcases h with (h | ⟨o, h⟩) | h
  · exact .inl (.inl (k _ _ h fun ps z => nomatch z))
  · exact .inl (.inr ⟨o, k _ _ h fun ps z => nomatch z⟩)
  · exact .inr h
theorem SqT.keep {K : PySem.W.Frag} {H H' : Hp} {a : Addr} {xs : List V} (k : ∀ a o, H a = some o → (∀ ps, o ≠ .tbl ps) → H' a = some o) (h : SqT K H a xs) : SqT K H' a xs := by
  rcases h with (h | ⟨o, h⟩) | h
  · exact .inl (.inl (k _ _ h fun ps z => nomatch z))
  · exact .inl (.inr ⟨o, k _ _ h fun ps z => nomatch z⟩)
  · exact .inr h
section
variable {K : PySem.W.Frag} {H H' : Hp}
mutual
theorem Dq.on (k : ∀ a o, H a = some o → (∀ ps, o ≠ .tbl ps) → H' a = some o) : ∀ {v : V} {d : PyData}, Dq K H v d → Dq K H' v d
  | _, _, .non => .non
  | _, _, .bl b => .bl b
  | _, _, .int i => .int i
  | _, _, .str x => .str x
  | _, _, .lst h t => .lst (SqL.keep k h) (DqAll.on k t)
  | _, _, .tup h t => .tup (SqT.keep k h) (DqAll.on k t)
  | _, _, .dct h t ke => .dct (k _ _ h fun ps z => nomatch z) (DqAll.on k t) ke
  | _, _, .dtt h t ke => .dtt (k _ _ h fun ps z => nomatch z) (DqAll.on k t) ke
theorem DqAll.on (k : ∀ a o, H a = some o → (∀ ps, o ≠ .tbl ps) → H' a = some o) : ∀ {vs : List V} {ds : List PyData}, DqAll K H vs ds → DqAll K H' vs ds
  | _, _, .nil => .nil
  | _, _, .cons h t => .cons (Dq.on k h) (DqAll.on k t)
end
end
theorem toString_neg5 (i : Int) (h : i < 0) : (toString i).length ≤ (toString (-i)).length + 1 := by
  obtain ⟨n, rfl⟩ : ∃ n : Nat, i = -((n + 1 : Nat) : Int) := ⟨(-i).toNat - 1, by omega⟩
  rw [Int.neg_neg]
  show ("-" ++ toString (n + 1)).length ≤ (toString (n + 1)).length + 1
  rw [String.length_append]
  have : ("-" : String).length = 1 := rfl
  omega
theorem int_shown5 {i : Int} (h : i.natAbs < 10 ^ 60) : (PyData.shown (.int i)).length ≤ 70 ∧ i.natAbs.log2 < 1920 := by
  have hb : ((i.natAbs : Nat) : Int) < 10 ^ 60 := by
    have e : (((10 : Nat) ^ 60 : Nat) : Int) = (10 : Int) ^ 60 := by decide +kernel
    rw [← e]
    exact Int.ofNat_lt.mpr h
  refine ⟨?_, ?_⟩
  · by_cases z : 0 ≤ i
    · exact Nat.le_trans (toString_length_le z (k := 60) (by decide) (by rw [← Int.natAbs_of_nonneg z]; exact hb)) (by decide)
    · show (Str.ofString (toString i)).length ≤ 70
      have n1 : ((i.natAbs : Nat) : Int) = -i := by omega
      have h := toString_length_le (v := -i) (by omega) (k := 60) (by decide) (by rw [← n1]; exact hb)
      rw [PySem.ofString_length] at h ⊢
      have := toString_neg5 i (by omega)
      omega
  · by_cases z : i.natAbs = 0
    · rw [z]
      decide
    · exact Nat.lt_trans ((Nat.log2_lt z).mpr (Nat.lt_trans h (show (10 : Nat) ^ 60 < 2 ^ 200 by decide +kernel))) (by decide)
/-- a thing whose text isn't long: at most n, k deep -/
def ShQ (K : PySem.W.Frag) (H : Hp) (v : V) (n k : Nat) : Prop := ∃ d, Dq K H v d ∧ d.showable = true ∧ d.leavesShort 70 = true ∧ d.bulk ≤ n ∧ d.depth ≤ k
def ShQs (K : PySem.W.Frag) (H : Hp) (vs : List V) (n k : Nat) : Prop := ∃ ds, DqAll K H vs ds ∧ PyData.showableAll ds = true ∧ PyData.leavesShortAll 70 ds = true ∧ PyData.bulkAll ds ≤ vs.length * (n + 1) ∧ PyData.depthAll ds ≤ k
section
variable {K : PySem.W.Frag} {H H' : Hp} {n k : Nat}
theorem ShQ.on {v : V} (kp : ∀ a o, H a = some o → (∀ ps, o ≠ .tbl ps) → H' a = some o) (h : ShQ K H v n k) : ShQ K H' v n k := by
  obtain ⟨d, q, r⟩ := h
  exact ⟨d, q.on kp, r⟩
theorem ShQ.mono {v : V} {n' k' : Nat} (h : ShQ K H v n k) (hn : n ≤ n') (hk : k ≤ k') : ShQ K H v n' k' := by
  obtain ⟨d, q, a, b, c, e⟩ := h
  exact ⟨d, q, a, b, Nat.le_trans c hn, Nat.le_trans e hk⟩
theorem shq_non : ShQ K H .non n k := ⟨_, .non, rfl, rfl, Nat.zero_le _, Nat.zero_le _⟩
theorem shq_bl (b : Bool) : ShQ K H (.bl b) n k := ⟨_, .bl b, rfl, rfl, Nat.zero_le _, Nat.zero_le _⟩
theorem shq_int {i : Int} (h : i.natAbs < 10 ^ 60) : ShQ K H (.int i) n k := ⟨_, .int i, decide_eq_true (int_shown5 h).2, decide_eq_true (int_shown5 h).1, Nat.zero_le _, Nat.zero_le _⟩
theorem shq_str {z : Str} (h : z.length ≤ n) (ok : PyData.strOk z = true) : ShQ K H (.str z) n k := by
  refine ⟨_, .str z, rfl, ?_, h, Nat.zero_le _⟩
  have ok' : z.cps.all (fun c => decide (c < 0x110000)) = true := ok
  rw [← Array.all_toList, List.all_eq_true] at ok'
  simp only [PyData.leavesShort, List.all_eq_true, decide_eq_true_eq]
  intro c hc
  have := of_decide_eq_true (ok' c hc)
  have e : (16 : Nat) ^ 8 = 4294967296 := by decide
  omega
theorem shqs_of : ∀ {vs : List V}, (∀ v ∈ vs, ShQ K H v n k) → ShQs K H vs n k
  | [], _ => ⟨[], .nil, rfl, rfl, by simp [PyData.bulkAll], Nat.zero_le _⟩
  | v :: vs, h => by
    obtain ⟨d, q, a, b, c, e⟩ := h v List.mem_cons_self
    obtain ⟨ds, q2, a2, b2, c2, e2⟩ := shqs_of fun x hx => h x (List.mem_cons_of_mem _ hx)
    refine ⟨d :: ds, .cons q q2, by simp [PyData.showableAll, a, a2], by simp [PyData.leavesShortAll, b, b2], ?_, ?_⟩
    · simp only [PyData.bulkAll, List.length_cons, Nat.succ_mul]
      omega
    · simp only [PyData.depthAll]
      exact Nat.max_le.mpr ⟨e, e2⟩
theorem shq_lst {a : Addr} {xs : List V} {m : Nat} (h : SqL K H a xs) (t : ∀ v ∈ xs, ShQ K H v n k) (l : xs.length * (n + 1) ≤ m) : ShQ K H (.ref a) m (k + 1) := by
  obtain ⟨ds, q, a1, b, c, e⟩ := shqs_of t
  exact ⟨_, .lst h q, by simpa only [PyData.showable] using a1, by simpa only [PyData.leavesShort] using b, by simp only [PyData.bulk]; omega, by simp only [PyData.depth]; omega⟩
theorem shq_tup {a : Addr} {xs : List V} {m : Nat} (h : SqT K H a xs) (t : ∀ v ∈ xs, ShQ K H v n k) (l : xs.length * (n + 1) ≤ m) : ShQ K H (.ref a) m (k + 1) := by
  obtain ⟨ds, q, a1, b, c, e⟩ := shqs_of t
  exact ⟨_, .tup h q, by simpa only [PyData.showable] using a1, by simpa only [PyData.leavesShort] using b, by simp only [PyData.bulk]; omega, by simp only [PyData.depth]; omega⟩
theorem shq_d0 {a : Addr} (h : H a = some (.dK [])) : ShQ K H (.ref a) n (k + 1) := ⟨_, .dct (D := []) h .nil rfl, rfl, rfl, Nat.zero_le _, by simp [PyData.depth, PyData.depthKv]⟩
theorem shq_d1 {a : Addr} {x : Str} {i : Int} (h : H a = some (.dK [(Sum.inr x, .int i)])) (hx : x.length ≤ 60) (ok : PyData.strOk x = true) (hi : i.natAbs < 10 ^ 60) (hn : 70 ≤ n) : ShQ K H (.ref a) n (k + 1) := by
  obtain ⟨d, q, a1, b, c, e⟩ := shq_str (K := K) (H := H) (n := 60) (k := 0) hx ok
  cases q
  have i1 := int_shown5 hi
  refine ⟨_, .dct (D := [(.str x, .int i)]) h (.cons (.int i) .nil) rfl, ?_, ?_, ?_, ?_⟩
  · simp [PyData.showable, PyData.showableKv, i1.2]
  · simp only [PyData.leavesShort, PyData.leavesShortKv, Bool.and_true] at b ⊢
    rw [Bool.and_eq_true]
    exact ⟨b, decide_eq_true i1.1⟩
  · simp only [PyData.bulk, PyData.bulkKv] at c ⊢
    omega
  · simp [PyData.depth, PyData.depthKv]
theorem ShQ.facts {v : V} (h : ShQ K H v n k) (hn : n ≤ 230000) : ∃ d, Dq K H v d ∧ d.showable = true ∧ d.depth ≤ k ∧ d.shown.length ≤ sizeLine := by
  obtain ⟨d, q, a, b, c, e⟩ := h
  refine ⟨d, q, a, e, ?_⟩
  have s := PyData.shown_le_bulk 70 (by decide) d b
  rw [sizeLine_eq]
  omega
end
/-! ### enumerate(t), t a tuple -/
namespace EnT
def itO (a : Addr) : Obj := { cls := .type "tuple_iterator", data := .fields #[.ref a, .int 0 0] }
def enO (j : Addr) : Obj := { cls := .type "enumerate", data := .fields #[.none, .bool false, .ref j, rawInt 0, .none, .none] }
set_option maxHeartbeats 1000000 in
theorem new_enumT (a : Addr) (us : Array Value) : Meets (Builtin.«enumerate.__new__» ⟨[.type "enumerate", .ref a], []⟩) (fun _ R z => z.heap.IsTuple a us ∧ R (.ok (.ret (.ref (z.heap.push (itO a)).objs.size))) { z with heap := (z.heap.push (itO a)).push (enO z.heap.objs.size) }) :=
  .of_wp fun prog w A R z hz => by
    obtain ⟨hp, gs, ds, tks, oz⟩ := z
    obtain ⟨ht, kk⟩ := hz
    have sube := sub_enumerate
    have it1 : ∀ {A' : Around} {E' : Value → Shared → Prop} {Q' : Value → Shared → Prop}, Q' (.ref hp.objs.size) ⟨hp.push (itO a), gs, ds, tks, oz⟩ → wpAny (model prog w) A' (pyIter (.ref a)) Q' E' ⟨hp, gs, ds, tks, oz⟩ := fun qq => wpAny_pyIter_tuple (s := ⟨hp, gs, ds, tks, oz⟩) ht qq
    wp_walk using it1
    refine wpAny_stack_any fun stk => wpAny_pure ?_
    split
    · rename_i cc _ _ _ _ _
      cases (cc == Value.type "enumerate") <;> (wp_walk using it1; exact ⟨_, rfl, kk⟩)
    · wp_walk using it1
      exact ⟨_, rfl, kk⟩
theorem call_enumT {prog : Program} {w : World} {A : Around} {E : Value → Shared → Prop} {z : Shared} {a : Addr} {us : Array Value} {Q : Value → Shared → Prop} (ht : z.heap.IsTuple a us)
    (q : ∀ hn, IsEnum hn (z.heap.objs.size + 1) z.heap.objs.size 0 .none → hn.IsTupleIter z.heap.objs.size a 0 → (∀ b ob, z.heap.get? b = some ob → hn.get? b = some ob) → Q (.ref (z.heap.objs.size + 1)) { z with heap := hn }) :
    wpAny (model prog w) A (call (.type "enumerate") [.ref a]) Q E z := by
  refine callType_new F.called_enumerate (by decide) (F.typeCall_enumerate_1 _) (F.newCall_enumerate_1 _) (fun ob => F.args_object_init_2 ob _) F.entry_enumerate_new (new_enumT a us) ⟨ht, ?_⟩
  have z1 : (z.heap.push (itO a)).objs.size = z.heap.objs.size + 1 := Heap.size_push ..
  have en : IsEnum ((z.heap.push (itO a)).push (enO z.heap.objs.size)) (z.heap.objs.size + 1) z.heap.objs.size 0 .none := by
    have g := Heap.get?_push_size (z.heap.push (itO a)) (o := enO z.heap.objs.size) rfl
    rw [z1] at g
    exact g
  show _ ∧ _
  rw [z1]
  exact ⟨⟨_, en, rfl⟩, q _ en ⟨_, Heap.get?_push_of_some _ (Heap.get?_push_size _ rfl), rfl, rfl⟩ fun b ob e => Heap.get?_push_of_some _ (Heap.get?_push_of_some _ e)⟩
/-- the tuple at a, each item in a new pair -/
def ItT (K : PySem.W.Frag) (a : Addr) : It :=
  ⟨fun i H => ∃ (xs : List V) (x : V), SqT K H a xs ∧ xs[i]? = some x, fun i H v H' => ∃ T x, v = .ref T ∧ H T = none ∧ H' = upd H T (.tup [.int (i : Nat), x]) ∧ ∀ xs, SqT K H a xs → xs[i]? = some x, fun i H => ∃ xs : List V, SqT K H a xs ∧ xs.length ≤ i⟩
theorem turnT {P : Program} {w : World} {K : PySem.W.Frag} {tl : List Expr} {kk : Nat} {tp : Pos} (a e j : Addr) (naj : a ≠ j) (nae : a ≠ e) (nej : e ≠ j) :
    Turn P w K (.Tuple tl kk tp) (ItT K a) [e, j] e (fun i hn => (∃ old, IsEnum hn e j ((i : Nat) : Int) old) ∧ hn.IsTupleIter j a i) where
  mem := List.mem_cons_self
  obj := fun i hn st b hb => by
    obtain ⟨⟨old, he⟩, ob, ho, hc, hd⟩ := st
    simp only [List.mem_cons, List.not_mem_nil, or_false] at hb
    rcases hb with rfl | rfl
    · exact ⟨_, he, fun v q => nomatch q⟩
    · exact ⟨ob, ho, fun v q => by rw [hd] at q; cases q⟩
  keep := fun i hn hm st k => by
    obtain ⟨⟨old, he⟩, ht⟩ := st
    exact ⟨⟨old, k e List.mem_cons_self _ he⟩, ht.at fun ob q => k j (by simp) ob q⟩
  item := by
    intro X eP ew eK hc i pins z σ H E I fpo st go
    subst eP ew eK
    obtain ⟨⟨old, he⟩, hit⟩ := st
    obtain ⟨xs, x, hq, hx⟩ := go
    obtain ⟨us, rv, pt, _⟩ := I.tuple hq
    obtain ⟨u, hu, ru⟩ := rv.get hx
    have e_lt : e < z.heap.objs.size := Heap.lt_size he
    have j_lt : j < z.heap.objs.size := by
      obtain ⟨_, ho, _⟩ := hit
      exact Heap.lt_size ho
    have li : i < us.toArray.size := by
      have := (List.getElem?_eq_some_iff.mp hu).1
      simpa using this
    have isT : z.heap.IsTuple a us.toArray := pt
    refine wpAny_pyNext_enum_itemD (n := us.toArray.size) (Draws.tuple (show X.A.in1.handled = none from I.ok.hd hc) j a naj us.toArray) he ⟨hit, isT⟩ li nej (by simp only [List.mem_cons, List.not_mem_nil, or_false]; exact fun q => q.elim nej fun q => nae q.symm) fun x' hn tk px out st' hT _ kp => ?_
    have ex : x' = u := by
      have px' : us[i]? = some x' := by simpa using px
      exact Option.some.inj (px'.symm.trans hu)
    subst ex
    refine ⟨_, rfl, wpAny_letOwnedTupleGo_enum (s := { z with heap := hn, toks := tk + 1 }) out fun hm he' sb => ?_⟩
    have hT2 : hm.get? z.heap.objs.size = some { cls := .type "tuple", data := .seq #[.int i tk, x'] } := (sb.2 _ (Nat.ne_of_gt e_lt)).trans hT
    have nu : ObjOk X.prog X.w (upd H z.heap.objs.size (.tup [.int (i : Nat), x])) hm z.heap.objs.size (.tup [.int (i : Nat), x]) := ⟨(by show 2 ≤ sizeLine; decide), [.int i tk, x'], .cons ⟨_, rfl⟩ (.cons ru .nil), ⟨_, hT2, rfl, _, rfl⟩⟩
    have I1 : Inv X pins σ (upd H z.heap.objs.size (.tup [.int (i : Nat), x])) { z with heap := hm, toks := tk + 1 } :=
      I.turnedNew (ch := [e, j]) (fun b ob hb q => (sb.2 b fun y => hb (by simp [y])).trans (kp b ob (fun y => hb (by simp [y])) (fun y => hb (by simp [y])) q)) fpo (Nat.le_refl _) nu
    have e1 : ((i + 1 : Nat) : Int) = (i : Int) + 1 := Int.natCast_succ i
    refine ⟨.ref z.heap.objs.size, _, I1, rfl, ⟨_, x, rfl, I.hok.fresh (Nat.le_refl _), rfl, fun ys hy => ?_⟩, ⟨⟨x', by rw [e1]; exact he'⟩, st'.1.at fun ob q => (sb.2 j nej.symm).trans q⟩, fun b hb => ?_⟩
    · rw [I.tuple_inj hy hq]
      exact hx
    · have lb : b < z.heap.objs.size := by
        simp only [List.mem_cons, List.not_mem_nil, or_false] at hb
        rcases hb with rfl | rfl
        · exact e_lt
        · exact j_lt
      rw [upd_ne (Nat.ne_of_lt lb)]
      exact (fpo b hb).1
  done := by
    intro X eP ew eK hc i pins z σ H E I fpo st go
    subst eP ew eK
    obtain ⟨⟨old, he⟩, hit⟩ := st
    obtain ⟨xs, hq, hx⟩ := go
    obtain ⟨us, rv, pt, _⟩ := I.tuple hq
    have isT : z.heap.IsTuple a us.toArray := pt
    have ll := rv.length
    obtain ⟨p0, p1, p2, p3, p4, p5⟩ := fpo j (by simp)
    have tyE : z.TypeIs (.ref e) "enumerate" := ⟨_, he, rfl⟩
    unfold pyNext
    refine wpAny_bind (wpAny_attempt (wpAny_callSpecial?_slot (name := Str.ofString "__next__") tyE F.slot_enumerate_next (wpAny_call_entry F.slot_enumerate_next tyE F.entry_enumerate_next ?_ (F.args_enumerate_next_1 _))))
    show wpAny _ _ (field (.ref e) 2 >>= fun _ => _) _ _ _
    refine wpAny_bind (wpAny_field he rfl (x := .ref j) rfl (wpAny_bind (wpAny_nextOf_tuple_end (I.ok.hd hc) hit isT (by simp; omega) fun hn y eb hy => ?_)))
    obtain ⟨ob, ho, hcl⟩ := hy
    exact wpAny_bind (wpAny_isInstance (T := "StopIteration") (b := true) ⟨ob, ho, hcl⟩ isSubtype_stop (wpAny_pure ⟨rfl, I.turned (t' := z.toks) (fun b ob hb q => eb b ob hb q) p0 p1 p3 p4 p5⟩))
  self := fun A i z Q E st q => by
    obtain ⟨⟨_, he⟩, _⟩ := st
    exact wpAny_pyIter_enum he q
def iEnT (K : PySem.W.Frag) (ta : TA) : TI := fun σ H R => ta σ H fun vs H1 => ∃ a xs, vs = [.ref a] ∧ SqT K H1 a xs ∧ R (ItT K a) H1
end EnT
theorem pi_enumT {X : Cx} {e : Expr} {ta : TA} {p pos tpos : Pos} {tl : List Expr} {kk : Nat} (hg : Gl X "enumerate") (hm : X.mg "enumerate" = none) (ha : PA X [e] ta) (hs : starEach [e] X.env = [(false, eval e X.env)] := by rfl) :
    PI X (.Tuple tl kk tpos) (.Call (.Name "enumerate" p) [e] [] pos) (EnT.iEnT X.K ta) := by
  constructor
  intro pins z σ H R I h
  refine Call_ (ld_blt I hg hm boot_enumerate (PyProof.Rows.callWith_type1 (thn (ha.run pos pins z σ H _ I h) ?_) hs rfl))
  rintro us z1 ⟨vs, H1, I1, r1, a, xs, rfl, hq, q⟩
  obtain rfl := Vals.ref1 r1
  obtain ⟨its, rv, pt, _⟩ := I1.tuple hq
  have isT : z1.heap.IsTuple a its.toArray := pt
  have alt : a < z1.heap.objs.size := by
    obtain ⟨_, ho, _⟩ := isT
    exact Heap.lt_size ho
  refine EnT.call_enumT isT fun hn he hit kp => wpAny_pyIter_enum he ?_
  have I2 : Inv X pins σ H1 { z1 with heap := hn } := I1.kept (t' := z1.toks) kp
  refine ⟨z1.heap.objs.size + 1, [z1.heap.objs.size + 1, z1.heap.objs.size], _, _, H1, rfl, I2, EnT.turnT a (z1.heap.objs.size + 1) z1.heap.objs.size (Nat.ne_of_lt alt) (Nat.ne_of_lt (Nat.lt_succ_of_lt alt)) (Nat.succ_ne_self _), ⟨⟨.none, he⟩, hit⟩, fun b hb => ?_, q⟩
  have le : z1.heap.objs.size ≤ b := by
    simp only [List.mem_cons, List.not_mem_nil, or_false] at hb
    rcases hb with rfl | rfl
    · exact Nat.le_succ _
    · exact Nat.le_refl _
  exact I1.fpOk le (I1.hok.fresh le)
theorem walk_enumT {K : PySem.W.Frag} {a : Addr} {xs : List V} : Walk (EnT.ItT K a) xs.length (fun H => SqT K H a xs) (YPair (fun i => some (.int (i : Nat))) (fun i => xs[i]?)) := by
  refine ⟨fun i _ hi q => ⟨xs, xs[i], q, List.getElem?_eq_getElem hi⟩, fun _ q => ⟨xs, q, Nat.le_refl _⟩, fun i H v H' _ q y => ?_⟩
  obtain ⟨T, x, y1, y2, y3, y4⟩ := y
  exact ⟨T, _, x, y1, y2, y3, rfl, y4 xs q⟩
/-! ### what the law reads off the pieces -/
abbrev PSt := List R4 × Option Str × Int
def p0 (cn : List Str) (z : Option Str × Int) : Option Str → Option Str × Int
  | none => (none, 0)
  | some a => if a ∈ cn then (some a, 0) else z
def pEm (cn : List Str) (g : Str) (t : Int) : Option Str → Option Str → List R4
  | none, _ => []
  | some _, none => []
  | some a, some b => if b ∈ cn then [⟨g, a, b, t⟩] else []
def unB (un ns : List Str) : Bool := ns.any fun n => decide (n ∈ un)
def fU (b : Bool) (f : Option Str) : Option Str := if b = true then none else f
def pStep (cn un : List Str) (g : Str) (z : PSt) (x : Row) : PSt :=
  (z.1 ++ pEm cn g ((p0 cn z.2 x.op).2 + x.bal) (fU (unB un x.ins) (p0 cn z.2 x.op).1) x.cl, fU (unB un x.ins) (p0 cn z.2 x.op).1, (p0 cn z.2 x.op).2 + x.bal)
theorem pEm_n (cn : List Str) (g : Str) (t : Int) (f : Option Str) : pEm cn g t f none = [] := by cases f <;> rfl
def emE (g : Str) (s : Option (Str × Int)) : Ent → List R4
  | .count n _ _ _ k _ => (s.map fun x => (⟨g, x.1, n, k - x.2⟩ : R4)).toList
  | _ => []
def emF (g t : Str) (s : Option (Str × Int)) : List Ent → List R4
  | [] => []
  | e :: r => emE g s e ++ emF g t (bkIn t s e) r
/-- how the law's state stands to the books -/
def PJ (cn un : List Str) (z : Option Str × Int) (t : Str) (op : Option Ent) (ins : List Ent) (s : Option (Str × Int)) : Prop :=
  fU (unB un (ins.map Ent.name)) (p0 cn z (op.map Ent.name)).1 = s.map (·.1) ∧ ∀ x, s = some x → (p0 cn z (op.map Ent.name)).2 - cntO op - (ins.map (Ent.chg t)).sum = - x.2
theorem mark_look {e : Ent} (h : e.mark = true) (w : e.word ≠ "count") : ∃ n m g p, e = .look n m g p := by
  cases e with
  | look n m g p => exact ⟨n, m, g, p, rfl⟩
  | count n m g p k hd => exact absurd rfl w
  | _ => exact nomatch h
theorem cut_fold {cn un : List Str} {g t : Str} : ∀ {L : List Ent} {rows : List Row} {op : Option Ent} {ins : List Ent} {z0 : PSt} {s : Option (Str × Int)},
    (∀ e ∈ L, (e.name ∈ cn ↔ e.word = "count") ∧ (e.name ∈ un ↔ e.word = "some")) → PJ cn un (rows.foldl (pStep cn un g) z0).2 t op ins s →
    ((cutRows t L rows op ins).foldl (pStep cn un g) z0).1 = (rows.foldl (pStep cn un g) z0).1 ++ emF g t s L
  | [], rows, op, ins, z0, s, _, j => by
    have e1 : cutRows t [] rows op ins = rows ++ [mkRow t rows.length op none ins] := rfl
    rw [e1, List.foldl_append, List.foldl_cons, List.foldl_nil]
    show _ ++ pEm _ _ _ _ none = _ ++ []
    rw [pEm_n]
  | e :: r, rows, op, ins, z0, s, hL, j => by
    obtain ⟨w1, w2⟩ := hL e List.mem_cons_self
    have hr : ∀ e' ∈ r, (e'.name ∈ cn ↔ e'.word = "count") ∧ (e'.name ∈ un ↔ e'.word = "some") := fun e' h => hL e' (List.mem_cons_of_mem _ h)
    generalize hz : rows.foldl (pStep cn un g) z0 = z at j ⊢
    obtain ⟨j1, j2⟩ := j
    by_cases mk : e.mark = true
    · rw [show cutRows t (e :: r) rows op ins = cutRows t r (rows ++ [mkRow t rows.length op (some e) ins]) (some e) [] from if_pos mk]
      have hx : ((rows ++ [mkRow t rows.length op (some e) ins]).foldl (pStep cn un g) z0) = pStep cn un g z (mkRow t rows.length op (some e) ins) := by
        rw [List.foldl_append, hz]
        rfl
      have ps : pStep cn un g z (mkRow t rows.length op (some e) ins) = (z.1 ++ pEm cn g ((p0 cn z.2 (op.map Ent.name)).2 + (mkRow t rows.length op (some e) ins).bal) (s.map (·.1)) (some e.name), s.map (·.1), (p0 cn z.2 (op.map Ent.name)).2 + (mkRow t rows.length op (some e) ins).bal) := by
        rw [← j1]
        rfl
      rw [ps] at hx
      generalize p0 cn z.2 (op.map Ent.name) = s0 at hx j2
      have bal : (mkRow t rows.length op (some e) ins).bal = e.cnt - cntO op - (ins.map (Ent.chg t)).sum := rfl
      generalize (mkRow t rows.length op (some e) ins).bal = bl at hx bal
      by_cases wc : e.word = "count"
      · have nc := w1.mpr wc
        obtain ⟨nm, mo, gg, p, k, hd, rfl⟩ := count_ent wc
        have nc : nm ∈ cn := nc
        have bal : bl = k - cntO op - (ins.map (Ent.chg t)).sum := bal
        have j' : PJ cn un ((rows ++ [mkRow t rows.length op (some (.count nm mo gg p k hd)) ins]).foldl (pStep cn un g) z0).2 t (some (.count nm mo gg p k hd)) [] (bkIn t s (.count nm mo gg p k hd)) := by
          refine ⟨?_, fun x hx => ?_⟩
          · show (if nm ∈ cn then ((some nm, 0) : Option Str × Int) else _).1 = some nm
            rw [if_pos nc]
          · obtain rfl := Option.some.inj hx
            show (if nm ∈ cn then ((some nm, 0) : Option Str × Int) else _).2 - k - 0 = -k
            rw [if_pos nc]
            show (0 : Int) - k - 0 = -k
            omega
        rw [cut_fold hr j', hx]
        show (z.1 ++ _) ++ _ = z.1 ++ (_ ++ _)
        rw [List.append_assoc]
        refine congrArg _ (congrArg (· ++ _) ?_)
        cases s with
        | none => rfl
        | some x =>
          show (if nm ∈ cn then [(⟨g, x.1, nm, s0.2 + bl⟩ : R4)] else []) = [⟨g, x.1, nm, k - x.2⟩]
          have := j2 x rfl
          rw [if_pos nc, show s0.2 + bl = k - x.2 by omega]
      · obtain ⟨nm, mo, gg, p, rfl⟩ := mark_look mk wc
        have nc : nm ∉ cn := fun h => wc (w1.mp h)
        have bal : bl = 0 - cntO op - (ins.map (Ent.chg t)).sum := bal
        have sb : bkIn t s (.look nm mo gg p) = s := by
          show (s.map fun x => (x.1, x.2 + 0)) = s
          cases s with
          | none => rfl
          | some x => show some (x.1, x.2 + 0) = _; rw [Int.add_zero]
        have em0 : pEm cn g (s0.2 + bl) (s.map (·.1)) (some nm) = [] := by
          cases s with
          | none => rfl
          | some x => exact if_neg nc
        have j' : PJ cn un ((rows ++ [mkRow t rows.length op (some (.look nm mo gg p)) ins]).foldl (pStep cn un g) z0).2 t (some (.look nm mo gg p)) [] (bkIn t s (.look nm mo gg p)) := by
          rw [hx, sb]
          refine ⟨?_, fun x hx' => ?_⟩
          · show (if nm ∈ cn then ((some nm, 0) : Option Str × Int) else _).1 = _
            rw [if_neg nc]
          · show (if nm ∈ cn then ((some nm, 0) : Option Str × Int) else _).2 - 0 - 0 = _
            rw [if_neg nc]
            show s0.2 + bl - 0 - 0 = _
            have := j2 x hx'
            omega
        rw [cut_fold hr j', hx, sb]
        show (z.1 ++ pEm cn g (s0.2 + bl) (s.map (·.1)) (some nm)) ++ _ = z.1 ++ ([] ++ emF g t (bkIn t s (.look nm mo gg p)) r)
        rw [em0, List.append_nil, List.nil_append, sb]
    · rw [show cutRows t (e :: r) rows op ins = cutRows t r rows op (ins ++ [e]) from if_neg mk]
      have nc : e.word ≠ "count" := fun z => mk (by obtain ⟨nm, mo, gg, p, k, hd, rfl⟩ := count_ent z; rfl)
      have em0 : emE g s e = [] := by
        cases e with
        | count n m g' p k hd => exact absurd rfl nc
        | _ => rfl
      have anyA : unB un ((ins ++ [e]).map Ent.name) = (unB un (ins.map Ent.name) || decide (e.name ∈ un)) := by
        unfold unB
        rw [List.map_append, List.any_append]
        show (_ || (decide (e.name ∈ un) || false)) = _
        rw [Bool.or_false]
      have sumA : ((ins ++ [e]).map (Ent.chg t)).sum = (ins.map (Ent.chg t)).sum + e.chg t := by
        rw [List.map_append, List.sum_append]
        show _ + (e.chg t + 0) = _
        rw [Int.add_zero]
      have j' : PJ cn un (rows.foldl (pStep cn un g) z0).2 t op (ins ++ [e]) (bkIn t s e) := by
        rw [hz]
        unfold PJ
        rw [anyA, sumA]
        by_cases ws : e.word = "some"
        · rw [decide_eq_true (w2.mpr ws), Bool.or_true]
          have sb : bkIn t s e = none := by
            cases e with
            | some_ n m g' o tt => rfl
            | come n m g' p k rr => exact absurd ws (show ("come" : Str) ≠ "some" by decide +kernel)
            | go n m g' p k => exact absurd ws (show ("go" : Str) ≠ "some" by decide +kernel)
            | move n m g' o tt k => exact absurd ws (show ("move" : Str) ≠ "some" by decide +kernel)
            | swap n m o tt => exact absurd ws (show ("swap" : Str) ≠ "some" by decide +kernel)
            | count n m g' p k hd => exact absurd rfl nc
            | look n m g' p => exact absurd ws (show ("look" : Str) ≠ "some" by decide +kernel)
          rw [sb]
          exact ⟨rfl, fun x h => nomatch h⟩
        · have nu : ¬ e.name ∈ un := fun h => ws (w2.mp h)
          rw [decide_eq_false nu, Bool.or_false, bkIn_else nc ws]
          refine ⟨?_, fun x hx => ?_⟩
          · rw [Option.map_map]
            exact j1
          · obtain ⟨y, hy, rfl⟩ := Option.map_eq_some_iff.mp hx
            have := j2 y hy
            show _ = - (y.2 + e.chg t)
            omega
      rw [cut_fold hr j', hz]
      show _ = z.1 ++ (emE g s e ++ emF g t (bkIn t s e) r)
      rw [em0, List.nil_append]
/-! all tracks, all goods -/
def emW (g t : Str) (s : Option (Str × Int)) : List Ent → List R4
  | [] => []
  | e :: r => (if e.goodV = .str g ∧ t ∈ e.places then emE g s e else []) ++ emW g t (bkStep g t s e) r
theorem emF_W {g t : Str} : ∀ {A : List Ent} {s : Option (Str × Int)}, emF g t s ((A.filter fun e => decide (e.goodV = .str g)).filter fun e => decide (t ∈ e.places)) = emW g t s A
  | [], _ => rfl
  | e :: r, s => by
    unfold emW bkStep
    by_cases z1 : e.goodV = .str g
    · rw [List.filter_cons_of_pos (p := fun e : Ent => decide (e.goodV = .str g)) (decide_eq_true z1)]
      by_cases z2 : t ∈ e.places
      · rw [List.filter_cons_of_pos (p := fun e : Ent => decide (t ∈ e.places)) (decide_eq_true z2), if_pos ⟨z1, z2⟩, if_pos ⟨z1, z2⟩]
        show emE g s e ++ emF g t (bkIn t s e) _ = _
        rw [emF_W]
      · rw [List.filter_cons_of_neg (p := fun e : Ent => decide (t ∈ e.places)) (by rw [decide_eq_false z2]; decide), if_neg fun q => z2 q.2, if_neg fun q => z2 q.2, emF_W, List.nil_append]
    · rw [List.filter_cons_of_neg (p := fun e : Ent => decide (e.goodV = .str g)) (by rw [decide_eq_false z1]; decide), if_neg fun q => z1 q.1, if_neg fun q => z1 q.1, emF_W, List.nil_append]
theorem fold_tracks {cn un : List Str} {g : Str} {f : Str → List Ent} (h : ∀ t, ∀ e ∈ f t, (e.name ∈ cn ↔ e.word = "count") ∧ (e.name ∈ un ↔ e.word = "some")) : ∀ (P : List Str) (z : PSt),
    ((P.flatMap fun t => cutRows t (f t) [] none []).foldl (pStep cn un g) z).1 = z.1 ++ P.flatMap fun t => emF g t none (f t)
  | [], z => by
    rw [List.flatMap_nil, List.flatMap_nil, List.append_nil]
    rfl
  | t :: P, z => by
    rw [List.flatMap_cons, List.flatMap_cons, List.foldl_append, fold_tracks h P, cut_fold (rows := []) (s := none) (h t) ⟨rfl, fun x q => (nomatch q)⟩, List.append_assoc]
    rfl
theorem fm_app {α β : Type} (f h : α → List β) : ∀ L : List α, (L.flatMap fun a => f a ++ h a).Perm (L.flatMap f ++ L.flatMap h)
  | [] => .nil
  | a :: r => by
    rw [List.flatMap_cons, List.flatMap_cons, List.flatMap_cons, List.append_assoc, List.append_assoc]
    refine List.Perm.append_left _ (((fm_app f h r).append_left (h a)).trans ?_)
    rw [← List.append_assoc, ← List.append_assoc]
    exact List.perm_append_comm.append_right _
theorem fm_perm {α β : Type} {f h : α → List β} : ∀ {L : List α}, (∀ a ∈ L, (f a).Perm (h a)) → (L.flatMap f).Perm (L.flatMap h)
  | [], _ => .nil
  | a :: r, p => by
    rw [List.flatMap_cons, List.flatMap_cons]
    exact (p a List.mem_cons_self).append (fm_perm fun b hb => p b (List.mem_cons_of_mem _ hb))
theorem fm_one {α β : Type} [DecidableEq α] {c : List β} {a : α} : ∀ {L : List α}, L.Nodup → a ∈ L → L.flatMap (fun x => if x = a then c else []) = c
  | x :: r, nd, h => by
    obtain ⟨n1, n2⟩ := List.nodup_cons.mp nd
    rw [List.flatMap_cons]
    by_cases z : x = a
    · subst z
      rw [if_pos rfl]
      have : r.flatMap (fun y => if y = x then c else []) = [] := List.flatMap_eq_nil_iff.mpr fun y hy => if_neg fun (q : y = x) => n1 (q ▸ hy)
      rw [this, List.append_nil]
    · rw [if_neg z, List.nil_append, fm_one n2 ((List.mem_cons.mp h).resolve_left fun q => z q.symm)]
def dfW (A0 : List Ent) : List Ent → List R4
  | [] => []
  | e :: r => (dRow A0 e).toList ++ dfW (A0 ++ [e]) r
theorem emW_perm {P G : List Str} (np : P.Nodup) (ng : G.Nodup) : ∀ {A A0 : List Ent}, (∀ e ∈ A, ∀ n m g p k hd, e = .count n m g p k hd → g ∈ G ∧ p ∈ P) → (G.flatMap fun g => P.flatMap fun t => emW g t (lastC A0 g t) A).Perm (dfW A0 A)
  | [], A0, _ => by
    have : (G.flatMap fun g => P.flatMap fun t => emW g t (lastC A0 g t) []) = [] := List.flatMap_eq_nil_iff.mpr fun g _ => List.flatMap_eq_nil_iff.mpr fun t _ => rfl
    rw [this]
    exact .nil
  | e :: r, A0, h => by
    have ih := emW_perm np ng (A := r) (A0 := A0 ++ [e]) fun e' he' => h e' (List.mem_cons_of_mem _ he')
    have s1 : (G.flatMap fun g => P.flatMap fun t => emW g t (lastC A0 g t) (e :: r)) = G.flatMap fun g => P.flatMap fun t => (if e.goodV = .str g ∧ t ∈ e.places then emE g (lastC A0 g t) e else []) ++ emW g t (lastC (A0 ++ [e]) g t) r := by
      refine congrArg (G.flatMap ·) (funext fun g => congrArg (P.flatMap ·) (funext fun t => ?_))
      rw [lastC_snoc]
      rfl
    rw [s1]
    refine (fm_perm (L := G) fun g _ => fm_app (fun t => if e.goodV = .str g ∧ t ∈ e.places then emE g (lastC A0 g t) e else []) (fun t => emW g t (lastC (A0 ++ [e]) g t) r) P).trans ?_
    refine (fm_app (fun g => P.flatMap fun t => if e.goodV = .str g ∧ t ∈ e.places then emE g (lastC A0 g t) e else []) (fun g => P.flatMap fun t => emW g t (lastC (A0 ++ [e]) g t) r) G).trans ?_
    refine List.Perm.append ?_ ih
    cases e with
    | count n m g' p k hd =>
      obtain ⟨hg, hp⟩ := h _ List.mem_cons_self n m g' p k hd rfl
      have e1 : (fun g => P.flatMap fun t => if (Ent.count n m g' p k hd).goodV = .str g ∧ t ∈ (Ent.count n m g' p k hd).places then emE g (lastC A0 g t) (.count n m g' p k hd) else []) = fun g => if g = g' then (dRow A0 (.count n m g' p k hd)).toList else [] := by
        funext g
        by_cases z : g = g'
        · subst z
          rw [if_pos rfl]
          have e2 : (fun t => if (Ent.count n m g p k hd).goodV = .str g ∧ t ∈ (Ent.count n m g p k hd).places then emE g (lastC A0 g t) (.count n m g p k hd) else []) = fun t => if t = p then (dRow A0 (.count n m g p k hd)).toList else [] := by
            funext t
            by_cases y : t = p
            · subst y
              rw [if_pos rfl, if_pos ⟨rfl, List.mem_singleton.mpr rfl⟩]
              rfl
            · rw [if_neg y, if_neg fun q => y (List.mem_singleton.mp q.2)]
          rw [e2, fm_one np hp]
        · rw [if_neg z]
          exact List.flatMap_eq_nil_iff.mpr fun t _ => if_neg fun q => z (V.str.inj q.1).symm
      rw [e1, fm_one ng hg]
    | _ =>
      exact .of_eq (List.flatMap_eq_nil_iff.mpr fun g _ => List.flatMap_eq_nil_iff.mpr fun t _ => ite_self _)
theorem dfW_diff {es : List Ent} : ∀ {n : Nat}, n ≤ es.length → diffN es es.length = diffN es (es.length - n) ++ dfW ((along es).take (es.length - n)) ((along es).drop (es.length - n))
  | 0, _ => by
    have : (along es).drop es.length = [] := List.drop_eq_nil_iff.mpr (by rw [along_len]; exact Nat.le_refl _)
    rw [Nat.sub_zero, this]
    exact (List.append_nil _).symm
  | n + 1, h => by
    have ih := dfW_diff (es := es) (n := n) (by omega)
    have ei : es.length - n = (es.length - (n + 1)) + 1 := by omega
    have lt0 : es.length - (n + 1) < es.length := by omega
    generalize es.length - (n + 1) = i at ei lt0 ⊢
    rw [ei] at ih
    have hi : (along es)[i]? = some (alg es i) := by
      have lt : i < (along es).length := by rw [along_len]; exact lt0
      have := List.getElem?_eq_getElem lt
      rw [this, alg_at this]
    rw [ih, diffN_snoc, List.append_assoc]
    refine congrArg _ ?_
    have lt := (List.getElem?_eq_some_iff.mp hi).1
    rw [List.drop_eq_getElem_cons lt, show (along es)[i] = alg es i from (List.getElem?_eq_some_iff.mp hi).2, take_snoc hi]
    rfl
/-- the rows by pieces, all goods, are the differences -/
def cntN (es : List Ent) : List Str := (es.filter fun e => decide (e.word = ("count" : Str))).map Ent.name
def somN (es : List Ent) : List Str := (es.filter fun e => decide (e.word = ("some" : Str))).map Ent.name
def byPM (P : List Str) (es : List Ent) (g : Str) : List R4 := ((piecesM P es g).foldl (pStep (cntN es) (somN es) g) ([], none, 0)).1
theorem nd_idx {α : Type} {l : List α} (nd : l.Nodup) {i j : Nat} {a : α} (h1 : l[i]? = some a) (h2 : l[j]? = some a) : i = j := by
  obtain ⟨l1, q1⟩ := List.getElem?_eq_some_iff.mp h1
  obtain ⟨l2, q2⟩ := List.getElem?_eq_some_iff.mp h2
  rcases Nat.lt_trichotomy i j with lt | eq | gt
  · exact absurd (q1.trans q2.symm) (List.pairwise_iff_getElem.mp nd i j l1 l2 lt)
  · exact eq
  · exact absurd (q2.trans q1.symm) (List.pairwise_iff_getElem.mp nd j i l2 l1 gt)
theorem nm_in {es : List Ent} (nd : (es.map Ent.name).Nodup) {w : Str} {e : Ent} (h : e ∈ es) : e.name ∈ (es.filter fun e => decide (e.word = w)).map Ent.name ↔ e.word = w := by
  constructor
  · intro hm
    obtain ⟨x, hx, e1⟩ := List.mem_map.mp hm
    obtain ⟨h1, h2⟩ := List.mem_filter.mp hx
    obtain ⟨i, hi⟩ := List.getElem?_of_mem h1
    obtain ⟨j, hj⟩ := List.getElem?_of_mem h
    have : i = j := nd_idx nd (by rw [List.getElem?_map, hi]; exact congrArg some e1) (by rw [List.getElem?_map, hj]; rfl)
    subst this
    rw [← Option.some.inj (hi.symm.trans hj)]
    exact of_decide_eq_true h2
  · exact fun hw => List.mem_map.mpr ⟨e, List.mem_filter.mpr ⟨h, decide_eq_true hw⟩, rfl⟩
theorem mp_word (e : Ent) (τ : Str → Str) : (e.mp τ).word = e.word ∧ (e.mp τ).name = e.name := by cases e <;> exact ⟨rfl, rfl⟩
theorem along_memI {es : List Ent} {e' : Ent} (h : e' ∈ along es) : ∃ e ∈ es, ∃ i, es[i]? = some e ∧ e' = e.mp (tau (es.take i)) := by
  obtain ⟨i, hi⟩ := List.mem_iff_getElem?.mp h
  have lt : i < es.length := by
    have := (List.getElem?_eq_some_iff.mp hi).1
    rw [along_len] at this
    exact this
  have q := along_at (List.getElem?_eq_getElem lt)
  rw [hi] at q
  exact ⟨es[i], List.getElem_mem lt, i, List.getElem?_eq_getElem lt, Option.some.inj q⟩
theorem byPM_eq {P G : List Str} {es : List Ent} {m : Nat} (gd : Good P G es m) (g : Str) : byPM P es g = P.flatMap fun t => emW g t none (along es) := by
  unfold byPM piecesM
  rw [fold_tracks (f := fun t => onTrack t (toldOf g es)) fun t e he => ?_]
  · show [] ++ _ = _
    rw [List.nil_append]
    refine congrArg (P.flatMap ·) (funext fun t => ?_)
    unfold onTrack toldOf
    exact emF_W
  · unfold onTrack toldOf at he
    obtain ⟨e0, h0, i, _, rfl⟩ := along_memI (List.mem_filter.mp (List.mem_filter.mp he).1).1
    obtain ⟨w1, w2⟩ := mp_word e0 (tau (es.take i))
    rw [w1, w2]
    exact ⟨nm_in gd.nms h0, nm_in gd.nms h0⟩
theorem byP_perm {P G : List Str} {es : List Ent} {m : Nat} (gd : Good P G es m) : (G.flatMap (byPM P es)).Perm (diffN es es.length) := by
  rw [show byPM P es = fun g => P.flatMap fun t => emW g t none (along es) from funext (byPM_eq gd)]
  have p := emW_perm (P := P) (G := G) gd.nd gd.gd (A := along es) (A0 := []) fun e he n m' g p k hd ee => by
    obtain ⟨e0, h0, i, hi, rfl⟩ := along_memI he
    obtain ⟨_, _, _, HL, _, frm⟩ := gd.ents e0 h0
    cases e0 with
    | count n0 m0 g0 p0 k0 hd0 =>
      obtain ⟨f1, f2, _⟩ := frm
      have e1 : Ent.count n0 m0 g0 (tau (es.take i) p0) k0 hd0 = .count n m' g p k hd := ee
      injection e1 with _ _ e3 e4
      rw [← e3, ← e4]
      exact ⟨f1, (in_n gd.inn i (Nat.le_of_lt (List.getElem?_eq_some_iff.mp hi).1) p0 f2).1⟩
    | _ => exact nomatch ee
  have d := dfW_diff (es := es) (n := es.length) (Nat.le_refl _)
  rw [Nat.sub_self] at d
  have d : diffN es es.length = dfW [] (along es) := d
  rw [d]
  exact p
/-! ### _law_after -/
theorem in_ns {a : Str} {ns : List Str} : inV (.str a) (ns.map V.str) = decide (a ∈ ns) := by
  unfold inV
  rw [List.any_map, Bool.eq_iff_iff, List.any_eq_true, decide_eq_true_eq]
  constructor
  · rintro ⟨b, hb, e⟩
    have : b = a := by simpa [eqV] using e
    exact this ▸ hb
  · exact fun h => ⟨a, h, by simp [eqV]⟩
def kvE (P : List Str) (F : Str → V) : List (Key × V) := P.map fun p => ((Sum.inr p : Key), F p)
theorem kvE_put {P : List Str} {F : Str → V} {p : Str} (h : p ∈ P) (v : V) : putK (kvE P F) (Sum.inr p) v = kvE P fun z => if z = p then v else F z := by
  have a : ((kvE P F).any fun kv => decide (kv.1 = (Sum.inr p : Key))) = true := List.any_eq_true.mpr ⟨_, List.mem_map.mpr ⟨p, h, rfl⟩, decide_eq_true rfl⟩
  unfold putK
  rw [if_pos a]
  unfold kvE
  rw [List.map_map]
  refine List.map_congr_left fun z _ => ?_
  show (if (Sum.inr z : Key) = Sum.inr p then ((Sum.inr z : Key), v) else ((Sum.inr z : Key), F z)) = ((Sum.inr z : Key), if z = p then v else F z)
  by_cases e : z = p
  · rw [if_pos (congrArg Sum.inr e), if_pos e]
  · rw [if_neg fun q => e (Sum.inr.inj q), if_neg e]
theorem kvE_get {F : Str → V} {p : Str} : ∀ {P : List Str}, p ∈ P → valV (kvE P F) (Sum.inr p) = some (F p)
  | q :: r, h => by
    show valV (((Sum.inr q : Key), F q) :: kvE r F) _ = _
    by_cases e : q = p
    · rw [valV_pos (congrArg Sum.inr e), e]
    · rw [valV_neg fun z => e (Sum.inr.inj z)]
      exact kvE_get ((List.mem_cons.mp h).resolve_left fun z => e z.symm)
theorem kvE_congr {P : List Str} {F F' : Str → V} (h : ∀ p ∈ P, F p = F' p) : kvE P F = kvE P F' := List.map_congr_left fun p hp => by rw [h p hp]
theorem kvE_len {P : List Str} {F : Str → V} : (kvE P F).length = P.length := List.length_map _
def chV : V → V → V
  | .int x, .int y => .int (x + y)
  | _, _ => .non
def csN (n : Nat) : Ent → List (Str × V)
  | .come _ _ _ q k _ => if 1 ≤ n then [(q, .int k)] else []
  | .go _ _ _ q k => if 1 ≤ n then [(q, .int (0 - k))] else []
  | .move _ _ _ o t k => if 2 ≤ n then [(o, .int (0 - k)), (t, .int k)] else []
  | .some_ _ _ _ o t => if 3 ≤ n then ([o, t].filter fun x : Str => decide (x ≠ "")).map fun x => (x, V.non) else []
  | _ => []
def addC (F0 : Str → V) (cs : List (Str × V)) (F : Str → V) : Str → V := cs.foldl (fun F q z => if z = q.1 then chV (F0 q.1) q.2 else F z) F
theorem addC_snoc {F0 F : Str → V} {cs : List (Str × V)} {i : Nat} {q : Str × V} (h : cs[i]? = some q) : addC F0 (cs.take (i + 1)) F = fun z => if z = q.1 then chV (F0 q.1) q.2 else addC F0 (cs.take i) F z := by
  unfold addC
  rw [take_snoc h, List.foldl_append]
  rfl
def F2 (e : Ent) (F : Str → V) : Str → V := fun p => match e with
  | .count _ _ _ q k _ => if p = q then .int k else F p
  | e => F (swE e p)
theorem chV_bk (s : Option (Str × Int)) (k : Int) : chV (bkB s) (.int k) = bkB (s.map fun x => (x.1, x.2 + k)) := by cases s <;> rfl
theorem csN_in {e : Ent} {P G HL : List Str} (h : e.From P G HL) : ∀ q ∈ csN 3 e, q.1 ∈ P ∧ (q.2 = .non ∨ ∃ i, q.2 = .int i) := by
  intro q hq
  cases e with
  | come n m g p k r => rw [List.mem_singleton.mp hq]; exact ⟨h.2.1, .inr ⟨_, rfl⟩⟩
  | go n m g p k => rw [List.mem_singleton.mp hq]; exact ⟨h.2.1, .inr ⟨_, rfl⟩⟩
  | move n m g o t k =>
    have hq : q ∈ [(o, V.int (0 - k)), (t, .int k)] := hq
    rcases List.mem_cons.mp hq with rfl | hq
    · exact ⟨h.2.1, .inr ⟨_, rfl⟩⟩
    · rw [List.mem_singleton.mp hq]; exact ⟨h.2.2.1, .inr ⟨_, rfl⟩⟩
  | some_ n m g o t =>
    obtain ⟨x, hx, rfl⟩ := List.mem_map.mp (show q ∈ ([o, t].filter fun x : Str => decide (x ≠ "")).map fun x => (x, V.non) from hq)
    obtain ⟨h1, h2⟩ := List.mem_filter.mp hx
    refine ⟨?_, .inl rfl⟩
    rcases List.mem_cons.mp h1 with rfl | h1
    · exact h.2.1
    · rw [List.mem_singleton.mp h1] at h2 ⊢
      exact (h.2.2.resolve_left (of_decide_eq_true h2)).1
  | swap n m o t => exact nomatch hq
  | count n m g p k hd => exact nomatch hq
  | look n m g p => exact nomatch hq
theorem aft_eq {e : Ent} {P G HL : List Str} {g : Str} {c : Str → Option (Str × Int)} (np : P.Nodup) (ne : ∀ p ∈ P, p ≠ "") (h : e.From P G HL) (hg : e.word = "swap" ∨ e.goodV = .str g) {p : Str} (hp : p ∈ P) :
    addC (fun p => bkB (c p)) (csN 3 e) (F2 e fun p => bkB (c p)) p = bkB (bkStep g p (c (swE e p)) e) := by
  cases e with
  | come n m gg q k r =>
    obtain rfl : gg = g := V.str.inj (hg.resolve_left (show ¬ ("come" : Str) = "swap" by decide +kernel))
    show (if p = q then chV (bkB (c q)) (.int k) else bkB (c p)) = bkB (if V.str gg = .str gg ∧ p ∈ [q] then (c p).map fun x => (x.1, x.2 + if p = q then k else 0) else c p)
    by_cases z : p = q
    · subst z
      rw [if_pos rfl, if_pos ⟨rfl, List.mem_singleton.mpr rfl⟩, chV_bk]
      simp only [if_pos]
    · rw [if_neg z, if_neg fun y => z (List.mem_singleton.mp y.2)]
  | go n m gg q k =>
    obtain rfl : gg = g := V.str.inj (hg.resolve_left (show ¬ ("go" : Str) = "swap" by decide +kernel))
    show (if p = q then chV (bkB (c q)) (.int (0 - k)) else bkB (c p)) = bkB (if V.str gg = .str gg ∧ p ∈ [q] then (c p).map fun x => (x.1, x.2 + if p = q then -k else 0) else c p)
    by_cases z : p = q
    · subst z
      rw [if_pos rfl, if_pos ⟨rfl, List.mem_singleton.mpr rfl⟩, chV_bk, Int.zero_sub]
      simp only [if_pos]
    · rw [if_neg z, if_neg fun y => z (List.mem_singleton.mp y.2)]
  | move n m gg o t k =>
    obtain rfl : gg = g := V.str.inj (hg.resolve_left (show ¬ ("move" : Str) = "swap" by decide +kernel))
    have ot : o ≠ t := h.2.2.2.1 np
    show (if p = t then chV (bkB (c t)) (.int k) else if p = o then chV (bkB (c o)) (.int (0 - k)) else bkB (c p)) = bkB (if V.str gg = .str gg ∧ p ∈ [o, t] then (c p).map fun x => (x.1, x.2 + if p = o then -k else if p = t then k else 0) else c p)
    by_cases z : p = t
    · subst z
      rw [if_pos rfl, if_pos ⟨rfl, List.mem_cons_of_mem _ (List.mem_singleton.mpr rfl)⟩, chV_bk, if_neg (fun y => ot y.symm), if_pos rfl]
    · rw [if_neg z]
      by_cases y : p = o
      · subst y
        rw [if_pos rfl, if_pos ⟨rfl, List.mem_cons_self⟩, chV_bk, Int.zero_sub, if_pos rfl]
      · rw [if_neg y, if_neg fun w => (List.mem_cons.mp w.2).elim y fun w => z (List.mem_singleton.mp w)]
  | some_ n m gg o t =>
    obtain rfl : gg = g := V.str.inj (hg.resolve_left (show ¬ ("some" : Str) = "swap" by decide +kernel))
    have oo : o ≠ "" := ne o h.2.1
    show addC _ (([o, t].filter fun x : Str => decide (x ≠ "")).map fun x => (x, V.non)) (fun p => bkB (c p)) p = bkB (if V.str gg = .str gg ∧ p ∈ (if t = "" then [o] else [o, t]) then none else c p)
    have cn : ∀ v, chV v .non = .non := fun v => by cases v <;> rfl
    by_cases tz : t = ""
    · have e1 : [o, t].filter (fun x : Str => decide (x ≠ "")) = [o] := by
        rw [List.filter_cons_of_pos (p := fun x : Str => decide (x ≠ "")) (decide_eq_true oo), List.filter_cons_of_neg (p := fun x : Str => decide (x ≠ "")) (by rw [decide_eq_false fun y => y tz]; decide), List.filter_nil]
      rw [e1, if_pos tz]
      show (if p = o then chV (bkB (c o)) .non else bkB (c p)) = _
      rw [cn]
      by_cases z : p = o
      · rw [if_pos z, if_pos ⟨rfl, List.mem_singleton.mpr z⟩]
        rfl
      · rw [if_neg z, if_neg fun y => z (List.mem_singleton.mp y.2)]
    · have e1 : [o, t].filter (fun x : Str => decide (x ≠ "")) = [o, t] := by
        rw [List.filter_cons_of_pos (p := fun x : Str => decide (x ≠ "")) (decide_eq_true oo), List.filter_cons_of_pos (p := fun x : Str => decide (x ≠ "")) (decide_eq_true tz), List.filter_nil]
      rw [e1, if_neg tz]
      show (if p = t then chV (bkB (c t)) .non else if p = o then chV (bkB (c o)) .non else bkB (c p)) = _
      rw [cn, cn]
      by_cases z : p = t
      · rw [if_pos z, if_pos ⟨rfl, List.mem_cons_of_mem _ (List.mem_singleton.mpr z)⟩]
        rfl
      · rw [if_neg z]
        by_cases y : p = o
        · rw [if_pos y, if_pos ⟨rfl, y ▸ List.mem_cons_self⟩]
          rfl
        · rw [if_neg y, if_neg fun w => (List.mem_cons.mp w.2).elim y fun w => z (List.mem_singleton.mp w)]
  | swap n m o t => rw [bkStep_sw (e := .swap n m o t) rfl]; rfl
  | count n m gg q k hd =>
    obtain rfl : gg = g := V.str.inj (hg.resolve_left (show ¬ ("count" : Str) = "swap" by decide +kernel))
    show (if p = q then V.int k else bkB (c p)) = bkB (if V.str gg = .str gg ∧ p ∈ [q] then some (n, k) else c p)
    by_cases z : p = q
    · rw [if_pos z, if_pos ⟨rfl, List.mem_singleton.mpr z⟩]
      rfl
    · rw [if_neg z, if_neg fun y => z (List.mem_singleton.mp y.2)]
  | look n m gg q =>
    show bkB (c p) = bkB (if V.str gg = .str g ∧ p ∈ [q] then (c p).map (fun x : Str × Int => (x.1, x.2 + 0)) else c p)
    split
    · cases c p with
      | none => rfl
      | some x => show V.int x.2 = V.int (x.2 + 0); rw [Int.add_zero]
    · rfl
theorem mv_ent {e : Ent} (h : e.word = ("move" : Str)) : ∃ n m g o t k, e = .move n m g o t k := by
  cases e with
  | move n m g o t k => exact ⟨_, _, _, _, _, _, rfl⟩
  | come n m g p k r => exact absurd h (show ¬ ("come" : Str) = "move" by decide +kernel)
  | go n m g p k => exact absurd h (show ¬ ("go" : Str) = "move" by decide +kernel)
  | some_ n m g o t => exact absurd h (show ¬ ("some" : Str) = "move" by decide +kernel)
  | swap n m o t => exact absurd h (show ¬ ("swap" : Str) = "move" by decide +kernel)
  | count n m g p k hd => exact absurd h (show ¬ ("count" : Str) = "move" by decide +kernel)
  | look n m g p => exact absurd h (show ¬ ("look" : Str) = "move" by decide +kernel)
def CsAt (H : Hp) : List Addr → List (Str × V) → Prop := Paired fun a q => H a = some (.tup [.str q.1, q.2])
theorem CsAt.on {H H' : Hp} (k : TK H H') {as : List Addr} {cs : List (Str × V)} (h : CsAt H as cs) : CsAt H' as cs := Paired.mapP h fun a x e => k _ _ e
def spAfter : Sp := fun vs H Q _ => ∃ (a d : Addr) (e : Ent) (P G HL : List Str) (g : Str) (c : Str → Option (Str × Int)), vs = [.ref a, .ref d] ∧ H a = some (.tup e.vals) ∧ P.Nodup ∧ P.length ≤ 6 ∧ (∀ p ∈ P, p ≠ "") ∧ e.From P G HL ∧ (e.word = "swap" ∨ e.goodV = .str g) ∧
  H d = some (.dK (kvE P fun p => bkB (c p))) ∧ ∀ (d' : Addr) (H' : Hp), Same H H' → H' d' = some (.dK (kvE P fun p => bkB (bkStep g p (c (swE e p)) e))) → Q (.ref d') H'
section
variable {P : Program} {w : World} {K : PySem.W.Frag} {mg : Str → Option Value} {base : Heap}
abbrev sAfterN : List Str := ["_law_entry_here", "_law_books", "_law_behind", "_law_word", "_law_changes", "_law_place", "_law_many_here"]
theorem sc_sAfter : FnScope sAfterN ["_law_entry_here", "_law_books"] (defScope sAfter) := ⟨rfl, rfl, rfl, by decide +kernel, rfl, by decide +kernel, by decide +kernel⟩
set_option maxHeartbeats 8000000 in
theorem ok_after {f : Addr} {fd : FuncData} (F : Fun K "_law_after" "_law_after" sAfter f fd) (md : mg "dict" = none) (mi : mg "int" = none) : FnOk P w K mg base CX0 1 f fd ["_law_entry_here", "_law_books"] spAfter := by
  refine F.ok sc_sAfter (fun vs H Q E h => ?_) (fun cdv A outer s H vs Q E hr h => ?_)
  · obtain ⟨a, d, e, Ps, G, HL, g, c, rfl, _⟩ := h
    rfl
  · obtain ⟨a, d, e, Ps, G, HL, g, c, rfl, ha, np, p6, ne, frm, hg, hd, q⟩ := h
    have hu := hu_of hr
    have nd := sc_sAfter.nd
    refine ⟨_, pss_cons (ps_set (i := 2) nd rfl (Or.inl rfl) (pe_callTy call_dictD (by rfl) md (by decide +kernel) (pa_cons (pv 1) pa_nil)))
      (pss_cons (ps_set (i := 3) nd rfl (Or.inl rfl) (pe_ix ix_tup (pv 0) pe_int (fun _ _ => rfl)))
      (C8.pss_cut (ps_if (pt_cmpR op_eq (pv 3) pe_str (nomark _)) (pss_cons (ps_dput hu (pv 2) (pe_ix ix_tup (pv 0) pe_int (fun _ _ => rfl)) (pe_dget hu (pv 1) (pe_ix ix_tup (pv 0) pe_int (fun _ _ => rfl)) (fun _ _ => rfl)) rfl)
        (pss_one (ps_dput hu (pv 2) (pe_ix ix_tup (pv 0) pe_int (fun _ _ => rfl)) (pe_dget hu (pv 1) (pe_ix ix_tup (pv 0) pe_int (fun _ _ => rfl)) (fun _ _ => rfl)) rfl))) pss_nil)
      (C8.pss_cut (ps_if (pt_cmpR op_eq (pv 3) pe_str (nomark _)) (pss_one (ps_dput hu (pv 2) (pe_ix ix_tup (pv 0) pe_int (fun _ _ => rfl)) (pe_ix ix_tup (pv 0) pe_int (fun _ _ => rfl)) rfl)) pss_nil)
      (pss_cons (ps_set (i := 4) nd rfl (Or.inl rfl) (pe_lst pa_nil))
      (C8.pss_cut (ps_if (pt_cmpR op_in_seq (pv 3) (pe_tup (pa_cons pe_str (pa_cons pe_str pa_nil))) (by rfl)) (pss_one (ps_set (i := 4) nd rfl (Or.inl rfl) (pe_lst (pa_cons (pe_tup (pa_cons (pe_ix ix_tup (pv 0) pe_int (fun _ _ => rfl)) (pa_cons (pe_ix ix_list (pe_lst (pa_cons (pe_ix ix_tup (pv 0) pe_int (fun _ _ => rfl)) (pa_cons (pe_op op_sub pe_int (pe_ix ix_tup (pv 0) pe_int (fun _ _ => rfl))) pa_nil))) (pe_callTy call_int1 (by rfl) mi (by decide +kernel) (pa_cons (pe_cmpR op_eq (pv 3) pe_str (nomark _)) pa_nil)) (fun _ _ => rfl)) pa_nil))) pa_nil)))) pss_nil)
      (C8.pss_cut (ps_if (pt_cmpR op_eq (pv 3) pe_str (nomark _)) (pss_one (ps_set (i := 4) nd rfl (Or.inl rfl) (pe_lst (pa_cons (pe_tup (pa_cons (pe_ix ix_tup (pv 0) pe_int (fun _ _ => rfl)) (pa_cons (pe_op op_sub pe_int (pe_ix ix_tup (pv 0) pe_int (fun _ _ => rfl))) pa_nil))) (pa_cons (pe_tup (pa_cons (pe_ix ix_tup (pv 0) pe_int (fun _ _ => rfl)) (pa_cons (pe_ix ix_tup (pv 0) pe_int (fun _ _ => rfl)) pa_nil))) pa_nil))))) pss_nil)
      (C8.pss_cut (ps_if (pt_cmpR op_eq (pv 3) pe_str (nomark _)) (pss_one (ps_setLc (i := 4) (own := [("_law_place", 5)]) (g := gName 5) (tt := tTest (tOp rNe (tVar 5) (tC (V.str "")))) (te := tTup (tCons (tVar 5) (tCons (tC V.non) tNil))) rfl nd rfl rfl (sw_true rfl rfl rfl (by decide +kernel)) (pi_tup (pe_slice sl_S (pv 0) (po_some pe_int) po_none)) (blkOk_by (N := sAfterN) (sc := defScope sAfter) (by decide +kernel)) (fun _ _ _ _ _ => (pg_name (i := 5) nd rfl (Or.inl rfl))) (fun _ _ _ _ _ => (pts_one (pt_cmpR op_ne (pv 5) pe_str (nomark _)))) (fun _ _ _ _ _ => (pe_tup (pa_cons (pv 5) (pa_cons pe_non pa_nil)))))) pss_nil)
      (pss_cons (ps_for PassesOwn.never rfl (pi_list (pv 4)) (pg_tup (by rfl) (pgs_cons (pg_name (i := 5) nd rfl (Or.inl rfl)) (pgs_cons (pg_name (i := 6) nd rfl (Or.inl rfl)) pgs_nil)))
        (pss_one (ps_if (PW.pt (pw_or (pt_cmpR op_isN (pv 6) pe_non (by rfl)) (pw_or1 (pt_cmpR op_isN (pe_dget hu (pv 1) (pv 5) (fun _ _ => rfl)) pe_non (by rfl))))) (pss_one (ps_dput hu (pv 2) (pv 5) pe_non rfl)) (pss_one (ps_dput hu (pv 2) (pv 5) (pe_op op_add (pe_dget hu (pv 1) (pv 5) (fun _ _ => rfl)) (pv 6)) rfl)))))
      (pss_one (ps_ret (pv 2))))))))))), ?_⟩
    have pl : ∀ (F : Str → V) (v : V) (p : Str), (putK (kvE Ps F) (Sum.inr p) v).length ≤ 7 := fun F v p => by
      have : (putK (kvE Ps F) (Sum.inr p) v).length ≤ (kvE Ps F).length + 1 := by
        unfold putK
        split
        · rw [List.length_map]
          omega
        · rw [List.length_append]
          exact Nat.le_refl _
      rw [kvE_len] at this
      omega
    have lF : ∀ F : Str → V, (kvE Ps F).length < sizeLine := fun F => by rw [kvE_len]; exact small1000 (by omega)
    refine ⟨_, rfl, d, _, rfl, Rd.of hd, fun d2 nd2 => ?_⟩
    have s1 := @same_new _ _ (.dK (kvE Ps fun p => bkB (c p))) nd2
    have hb1 : (upd H d2 (.dK (kvE Ps fun p => bkB (c p)))) d2 = some (.dK (kvE Ps fun p => bkB (c p))) := upd_same
    have ndd : d ≠ d2 := ne_of_none hd nd2
    generalize upd H d2 (.dK (kvE Ps fun p => bkB (c p))) = H1 at s1 hb1
    refine ⟨_, rfl, a, _, 0, _, rfl, rfl, SqT.of (s1 _ _ ha), at0 e, ?_⟩
    -- what a put does
    have put : ∀ {Ha : Hp} {F : Str → V} {p : Str} (v : V), Same H Ha → Ha d2 = some (.dK (kvE Ps F)) → p ∈ Ps → ∃ Hb, DPut Ha d2 (.str p) v Hb ∧ Same H Hb ∧ Hb d2 = some (.dK (kvE Ps fun z => if z = p then v else F z)) ∧ But d2 Ha Hb := fun {Ha F p} v sa hb hp =>
      ⟨_, DPut.k (k := Sum.inr p) hb (lF F), fun b o e => (upd_ne (ne_of_none e nd2)).trans (sa b o e), by rw [upd_same, kvE_put hp], fun b o e n => (upd_ne n).trans e⟩
    have get : ∀ {Ha : Hp} {p : Str}, Same H Ha → p ∈ Ps → DGet Ha d (.str p) (some (bkB (c p))) := fun {Ha p} sa hp => dget_s (sa _ _ hd) (kvE_get hp)
    show C8.tCut _ _ _ [some (.ref a), some (.ref d), some (.ref d2), some (.str e.word), none, none, none] H1
    refine ⟨fun σ H' => σ = [some (.ref a), some (.ref d), some (.ref d2), some (.str e.word), none, none, none] ∧ Same H H' ∧ H' d2 = some (.dK (kvE Ps fun p => bkB (c (swE e p)))), ?_, ?_⟩
    · refine ⟨_, rfl, rfl, _, rfl, ite2 (fun ew => ?_) (fun nw => ?_)⟩
      · obtain ⟨nm, mm, o, t, rfl⟩ := swap_ent (V.str.inj (of_decide_eq_true ew))
        obtain ⟨oP, tP, not⟩ := frm
        have ot := not np
        obtain ⟨Ha, pu1, s2, hb2, bt2⟩ := put (bkB (c t)) s1 hb1 oP
        obtain ⟨Hb, pu2, s3, hb3, bt3⟩ := put (bkB (c o)) s2 hb2 tP
        refine ⟨_, rfl, _, rfl, a, _, 4, _, rfl, rfl, SqT.of (s1 _ _ ha), atI_nat (j := 4) rfl, d, _, rfl, get s1 tP, _, rfl, _, rfl, a, _, 3, _, rfl, rfl, SqT.of (s1 _ _ ha), atI_nat (j := 3) rfl, d2, Ha, rfl, pu1, ?_⟩
        refine ⟨_, rfl, _, rfl, a, _, 3, _, rfl, rfl, SqT.of (s2 _ _ ha), atI_nat (j := 3) rfl, d, _, rfl, get s2 oP, _, rfl, _, rfl, a, _, 4, _, rfl, rfl, SqT.of (s2 _ _ ha), atI_nat (j := 4) rfl, d2, Hb, rfl, pu2, rfl, s3, ?_⟩
        rw [hb3]
        refine congrArg (fun z => some (HO.dK z)) (kvE_congr fun p _ => ?_)
        show (if p = t then bkB (c o) else if p = o then bkB (c t) else bkB (c p)) = bkB (c (swp o t p))
        unfold swp
        by_cases h1 : p = o
        · rw [if_neg (fun z => ot (h1.symm.trans z)), if_pos h1, if_pos h1]
        · by_cases h2 : p = t
          · rw [if_pos h2, if_neg h1, if_pos h2]
          · rw [if_neg h2, if_neg h1, if_neg h1, if_neg h2]
      · have nw' : e.word ≠ "swap" := fun z => nw (decide_eq_true (congrArg V.str z))
        refine ⟨rfl, s1, hb1.trans (congrArg (fun z => some (HO.dK z)) (kvE_congr fun p _ => ?_))⟩
        rw [swE_no nw']
    rintro σ H2 ⟨rfl, s2, hb2⟩
    show C8.tCut _ _ _ [some (.ref a), some (.ref d), some (.ref d2), some (.str e.word), none, none, none] H2
    refine ⟨fun σ H' => σ = [some (.ref a), some (.ref d), some (.ref d2), some (.str e.word), none, none, none] ∧ Same H H' ∧ H' d2 = some (.dK (kvE Ps (F2 e fun p => bkB (c p)))), ?_, ?_⟩
    · refine ⟨_, rfl, rfl, _, rfl, ite2 (fun ew => ?_) (fun nw => ?_)⟩
      · obtain ⟨nm, mm, gg, pl, k, hd', rfl⟩ := count_ent (V.str.inj (of_decide_eq_true ew))
        obtain ⟨_, plP, _⟩ := frm
        obtain ⟨Ha, pu1, s3, hb3, bt3⟩ := put (.int k) s2 hb2 plP
        refine ⟨_, rfl, a, _, 5, _, rfl, rfl, SqT.of (s2 _ _ ha), atI_nat (j := 5) rfl, _, rfl, _, rfl, a, _, 4, _, rfl, rfl, SqT.of (s2 _ _ ha), atI_nat (j := 4) rfl, d2, Ha, rfl, pu1, rfl, s3, hb3⟩
      · refine ⟨rfl, s2, hb2.trans (congrArg (fun z => some (HO.dK z)) (kvE_congr fun p _ => ?_))⟩
        cases e with
        | count n m gg q k hd => exact absurd (decide_eq_true rfl) nw
        | _ => rfl
    rintro σ H3 ⟨rfl, s3, hb3⟩
    refine ⟨Nat.zero_le _, fun L nL => ?_⟩
    have s4 := @same_new _ _ (.lst []) nL
    have hL : (upd H3 L (.lst [])) L = some (.lst (([] : List Addr).map V.ref)) := upd_same
    generalize upd H3 L (.lst []) = H4 at s4 hL
    have hb4 := s4 _ _ hb3
    have s04 := s3.trans s4
    clear hb1 hb2 hb3 s4 nL
    -- the state behind the n-th display of changes
    let St : Nat → L2.St → Hp → Prop := fun n σ H' => ∃ (l : Addr) (cs : List Addr), σ = [some (.ref a), some (.ref d), some (.ref d2), some (.str e.word), some (.ref l), none, none] ∧ Same H H' ∧ H' d2 = some (.dK (kvE Ps (F2 e fun p => bkB (c p)))) ∧ H' l = some (.lst (cs.map V.ref)) ∧ CsAt H' cs (csN n e)
    have st0 : St 0 [some (.ref a), some (.ref d), some (.ref d2), some (.str e.word), some (.ref L), none, none] H4 := by
      refine ⟨L, [], rfl, s04, hb4, hL, ?_⟩
      have : csN 0 e = [] := by cases e <;> rfl
      rw [this]
      exact .nil
    clear hL hb4 s04
    refine ⟨St 1, ?_, ?_⟩
    · obtain ⟨l, cs, hσ, s4, hb4, hl, ca⟩ := st0
      injection hσ with _ hσ
      injection hσ with _ hσ
      injection hσ with _ hσ
      injection hσ with _ hσ
      injection hσ with hσ _
      injection hσ with hσ
      injection hσ with hσ
      subst hσ
      have ha4 := s4 _ _ ha
      refine ⟨_, rfl, (by show 2 ≤ sizeLine; decide), fun T nT => ⟨T, _, rfl, .inr (SqT.of upd_same), rfl, rfl, _, rfl, ?_⟩⟩
      rw [if_neg Bool.false_ne_true, show inV (V.str e.word) [V.str "come", .str "go"] = decide (e.word ∈ (["come", "go"] : List Str)) from in_ns (ns := ["come", "go"])]
      have s5 := @same_new _ _ (.tup [V.str "come", .str "go"]) nT
      generalize upd H4 T (.tup [V.str "come", .str "go"]) = H5 at s5 ⊢
      have ha5 := s5 _ _ ha4
      refine ite2 (fun ew => ?_) (fun nw => ?_)
      · have ew := of_decide_eq_true ew
        obtain ⟨p, k, a4, a5, ce⟩ : ∃ (p : Str) (k : Int), atI e.vals (4 : Int) = some (.str p) ∧ atI e.vals (5 : Int) = some (.int k) ∧ csN 1 e = [(p, .int (if e.word = "go" then 0 - k else k))] := by
          rcases List.mem_cons.mp ew with z | z
          · obtain ⟨nm, mm, gg, pl, k, r, rfl⟩ := come_ent z
            refine ⟨pl, k, atI_nat (j := 4) rfl, atI_nat (j := 5) rfl, ?_⟩
            rw [if_neg (show ¬ (Ent.come nm mm gg pl k r).word = "go" by show ¬ ("come" : Str) = "go"; decide +kernel)]
            rfl
          · obtain ⟨nm, mm, gg, pl, k, rfl⟩ := go_ent (List.mem_singleton.mp z)
            refine ⟨pl, k, atI_nat (j := 4) rfl, atI_nat (j := 5) rfl, ?_⟩
            rw [if_pos (show (Ent.go nm mm gg pl k).word = "go" from rfl)]
            rfl
        refine ⟨_, rfl, a, _, 4, _, rfl, rfl, SqT.of ha5, a4, _, rfl, a, _, 5, _, rfl, rfl, SqT.of ha5, a5, _, rfl, a, _, 5, _, rfl, rfl, SqT.of ha5, a5, 0, k, rfl, rfl, (by show 2 ≤ sizeLine; decide), fun L2 nL2 => ?_⟩
        have s6 := @same_new _ _ (.lst [V.int k, .int (0 - k)]) nL2
        have hL2 : (upd H5 L2 (.lst [V.int k, .int (0 - k)])) L2 = some (.lst [V.int k, .int (0 - k)]) := upd_same
        generalize upd H5 L2 (.lst [V.int k, .int (0 - k)]) = H6 at s6 hL2
        have att : atI [V.int k, .int (0 - k)] (if decide (V.str e.word = V.str "go") = true then 1 else 0) = some (.int (if e.word = "go" then 0 - k else k)) := by
          by_cases z : e.word = "go"
          · rw [if_pos z, if_pos (decide_eq_true (congrArg V.str z))]
            exact atI_nat (j := 1) rfl
          · rw [if_neg z, if_neg (by rw [decide_eq_true_eq]; exact fun y => z (V.str.inj y))]
            exact atI_nat (j := 0) rfl
        refine ⟨_, rfl, rfl, .inr ⟨_, rfl, L2, _, _, _, rfl, rfl, SqL.of hL2, att, (by show 2 ≤ sizeLine; decide), fun t nt => ?_⟩⟩
        generalize (if e.word = "go" then 0 - k else k) = kk at ce ⊢
        have s7 := @same_new _ _ (.tup [V.str p, .int kk]) nt
        have ht : (upd H6 t (.tup [V.str p, .int kk])) t = some (.tup [V.str p, .int kk]) := upd_same
        generalize upd H6 t (.tup [V.str p, .int kk]) = H7 at s7 ht
        refine ⟨(by show 1 ≤ sizeLine; decide), fun l nl => ?_⟩
        have s8 := @same_new _ _ (.lst [V.ref t]) nl
        have s48 := s5.trans (s6.trans (s7.trans s8))
        refine ⟨l, [t], rfl, s4.trans s48, s48 _ _ hb4, upd_same, ?_⟩
        rw [ce]
        exact .cons (s8 _ _ ht) .nil
      · have e0 : csN 1 e = csN 0 e := by
          cases e with
          | come n m gg q k r => exact absurd (decide_eq_true (List.mem_cons_self)) nw
          | go n m gg q k => exact absurd (decide_eq_true (List.mem_cons_of_mem _ (List.mem_singleton.mpr rfl))) nw
          | _ => rfl
        exact ⟨L, cs, rfl, s4.trans s5, s5 _ _ hb4, s5 _ _ hl, by rw [e0]; exact ca.on (TK.of s5)⟩
    rintro σ H5 ⟨l5, cs5, rfl, s5, hb5, hl5, ca5⟩
    refine ⟨St 2, ?_, ?_⟩
    · have ha5 := s5 _ _ ha
      refine ⟨_, rfl, rfl, _, rfl, ite2 (fun ew => ?_) (fun nw => ?_)⟩
      · obtain ⟨nm, mm, gg, o, t, k, rfl⟩ := mv_ent (V.str.inj (of_decide_eq_true ew))
        refine ⟨_, rfl, a, _, 4, _, rfl, rfl, SqT.of ha5, atI_nat (j := 4) rfl, _, rfl, a, _, 6, _, rfl, rfl, SqT.of ha5, atI_nat (j := 6) rfl, 0, k, rfl, rfl, (by show 2 ≤ sizeLine; decide), fun t1 n1 => ?_⟩
        have s6 := @same_new _ _ (.tup [V.str o, .int (0 - k)]) n1
        have h1 : (upd H5 t1 (.tup [V.str o, .int (0 - k)])) t1 = some (.tup [V.str o, .int (0 - k)]) := upd_same
        generalize upd H5 t1 (.tup [V.str o, .int (0 - k)]) = H6 at s6 h1
        have ha6 := s6 _ _ ha5
        refine ⟨_, rfl, a, _, 5, _, rfl, rfl, SqT.of ha6, atI_nat (j := 5) rfl, _, rfl, a, _, 6, _, rfl, rfl, SqT.of ha6, atI_nat (j := 6) rfl, (by show 2 ≤ sizeLine; decide), fun t2 n2 => ?_⟩
        have s7 := @same_new _ _ (.tup [V.str t, .int k]) n2
        have h2 : (upd H6 t2 (.tup [V.str t, .int k])) t2 = some (.tup [V.str t, .int k]) := upd_same
        generalize upd H6 t2 (.tup [V.str t, .int k]) = H7 at s7 h2
        refine ⟨(by show 2 ≤ sizeLine; decide), fun l nl => ?_⟩
        have s8 := @same_new _ _ (.lst [V.ref t1, .ref t2]) nl
        have s58 := s6.trans (s7.trans s8)
        exact ⟨l, [t1, t2], rfl, s5.trans s58, s58 _ _ hb5, upd_same, .cons (s8 _ _ (s7 _ _ h1)) (.cons (s8 _ _ h2) .nil)⟩
      · have e0 : csN 2 e = csN 1 e := by
          cases e with
          | move n m gg o t k => exact absurd (decide_eq_true rfl) nw
          | _ => rfl
        exact ⟨l5, cs5, rfl, s5, hb5, hl5, by rw [e0]; exact ca5⟩
    rintro σ H6 ⟨l6, cs6, rfl, s6, hb6, hl6, ca6⟩
    refine ⟨St 3, ?_, ?_⟩
    · have ha6 := s6 _ _ ha
      refine ⟨_, rfl, rfl, _, rfl, ite2 (fun ew => ?_) (fun nw => ?_)⟩
      · obtain ⟨nm, mm, gg, o, t, rfl⟩ := some_ent (V.str.inj (of_decide_eq_true ew))
        refine ⟨_, rfl, 4, rfl, a, _, rfl, ha6, fun b1 H7 s7 h7 => ⟨b1, rfl, ⟨_, SqT.of h7⟩, fun D nD => ?_⟩⟩
        have h7 : H7 b1 = some (.tup (([o, t] : List Str).map V.str)) := h7
        refine lc_tup (K := K) (a := b1) (xs := ([o, t] : List Str).map V.str) (fun j H' => Same H7 H' ∧ ∃ us : List Addr, H' D = some (.lst (us.map V.ref)) ∧ us.length ≤ j ∧ CsAt H' us (((([o, t] : List Str).take j).filter fun x : Str => decide (x ≠ "")).map fun x => (x, V.non)))
          ⟨same_new nD, [], upd_same, Nat.le_refl _, .nil⟩ (fun j H' _ z => SqT.of (z.1 _ _ h7)) ?_ ?_
        · rintro j v H8 hv ⟨s8, us, hD, lu, cu⟩
          have lj : j < 2 := (List.getElem?_eq_some_iff.mp hv).1
          rw [List.getElem?_map] at hv
          obtain ⟨x, hx, rfl⟩ := Option.map_eq_some_iff.mp hv
          have sn : ((([o, t] : List Str).take (j + 1)).filter fun x : Str => decide (x ≠ "")).map (fun x => (x, V.non)) = ((([o, t] : List Str).take j).filter fun x : Str => decide (x ≠ "")).map (fun x => (x, V.non)) ++ ([x].filter fun x : Str => decide (x ≠ "")).map fun x => (x, V.non) := by rw [take_snoc hx, List.filter_append, List.map_append]
          refine ⟨rfl, _, rfl, rfl, _, rfl, ?_⟩
          by_cases z : x = ""
          · rw [decide_eq_true (congrArg V.str z)]
            refine iteF ⟨s8, us, hD, Nat.le_succ_of_le lu, ?_⟩
            rw [sn, List.filter_cons_of_neg (p := fun x : Str => decide (x ≠ "")) (by rw [decide_eq_false fun y => y z]; decide), List.filter_nil, List.map_nil, List.append_nil]
            exact cu
          · rw [decide_eq_false fun y => z (V.str.inj y)]
            refine iteT ⟨_, rfl, (by show 2 ≤ sizeLine; decide), fun u nu => ?_⟩
            have s9 := @same_new _ _ (.tup [V.str x, .non]) nu
            have hu9 : (upd H8 u (.tup [V.str x, .non])) u = some (.tup [V.str x, .non]) := upd_same
            generalize upd H8 u (.tup [V.str x, .non]) = H9 at s9 hu9
            have hD9 := s9 _ _ hD
            have k10 : TK H9 (upd H9 D (.lst (us.map V.ref ++ [V.ref u]))) := TK.upd fun xs e => by rw [hD9] at e; cases e
            refine ⟨_, hD9, (by rw [List.length_map]; exact small1000 (by omega)), fun b' o' eb => (upd_ne (ne_of_none eb nD)).trans (s9 _ _ (s8 b' o' eb)), us ++ [u], ?_, (by rw [List.length_append]; exact Nat.succ_le_succ lu), ?_⟩
            · rw [upd_same, List.map_append]
              rfl
            · rw [sn, List.filter_cons_of_pos (p := fun x : Str => decide (x ≠ "")) (decide_eq_true z)]
              exact Paired.snoc ((cu.on (TK.of s9)).on k10) (k10 _ _ hu9)
        rintro H8 ⟨s8, us, hD, lu, cu⟩
        have s68 := s7.trans s8
        exact ⟨D, us, rfl, s6.trans s68, s68 _ _ hb6, hD, cu⟩
      · have e0 : csN 3 e = csN 2 e := by
          cases e with
          | some_ n m gg o t => exact absurd (decide_eq_true rfl) nw
          | _ => rfl
        exact ⟨l6, cs6, rfl, s6, hb6, hl6, by rw [e0]; exact ca6⟩
    rintro σ H7 ⟨l7, cs7, rfl, s7, hb7, hl7, ca7⟩
    have l7d : l7 ≠ d2 := ne_of hl7 hb7 (by intro z; cases z)
    refine ⟨_, rfl, l7, rfl, ⟨_, SqL.of hl7⟩, ?_⟩
    refine for_list (K := K) (a := l7) (xs := cs7.map V.ref) (fun i σ H' => ∃ y5 y6, σ = [some (.ref a), some (.ref d), some (.ref d2), some (.str e.word), some (.ref l7), y5, y6] ∧ Same H H' ∧ But d2 H7 H' ∧ H' d2 = some (.dK (kvE Ps (addC (fun p => bkB (c p)) ((csN 3 e).take i) (F2 e fun p => bkB (c p))))))
      ⟨_, _, rfl, s7, fun _ _ z _ => z, hb7⟩ (fun i σ H' _ z => by obtain ⟨_, _, _, _, z, _⟩ := z; exact SqL.of (z _ _ hl7 l7d)) ?_ ?_
    · rintro i v σ H8 hv ⟨y5, y6, rfl, s8, bt8, hb8⟩
      rw [List.getElem?_map] at hv
      obtain ⟨x, hx, rfl⟩ := Option.map_eq_some_iff.mp hv
      obtain ⟨⟨p, v⟩, hpv, hxv⟩ := paired_get ca7 hx
      obtain ⟨pP, vv⟩ := csN_in frm _ (List.mem_of_getElem? hpv)
      have hx8 := bt8 _ _ hxv (ne_of hxv hb7 (by intro z; cases z))
      rw [addC_snoc hpv]
      generalize addC (fun p => bkB (c p)) ((csN 3 e).take i) (F2 e fun p => bkB (c p)) = FF at hb8
      refine ⟨x, _, rfl, SqT.of hx8, rfl, _, _, rfl, _, _, rfl, rfl, ?_⟩
      have non : chV (bkB (c p)) v = .non → ∃ Hb, DPut H8 d2 (.str p) .non Hb ∧ Same H Hb ∧ But d2 H7 Hb ∧ Hb d2 = some (.dK (kvE Ps fun z => if z = p then chV (bkB (c p)) v else FF z)) := fun z => by
        obtain ⟨Hb, pu, s9, hb9, bt9⟩ := put .non s8 hb8 pP
        exact ⟨Hb, pu, s9, fun b o eb n => bt9 _ _ (bt8 b o eb n) n, by rw [hb9, z]⟩
      rcases vv with rfl | ⟨k, rfl⟩
      · obtain ⟨Hb, pu, s9, bt9, hb9⟩ := non (by cases bkB (c p) <;> rfl)
        exact ⟨_, rfl, rfl, _, rfl, iteT (iteT ⟨_, rfl, _, rfl, d2, Hb, rfl, pu, _, _, rfl, s9, bt9, hb9⟩)⟩
      · refine ⟨_, rfl, rfl, _, rfl, iteF ⟨_, rfl, _, rfl, d, _, rfl, get s8 pP, rfl, _, rfl, ?_⟩⟩
        cases ec : c p with
        | none =>
          rw [ec] at non
          obtain ⟨Hb, pu, s9, bt9, hb9⟩ := non rfl
          exact iteT ⟨_, rfl, _, rfl, d2, Hb, rfl, pu, _, _, rfl, s9, bt9, hb9⟩
        | some x =>
          have g8 := get s8 pP
          rw [ec] at g8
          obtain ⟨Hb, pu, s9, hb9, bt9⟩ := put (.int (x.2 + k)) s8 hb8 pP
          exact iteF ⟨_, rfl, _, rfl, d, _, rfl, g8, _, rfl, x.2, k, rfl, rfl, _, rfl, _, rfl, d2, Hb, rfl, pu, _, _, rfl, s9, fun b o eb n => bt9 _ _ (bt8 b o eb n) n, hb9⟩
    rintro σ H8 ⟨y5, y6, rfl, s8, bt8, hb8⟩
    rw [List.length_map, Paired.length ca7, List.take_length] at hb8
    refine ⟨_, rfl, q d2 H8 s8 ?_⟩
    rw [hb8]
    exact congrArg (fun z => some (HO.dK z)) (kvE_congr fun p hp => aft_eq np ne frm hg hp)
end
/-! ### xs == [], xs != [] -/
def rEqNil (K : PySem.W.Frag) (neg : Bool) : R2 := fun x y H Q => ∃ (a b : Addr) (xs : List V), x = .ref a ∧ y = .ref b ∧ SqL K H a xs ∧ SqL K H b [] ∧ Q (.bl (if neg then !xs.isEmpty else xs.isEmpty)) H
theorem op_eqNil {X : Cx} (hu : X.A.units < cLine) : OpR X (compareOp .Eq) (rEqNil X.K false) := by
  rintro pins s σ H x y v u Q I rx ry ⟨a, b, xs, rfl, rfl, ha, hb, q⟩
  cases rx
  cases ry
  obtain ⟨its, r1, p1, _⟩ := I.list ha
  obtain ⟨jts, r2, p2, _⟩ := I.list hb
  cases r2
  cases r1 with
  | nil => exact PySem.SeqAt.eq_listAt (e := fun _ => true) p1.isList p2.isList rfl hu (fun j h1 => absurd h1 (Nat.not_lt_zero _)) ⟨.bl _, H, I, rfl, q⟩
  | cons h t => exact PySem.SeqAt.eq_list_lengthsAt p1.isList p2.isList (by simp) hu ⟨.bl _, H, I, rfl, q⟩
theorem op_neNil {X : Cx} (hu : X.A.units < cLine) : OpR X (compareOp .NotEq) (rEqNil X.K true) := by
  rintro pins s σ H x y v u Q I rx ry ⟨a, b, xs, rfl, rfl, ha, hb, q⟩
  cases rx
  cases ry
  obtain ⟨its, r1, p1, _⟩ := I.list ha
  obtain ⟨jts, r2, p2, _⟩ := I.list hb
  cases r2
  cases r1 with
  | nil => exact PySem.SeqAt.RcNeAt.lists (e := fun _ => true) p1.isList p2.isList rfl hu (fun j h1 => absurd h1 (Nat.not_lt_zero _)) _ _ _ _ ⟨.bl _, H, I, rfl, q⟩
  | cons h t => exact PySem.SeqAt.RcNeAt.lists_lengths p1.isList p2.isList (by simp) hu _ _ _ _ ⟨.bl _, H, I, rfl, q⟩
/-! ### names are texts -/
theorem name_ok {y : Str} (h : nameB y = true) : PyData.strOk y = true := by
  have all : y.cps.toList.all signB = true := by
    unfold nameB at h
    rw [Bool.and_eq_true] at h
    exact h.2
  have low : ∀ c ∈ abc.cps.toList, c < 0x110000 := by decide +kernel
  unfold PyData.strOk
  rw [← Array.all_toList, List.all_eq_true]
  intro c hc
  exact decide_eq_true (low c (of_decide_eq_true (List.all_eq_true.mp all c hc)))
/-! ### _law_by_books -/
theorem dp_zip {K : PySem.W.Frag} {H : Hp} : ∀ {vs : List V} {ds : List PyData}, DpAll K H vs ds → ∀ e ∈ vs.zip ds, Dp K H e.1 e.2
  | _, _, .nil => fun e he => nomatch he
  | _, _, .cons a t => fun e he => by
    rcases List.mem_cons.mp he with rfl | he
    · exact a
    · exact dp_zip t e he
theorem cr_sortDs {X : Cx} (hu : X.A.units + 64 < cLine) : CallR X (.builtin "sorted") (fun vs H Q => ∃ (l : Addr) (ws : List V) (ds : List PyData), vs = [.ref l] ∧ H l = some (.lst ws) ∧ DpAll X.K H ws ds ∧ PySem.W.AllAlike ds ∧ PySem.W.Sortable ds ∧ (∀ d ∈ ds, d.depth ≤ 60) ∧
    ∀ (p : Addr) (ws' : List V) (H' : Hp), H p = none → Same H H' → H' p = some (.lst ws') → DpAll X.K H' ws' (sortD ds) → Q (.ref p) H') := by
  rintro pins s σ H vs us Q I r ⟨l, ws, ds, rfl, hl, dp, al, so, de, q⟩
  have ln : ws.length = ds.length := DpAll.len dp
  have e1 : (ws.zip ds).map (·.1) = ws := List.map_fst_zip (by omega)
  have e2 : (ws.zip ds).map (·.2) = ds := List.map_snd_zip (by omega)
  refine cr_sortD hu pins s σ H _ us Q I r ⟨l, ws.zip ds, rfl, by rw [e1]; exact SqL.of hl, by rw [e1, e2]; exact dp, by rw [e2]; exact al, by rw [e2]; exact so, ?_, fun p np => ?_⟩
  · intro e he
    exact de _ (by rw [← e2]; exact List.mem_map_of_mem he)
  · have s1 := @same_new _ _ (.lst ((keyed (ws.zip ds)).map (·.1))) np
    refine q p _ _ np s1 upd_same ?_
    have k1 : (keyed (ws.zip ds)).map (·.2) = sortD ds := by
      have := keyed_snd (ws.zip ds)
      rw [e2] at this
      exact this
    rw [← k1]
    exact dpall_of fun e he => Dp.on s1 (dp_zip dp e (List.mem_mergeSort.mp he))
def R4.t3 (x : R4) : PyData := .tuple [.str x.g, .str x.n, .int x.d]
def T3sAt (H : Hp) : List Addr → List R4 → Prop := Paired fun a x => H a = some (.tup [V.str x.g, .str x.n, .int x.d])
theorem T3sAt.on {H H' : Hp} (k : TK H H') {as : List Addr} {xs : List R4} (h : T3sAt H as xs) : T3sAt H' as xs := Paired.mapP h fun a x e => k _ _ e
theorem t3_dp {K : PySem.W.Frag} {H : Hp} {as : List Addr} {xs : List R4} (h : T3sAt H as xs) : DpAll K H (as.map V.ref) (xs.map R4.t3) := by
  unfold T3sAt at h
  induction h with
  | nil => exact .nil
  | cons a _ ih => exact .cons (.tup (SqT.of a) (.cons (.str _) (.cons (.str _) (.cons (.int _) .nil)))) ih
theorem t3_alike (xs : List R4) : PySem.W.AllAlike (xs.map R4.t3) := PySem.W.AllAlike.of fun _ _ => rfl
theorem t3_sortable (xs : List R4) : PySem.W.Sortable (xs.map R4.t3) := .inl fun d hd => by
  obtain ⟨x, _, rfl⟩ := List.mem_map.mp hd
  exact ⟨_, _, rfl⟩
theorem t3_depth {xs : List R4} : ∀ d ∈ xs.map R4.t3, d.depth ≤ 60 := fun d hd => by
  obtain ⟨x, _, rfl⟩ := List.mem_map.mp hd
  simp [R4.t3, PyData.depth, PyData.depthAll]
theorem t3_inj {x y : R4} (h : PySem.W.keyToks x.t3 = PySem.W.keyToks y.t3) : x.t3 = y.t3 := by
  have h' : ([.inl 1, .inr x.g.cps.toList, .inl 1, .inr x.n.cps.toList, .inl 1, .inl x.d, .inl 0] : List (Int ⊕ List Nat)) = [.inl 1, .inr y.g.cps.toList, .inl 1, .inr y.n.cps.toList, .inl 1, .inl y.d, .inl 0] := by
    simpa [R4.t3, PySem.W.keyToks, PySem.W.keyToksAll] using h
  simp only [List.cons.injEq, Sum.inr.injEq, Sum.inl.injEq, true_and, and_true] at h'
  unfold R4.t3
  rw [str_of_cps h'.1, str_of_cps h'.2.1, h'.2.2]
theorem sort_t3 {xs ys : List R4} (p : xs.Perm ys) : sortD (xs.map R4.t3) = sortD (ys.map R4.t3) := by
  refine sortD_perm (p.map _) fun x hx y hy h => ?_
  obtain ⟨a, _, rfl⟩ := List.mem_map.mp hx
  obtain ⟨b, _, rfl⟩ := List.mem_map.mp hy
  exact t3_inj h
def spByBooks (K : PySem.W.Frag) (Ts : List Addr) : Sp := fun vs H Q _ => ∃ (h : Addr) (P G : List Str) (es : List Ent) (m : Nat), vs = [.ref h] ∧ HouseAt H h P G es ∧ Good P G es m ∧ m ≤ 30 ∧ TabsG Ts H ∧
  ∀ (l : Addr) (ws : List V) (H' : Hp), TB1 Ts H H' → H' l = some (.lst ws) → DpAll K H' ws (sortD ((diffN es es.length).map R4.t3)) → Q (.ref l) H'
section
variable {P : Program} {w : World} {K : PySem.W.Frag} {mg : Str → Option Value} {base : Heap}
abbrev sByBooksN : List Str := ["_law_house_here", "_law_found", "_law_at", "_law_entry_here", "_law_book"]
theorem sc_sByBooks : FnScope sByBooksN ["_law_house_here"] (defScope sByBooks) := ⟨rfl, rfl, rfl, by decide +kernel, rfl, by decide +kernel, by decide +kernel⟩
set_option maxHeartbeats 4000000 in
theorem ok_byBooks {f fB : Addr} {fd dB : FuncData} {Ts : List Addr} (F : Fun K "_law_by_books" "_law_by_books" sByBooks f fd) (BB : DefT P w K mg base "book_behind" 5 fB dB ["house", "good", "place", "at"] (spBookB Ts)) (me : mg "enumerate" = none) (ms : mg "sorted" = none) :
    FnOk P w K mg base CX0 6 f fd ["_law_house_here"] (spByBooks K Ts) := by
  refine F.ok sc_sByBooks (fun vs H Q E h => ?_) (fun cdv A outer s H vs Q E hr h => ?_)
  · obtain ⟨h, Ps, G, es, m, rfl, _⟩ := h
    rfl
  · obtain ⟨h, Ps, G, es, m, rfl, ho, gd, m30, tg, q⟩ := h
    have nd := sc_sByBooks.nd
    refine ⟨_, pss_cons (ps_set (i := 1) nd rfl (Or.inl rfl) (pe_lst pa_nil))
      (pss_cons (ps_for PassesOwn.never rfl (pi_enumT (by rfl) me (pa_cons (pe_ix ix_tup (pv 0) pe_int (fun _ _ => rfl)) pa_nil)) (pg_tup (by rfl) (pgs_cons (pg_name (i := 2) nd rfl (Or.inl rfl)) (pgs_cons (pg_name (i := 3) nd rfl (Or.inl rfl)) pgs_nil)))
        (pss_one (ps_if (pt_cmpR op_eq (pe_ix ix_tup (pv 3) pe_int (fun _ _ => rfl)) pe_str (nomark _)) (pss_cons (ps_set (i := 4) nd rfl (Or.inl rfl) (pe_call BB.ok hr (by rfl) BB.g BB.kp BB.b .nil pass0 (pa_cons (pv 0) (pa_cons (pe_ix ix_tup (pv 3) pe_int (fun _ _ => rfl)) (pa_cons (pe_ix ix_tup (pv 3) pe_int (fun _ _ => rfl)) (pa_cons (pv 2) pa_nil))))))
          (pss_one (ps_if (pt_cmpR op_notN (pv 4) pe_non (by rfl)) (pss_one (ps_expr (pe_bm PySem.F.plainAttrs_list PySem.F.slot_list_append PySem.F.type_list_append mt_append (pv 1) (pa_cons (pe_tup (pa_cons (pe_ix ix_tup (pv 3) pe_int (fun _ _ => rfl)) (pa_cons (pe_ix ix_tup (pv 3) pe_int (fun _ _ => rfl)) (pa_cons (pe_op op_sub (pe_ix ix_tup (pv 3) pe_int (fun _ _ => rfl)) (pv 4)) pa_nil)))) pa_nil)))) pss_nil))) pss_nil)))
      (pss_one (ps_ret (pe_callB (cr_sortDs hr.units) (by rfl) ms (by decide +kernel) (pa_cons (pv 1) pa_nil))))), ?_⟩
    obtain ⟨hp, hg, he, tps, g1, g2, g3, g4, g5⟩ := ho.ex
    have lm := gd.many
    refine ⟨Nat.zero_le _, fun D nD => ?_⟩
    have s2 := @same_new _ _ (.lst []) nD
    have hD2 : (upd H D (.lst [])) D = some (.lst (([] : List Addr).map V.ref)) := upd_same
    generalize upd H D (.lst []) = H2 at s2 hD2
    have t2 : TB1 Ts H H2 := .same tg s2
    refine ⟨_, rfl, h, _, 2, _, rfl, rfl, SqT.of (s2 _ _ g1), atI_nat (j := 2) rfl, he, _, rfl, SqT.of (s2 _ _ g4), ?_⟩
    refine for_it (walk_enumT (K := K) (a := he) (xs := tps.map V.ref)) (fun i σ H' => ∃ y2 y3 y4, ∃ ras : List Addr, σ = [some (.ref h), some (.ref D), y2, y3, y4] ∧ TB1 Ts H H' ∧ H' D = some (.lst (ras.map V.ref)) ∧ T3sAt H' ras (diffN es i))
      ⟨_, _, _, [], rfl, t2, hD2, .nil⟩ (fun i σ H' _ z => by obtain ⟨_, _, _, _, _, z, _⟩ := z; exact SqT.of (z.tk _ _ g4)) ?_ ?_
    · rintro i v σ H3 H4 hi ⟨y2, y3, y4, ras, rfl, t3, hD3, ro3⟩ ⟨T, x, y, rfl, nT, rfl, hx, hy⟩
      obtain rfl := Option.some.inj hx
      replace hy : (tps.map V.ref)[i]? = some y := hy
      rw [List.getElem?_map] at hy
      obtain ⟨a, ha, rfl⟩ := Option.map_eq_some_iff.mp hy
      have s4 := @same_new _ _ (.tup [V.int (i : Nat), .ref a]) nT
      have hT : (upd H3 T (.tup [V.int (i : Nat), .ref a])) T = some (.tup [V.int (i : Nat), .ref a]) := upd_same
      generalize upd H3 T (.tup [V.int (i : Nat), .ref a]) = H4 at s4 hT
      have t4 := t3.tr (.same t3.1 s4)
      have ro4 := ro3.on (TK.of s4)
      have hD4 := s4 _ _ hD3
      obtain ⟨e, hes, hae0⟩ := g5.get ha
      have hae := t4.tk _ _ hae0
      have lr : ras.length ≤ i := by rw [Paired.length ro4]; exact diffN_len es i
      have li : i < 30 := by rw [List.length_map, g5.len] at hi; omega
      have ea : alg es i = e.mp (tau (es.take i)) := alg_at (along_at hes)
      refine ⟨T, _, rfl, SqT.of hT, rfl, _, _, rfl, _, _, rfl, rfl, ?_⟩
      refine ⟨_, rfl, a, _, 0, _, rfl, rfl, SqT.of hae, at0 e, rfl, _, rfl, ite2 (fun ew => ?_) (fun nw => ?_)⟩
      · obtain ⟨nm, mm, g, pl, k, hd, rfl⟩ := count_ent (V.str.inj (of_decide_eq_true ew))
        obtain ⟨_, _, _, HL, _, frm⟩ := gd.ents _ (List.mem_of_getElem? hes)
        refine ⟨_, rfl, _, rfl, a, _, 3, _, rfl, rfl, SqT.of hae, atI_nat (j := 3) rfl, _, rfl, a, _, 4, _, rfl, rfl, SqT.of hae, atI_nat (j := 4) rfl, _, rfl, h, Ps, G, es, m, i, g, pl, rfl, ho.on t4.tk, gd, m30, ?_, frm.2.1, t4.1, fun H5 t5 => ?_⟩
        · have := (List.getElem?_eq_some_iff.mp hes).1
          omega
        have t45 := t4.tr t5
        have hae5 := t5.tk _ _ hae
        have hD5 := t5.lst hD4
        have ro5 := ro4.on t5.tk
        have dr : dRow ((along es).take i) (alg es i) = (lastC ((along es).take i) g (tau (es.take i) pl)).map fun x => ⟨g, x.1, nm, k - x.2⟩ := by rw [ea]; rfl
        rw [diffN_snoc, dr]
        generalize lastC ((along es).take i) g (tau (es.take i) pl) = sx
        refine ⟨_, rfl, rfl, _, rfl, ?_⟩
        cases sx with
        | none =>
          refine iteF ⟨_, _, _, ras, rfl, t45, hD5, ?_⟩
          rw [show (Option.map (fun x : Str × Int => R4.mk g x.1 nm (k - x.2)) none).toList = [] from rfl, List.append_nil]
          exact ro5
        | some x =>
          refine iteT ⟨_, rfl, .inl ⟨rfl, _, SqL.of hD5⟩, _, rfl, a, _, 3, _, rfl, rfl, SqT.of hae5, atI_nat (j := 3) rfl, _, rfl, a, _, 1, _, rfl, rfl, SqT.of hae5, atI_nat (j := 1) rfl, _, rfl, a, _, 5, _, rfl, rfl, SqT.of hae5, atI_nat (j := 5) rfl, _, rfl, k, x.2, rfl, rfl, (by show 3 ≤ sizeLine; decide), fun t nt => ?_⟩
          dsimp only [Ent.name]
          have s7 := @same_new _ _ (.tup [V.str g, .str nm, .int (k - x.2)]) nt
          have ht : (upd H5 t (.tup [V.str g, .str nm, .int (k - x.2)])) t = some (.tup [V.str g, .str nm, .int (k - x.2)]) := upd_same
          generalize upd H5 t (.tup [V.str g, .str nm, .int (k - x.2)]) = H7 at s7 ht
          have t7 := t45.tr (.same t45.1 s7)
          have hD7 := s7 _ _ hD5
          have k8 : TK H7 (upd H7 D (.lst (ras.map V.ref ++ [V.ref t]))) := TK.upd fun xs e => by rw [hD7] at e; cases e
          refine ⟨D, _, _, rfl, rfl, hD7, (by rw [List.length_map]; exact small1000 (by omega)), ⟨_, _, _, ras ++ [t], rfl, t7.put nD hD7, ?_, ?_⟩⟩
          · rw [upd_same, List.map_append]
            rfl
          · exact Paired.snoc ((ro5.on (TK.of s7)).on k8) (k8 _ _ ht)
      · refine ⟨_, _, _, ras, rfl, t4, hD4, ?_⟩
        have dr : dRow ((along es).take i) (alg es i) = none := by
          rw [ea]
          cases e with
          | count n m g p k hd => exact absurd (decide_eq_true rfl) nw
          | _ => rfl
        rw [diffN_snoc, dr, show (none : Option R4).toList = [] from rfl, List.append_nil]
        exact ro4
    · rintro σ H3 ⟨y2, y3, y4, ras, rfl, t3, hD3, ro3⟩
      rw [List.length_map, g5.len] at ro3
      exact ⟨_, rfl, D, _, _, rfl, hD3, t3_dp ro3, t3_alike _, t3_sortable _, t3_depth, fun p ws' H4 np s4 hp dp => q p ws' H4 (t3.tr (.same t3.1 s4)) hp dp⟩
end
/-! ### _law_by_pieces -/
theorem un0 {a : Nat} (h : a + 64 < cLine) : a < cLine := by omega
theorem fold_grow (cn un : List Str) (g : Str) : ∀ (l : List Row) (z : PSt), z.1.length ≤ (l.foldl (pStep cn un g) z).1.length
  | [], z => Nat.le_refl _
  | x :: r, z => by
    have h := fold_grow cn un g r (pStep cn un g z x)
    have e : (pStep cn un g z x).1.length = z.1.length + (pEm cn g ((p0 cn z.2 x.op).2 + x.bal) (fU (unB un x.ins) (p0 cn z.2 x.op).1) x.cl).length := List.length_append
    show z.1.length ≤ (r.foldl (pStep cn un g) (pStep cn un g z x)).1.length
    omega
theorem fm_mem_len {α β : Type} {f : α → List β} {a : α} : ∀ {L : List α}, a ∈ L → (f a).length ≤ (L.flatMap f).length
  | x :: r, h => by
    rw [List.flatMap_cons, List.length_append]
    rcases List.mem_cons.mp h with rfl | h
    · omega
    · have := fm_mem_len (f := f) h
      omega
theorem fm_take_len {α β : Type} {f : α → List β} (L : List α) (i : Nat) : ((L.take i).flatMap f).length ≤ (L.flatMap f).length := by
  have : L.flatMap f = (L.take i).flatMap f ++ (L.drop i).flatMap f := by rw [← List.flatMap_append, List.take_append_drop]
  rw [this, List.length_append]
  omega
theorem byPM_le {P G : List Str} {es : List Ent} {m : Nat} (gd : Good P G es m) {g : Str} (hg : g ∈ G) : (byPM P es g).length ≤ es.length := by
  have h1 := fm_mem_len (f := byPM P es) hg
  rw [(byP_perm gd).length_eq] at h1
  exact Nat.le_trans h1 (diffN_len es es.length)
theorem optS_dec (o : Option Str) : decide (optS o = .non) = o.isNone := by cases o <;> rfl
theorem wordN_snoc {es : List Ent} {i : Nat} {e : Ent} (w : Str) (h : es[i]? = some e) : ((es.take (i + 1)).filter fun e => decide (e.word = w)).map Ent.name = ((es.take i).filter fun e => decide (e.word = w)).map Ent.name ++ (if e.word = w then [e.name] else []) := by
  rw [take_snoc h, List.filter_append, List.map_append]
  by_cases z : e.word = w
  · rw [if_pos z, List.filter_cons_of_pos (p := fun e : Ent => decide (e.word = w)) (decide_eq_true z)]
    rfl
  · rw [if_neg z, List.filter_cons_of_neg (p := fun e : Ent => decide (e.word = w)) (by rw [decide_eq_false z]; decide)]
    rfl
theorem in_opt {o : Option Str} {ns : List Str} : inV (optS o) (ns.map V.str) = (match o with | none => false | some a => decide (a ∈ ns)) := by
  cases o with
  | some a => exact in_ns
  | none =>
    show inV .non _ = false
    unfold inV
    rw [List.any_eq_false]
    intro x hx
    obtain ⟨n, _, rfl⟩ := List.mem_map.mp hx
    exact Bool.false_ne_true
theorem cut_ins {t : Str} {k : Nat} : ∀ {L : List Ent} {rows : List Row} {op : Option Ent} {ins : List Ent}, (∀ x ∈ rows, x.ins.length ≤ k) → ins.length + L.length ≤ k → ∀ x ∈ cutRows t L rows op ins, x.ins.length ≤ k
  | [], rows, op, ins, hr, hl, x, hx => by
    rcases List.mem_append.mp (show x ∈ rows ++ [mkRow t rows.length op none ins] from hx) with hx | hx
    · exact hr x hx
    · rw [List.mem_singleton.mp hx]
      show (ins.map Ent.name).length ≤ k
      rw [List.length_map]
      exact hl
  | e :: r, rows, op, ins, hr, hl, x, hx => by
    rw [List.length_cons] at hl
    by_cases mk : e.mark = true
    · rw [show cutRows t (e :: r) rows op ins = cutRows t r (rows ++ [mkRow t rows.length op (some e) ins]) (some e) [] from if_pos mk] at hx
      refine cut_ins (fun y hy => ?_) (by rw [List.length_nil]; omega) x hx
      rcases List.mem_append.mp hy with hy | hy
      · exact hr y hy
      · rw [List.mem_singleton.mp hy]
        show (ins.map Ent.name).length ≤ k
        rw [List.length_map]
        omega
    · rw [show cutRows t (e :: r) rows op ins = cutRows t r rows op (ins ++ [e]) from if_neg mk] at hx
      exact cut_ins hr (by rw [List.length_append, List.length_cons, List.length_nil]; omega) x hx
theorem ins_30 {P G : List Str} {es : List Ent} {m : Nat} (gd : Good P G es m) (m30 : m ≤ 30) {g : Str} {x : Row} (hx : x ∈ piecesM P es g) : x.ins.length ≤ 30 := by
  obtain ⟨t, _, hx⟩ := List.mem_flatMap.mp hx
  refine cut_ins (rows := []) (ins := []) (op := none) (fun y hy => (nomatch hy)) ?_ x hx
  rw [List.length_nil, Nat.zero_add]
  refine Nat.le_trans (List.length_filter_le _ _) (Nat.le_trans (List.length_filter_le _ _) ?_)
  rw [along_len]
  have := gd.many
  omega
def spByPieces (Ts : List Addr) : Sp := fun vs H Q _ => ∃ (h : Addr) (P G : List Str) (es : List Ent) (m : Nat) (g : Str), vs = [.ref h, .str g] ∧ HouseAt H h P G es ∧ Good P G es m ∧ m ≤ 30 ∧ g ∈ G ∧ TabsG Ts H ∧
  ∀ (l : Addr) (as : List Addr) (H' : Hp), TB1 Ts H H' → H' l = some (.lst (as.map V.ref)) → R4sAt H' as (byPM P es g) → Q (.ref l) H'
section
variable {P : Program} {w : World} {K : PySem.W.Frag} {mg : Str → Option Value} {base : Heap}
abbrev sByPiecesN : List Str := ["_law_house_here", "_law_good", "_law_counts", "_law_entry_here", "_law_untold", "_law_found", "_law_first", "_law_total", "_law_piece", "_law_opened", "_law_closed", "_law_inside", "_law_balance", "_law_name_here"]
theorem sc_sByPieces : FnScope sByPiecesN ["_law_house_here", "_law_good"] (defScope sByPieces) := ⟨rfl, rfl, rfl, by decide +kernel, rfl, by decide +kernel, by decide +kernel⟩
set_option maxHeartbeats 8000000 in
theorem ok_byPieces {f fP : Addr} {fd dP : FuncData} {Ts : List Addr} (F : Fun K "_law_by_pieces" "_law_by_pieces" sByPieces f fd) (PI : DefT P w K mg base "pieces" 5 fP dP ["house", "good"] (spPieces Ts)) :
    FnOk P w K mg base CX0 6 f fd ["_law_house_here", "_law_good"] (spByPieces Ts) := by
  refine F.ok sc_sByPieces (fun vs H Q E h => ?_) (fun cdv A outer s H vs Q E hr h => ?_)
  · obtain ⟨h, Ps, G, es, m, g, rfl, _⟩ := h
    rfl
  · obtain ⟨h, Ps, G, es, m, g, rfl, ho, gd, m30, gG, tg, q⟩ := h
    have nd := sc_sByPieces.nd
    refine ⟨_, pss_cons (ps_setLc (i := 2) (own := [("_law_entry_here", 3)]) (g := gName 3) (tt := tTest (tOp rEq (tOp (rIxT K) (tVar 3) (tC (V.int 0))) (tC (V.str "count")))) (te := tOp (rIxT K) (tVar 3) (tC (V.int 1))) rfl nd rfl rfl (sw_true rfl rfl rfl (by decide +kernel)) (pi_tup (pe_ix ix_tup (pv 0) pe_int (fun _ _ => rfl))) (blkOk_by (N := sByPiecesN) (sc := defScope sByPieces) (by decide +kernel)) (fun _ _ _ _ _ => (pg_name (i := 3) nd rfl (Or.inl rfl))) (fun _ _ _ _ _ => (pts_one (pt_cmpR op_eq (pe_ix ix_tup (pv 3) pe_int (fun _ _ => rfl)) pe_str (nomark _)))) (fun _ _ _ _ _ => (pe_ix ix_tup (pv 3) pe_int (fun _ _ => rfl))))
      (pss_cons (ps_set (i := 4) nd rfl (Or.inr rfl) (pe_lc (own := [("_law_entry_here", 3)]) (g := gName 3) (tt := tTest (tOp rEq (tOp (rIxT K) (tVar 3) (tC (V.int 0))) (tC (V.str "some")))) (te := tOp (rIxT K) (tVar 3) (tC (V.int 1))) rfl nd (pi_tup (pe_ix ix_tup (pv 0) pe_int (fun _ _ => rfl))) (blkOk_by (N := sByPiecesN) (sc := defScope sByPieces) (by decide +kernel)) (fun _ _ _ _ _ => (pg_name (i := 3) nd rfl (Or.inl rfl))) (fun _ _ _ _ _ => (pts_one (pt_cmpR op_eq (pe_ix ix_tup (pv 3) pe_int (fun _ _ => rfl)) pe_str (nomark _)))) (fun _ _ _ _ _ => (pe_ix ix_tup (pv 3) pe_int (fun _ _ => rfl)))))
      (pss_cons (ps_set (i := 5) nd rfl (Or.inl rfl) (pe_lst pa_nil))
      (pss_cons (ps_set (i := 6) nd rfl (Or.inl rfl) pe_non)
      (pss_cons (ps_set (i := 7) nd rfl (Or.inl rfl) pe_int)
      (pss_cons (ps_for PassesOwn.never rfl (pi_list (pe_call PI.ok hr (by rfl) PI.g PI.kp PI.b .nil pass0 (pa_cons (pv 0) (pa_cons (pv 1) pa_nil)))) (pg_tup (by rfl) (pgs_cons (pg_name (i := 8) nd rfl (Or.inl rfl)) (pgs_cons (pg_name (i := 9) nd rfl (Or.inl rfl)) (pgs_cons (pg_name (i := 10) nd rfl (Or.inl rfl)) (pgs_cons (pg_name (i := 11) nd rfl (Or.inl rfl)) (pgs_cons (pg_name (i := 12) nd rfl (Or.inl rfl)) pgs_nil))))))
        (C8.pss_cut (ps_if (PW.pt (pw_or (pt_cmpR op_isN (pv 9) pe_non (by rfl)) (pw_or1 (pt_cmpR op_in_seq (pv 9) (pv 2) (by rfl))))) (pss_cons (ps_set (i := 6) nd rfl (Or.inl rfl) (pv 9))
          (pss_one (ps_set (i := 7) nd rfl (Or.inl rfl) pe_int))) pss_nil)
        (pss_cons (ps_set (i := 7) nd rfl (Or.inl rfl) (pe_op op_add (pv 7) (pv 12)))
        (C8.pss_cut (ps_if (pt_cmpR (op_neNil (un0 hr.units)) (pe_lc (own := [("_law_name_here", 13)]) (g := gName 13) (tt := tTest (tOp (rIn K false) (tVar 13) (tVar 4))) (te := tVar 13) rfl nd (pi_tup (pv 11)) (blkOk_by (N := sByPiecesN) (sc := defScope sByPieces) (by decide +kernel)) (fun _ _ _ _ _ => (pg_name (i := 13) nd rfl (Or.inl rfl))) (fun _ _ _ _ _ => (pts_one (pt_cmpR op_in_seq (pv 13) (pv 4) (by rfl)))) (fun _ _ _ _ _ => (pv 13))) (pe_lst pa_nil) (nomark _)) (pss_one (ps_set (i := 6) nd rfl (Or.inl rfl) pe_non)) pss_nil)
        (pss_one (ps_if (PW.pt (pw_and (pt_cmpR op_notN (pv 6) pe_non (by rfl)) (pw_and1 (pt_cmpR op_in_seq (pv 10) (pv 2) (by rfl))))) (pss_one (ps_expr (pe_bm PySem.F.plainAttrs_list PySem.F.slot_list_append PySem.F.type_list_append mt_append (pv 5) (pa_cons (pe_tup (pa_cons (pv 1) (pa_cons (pv 6) (pa_cons (pv 10) (pa_cons (pv 7) pa_nil))))) pa_nil)))) pss_nil))))))
      (pss_one (ps_ret (pv 5)))))))), ?_⟩
    obtain ⟨hp, hg, he, tps, g1, g2, g3, g4, g5⟩ := ho.ex
    have lm := gd.many
    have l5 := g5.len
    have nmle : ∀ (w : Str) (i : Nat), (((es.take i).filter fun e => decide (e.word = w)).map Ent.name).length ≤ 30 := fun w i => by
      rw [List.length_map]
      refine Nat.le_trans (List.length_filter_le _ _) ?_
      rw [List.length_take]
      omega
    refine ⟨_, rfl, h, _, 2, _, rfl, rfl, SqT.of g1, atI_nat (j := 2) rfl, he, rfl, ⟨_, SqT.of g4⟩, fun C nC => ?_⟩
    refine lc_tup (K := K) (a := he) (xs := tps.map V.ref) (fun i H' => Same H H' ∧ H' C = some (.lst ((((es.take i).filter fun e => decide (e.word = ("count" : Str))).map Ent.name).map V.str)))
      ⟨same_new nC, upd_same⟩ (fun i H' _ z => SqT.of (z.1 _ _ g4)) ?_ ?_
    · rintro i v H1 hv ⟨s1, hC⟩
      rw [List.getElem?_map] at hv
      obtain ⟨a, ha, rfl⟩ := Option.map_eq_some_iff.mp hv
      obtain ⟨e, hes, hae0⟩ := g5.get ha
      have hae := s1 _ _ hae0
      have sn := wordN_snoc "count" hes
      refine ⟨rfl, _, rfl, a, _, 0, _, rfl, rfl, SqT.of hae, at0 e, rfl, _, rfl, ite2 (fun z => ?_) (fun z => ?_)⟩
      · rw [sn, if_pos (V.str.inj (of_decide_eq_true z)), List.map_append]
        exact ⟨_, rfl, a, _, 1, _, rfl, rfl, SqT.of hae, at1 e, _, hC, (by rw [List.length_map]; exact small1000 (by have := nmle "count" i; omega)), fun b o eb => (upd_ne (ne_of_none eb nC)).trans (s1 b o eb), upd_same⟩
      · rw [sn, if_neg (fun y => z (decide_eq_true (congrArg V.str y))), List.append_nil]
        exact ⟨s1, hC⟩
    rintro H1 ⟨s1, hC1⟩
    rw [List.length_map, l5, List.take_length] at hC1
    have hC1 : H1 C = some (.lst ((cntN es).map V.str)) := hC1
    refine ⟨_, rfl, h, _, 2, _, rfl, rfl, SqT.of (s1 _ _ g1), atI_nat (j := 2) rfl, he, rfl, ⟨_, SqT.of (s1 _ _ g4)⟩, fun U nU => ?_⟩
    refine lc_tup (K := K) (a := he) (xs := tps.map V.ref) (fun i H' => Same H1 H' ∧ H' U = some (.lst ((((es.take i).filter fun e => decide (e.word = ("some" : Str))).map Ent.name).map V.str)))
      ⟨same_new nU, upd_same⟩ (fun i H' _ z => SqT.of (z.1 _ _ (s1 _ _ g4))) ?_ ?_
    · rintro i v H2 hv ⟨s2, hU⟩
      rw [List.getElem?_map] at hv
      obtain ⟨a, ha, rfl⟩ := Option.map_eq_some_iff.mp hv
      obtain ⟨e, hes, hae0⟩ := g5.get ha
      have hae := s2 _ _ (s1 _ _ hae0)
      have sn := wordN_snoc "some" hes
      refine ⟨rfl, _, rfl, a, _, 0, _, rfl, rfl, SqT.of hae, at0 e, rfl, _, rfl, ite2 (fun z => ?_) (fun z => ?_)⟩
      · rw [sn, if_pos (V.str.inj (of_decide_eq_true z)), List.map_append]
        exact ⟨_, rfl, a, _, 1, _, rfl, rfl, SqT.of hae, at1 e, _, hU, (by rw [List.length_map]; exact small1000 (by have := nmle "some" i; omega)), fun b o eb => (upd_ne (ne_of_none eb nU)).trans (s2 b o eb), upd_same⟩
      · rw [sn, if_neg (fun y => z (decide_eq_true (congrArg V.str y))), List.append_nil]
        exact ⟨s2, hU⟩
    rintro H2 ⟨s2, hU2⟩
    rw [List.length_map, l5, List.take_length] at hU2
    have hU2 : H2 U = some (.lst ((somN es).map V.str)) := hU2
    have lbp := byPM_le gd gG
    unfold byPM at q lbp
    generalize cntN es = cn at hC1 q lbp
    generalize somN es = un at hU2 q lbp
    have hC2 := s2 _ _ hC1
    refine ⟨Nat.zero_le _, fun F0 nF => ?_⟩
    have s3 := @same_new _ _ (.lst []) nF
    have hF3 : (upd H2 F0 (.lst [])) F0 = some (.lst (([] : List Addr).map V.ref)) := upd_same
    have nFC : C ≠ F0 := ne_of_none hC2 nF
    have nFU : U ≠ F0 := ne_of_none hU2 nF
    generalize upd H2 F0 (.lst []) = H3 at s3 hF3
    have s03 := s1.trans (s2.trans s3)
    have nF0 : H F0 = none := (s1.trans s2).free nF
    have t3 : TB1 Ts H H3 := .same tg s03
    refine ⟨_, rfl, _, rfl, h, Ps, G, es, m, g, rfl, ho.on (TK.of s03), gd, m30, t3.1, fun r rs H4 t34 nr hr ro => ⟨r, rfl, ⟨_, SqL.of hr⟩, ?_⟩⟩
    have t4 := t3.tr t34
    have hC4 := t34.lst (s3 _ _ hC2)
    have hU4 := t34.lst (s3 _ _ hU2)
    have hF4 := t34.lst hF3
    have nFr : r ≠ F0 := fun z => by rw [z, hF3] at nr; cases nr
    have lrs : rs.length = (piecesM Ps es g).length := Paired.length ro
    have i30 : ∀ x ∈ piecesM Ps es g, x.ins.length ≤ 30 := fun x hx => ins_30 gd m30 hx
    generalize piecesM Ps es g = xs at ro q lbp lrs i30
    refine for_list (K := K) (a := r) (xs := rs.map V.ref) (fun i σ H' => ∃ y8 y9 y10 y11 y12, ∃ as : List Addr, σ = [some (.ref h), some (.str g), some (.ref C), none, some (.ref U), some (.ref F0), some (optS ((xs.take i).foldl (pStep cn un g) ([], none, 0)).2.1), some (.int ((xs.take i).foldl (pStep cn un g) ([], none, 0)).2.2), y8, y9, y10, y11, y12, none] ∧
        TB1 Ts H H' ∧ TK H4 H' ∧ H' r = some (.lst (rs.map V.ref)) ∧ H' C = some (.lst (cn.map V.str)) ∧ H' U = some (.lst (un.map V.str)) ∧ H' F0 = some (.lst (as.map V.ref)) ∧ R4sAt H' as ((xs.take i).foldl (pStep cn un g) ([], none, 0)).1)
      ⟨_, _, _, _, _, [], rfl, t4, fun _ _ z => z, hr, hC4, hU4, hF4, .nil⟩ (fun i σ H' _ z => by obtain ⟨_, _, _, _, _, _, _, _, _, z, _⟩ := z; exact SqL.of z) ?_ ?_
    · rintro i v σ H5 hv ⟨y8, y9, y10, y11, y12, as, rfl, t5, k5, hr5, hC5, hU5, hF5, ra5⟩
      rw [List.getElem?_map] at hv
      obtain ⟨ra, hra, rfl⟩ := Option.map_eq_some_iff.mp hv
      obtain ⟨x, hx, rat⟩ := paired_get ro hra
      obtain ⟨pc, it, r1, r2, r3⟩ := (rat.on k5).ex
      have las : as.length ≤ 30 := by
        rw [Paired.length ra5]
        have h1 : xs.foldl (pStep cn un g) ([], none, 0) = (xs.drop i).foldl (pStep cn un g) ((xs.take i).foldl (pStep cn un g) ([], none, 0)) := by rw [← List.foldl_append, List.take_append_drop]
        have h2 := fold_grow cn un g (xs.drop i) ((xs.take i).foldl (pStep cn un g) ([], none, 0))
        rw [← h1] at h2
        omega
      have sn : (xs.take (i + 1)).foldl (pStep cn un g) ([], none, 0) = pStep cn un g ((xs.take i).foldl (pStep cn un g) ([], none, 0)) x := by
        rw [take_snoc hx, List.foldl_append]
        rfl
      rw [sn]
      generalize (xs.take i).foldl (pStep cn un g) ([], none, 0) = z at ra5 ⊢
      refine ⟨ra, _, rfl, SqT.of r1, rfl, _, _, rfl, _, _, rfl, _, _, rfl, _, _, rfl, _, _, rfl, rfl, ?_⟩
      show C8.tCut _ _ _ [some (.ref h), some (.str g), some (.ref C), none, some (.ref U), some (.ref F0), some (optS z.2.1), some (.int z.2.2), some (.ref pc), some (optS x.op), some (optS x.cl), some (.ref it), some (.int x.bal), none] H5
      refine ⟨fun σ H' => σ = [some (.ref h), some (.str g), some (.ref C), none, some (.ref U), some (.ref F0), some (optS (p0 cn z.2 x.op).1), some (.int (p0 cn z.2 x.op).2), some (.ref pc), some (optS x.op), some (optS x.cl), some (.ref it), some (.int x.bal), none] ∧ H' = H5, ?_, ?_⟩
      · refine ⟨_, rfl, rfl, _, rfl, ?_⟩
        rw [optS_dec]
        cases eo : x.op with
        | none => exact iteT (iteT ⟨_, rfl, rfl, rfl⟩)
        | some o =>
          refine iteF ⟨_, rfl, _, rfl, C, _, rfl, .inl (SqL.of hC5), rfl, all_flat _, _, rfl, ?_⟩
          rw [if_neg Bool.false_ne_true, show inV (optS (some o)) (cn.map V.str) = decide (o ∈ cn) from in_ns]
          refine ite2 (fun w => ?_) (fun w => ⟨?_, rfl⟩)
          · refine ⟨_, rfl, ?_, rfl⟩
            rw [show p0 cn z.2 (some o) = (some o, 0) from if_pos (of_decide_eq_true w)]
            rfl
          · rw [show p0 cn z.2 (some o) = z.2 from if_neg fun y => w (decide_eq_true y)]
      rintro σ H' ⟨rfl, rfl⟩
      refine ⟨_, rfl, _, rfl, _, _, rfl, rfl, ?_⟩
      unfold pStep
      generalize p0 cn z.2 x.op = s0
      show C8.tCut _ _ _ [some (.ref h), some (.str g), some (.ref C), none, some (.ref U), some (.ref F0), some (optS s0.1), some (.int (s0.2 + x.bal)), some (.ref pc), some (optS x.op), some (optS x.cl), some (.ref it), some (.int x.bal), none] H'
      refine ⟨fun σ H6 => σ = [some (.ref h), some (.str g), some (.ref C), none, some (.ref U), some (.ref F0), some (optS (fU (unB un x.ins) s0.1)), some (.int (s0.2 + x.bal)), some (.ref pc), some (optS x.op), some (optS x.cl), some (.ref it), some (.int x.bal), none] ∧ Same H' H6, ?_, ?_⟩
      · refine ⟨_, rfl, it, rfl, ⟨_, SqT.of r3⟩, fun D nD => ?_⟩
        refine lc_tup (K := K) (a := it) (xs := x.ins.map V.str) (fun j H6 => Same H' H6 ∧ ∃ ws : List V, H6 D = some (.lst ws) ∧ ws.length ≤ j ∧ ws.isEmpty = !(unB un (x.ins.take j)))
          ⟨same_new nD, [], upd_same, Nat.le_refl _, by rw [List.take_zero]; rfl⟩ (fun j H6 _ z => SqT.of (z.1 _ _ r3)) ?_ ?_
        · rintro j v H6 hv ⟨s6, ws, hD, lw, ie⟩
          rw [List.getElem?_map] at hv
          obtain ⟨n, hn, rfl⟩ := Option.map_eq_some_iff.mp hv
          have un1 : unB un (x.ins.take (j + 1)) = (unB un (x.ins.take j) || decide (n ∈ un)) := by
            unfold unB
            rw [take_snoc hn, List.any_append]
            show (_ || (decide (n ∈ un) || false)) = _
            rw [Bool.or_false]
          refine ⟨rfl, _, rfl, _, rfl, U, _, rfl, .inl (SqL.of (s6 _ _ hU5)), rfl, all_flat _, _, rfl, ?_⟩
          rw [if_neg Bool.false_ne_true, show inV (V.str n) (un.map V.str) = decide (n ∈ un) from in_ns]
          refine ite2 (fun w => ?_) (fun w => ⟨s6, ws, hD, Nat.le_succ_of_le lw, ?_⟩)
          · have lj : j < 30 := by
              have h1 := (List.getElem?_eq_some_iff.mp hn).1
              have h2 := i30 x (List.mem_of_getElem? hx)
              omega
            refine ⟨_, rfl, _, hD, small1000 (by omega), fun b' o eb => (upd_ne (ne_of_none eb nD)).trans (s6 b' o eb), _, upd_same, (by rw [List.length_append]; exact Nat.succ_le_succ lw), ?_⟩
            rw [un1, w, Bool.or_true]
            cases ws <;> rfl
          · rw [un1, decide_eq_false (fun y => w (decide_eq_true y)), Bool.or_false]
            exact ie
        · rintro H6 ⟨s6, ws, hD, lw, ie⟩
          rw [List.length_map, List.take_length] at ie
          refine ⟨Nat.zero_le _, fun Z nZ => ?_⟩
          have s7 := @same_new _ _ (.lst []) nZ
          refine ⟨D, Z, ws, rfl, rfl, SqL.of (s7 _ _ hD), SqL.of upd_same, _, rfl, ?_⟩
          rw [if_pos rfl, ie, Bool.not_not]
          cases unB un x.ins with
          | true => exact iteT ⟨rfl, s6.trans s7⟩
          | false => exact iteF ⟨rfl, s6.trans s7⟩
      rintro σ H6 ⟨rfl, s6⟩
      generalize fU (unB un x.ins) s0.1 = f1
      generalize s0.2 + x.bal = t1
      have t6 := t5.tr (.same t5.1 s6)
      have k6 := k5.tr (TK.of s6)
      have hr6 := s6 _ _ hr5
      have hC6 := s6 _ _ hC5
      have hU6 := s6 _ _ hU5
      have hF6 := s6 _ _ hF5
      have ra6 := ra5.on (TK.of s6)
      have stay : ∀ cl : Option Str, pEm cn g t1 f1 x.cl = [] → ∃ y8 y9 y10 y11 y12, ∃ as : List Addr, [some (V.ref h), some (.str g), some (.ref C), none, some (.ref U), some (.ref F0), some (optS f1), some (.int t1), some (.ref pc), some (optS x.op), some (optS x.cl), some (.ref it), some (.int x.bal), none] = [some (V.ref h), some (.str g), some (.ref C), none, some (.ref U), some (.ref F0), some (optS f1), some (.int t1), y8, y9, y10, y11, y12, none] ∧
          TB1 Ts H H6 ∧ TK H4 H6 ∧ H6 r = some (.lst (rs.map V.ref)) ∧ H6 C = some (.lst (cn.map V.str)) ∧ H6 U = some (.lst (un.map V.str)) ∧ H6 F0 = some (.lst (as.map V.ref)) ∧ R4sAt H6 as (z.1 ++ pEm cn g t1 f1 x.cl) := fun _ ee => ⟨_, _, _, _, _, as, rfl, t6, k6, hr6, hC6, hU6, hF6, by rw [ee, List.append_nil]; exact ra6⟩
      refine ⟨_, rfl, rfl, _, rfl, ?_⟩
      rw [optS_dec]
      cases f1 with
      | none => exact iteF (iteF (stay none rfl))
      | some a1 =>
        refine iteT ⟨_, rfl, _, rfl, C, _, rfl, .inl (SqL.of hC6), ?_, all_flat _, _, rfl, ?_⟩
        · cases x.cl <;> rfl
        rw [if_neg Bool.false_ne_true, in_opt]
        cases ec : x.cl with
        | none =>
          rw [ec] at stay
          exact iteF (stay none rfl)
        | some b1 =>
          rw [ec] at stay
          refine ite2 (fun w => ?_) (fun w => stay none (if_neg fun y => w (decide_eq_true y)))
          refine ⟨_, rfl, .inl ⟨rfl, _, SqL.of hF6⟩, _, rfl, _, rfl, _, rfl, _, rfl, (by show 4 ≤ sizeLine; decide), fun t nt => ?_⟩
          have s7 := @same_new _ _ (.tup [V.str g, optS (some a1), optS (some b1), .int t1]) nt
          have ht : (upd H6 t (.tup [V.str g, optS (some a1), optS (some b1), .int t1])) t = some (.tup (R4.vals ⟨g, a1, b1, t1⟩)) := upd_same
          have hF7 := s7 _ _ hF6
          generalize upd H6 t (.tup [V.str g, optS (some a1), optS (some b1), .int t1]) = H7 at s7 ht hF7
          have k8 : TK H7 (upd H7 F0 (.lst (as.map V.ref ++ [V.ref t]))) := TK.upd fun xs e => by rw [hF7] at e; cases e
          refine ⟨F0, _, _, rfl, rfl, hF7, (by rw [List.length_map]; exact small1000 (by omega)), ⟨_, _, _, _, _, as ++ [t], rfl, (t6.tr (.same t6.1 s7)).put nF0 hF7, (k6.tr (TK.of s7)).tr k8, (upd_ne nFr).trans (s7 _ _ hr6), (upd_ne nFC).trans (s7 _ _ hC6), (upd_ne nFU).trans (s7 _ _ hU6), ?_, ?_⟩⟩
          · rw [upd_same, List.map_append]
            rfl
          · rw [show pEm cn g t1 (some a1) (some b1) = [⟨g, a1, b1, t1⟩] from if_pos (of_decide_eq_true w)]
            exact R4sAt.snoc ((ra6.on (TK.of s7)).on k8) (k8 _ _ ht)
    rintro σ H5 ⟨y8, y9, y10, y11, y12, as, rfl, t5, k5, hr5, hC5, hU5, hF5, ra5⟩
    rw [List.length_map, lrs, List.take_length] at ra5
    exact ⟨_, rfl, q F0 as H5 t5 hF5 ra5⟩
end
/-! ### how long the differences' text is -/
def bil : Nat := 1000000000
theorem fold_bd {g t : Str} : ∀ (L : List Ent) (s : Option (Str × Int)) (c : Nat), 1 ≤ c → (∀ e ∈ L, (e.chg t).natAbs ≤ bil ∧ e.cnt.natAbs ≤ bil) → (∀ x, s = some x → x.2.natAbs ≤ bil * c) → ∀ x, L.foldl (bkStep g t) s = some x → x.2.natAbs ≤ bil * (c + L.length)
  | [], s, c, _, _, hs, x, hx => by
    rw [List.length_nil, Nat.add_zero]
    exact hs x hx
  | e :: r, s, c, h1, hL, hs, x, hx => by
    have := fold_bd (g := g) (t := t) r (bkStep g t s e) (c + 1) (by omega) (fun e' he' => hL e' (List.mem_cons_of_mem _ he')) ?_ x hx
    · rw [List.length_cons]
      have e0 : c + (r.length + 1) = c + 1 + r.length := by omega
      rw [e0]
      exact this
    · intro y hy
      obtain ⟨b1, b2⟩ := hL e List.mem_cons_self
      have up : bil * c ≤ bil * (c + 1) := Nat.mul_le_mul_left _ (by omega)
      unfold bkStep at hy
      split at hy
      · have mp : (s.map fun x => (x.1, x.2 + e.chg t)) = some y → y.2.natAbs ≤ bil * (c + 1) := fun z => by
          obtain ⟨u, hu, rfl⟩ := Option.map_eq_some_iff.mp z
          have := hs u hu
          rw [Nat.mul_succ]
          show (u.2 + e.chg t).natAbs ≤ _
          omega
        cases e with
        | count n m gg q k hd =>
          rw [← Option.some.inj hy]
          show k.natAbs ≤ _
          have : k.natAbs ≤ bil := b2
          have : bil * 1 ≤ bil * (c + 1) := Nat.mul_le_mul_left _ (by omega)
          omega
        | some_ n m gg o t => cases hy
        | come n m gg q k r => exact mp hy
        | go n m gg q k => exact mp hy
        | move n m gg o t k => exact mp hy
        | swap n m o t => exact mp hy
        | look n m gg q => exact mp hy
      · exact Nat.le_trans (hs y hy) up
theorem chg_bd {e : Ent} {P G HL : List Str} (h : e.From P G HL) (τ : Str → Str) (t : Str) : ((e.mp τ).chg t).natAbs ≤ bil ∧ (e.mp τ).cnt.natAbs ≤ bil := by
  have b : bil = 1000000000 := rfl
  have ie : ∀ {p : Prop} [Decidable p] {x y : Int}, x.natAbs ≤ bil → y.natAbs ≤ bil → (if p then x else y).natAbs ≤ bil := fun {p _ x y} hx hy => by split <;> assumption
  have z : (0 : Int).natAbs ≤ bil := Nat.zero_le _
  cases e with
  | come n m g q k r =>
    obtain ⟨_, _, h3, h4, _⟩ := h
    exact ⟨ie (by omega) z, z⟩
  | go n m g q k =>
    obtain ⟨_, _, h3, h4⟩ := h
    exact ⟨ie (by omega) z, z⟩
  | move n m g o t k =>
    obtain ⟨_, _, _, _, h3, h4⟩ := h
    exact ⟨ie (by omega) (ie (by omega) z), z⟩
  | some_ n m g o t => exact ⟨z, z⟩
  | swap n m o t => exact ⟨z, z⟩
  | count n m g q k hd =>
    obtain ⟨_, _, h3, h4, _⟩ := h
    refine ⟨z, ?_⟩
    show k.natAbs ≤ bil
    omega
  | look n m g q => exact ⟨z, z⟩
theorem along_mem {es : List Ent} {e' : Ent} (h : e' ∈ along es) : ∃ e ∈ es, ∃ τ, e' = e.mp τ := by
  obtain ⟨i, hi⟩ := List.mem_iff_getElem?.mp h
  have lt : i < es.length := by
    have := (List.getElem?_eq_some_iff.mp hi).1
    rw [along_len] at this
    exact this
  have q := along_at (List.getElem?_eq_getElem lt)
  rw [hi] at q
  exact ⟨es[i], List.getElem_mem lt, _, Option.some.inj q⟩
theorem lastC_bd {P G : List Str} {es : List Ent} {m : Nat} (gd : Good P G es m) (hm : m ≤ 30) {g t : Str} {k : Nat} {x : Str × Int} (h : lastC ((along es).take k) g t = some x) : x.2.natAbs ≤ bil * 31 := by
  have q := fold_bd (g := g) (t := t) ((along es).take k) none 1 (Nat.le_refl _) (fun e he => by
    obtain ⟨e0, h0, τ, rfl⟩ := along_mem (List.mem_of_mem_take he)
    obtain ⟨_, _, _, HL, _, frm⟩ := gd.ents e0 h0
    exact chg_bd frm τ t) (fun x z => nomatch z) x h
  refine Nat.le_trans q (Nat.mul_le_mul_left _ ?_)
  rw [List.length_take, along_len]
  have := gd.many
  omega
theorem fold_nm {g t : Str} : ∀ (L : List Ent) (s : Option (Str × Int)), (∀ e ∈ L, nameB e.name = true) → (∀ x, s = some x → nameB x.1 = true) → ∀ x, L.foldl (bkStep g t) s = some x → nameB x.1 = true
  | [], s, _, hs, x, hx => hs x hx
  | e :: r, s, hL, hs, x, hx => by
    refine fold_nm (g := g) (t := t) r (bkStep g t s e) (fun e' he' => hL e' (List.mem_cons_of_mem _ he')) (fun y hy => ?_) x hx
    unfold bkStep at hy
    split at hy
    · have mp : (s.map fun x => (x.1, x.2 + e.chg t)) = some y → nameB y.1 = true := fun z => by
        obtain ⟨u, hu, rfl⟩ := Option.map_eq_some_iff.mp z
        exact hs u hu
      have en := hL e List.mem_cons_self
      cases e with
      | count n m gg q k hd =>
        rw [← Option.some.inj hy]
        exact en
      | some_ n m gg o t => cases hy
      | come n m gg q k r => exact mp hy
      | go n m gg q k => exact mp hy
      | move n m gg o t k => exact mp hy
      | swap n m o t => exact mp hy
      | look n m gg q => exact mp hy
    · exact hs y hy
theorem lastC_nm {P G : List Str} {es : List Ent} {m : Nat} (gd : Good P G es m) {g t : Str} {k : Nat} {x : Str × Int} (h : lastC ((along es).take k) g t = some x) : nameB x.1 = true :=
  fold_nm (g := g) (t := t) ((along es).take k) none (fun e he => by
    obtain ⟨e0, h0, τ, rfl⟩ := along_mem (List.mem_of_mem_take he)
    have : (e0.mp τ).name = e0.name := by cases e0 <;> rfl
    rw [this]
    exact (gd.ents e0 h0).1) (fun x z => nomatch z) x h
theorem diff_short {P G : List Str} {es : List Ent} {m : Nat} (gd : Good P G es m) (hm : m ≤ 30) : Short (.list (sortD ((diffN es es.length).map R4.D))) 2000 2 := by
  refine short_lst (n := 40) (k := 1) (fun d hd => ?_) ?_
  · obtain ⟨x, hx, rfl⟩ := List.mem_map.mp (sortD_mem.mp hd)
    obtain ⟨i, hi, hr⟩ := List.mem_filterMap.mp hx
    have hi' := List.mem_range.mp hi
    have he : es[i]? = some es[i] := List.getElem?_eq_getElem hi'
    have ea : alg es i = es[i].mp (tau (es.take i)) := alg_at (along_at he)
    obtain ⟨nn, _, _, HL, _, frm⟩ := gd.ents es[i] (List.getElem_mem hi')
    rw [ea] at hr
    cases e : es[i] with
    | count n mo g' q k hd =>
      rw [e] at hr frm nn
      obtain ⟨u, hu, rfl⟩ := Option.map_eq_some_iff.mp (show (lastC ((along es).take i) g' (tau (es.take i) q)).map (fun x => R4.mk g' x.1 n (k - x.2)) = some x from hr)
      have b1 := lastC_bd gd hm hu
      have b2 := lastC_nm gd hu
      obtain ⟨f1, f2, f3, f4, _⟩ := frm
      have bb : bil = 1000000000 := rfl
      refine short_tup (n := 8) (k := 0) (fun d hd => ?_) (by show 4 * 9 ≤ 40; decide)
      simp only [List.mem_cons, List.not_mem_nil, or_false] at hd
      rcases hd with rfl | rfl | rfl | rfl
      · exact short_str (.inl (gd.gn _ f1))
      · exact short_str (.inl b2)
      · exact short_str (.inl nn)
      · refine short_big ?_ ?_ <;> omega
    | come n mo g' q k r => rw [e] at hr; cases hr
    | go n mo g' q k => rw [e] at hr; cases hr
    | move n mo g' o t k => rw [e] at hr; cases hr
    | some_ n mo g' o t => rw [e] at hr; cases hr
    | swap n mo o t => rw [e] at hr; cases hr
    | look n mo g' q => rw [e] at hr; cases hr
  · rw [sortD_len, List.length_map]
    have := diffN_len es es.length
    have := gd.many
    omega
structure DefG (P : Program) (w : World) (K : PySem.W.Frag) (mg : Str → Option Value) (base : Heap) (x : Str) (k : Nat) (f : Addr) (fd : FuncData) (ps : List Str) (sp : Sp) : Prop where
  ok : FnG P w K mg base k f fd ps sp
  g : mg x = some (.ref f)
  kp : PySem.W.keepIn K (.ref f) = true
  b : Binds K fd ps []
/-! ### _law_steps -/
def bkD : Option (Str × Int) → PyData
  | none => .none
  | some x => .int x.2
def kvD (P : List Str) (c : Str → Option (Str × Int)) : PyData := .dict (P.map fun p => (PyData.str p, bkD (c p)))
theorem kvE_dq {K : PySem.W.Frag} {H : Hp} {d : Addr} {P : List Str} {c : Str → Option (Str × Int)} (h : H d = some (.dK (kvE P fun p => bkB (c p)))) : Dq K H (.ref d) (kvD P c) := by
  refine .dct h ?_ ?_
  · unfold kvE
    rw [List.map_map, List.map_map]
    clear h
    induction P with
    | nil => exact .nil
    | cons p r ih =>
      refine .cons ?_ ih
      show Dq K H (bkB (c p)) (bkD (c p))
      cases c p with
      | none => exact .non
      | some x => exact .int _
  · unfold kvE
    rw [List.map_map, List.map_map]
    rfl
theorem kvd_facts : ∀ {L : List (PyData × PyData)}, (∀ q ∈ L, Short q.1 8 0 ∧ Short q.2 8 0) → PyData.showableKv L = true ∧ PyData.leavesShortKv 13 L = true ∧ PyData.bulkKv L ≤ L.length * 18 ∧ PyData.depthKv L ≤ 0
  | [], _ => ⟨rfl, rfl, Nat.le_refl _, Nat.le_refl _⟩
  | (a, b) :: r, h => by
    obtain ⟨h1, h2⟩ := h _ List.mem_cons_self
    obtain ⟨f1, f2, f3, f4⟩ := kvd_facts fun q hq => h q (List.mem_cons_of_mem _ hq)
    have d1 : a.depth ≤ 0 := h1.dp
    have d2 : b.depth ≤ 0 := h2.dp
    have b1 : a.bulk ≤ 8 := h1.bk
    have b2 : b.bulk ≤ 8 := h2.bk
    refine ⟨?_, ?_, ?_, ?_⟩
    · rw [PyData.showableKv, h1.sh, h2.sh, f1]; rfl
    · rw [PyData.leavesShortKv, h1.ls, h2.ls, f2]; rfl
    · rw [PyData.bulkKv, List.length_cons, Nat.succ_mul]
      omega
    · rw [PyData.depthKv]
      omega
theorem kvD_facts {P G : List Str} {es : List Ent} {m : Nat} (gd : Good P G es m) (m30 : m ≤ 30) (g : Str) {k : Nat} (hk : k ≤ es.length) : (kvD P (kpF (es.take k) g)).showable = true ∧ (kvD P (kpF (es.take k) g)).depth ≤ 60 ∧ (kvD P (kpF (es.take k) g)).shown.length ≤ sizeLine := by
  have all : ∀ q ∈ P.map fun p => (PyData.str p, bkD (kpF (es.take k) g p)), Short q.1 8 0 ∧ Short q.2 8 0 := fun q hq => by
    obtain ⟨p, hp, rfl⟩ := List.mem_map.mp hq
    refine ⟨short_str (.inl (gd.nm p hp)), ?_⟩
    show Short (bkD (kpF (es.take k) g p)) 8 0
    rw [kp_main gd g k hk]
    cases e : lastC ((along es).take k) g (tau (es.take k) p) with
    | none => exact ⟨rfl, rfl, rfl, Nat.zero_le _, Nat.zero_le _⟩
    | some x =>
      have b1 := lastC_bd gd m30 e
      have bb : bil = 1000000000 := rfl
      refine short_big ?_ ?_ <;> omega
  obtain ⟨f1, f2, f3, f4⟩ := kvd_facts all
  have lp := gd.le
  rw [List.length_map] at f3
  have bk : PyData.bulk (kvD P (kpF (es.take k) g)) ≤ 108 := by
    unfold kvD
    rw [PyData.bulk]
    omega
  have ls : PyData.leavesShort 13 (kvD P (kpF (es.take k) g)) = true := by
    unfold kvD
    rw [PyData.leavesShort]
    exact f2
  refine ⟨by unfold kvD; rw [PyData.showable]; exact f1, by unfold kvD; rw [PyData.depth]; omega, ?_⟩
  have q := PyData.shown_le_bulk 13 (by decide) _ ls
  rw [sizeLine_eq]
  omega
theorem kvE_key : ∀ {P : List Str} {F : Str → V}, (kvE P F).map (·.1) = P.map fun p => (Sum.inr p : Key)
  | P, F => by
    unfold kvE
    rw [List.map_map]
    rfl
theorem merge_kvE {P : List Str} {F : Str → V} (nd : P.Nodup) : mergeK [] (kvE P F) = kvE P F := by
  refine merge_nd (acc := []) ?_
  rw [List.nil_append, kvE_key]
  exact List.Pairwise.map (R := fun a b => a ≠ b) _ (fun a b z q => z (Sum.inr.inj q)) nd
def spSteps (Ts : List Addr) : Sp := fun vs H Q _ => ∃ (h : Addr) (P G : List Str) (es : List Ent) (m : Nat) (g : Str), vs = [.ref h, .str g] ∧ HouseAt H h P G es ∧ Good P G es m ∧ m ≤ 30 ∧ TabsG Ts H ∧ ∀ H', TB1 Ts H H' → Q (.bl true) H'
section
variable {P : Program} {w : World} {K : PySem.W.Frag} {mg : Str → Option Value} {base : Heap}
abbrev sStepsN : List Str := ["_law_house_here", "_law_good", "_law_books", "_law_place", "_law_at", "_law_entry_here", "_law_found"]
theorem sc_sSteps : FnScope sStepsN ["_law_house_here", "_law_good"] (defScope sSteps) := ⟨rfl, rfl, rfl, by decide +kernel, rfl, by decide +kernel, by decide +kernel⟩
set_option maxHeartbeats 8000000 in
theorem ok_steps {f fB fA : Addr} {fd dB dA : FuncData} {Ts : List Addr} (F : Fun K "_law_steps" "_law_steps" sSteps f fd) (BB : DefT P w K mg base "book_behind" 5 fB dB ["house", "good", "place", "at"] (spBookB Ts)) (AF : DefT P w K mg base "_law_after" 1 fA dA ["_law_entry_here", "_law_books"] spAfter)
    (md : mg "dict" = none) (me : mg "enumerate" = none) (mp : mg "repr" = none) : FnG P w K mg base 6 f fd ["_law_house_here", "_law_good"] (spSteps Ts) := by
  refine Fun.okG F sc_sSteps (fun vs H Q E h => ?_) (fun cdv A outer s H vs Q E hG hr h => ?_)
  · obtain ⟨h, Ps, G, es, m, g, rfl, _⟩ := h
    rfl
  · obtain ⟨h, Ps, G, es, m, g, rfl, ho, gd, m30, tg, q⟩ := h
    have hu := hu_of hr
    have nd := sc_sSteps.nd
    have hr1 : Room 1 _ := hr.mono (by decide)
    refine ⟨_, pss_cons (ps_set (i := 2) nd rfl (Or.inr rfl) (pe_callTy (call_dictP rfl) (by rfl) md (by decide +kernel) (pa_cons (pe_lc (own := [("_law_place", 3)]) (g := gName 3) (tt := tYes) (te := tTup (tCons (tVar 3) (tCons (tCall (spBookB Ts) [] E0 (tCons (tVar 0) (tCons (tVar 1) (tCons (tVar 3) (tCons (tC (V.int 0)) tNil))))) tNil))) rfl nd (pi_tup (pe_ix ix_tup (pv 0) pe_int (fun _ _ => rfl))) (blkOk_by (N := sStepsN) (sc := defScope sSteps) (by decide +kernel)) (fun _ _ _ _ _ => (pg_name (i := 3) nd rfl (Or.inl rfl))) (fun _ _ _ _ _ => pts_nil) (fun _ _ _ _ _ => (pe_tup (pa_cons (pv 3) (pa_cons (pe_call BB.ok hr (by rfl) BB.g BB.kp BB.b .nil pass0 (pa_cons (pv 0) (pa_cons (pv 1) (pa_cons (pv 3) (pa_cons pe_int pa_nil))))) pa_nil))))) pa_nil)))
      (pss_cons (ps_if (pt_cmpR (op_neNil (un0 hr.units)) (pe_lock (pe_lc (own := [("_law_place", 3)]) (g := gName 3) (tt := tTest (tOp (fun x y H Q => y = .non ∧ Q (.bl (!decide (x = .non))) H) (tDGet (tVar 2) (tVar 3)) (tC V.non))) (te := tVar 3) rfl nd (pi_keys (pv 2)) (blkOk_by (N := sStepsN) (sc := defScope sSteps) (by decide +kernel)) (fun _ _ _ _ _ => (pg_name (i := 3) nd rfl (Or.inl rfl))) (fun _ _ _ _ _ => (pts_one (pt_cmpR op_notN (pe_dget hu (pv 2) (pv 3) (fun _ _ => rfl)) pe_non (by rfl)))) (fun _ _ _ _ _ => (pv 3)))) (pe_lst pa_nil) (nomark _)) (pss_one (ps_ret pe_bl)) pss_nil)
      (pss_cons (ps_for PassesOwn.never rfl (pi_enumT (by rfl) me (pa_cons (pe_ix ix_tup (pv 0) pe_int (fun _ _ => rfl)) pa_nil)) (pg_tup (by rfl) (pgs_cons (pg_name (i := 4) nd rfl (Or.inr rfl)) (pgs_cons (pg_name (i := 5) nd rfl (Or.inl rfl)) pgs_nil)))
        (C8.pss_cut (ps_if (PW.pt (pw_or (pt_cmpR op_eq (pe_ix ix_tup (pv 5) pe_int (fun _ _ => rfl)) pe_str (nomark _)) (pw_or1 (pt_cmpR op_eq (pe_ix ix_tup (pv 5) pe_int (fun _ _ => rfl)) (pv 1) (nomark _))))) (pss_one (ps_set (i := 2) nd rfl (Or.inr rfl) (pe_call AF.ok hr1 (by rfl) AF.g AF.kp AF.b .nil pass0 (pa_cons (pv 5) (pa_cons (pv 2) pa_nil))))) pss_nil)
        (pss_cons (ps_set (i := 6) nd rfl (Or.inl rfl) (pe_callTy (call_dictP rfl) (by rfl) md (by decide +kernel) (pa_cons (pe_lc (own := [("_law_place", 3)]) (g := gName 3) (tt := tYes) (te := tTup (tCons (tVar 3) (tCons (tCall (spBookB Ts) [] E0 (tCons (tVar 0) (tCons (tVar 1) (tCons (tVar 3) (tCons (tOp (rI0 fun i j => .int (i + j)) (tVar 4) (tC (V.int 1))) tNil))))) tNil))) rfl nd (pi_tup (pe_ix ix_tup (pv 0) pe_int (fun _ _ => rfl))) (blkOk_by (N := sStepsN) (sc := defScope sSteps) (by decide +kernel)) (fun _ _ _ _ _ => (pg_name (i := 3) nd rfl (Or.inl rfl))) (fun _ _ _ _ _ => pts_nil) (fun _ _ _ _ _ => (pe_tup (pa_cons (pv 3) (pa_cons (pe_call BB.ok hr (by rfl) BB.g BB.kp BB.b .nil pass0 (pa_cons (pv 0) (pa_cons (pv 1) (pa_cons (pv 3) (pa_cons (pe_op op_add (pv 4) pe_int) pa_nil))))) pa_nil))))) pa_nil)))
        (pss_one (ps_if (pt_cmpR op_ne (pe_callB (cr_reprQ hG hr.units) (by rfl) mp (by decide +kernel) (pa_cons (pv 6) pa_nil)) (pe_callB (cr_reprQ hG hr.units) (by rfl) mp (by decide +kernel) (pa_cons (pv 2) pa_nil)) (nomark _)) (pss_one (ps_ret pe_bl)) pss_nil)))))
      (pss_one (ps_ret pe_bl)))), ?_⟩
    obtain ⟨hp, hg, he, tps, g1, g2, g3, g4, g5⟩ := ho.ex
    have lm := gd.many
    have l5 := g5.len
    have p6 := gd.le
    refine ⟨_, rfl, h, _, 0, _, rfl, rfl, SqT.of g1, atI_nat (j := 0) rfl, hp, rfl, ⟨_, SqT.of g2⟩, fun D nD => ?_⟩
    have put : ∀ {Ha Hb : Hp} {D t : Addr} {x : Str} {v : V} {as : List Addr} {kvs : List (Key × V)}, TB1 Ts Ha Hb → Ha D = none → Hb D = some (.lst (as.map V.ref)) → Prk Hb as kvs → Hb t = none →
        TB1 Ts Ha (upd (upd Hb t (.tup [V.str x, v])) D (.lst (as.map V.ref ++ [V.ref t]))) ∧ ∃ as' : List Addr, (upd (upd Hb t (.tup [V.str x, v])) D (.lst (as.map V.ref ++ [V.ref t]))) D = some (.lst (as'.map V.ref)) ∧ Prk (upd (upd Hb t (.tup [V.str x, v])) D (.lst (as.map V.ref ++ [V.ref t]))) as' (kvs ++ [((Sum.inr x : Key), v)]) := fun {Ha Hb D t x v as kvs} tb nD hD pr nt => by
      have s1 := @same_new _ _ (.tup [V.str x, v]) nt
      have ht : (upd Hb t (.tup [V.str x, v])) t = some (.tup [V.str x, v]) := upd_same
      generalize upd Hb t (.tup [V.str x, v]) = Hc at s1 ht
      have hDc := s1 _ _ hD
      have k : TK Hc (upd Hc D (.lst (as.map V.ref ++ [V.ref t]))) := TK.upd fun xs e => by rw [hDc] at e; cases e
      refine ⟨(tb.tr (.same tb.1 s1)).put nD hDc, as ++ [t], by rw [upd_same, List.map_append]; rfl, ?_⟩
      exact Paired.snoc ((pr.on (TK.of s1)).on k) (k _ _ ht)
    refine lc_tup (K := K) (a := hp) (xs := Ps.map V.str) (fun i H' => TB1 Ts H H' ∧ ∃ as : List Addr, H' D = some (.lst (as.map V.ref)) ∧ Prk H' as (kvE (Ps.take i) fun p => bkB (kpF (es.take 0) g p)))
      ⟨.same tg (same_new nD), [], upd_same, .nil⟩ (fun i H' _ z => SqT.of (z.1.tk _ _ g2)) ?_ ?_
    · rintro i v H1 hv ⟨t1, as, hD, pr⟩
      rw [List.getElem?_map] at hv
      obtain ⟨x, hx, rfl⟩ := Option.map_eq_some_iff.mp hv
      refine ⟨rfl, yesT ⟨_, rfl, _, rfl, _, rfl, _, rfl, h, Ps, G, es, m, 0, g, x, rfl, ho.on t1.tk, gd, m30, Nat.zero_le _, List.mem_of_getElem? hx, t1.1, fun H2 t2 => ⟨(by show 2 ≤ sizeLine; decide), fun t nt => ⟨as.map V.ref, (upd_ne (ne_of_none (t2.lst hD) nt)).trans (t2.lst hD), ?_, ?_⟩⟩⟩⟩
      · rw [List.length_map, Paired.length pr, kvE_len, List.length_take]
        exact small1000 (by omega)
      · obtain ⟨q1, as', q2, q3⟩ := put (x := x) (v := bkB (lastC ((along es).take 0) g (tau (es.take 0) x))) (t1.tr t2) nD (t2.lst hD) (pr.on t2.tk) nt
        refine ⟨q1, as', q2, ?_⟩
        have ek : (kvE (Ps.take (i + 1)) fun p => bkB (kpF (es.take 0) g p)) = (kvE (Ps.take i) fun p => bkB (kpF (es.take 0) g p)) ++ [((Sum.inr x : Key), bkB (lastC ((along es).take 0) g (tau (es.take 0) x)))] := by
          unfold kvE
          rw [take_snoc hx, List.map_append, ← kp_main gd g 0 (Nat.zero_le _)]
          rfl
        rw [ek]
        exact q3
    rintro H1 ⟨t1, as1, hD1, pr1⟩
    rw [List.length_map, List.take_length] at pr1
    refine ⟨D, as1, _, rfl, SqL.of hD1, pr1.kv, fun d nd' => ?_⟩
    rw [merge_kvE gd.nd]
    have s2 := @same_new _ _ (.dK (kvE Ps fun p => bkB (kpF (es.take 0) g p))) nd'
    have hd2 : (upd H1 d (.dK (kvE Ps fun p => bkB (kpF (es.take 0) g p)))) d = some (.dK (kvE Ps fun p => bkB (kpF (es.take 0) g p))) := upd_same
    generalize upd H1 d (.dK (kvE Ps fun p => bkB (kpF (es.take 0) g p))) = H2 at s2 hd2
    have t2 := t1.tr (.same t1.1 s2)
    clear pr1 hD1 nD nd' s2 t1
    -- none has a book
    refine ⟨d, _, hd2, trivial, fun od => ?_⟩
    refine ⟨_, rfl, d, od, rfl, .inl ⟨_, upd_same, fun D nD => ?_⟩⟩
    have ndD : d ≠ D := fun z => by
      rw [← z, upd_same] at nD
      cases nD
    have nbD : ∀ {b : Addr} {o : HO}, H2 b = some o → b ≠ d → b ≠ D := fun {b o} e nb z => by
      rw [← z, upd_ne nb, e] at nD
      cases nD
    refine lc_it (walk_keys (d := d) (o := od) (kvs := kvE Ps fun p => bkB (kpF (es.take 0) g p))) (fun j H' => H' d = some (.frz od (.dK (kvE Ps fun p => bkB (kpF (es.take 0) g p)))) ∧ (∀ b o, H2 b = some o → b ≠ d → H' b = some o) ∧ H' D = some (.lst []))
      ⟨(upd_ne ndD).trans upd_same, fun b o e nb => (upd_ne (nbD e nb)).trans ((upd_ne nb).trans e), upd_same⟩ (fun j H' _ z => z.1) ?_ ?_
    · rintro j x H' _ hj ⟨w1, w2, w3⟩ ⟨rfl, kk, vv, hkv, rfl⟩
      unfold kvE at hkv
      rw [List.getElem?_map] at hkv
      obtain ⟨p, hp', eq⟩ := Option.map_eq_some_iff.mp hkv
      cases eq
      refine ⟨rfl, _, rfl, _, rfl, d, _, rfl, .inl ⟨_, Sum.inr p, .inr ⟨od, w1⟩, rfl, (kvE_get (List.mem_of_getElem? hp')).symm⟩, rfl, _, rfl, iteF ⟨w1, w2, w3⟩⟩
    rintro H3 ⟨w1, w2, w3⟩
    refine ⟨w1, ?_⟩
    have s3 : Same H2 (upd H3 d (.dK (kvE Ps fun p => bkB (kpF (es.take 0) g p)))) := fun b o e => by
      by_cases z : b = d
      · rw [z] at e ⊢
        rw [upd_same, ← e, hd2]
      · rw [upd_ne z]
        exact w2 b o e z
    have hD3 : (upd H3 d (.dK (kvE Ps fun p => bkB (kpF (es.take 0) g p)))) D = some (.lst []) := (upd_ne ndD.symm).trans w3
    generalize upd H3 d (.dK (kvE Ps fun p => bkB (kpF (es.take 0) g p))) = H4 at s3 hD3
    refine ⟨Nat.zero_le _, fun Z nZ => ?_⟩
    have s4 := @same_new _ _ (.lst []) nZ
    refine ⟨D, Z, [], rfl, rfl, SqL.of (s4 _ _ hD3), SqL.of upd_same, false, rfl, iteF ?_⟩
    have s24 := s3.trans s4
    generalize upd H4 Z (.lst []) = H5 at s4 s24
    have t5 := t2.tr (.same t2.1 s24)
    have hd5 := s24 _ _ hd2
    refine ⟨_, rfl, h, _, 2, _, rfl, rfl, SqT.of (t5.tk _ _ g1), atI_nat (j := 2) rfl, he, _, rfl, SqT.of (t5.tk _ _ g4), ?_⟩
    refine for_it (walk_enumT (K := K) (a := he) (xs := tps.map V.ref)) (fun i σ H' => ∃ (d : Addr) (y4 y5 y6 : Option V), σ = [some (.ref h), some (.str g), some (.ref d), none, y4, y5, y6] ∧ TB1 Ts H H' ∧ H' d = some (.dK (kvE Ps fun p => bkB (kpF (es.take i) g p))))
      ⟨d, _, _, _, rfl, t5, hd5⟩ (fun i σ H' _ z => by obtain ⟨_, _, _, _, _, z, _⟩ := z; exact SqT.of (z.tk _ _ g4)) ?_ ?_
    · clear t5 hd5 s24 s3 s4 nZ hD3 w1 w2 w3 nD ndD nbD hd2 t2
      rintro i v σ H6 H7 hi ⟨d, y4, y5, y6, rfl, t6, hd6⟩ ⟨T, x, y, rfl, nT, rfl, hx, hy⟩
      obtain rfl := Option.some.inj hx
      replace hy : (tps.map V.ref)[i]? = some y := hy
      rw [List.getElem?_map] at hy
      obtain ⟨a, ha, rfl⟩ := Option.map_eq_some_iff.mp hy
      have s7 := @same_new _ _ (.tup [V.int (i : Nat), .ref a]) nT
      have hT : (upd H6 T (.tup [V.int (i : Nat), .ref a])) T = some (.tup [V.int (i : Nat), .ref a]) := upd_same
      generalize upd H6 T (.tup [V.int (i : Nat), .ref a]) = H7 at s7 hT
      have t7 := t6.tr (.same t6.1 s7)
      have hd7 := s7 _ _ hd6
      obtain ⟨e, hes, hae0⟩ := g5.get ha
      have hae := t7.tk _ _ hae0
      have li : i < es.length := (List.getElem?_eq_some_iff.mp hes).1
      obtain ⟨_, _, _, HL, _, frm⟩ := gd.ents _ (List.mem_of_getElem? hes)
      have sn : kpF (es.take (i + 1)) g = fun p => bkStep g p (kpF (es.take i) g (swE e p)) e := by rw [take_snoc hes, kpF_snoc]
      refine ⟨T, _, rfl, SqT.of hT, rfl, _, _, rfl, _, _, rfl, rfl, ?_⟩
      show C8.tCut _ _ _ [some (.ref h), some (.str g), some (.ref d), none, some (.int (i : Nat)), some (.ref a), y6] H7
      refine ⟨fun σ H' => ∃ d', σ = [some (.ref h), some (.str g), some (.ref d'), none, some (.int (i : Nat)), some (.ref a), y6] ∧ Same H7 H' ∧ H' d' = some (.dK (kvE Ps fun p => bkB (kpF (es.take (i + 1)) g p))), ?_, ?_⟩
      · rw [sn]
        refine ⟨_, rfl, a, _, 0, _, rfl, rfl, SqT.of hae, at0 e, rfl, _, rfl, ?_⟩
        by_cases ew : e.word = "swap"
        · rw [decide_eq_true (congrArg V.str ew)]
          refine iteT (iteT ⟨_, rfl, _, rfl, a, d, e, Ps, G, HL, g, kpF (es.take i) g, rfl, hae, gd.nd, gd.le, (fun p hp => name_ne (gd.nm p hp)), frm, .inl ew, hd7, fun d' H' s hd' => ⟨_, rfl, s, hd'⟩⟩)
        · rw [decide_eq_false fun z => ew (V.str.inj z)]
          refine iteF ⟨_, rfl, a, _, 3, _, rfl, rfl, SqT.of hae, at3 (fun z => ew ((sw_word e).mpr z)), _, rfl, scal_good e g, _, rfl, ite2 (fun z => ?_) (fun z => ?_)⟩
          · exact ⟨_, rfl, _, rfl, a, d, e, Ps, G, HL, g, kpF (es.take i) g, rfl, hae, gd.nd, gd.le, (fun p hp => name_ne (gd.nm p hp)), frm, .inr (of_decide_eq_true z), hd7, fun d' H' s hd' => ⟨_, rfl, s, hd'⟩⟩
          · refine ⟨d, rfl, fun _ _ e => e, hd7.trans (congrArg (fun z => some (HO.dK z)) (kvE_congr fun p _ => ?_))⟩
            show _ = bkB (bkStep g p (kpF (es.take i) g (swE e p)) e)
            rw [swE_no ew]
            unfold bkStep
            rw [if_neg fun y => z (decide_eq_true y.1)]
      rintro σ H8 ⟨d8, rfl, s8, hd8⟩
      have t8 := t7.tr (.same t7.1 s8)
      refine ⟨_, rfl, h, _, 0, _, rfl, rfl, SqT.of (t8.tk _ _ g1), atI_nat (j := 0) rfl, hp, rfl, ⟨_, SqT.of (t8.tk _ _ g2)⟩, fun D nD => ?_⟩
      refine lc_tup (K := K) (a := hp) (xs := Ps.map V.str) (fun j H' => TB1 Ts H8 H' ∧ ∃ as : List Addr, H' D = some (.lst (as.map V.ref)) ∧ Prk H' as (kvE (Ps.take j) fun p => bkB (kpF (es.take (i + 1)) g p)))
        ⟨.same t8.1 (same_new nD), [], upd_same, .nil⟩ (fun j H' _ z => SqT.of (z.1.tk _ _ (t8.tk _ _ g2))) ?_ ?_
      · rintro j v H9 hv ⟨t9, as, hD, pr⟩
        rw [List.getElem?_map] at hv
        obtain ⟨x, hx, rfl⟩ := Option.map_eq_some_iff.mp hv
        refine ⟨rfl, yesT ⟨_, rfl, _, rfl, _, rfl, _, rfl, _, rfl, _, _, rfl, rfl, h, Ps, G, es, m, i + 1, g, x, rfl, (ho.on t8.tk).on t9.tk, gd, m30, by omega, List.mem_of_getElem? hx, t9.1, fun H10 t10 => ⟨(by show 2 ≤ sizeLine; decide), fun t nt => ⟨as.map V.ref, (upd_ne (ne_of_none (t10.lst hD) nt)).trans (t10.lst hD), ?_, ?_⟩⟩⟩⟩
        · rw [List.length_map, Paired.length pr, kvE_len, List.length_take]
          exact small1000 (by omega)
        · obtain ⟨q1, as', q2, q3⟩ := put (x := x) (v := bkB (lastC ((along es).take (i + 1)) g (tau (es.take (i + 1)) x))) (t9.tr t10) nD (t10.lst hD) (pr.on t10.tk) nt
          refine ⟨q1, as', q2, ?_⟩
          have ek : (kvE (Ps.take (j + 1)) fun p => bkB (kpF (es.take (i + 1)) g p)) = (kvE (Ps.take j) fun p => bkB (kpF (es.take (i + 1)) g p)) ++ [((Sum.inr x : Key), bkB (lastC ((along es).take (i + 1)) g (tau (es.take (i + 1)) x)))] := by
            unfold kvE
            rw [take_snoc hx, List.map_append, ← kp_main gd g (i + 1) li]
            rfl
          rw [ek]
          exact q3
      rintro H9 ⟨t9, as9, hD9, pr9⟩
      rw [List.length_map, List.take_length] at pr9
      refine ⟨D, as9, _, rfl, SqL.of hD9, pr9.kv, fun d10 nd10 => ?_⟩
      rw [merge_kvE gd.nd]
      have s10 := @same_new _ _ (.dK (kvE Ps fun p => bkB (kpF (es.take (i + 1)) g p))) nd10
      have hd10 : (upd H9 d10 (.dK (kvE Ps fun p => bkB (kpF (es.take (i + 1)) g p)))) d10 = some (.dK (kvE Ps fun p => bkB (kpF (es.take (i + 1)) g p))) := upd_same
      generalize upd H9 d10 (.dK (kvE Ps fun p => bkB (kpF (es.take (i + 1)) g p))) = H10 at s10 hd10
      obtain ⟨f1, f2, f3⟩ := kvD_facts gd m30 g (k := i + 1) li
      have hd8' := s10 _ _ (t9.dct hd8)
      refine ⟨_, rfl, d10, _, rfl, kvE_dq hd10, f1, f2, f3, _, rfl, d8, _, rfl, kvE_dq hd8', f1, f2, f3, rfl, false, ?_, iteF ⟨d8, _, _, _, rfl, (t8.tr t9).tr (.same t9.1 s10), hd8'⟩⟩
      rw [decide_eq_true rfl]
      rfl
    · rintro σ H6 ⟨d, y4, y5, y6, rfl, t6, hd6⟩
      exact q H6 t6
end
/-! ### the law -/
theorem R4sAt.app {H : Hp} {as bs : List Addr} {xs ys : List R4} (h : R4sAt H as xs) (k : R4sAt H bs ys) : R4sAt H (as ++ bs) (xs ++ ys) := by
  induction h with
  | nil => exact k
  | cons a _ ih => exact .cons a ih
theorem r4_dpall {K : PySem.W.Frag} {H : Hp} {as : List Addr} {xs : List R4} (h : R4sAt H as xs) : DpAll K H (as.map V.ref) (xs.map R4.D) := by
  unfold R4sAt at h
  induction h with
  | nil => exact .nil
  | cons a _ ih => exact .cons (R4.dp a) ih
theorem tabs_but {H H' : Hp} {Ts : List Addr} {p c : Addr} {n : Nat} (t : TabsG Ts H) (pen : PenAt H p c n) (b : But p H H') : TabsG Ts H' := fun T hT => by
  obtain ⟨ps, e, ok⟩ := t T hT
  obtain ⟨kvs, ns', a', x', g1, _⟩ := pen.ex
  exact ⟨ps, b T _ e (ne_of e g1 (by intro z; cases z)), ok⟩
theorem diff_names {P G : List Str} {es : List Ent} {m : Nat} (gd : Good P G es m) : ∀ x ∈ diffN es es.length, nameB x.g = true ∧ nameB x.n = true := fun x hx => by
  obtain ⟨i, hi, hr⟩ := List.mem_filterMap.mp hx
  have hi' := List.mem_range.mp hi
  have he : es[i]? = some es[i] := List.getElem?_eq_getElem hi'
  have ea : alg es i = es[i].mp (tau (es.take i)) := alg_at (along_at he)
  obtain ⟨nn, _, _, HL, _, frm⟩ := gd.ents es[i] (List.getElem_mem hi')
  rw [ea] at hr
  cases e : es[i] with
  | count n mo g' q k hd =>
    rw [e] at hr frm nn
    obtain ⟨u, hu, rfl⟩ := Option.map_eq_some_iff.mp (show (lastC ((along es).take i) g' (tau (es.take i) q)).map (fun x => R4.mk g' x.1 n (k - x.2)) = some x from hr)
    exact ⟨gd.gn _ frm.1, nn⟩
  | _ => rw [e] at hr; cases hr
theorem lay_all : ∀ {ds : List PyData}, (∀ d ∈ ds, d.canLay0 = true) → PyData.canLayAll0 ds = true
  | [], _ => rfl
  | d :: r, h => by rw [PyData.canLayAll0, h d List.mem_cons_self, lay_all fun x hx => h x (List.mem_cons_of_mem _ hx)]; rfl
theorem dep_all {k : Nat} : ∀ {ds : List PyData}, (∀ d ∈ ds, d.depth ≤ k) → PyData.depthAll ds ≤ k
  | [], _ => Nat.zero_le _
  | d :: r, h => by
    rw [PyData.depthAll]
    exact Nat.max_le.mpr ⟨h d List.mem_cons_self, dep_all fun x hx => h x (List.mem_cons_of_mem _ hx)⟩
theorem t3_shaped {xs : List R4} (h : ∀ x ∈ xs, nameB x.g = true ∧ nameB x.n = true) : SeqAt.shaped (.list (sortD (xs.map R4.t3))) = true := by
  have l : (PyData.list (sortD (xs.map R4.t3))).canLay0 = true := by
    rw [PyData.canLay0]
    refine lay_all fun d hd => ?_
    obtain ⟨x, hx, rfl⟩ := List.mem_map.mp (sortD_mem.mp hd)
    obtain ⟨h1, h2⟩ := h x hx
    show PyData.canLay0 (.tuple [.str x.g, .str x.n, .int x.d]) = true
    rw [PyData.canLay0, PyData.canLayAll0, PyData.canLayAll0, PyData.canLayAll0, PyData.canLayAll0, PyData.canLay0, PyData.canLay0, PyData.canLay0, name_ok h1, name_ok h2]
    rfl
  unfold SeqAt.shaped
  rw [l, Bool.true_and]
  refine decide_eq_true ?_
  rw [PyData.depth]
  have := dep_all (k := 60) (ds := sortD (xs.map R4.t3)) fun d hd => t3_depth d (sortD_mem.mp hd)
  omega
mutual
theorem Dp.keep {K : PySem.W.Frag} {H H' : Hp} (k : ∀ a o, H a = some o → (∀ ps, o ≠ .tbl ps) → H' a = some o) : ∀ {v : V} {d : PyData}, Dp K H v d → Dp K H' v d
  | _, _, .non => .non
  | _, _, .bl b => .bl b
  | _, _, .int i => .int i
  | _, _, .str x => .str x
  | _, _, .lst h r => .lst (SqL.keep k h) (DpAll.keep k r)
  | _, _, .tup h r => .tup (SqT.keep k h) (DpAll.keep k r)
theorem DpAll.keep {K : PySem.W.Frag} {H H' : Hp} (k : ∀ a o, H a = some o → (∀ ps, o ≠ .tbl ps) → H' a = some o) : ∀ {vs : List V} {ds : List PyData}, DpAll K H vs ds → DpAll K H' vs ds
  | _, _, .nil => .nil
  | _, _, .cons h r => .cons (Dp.keep k h) (DpAll.keep k r)
end
theorem dpall_tb {K : PySem.W.Frag} {Ts : List Addr} {H H' : Hp} (t : TB1 Ts H H') {vs : List V} {ds : List PyData} (h : DpAll K H vs ds) : DpAll K H' vs ds := DpAll.keep t.kp h
abbrev w10 : List Str := ["come", "go", "move", "move", "swap", "count", "count", "count", "some", "look"]
def spLaw (K : PySem.W.Frag) (Ts : List Addr) : Sp := fun vs H Q _ => ∃ (a : Addr) (ns : List Int), vs = [.ref a] ∧ SqL K H a (ns.map V.int) ∧ TabsG Ts H ∧ ∀ H', Q (.bl true) H'
section
variable {P : Program} {w : World} {K : PySem.W.Frag} {mg : Str → Option Value} {base : Heap}
abbrev sLawN : List Str := ["_law_script", "_law_pen_here", "_law_house_here", "_law_kept", "_law_good", "_law_answered", "_law_one", "_law_kind", "_law_ahead", "_law_name_here", "_law_many_here", "_law_found"]
theorem sc_sLaw : FnScope sLawN ["_law_script"] (defScope sLaw) := ⟨rfl, rfl, rfl, by decide +kernel, rfl, by decide +kernel, by decide +kernel⟩
set_option maxHeartbeats 8000000 in
theorem ok_law {f : Addr} {fd : FuncData} (F : Fun K "law" "law" sLaw f fd) {fP fT fH fD fS fB fY : Addr} {dP dT dH dD dS dB dY : FuncData} {Ts : List Addr}
    (GP : DefT P w K mg base "_law_pen" 1 fP dP ["_law_script"] (spPen K)) (TT : TakeT P w K mg base fT dT) (HS : DefT P w K mg base "_law_house" 5 fH dH ["_law_pen_here", "_law_words"] spBHouse)
    (DF : DefT P w K mg base "differences" 4 fD dD ["house"] (spDiff K Ts)) (SP : DefG P w K mg base "_law_steps" 6 fS dS ["_law_house_here", "_law_good"] (spSteps Ts))
    (YB : DefT P w K mg base "_law_by_books" 6 fB dB ["_law_house_here"] (spByBooks K Ts)) (YP : DefT P w K mg base "_law_by_pieces" 6 fY dY ["_law_house_here", "_law_good"] (spByPieces Ts))
    (ml : mg "len" = none) (mp : mg "repr" = none) (ms : mg "sorted" = none) (mis : mg "isinstance" = none) (mT_list : mg "list" = none) (mT_tuple : mg "tuple" = none) : FnG P w K mg base 7 f fd ["_law_script"] (spLaw K Ts) := by
  refine Fun.okG F sc_sLaw (fun vs H Q E h => ?_) (fun cdv A outer s H vs Q E hG hr h => ?_)
  · obtain ⟨a, ns, rfl, _⟩ := h
    rfl
  · obtain ⟨a, ns, rfl, hS, tg, q⟩ := h
    have hu := hu_of hr
    have nd := sc_sLaw.nd
    have hr1 : Room 1 _ := hr.mono (by decide)
    have hr4 : Room 4 _ := hr.mono (by decide)
    have hr5 : Room 5 _ := hr.mono (by decide)
    refine ⟨_, pss_cons (ps_set (i := 1) nd rfl (Or.inl rfl) (pe_call GP.ok hr1 (by rfl) GP.g GP.kp GP.b .nil pass0 (pa_cons (pv 0) pa_nil)))
      (pss_cons (ps_set (i := 2) nd rfl (Or.inl rfl) (pe_call HS.ok hr5 (by rfl) HS.g HS.kp HS.b .nil pass0 (pa_cons (pv 1) (pa_cons (pe_lst (pa_cons pe_str (pa_cons pe_str (pa_cons pe_str (pa_cons pe_str (pa_cons pe_str (pa_cons pe_str (pa_cons pe_str (pa_cons pe_str (pa_cons pe_str (pa_cons pe_str pa_nil))))))))))) pa_nil))))
      (pss_cons (ps_set (i := 3) nd rfl (Or.inl rfl) (pe_callB (cr_repr hG hr.units) (by rfl) mp (by decide +kernel) (pa_cons (pv 2) pa_nil)))
      (pss_cons (ps_set (i := 4) nd rfl (Or.inl rfl) (pe_ix ix_tup (pe_ix ix_tup (pv 2) pe_int (fun _ _ => rfl)) (pe_call TT.ok hr1 (by rfl) TT.g TT.kp TT.b .nil pass0 (pa_cons (pv 1) (pa_cons (pe_callB call_len_seq (by rfl) ml PySem.boot_len (pa_cons (pe_ix ix_tup (pv 2) pe_int (fun _ _ => rfl)) pa_nil)) pa_nil))) (fun _ _ => rfl)))
      (pss_cons (ps_if (pt_not (pt_val (pe_callG SP.ok hG hr (by rfl) SP.g SP.kp SP.b (pa_cons (pv 2) (pa_cons (pv 4) pa_nil))))) (pss_one (ps_ret pe_bl)) pss_nil)
      (pss_cons (ps_set (i := 5) nd rfl (Or.inl rfl) (pe_call DF.ok hr4 (by rfl) DF.g DF.kp DF.b .nil pass0 (pa_cons (pv 2) pa_nil)))
      (pss_cons (ps_if (pt_not (pt_val (pe_callB call_isi (by rfl) mis (by decide +kernel) (pa_cons (pv 5) (pa_cons (pe_bltn (v := .ty "list") (u := .type "list") (by rfl) mT_list (by decide +kernel) rfl) pa_nil))))) (pss_one (ps_ret pe_bl)) pss_nil)
      (pss_cons (ps_if (pt_cmpR (op_neNil (un0 hr.units)) (pe_lc (own := [("_law_one", 6)]) (g := gName 6)  (tt := tOr (tNot (tB (tCB (rIsi K) (tCons (tVar 6) (tCons (tC (.ty "tuple")) tNil))))) (tTest (tOp rNe (tCB (fun xs H Q => ∃ p ys, xs = [V.ref p] ∧ (SqL K H p ys ∨ SqT K H p ys) ∧ Q (V.int ys.length) H) (tCons (tVar 6) tNil)) (tC (V.int 4))))) (te := tVar 6) rfl nd (pi_list (pv 5)) (blkOk_by (N := sLawN) (sc := defScope sLaw) (by decide +kernel)) (fun _ _ _ _ _ => (pg_name (i := 6) nd rfl (Or.inl rfl))) (fun _ _ _ _ _ => (pts_one (PW.pt (pw_or (pt_not (pt_val (pe_callB call_isi (by rfl) mis (by decide +kernel) (pa_cons (pv 6) (pa_cons (pe_bltn (v := .ty "tuple") (u := .type "tuple") (by rfl) mT_tuple (by decide +kernel) rfl) pa_nil))))) (pw_or1 (pt_cmpR op_ne (pe_callB call_len_seq (by rfl) ml PySem.boot_len (pa_cons (pv 6) pa_nil)) pe_int (nomark _))))))) (fun _ _ _ _ _ => (pv 6))) (pe_lst pa_nil) (nomark _)) (pss_one (ps_ret pe_bl)) pss_nil)
      (pss_cons (ps_if (pt_cmpR (op_neD hr.units) (pe_callB (cr_sortDs hr.units) (by rfl) ms (by decide +kernel) (pa_cons (pe_lc (own := [("_law_kind", 7), ("_law_ahead", 8), ("_law_name_here", 9), ("_law_many_here", 10)]) (g := gTup K 4 (gCons (gName 7) (gCons (gName 8) (gCons (gName 9) (gCons (gName 10) gNil))))) (tt := tYes) (te := tTup (tCons (tVar 7) (tCons (tVar 9) (tCons (tVar 10) tNil)))) rfl nd (pi_list (pv 5)) (blkOk_by (N := sLawN) (sc := defScope sLaw) (by decide +kernel)) (fun _ _ _ _ _ => (pg_tup (by rfl) (pgs_cons (pg_name (i := 7) nd rfl (Or.inl rfl)) (pgs_cons (pg_name (i := 8) nd rfl (Or.inl rfl)) (pgs_cons (pg_name (i := 9) nd rfl (Or.inl rfl)) (pgs_cons (pg_name (i := 10) nd rfl (Or.inl rfl)) pgs_nil)))))) (fun _ _ _ _ _ => pts_nil) (fun _ _ _ _ _ => (pe_tup (pa_cons (pv 7) (pa_cons (pv 9) (pa_cons (pv 10) pa_nil)))))) pa_nil)) (pe_call YB.ok hr (by rfl) YB.g YB.kp YB.b .nil pass0 (pa_cons (pv 2) pa_nil)) (nomark _)) (pss_one (ps_ret pe_bl)) pss_nil)
      (pss_cons (ps_set (i := 11) nd rfl (Or.inl rfl) (pe_lst pa_nil))
      (pss_cons (ps_for PassesOwn.never rfl (pi_tup (pe_ix ix_tup (pv 2) pe_int (fun _ _ => rfl))) (pg_name (i := 7) nd rfl (Or.inl rfl))
        (pss_one (ps_set (i := 11) nd rfl (Or.inl rfl) (pe_op op_cat (pv 11) (pe_call YP.ok hr (by rfl) YP.g YP.kp YP.b .nil pass0 (pa_cons (pv 2) (pa_cons (pv 7) pa_nil)))))))
      (pss_one (ps_ret (pe_and (pe_cmpR op_eq (pe_callB (cr_repr hG hr.units) (by rfl) mp (by decide +kernel) (pa_cons (pv 5) pa_nil)) (pe_callB (cr_repr hG hr.units) (by rfl) mp (by decide +kernel) (pa_cons (pe_callB (cr_sortR4b hr.units) (by rfl) ms (by decide +kernel) (pa_cons (pv 11) pa_nil)) pa_nil)) (nomark _)) (pe_one (pe_cmpR op_eq (pe_callB (cr_repr hG hr.units) (by rfl) mp (by decide +kernel) (pa_cons (pv 2) pa_nil)) (pv 3) (nomark _)))))))))))))))), ?_⟩
    refine ⟨_, rfl, a, ns, rfl, hS, fun p c H1 np nc pen1 sm1 => ?_⟩
    have tg1 := tabs_sm sm1 tg
    refine ⟨_, rfl, (by show 10 ≤ sizeLine; decide), fun wl nwl => ?_⟩
    have s2 := @same_new _ _ (.lst (w10.map V.str)) nwl
    have hw : StrsAt (upd H1 wl (.lst (w10.map V.str))) wl w10 := upd_same
    have pen2 := pen1.same s2
    have tg2 := tabs_sm s2 tg1
    refine ⟨p, c, _, wl, w10, rfl, pen2, by decide, hw, by decide, by decide, fun h Ps G es m H3 ho3 gd m30 pen3 bt3 => ?_⟩
    have tg3 := tabs_but tg2 pen2 bt3
    clear hw tg2 pen2 bt3 s2 tg1 pen1 sm1
    have sh := gd.short (by omega)
    refine ⟨_, rfl, h, houseD Ps G es, rfl, ho3.dp, sh.sh, sh.nd, Nat.le_trans sh.dp (by decide), sh.fits (by decide), ?_⟩
    obtain ⟨hp, hg, he, tps, g1, g2, g3, g4, g5⟩ := ho3.ex
    have gl := gd.gl
    have ge : 0 < G.length := List.length_pos_iff.mpr gd.ge
    refine ⟨_, rfl, h, _, 1, _, rfl, rfl, SqT.of g1, atI_nat (j := 1) rfl, _, rfl, _, rfl, h, _, 1, _, rfl, rfl, SqT.of g1, atI_nat (j := 1) rfl, hg, _, rfl, .inr (SqT.of g3), p, c, _, (((G.map V.str).length : Nat) : Int), rfl, pen3, by decide, ?_, ?_, fun r H4 r0 r1 pen4 bt4 => ?_⟩
    · rw [List.length_map]; omega
    · rw [List.length_map]; omega
    have tg4 := tabs_but tg3 pen3 bt4
    have k4 : TK H3 H4 := TK.but pen3 bt4
    have ho4 := ho3.on k4
    obtain ⟨gi, rfl⟩ : ∃ n : Nat, r = n := ⟨r.toNat, (Int.toNat_of_nonneg r0).symm⟩
    have gl' : gi < G.length := by rw [List.length_map] at r1; omega
    have hgi : G[gi]? = some G[gi] := List.getElem?_eq_getElem gl'
    generalize G[gi] = g0 at hgi
    refine ⟨hg, _, (gi : Int), .str g0, rfl, rfl, SqT.of (k4 _ _ g3), atI_nat (by rw [List.getElem?_map, hgi]; rfl), ?_⟩
    refine ⟨_, rfl, _, rfl, h, Ps, G, es, m, g0, rfl, ho4, gd, m30, tg4, fun H5 t5 => ⟨_, rfl, iteF ?_⟩⟩
    have ho5 := ho4.on t5.tk
    refine ⟨_, rfl, h, Ps, G, es, m, rfl, ho5, gd, m30, t5.1, fun l bs ys H6 t6 nl hl ro pm ed => ?_⟩
    have lb : bs.length ≤ 30 := by
      rw [Paired.length ro, pm.length_eq]
      have := diffN_len es es.length
      have := gd.many
      omega
    refine ⟨_, rfl, _, _, _, _, true, rfl, .ty "list", .base (.lst hl), kit_ty (by decide +kernel), _, rfl, iteF ?_⟩
    refine ⟨_, rfl, l, rfl, ⟨_, SqL.of hl⟩, fun D nD => ?_⟩
    refine lc_list (K := K) (a := l) (xs := bs.map V.ref) (fun j H' => Same H6 H' ∧ H' D = some (.lst [])) ⟨same_new nD, upd_same⟩ (fun j H' _ z => SqL.of (z.1 _ _ hl)) ?_ ?_
    · rintro j v H7 hv ⟨s7, hD⟩
      rw [List.getElem?_map] at hv
      obtain ⟨b, hb, rfl⟩ := Option.map_eq_some_iff.mp hv
      obtain ⟨x, hx, hbx⟩ := paired_get ro hb
      have hb7 := s7 _ _ hbx
      exact ⟨rfl, _, rfl, _, _, _, _, true, rfl, .ty "tuple", .base (.tup hb7), kit_ty (by decide +kernel), _, rfl, iteF ⟨_, rfl, b, _, rfl, .inr (SqT.of hb7), rfl, false, rfl, iteF ⟨s7, hD⟩⟩⟩
    rintro H7 ⟨s7, hD⟩
    refine ⟨Nat.zero_le _, fun Z nZ => ?_⟩
    have s8 := @same_new _ _ (.lst []) nZ
    refine ⟨D, Z, [], rfl, rfl, SqL.of (s8 _ _ hD), SqL.of upd_same, false, rfl, iteF ?_⟩
    have s68 := s7.trans s8
    generalize upd H7 Z (.lst []) = H8 at s8 s68
    have t8 : TB1 Ts H6 H8 := .same t6.1 s68
    have hl8 := s68 _ _ hl
    have ro8 := ro.on (TK.of s68)
    have ho8 := (ho5.on t6.tk).on t8.tk
    clear hD nD nZ s8 s7
    -- the rows without what is ahead
    refine ⟨_, rfl, l, rfl, ⟨_, SqL.of hl8⟩, fun D nD => ?_⟩
    refine lc_list (K := K) (a := l) (xs := bs.map V.ref) (fun j H' => Same H8 H' ∧ ∃ us : List Addr, H' D = some (.lst (us.map V.ref)) ∧ us.length ≤ j ∧ T3sAt H' us (ys.take j)) ⟨same_new nD, [], upd_same, Nat.le_refl _, .nil⟩ (fun j H' _ z => SqL.of (z.1 _ _ hl8)) ?_ ?_
    · rintro j v H9 hv ⟨s9, us, hD, lu, tu⟩
      have lj : j < 30 := by
        have := (List.getElem?_eq_some_iff.mp hv).1
        rw [List.length_map] at this
        omega
      rw [List.getElem?_map] at hv
      obtain ⟨b, hb, rfl⟩ := Option.map_eq_some_iff.mp hv
      obtain ⟨x, hx, hbx⟩ := paired_get ro8 hb
      refine ⟨b, _, rfl, SqT.of (s9 _ _ hbx), rfl, _, _, rfl, _, _, rfl, _, _, rfl, _, _, rfl, rfl, ?_⟩
      refine ⟨rfl, yesT ⟨_, rfl, _, rfl, _, rfl, (by show 3 ≤ sizeLine; decide), fun t nt => ?_⟩⟩
      have s10 := @same_new _ _ (.tup [V.str x.g, .str x.n, .int x.d]) nt
      have ht : (upd H9 t (.tup [V.str x.g, .str x.n, .int x.d])) t = some (.tup [V.str x.g, .str x.n, .int x.d]) := upd_same
      generalize upd H9 t (.tup [V.str x.g, .str x.n, .int x.d]) = H10 at s10 ht
      have hD10 := s10 _ _ hD
      have k11 : TK H10 (upd H10 D (.lst (us.map V.ref ++ [V.ref t]))) := TK.upd fun xs e => by rw [hD10] at e; cases e
      refine ⟨_, hD10, (by rw [List.length_map]; exact small1000 (by omega)), fun b' o eb => (upd_ne (ne_of_none eb nD)).trans (s10 _ _ (s9 b' o eb)), us ++ [t], ?_, (by rw [List.length_append]; exact Nat.succ_le_succ lu), ?_⟩
      · rw [upd_same, List.map_append]
        rfl
      · rw [take_snoc hx]
        exact Paired.snoc ((tu.on (TK.of s10)).on k11) (k11 _ _ ht)
    rintro H9 ⟨s9, us, hD, lu, tu⟩
    rw [List.length_map, Paired.length ro, List.take_length] at tu
    have tn : ∀ x ∈ ys, nameB x.g = true ∧ nameB x.n = true := fun x hx => diff_names gd x (pm.mem_iff.mp hx)
    refine ⟨D, _, _, rfl, hD, t3_dp tu, t3_alike _, t3_sortable _, t3_depth, fun p1 ws1 H10 np1 s10 hp1 dp1 => ?_⟩
    have s8b := s9.trans s10
    have t10 := t8.tr (.same t8.1 s8b)
    refine ⟨_, rfl, h, Ps, G, es, m, rfl, ho8.on (TK.of s8b), gd, m30, t10.1, fun l2 ws2 H11 t11 hl2 dp2 => ?_⟩
    have sp := t3_shaped tn
    rw [sort_t3 pm] at dp1 sp
    have dp1' : DpAll K H11 ws1 (sortD ((diffN es es.length).map R4.t3)) := dpall_tb t11 dp1
    refine ⟨_, _, .lst (SqL.of (t11.lst hp1)) dp1', .lst (SqL.of hl2) dp2, sp, sp, false, ?_, iteF ?_⟩
    · rw [SeqAt.eqv_refl _ (SeqAt.canLay_of_shaped sp)]
      rfl
    have t11' := t10.tr t11
    have ho11 := (ho8.on (TK.of s8b)).on t11.tk
    have hl11 := t11.lst (s8b _ _ hl8)
    have ro11 := (ro8.on (TK.of s8b)).on t11.tk
    clear dp1 dp1' dp2 hl2 hp1 np1 s10 s9 tu hD lu nD t11
    refine ⟨Nat.zero_le _, fun F0 nF => ?_⟩
    have s12 := @same_new _ _ (.lst []) nF
    have hF : (upd H11 F0 (.lst [])) F0 = some (.lst (([] : List Addr).map V.ref)) := upd_same
    generalize upd H11 F0 (.lst []) = H12 at s12 hF
    have ho12 := ho11.on (TK.of s12)
    have hl12 := s12 _ _ hl11
    have ro12 := ro11.on (TK.of s12)
    have tg12 := tabs_sm s12 t11'.1
    obtain ⟨hp, hg, he, tps, g1, g2, g3, g4, g5⟩ := ho12.ex
    have total : ∀ i, ((G.take i).flatMap (byPM Ps es)).length ≤ 30 := fun i => by
      have h1 := fm_take_len (f := byPM Ps es) G i
      rw [(byP_perm gd).length_eq] at h1
      have := diffN_len es es.length
      have := gd.many
      omega
    refine ⟨_, rfl, h, _, 1, _, rfl, rfl, SqT.of g1, atI_nat (j := 1) rfl, hg, rfl, ⟨_, SqT.of g3⟩, ?_⟩
    refine for_tup (K := K) (a := hg) (xs := G.map V.str) (fun i σ H' => ∃ (F0 : Addr) (as : List Addr) (y7 : Option V), σ = [some (.ref a), some (.ref p), some (.ref h), some (.str (houseD Ps G es).shown), some (.str g0), some (.ref l), none, y7, none, none, none, some (.ref F0)] ∧ TB1 Ts H12 H' ∧ H' F0 = some (.lst (as.map V.ref)) ∧ R4sAt H' as ((G.take i).flatMap (byPM Ps es)))
      ⟨F0, [], _, rfl, .same tg12 fun _ _ z => z, hF, .nil⟩ (fun i σ H' _ z => by obtain ⟨_, _, _, _, z, _⟩ := z; exact SqT.of (z.tk _ _ g3)) ?_ ?_
    · rintro i v σ H13 hv ⟨F1, as, y7, rfl, t13, hF1, ra⟩
      rw [List.getElem?_map] at hv
      obtain ⟨g, hgi, rfl⟩ := Option.map_eq_some_iff.mp hv
      refine ⟨_, rfl, _, rfl, _, rfl, h, Ps, G, es, m, g, rfl, ho12.on t13.tk, gd, m30, List.mem_of_getElem? hgi, t13.1, fun l3 as3 H14 t14 hl3 ra3 => ?_⟩
      have la : as.length ≤ 30 := by rw [Paired.length ra]; exact total i
      have la3 : as3.length ≤ 30 := by
        rw [Paired.length ra3]
        have := byPM_le gd (List.mem_of_getElem? hgi)
        have := gd.many
        omega
      refine ⟨F1, l3, _, _, rfl, rfl, t14.lst hF1, hl3, Nat.le_of_lt (small1000 (by rw [List.length_map, List.length_map]; omega)), fun l4 nl4 => ?_⟩
      have s15 := @same_new _ _ (.lst (as.map V.ref ++ as3.map V.ref)) nl4
      refine ⟨l4, as ++ as3, _, rfl, (t13.tr t14).tr (.same t14.1 s15), ?_, ?_⟩
      · rw [upd_same, List.map_append]
      · rw [take_snoc hgi, List.flatMap_append]
        simp only [List.flatMap_cons, List.flatMap_nil, List.append_nil]
        exact R4sAt.app ((ra.on t14.tk).on (TK.of s15)) (ra3.on (TK.of s15))
    rintro σ H13 ⟨F1, as, y7, rfl, t13, hF1, ra⟩
    rw [List.length_map, List.take_length] at ra
    have so := diff_short gd m30
    have hl13 := t13.lst hl12
    have ro13 := ro12.on t13.tk
    have dpl := r4_dpall (K := K) ro13
    rw [ed] at dpl
    refine ⟨_, rfl, l, _, rfl, .lst (SqL.of hl13) dpl, so.sh, so.nd, Nat.le_trans so.dp (by decide), so.fits (by decide), ?_⟩
    refine ⟨_, rfl, F1, as, _, rfl, hF1, ra, fun p2 bs2 ys2 H14 np2 s14 hp2 ro2 pm2 ed2 => ?_⟩
    have dp2 := r4_dpall (K := K) ro2
    rw [ed2, sort_r4 (byP_perm gd)] at dp2
    refine ⟨p2, _, rfl, .lst (SqL.of hp2) dp2, so.sh, so.nd, Nat.le_trans so.dp (by decide), so.fits (by decide), rfl, true, congrArg V.bl (decide_eq_true rfl), iteT ?_⟩
    refine ⟨_, rfl, h, houseD Ps G es, rfl, ((ho12.on t13.tk).on (TK.of s14)).dp, sh.sh, sh.nd, Nat.le_trans sh.dp (by decide), sh.fits (by decide), _, rfl, rfl, ?_⟩
    rw [decide_eq_true rfl]
    exact q H14
end
theorem tab_is {K : PySem.W.Frag} {x : Str} {f c T : Addr} {oc occ : Value} {od odc : Option Addr} {sl slc : Array (Option Value)} {fd : FuncData} {vs : Array Value}
    (a : PySem.W.nsIn K mainGlobals x = some (some (.ref f))) (l : K.lookup f = some ⟨oc, od, .func fd, sl⟩) (hc : fd.code = .ref c) (lc : K.lookup c = some ⟨occ, odc, .fields vs, slc⟩) (hv : (vs[11]? : Option Value) = some (.ref T)) :
    PySem.W.tabIn K x = some (c, T) := by
  unfold PySem.W.tabIn
  simp only [a, l, hc, lc, hv]
set_option maxHeartbeats 4000000 in
theorem all_mk {l : PySem.W.OpenLaw} {q : Program} {loose : List Str} {XP : (Str → Option Value) → Heap → Prop} {w : World} {s0 : Shared} {K : PySem.W.Frag} {h : Heap} {mg mb : Str → Option Value} {fa f1 f2 f3 f4 f5 f6 f7 f8 f9 f10 f11 f12 f13 f14 f15 f16 f17 f18 f19 f20 f21 f22 f23 f24 f25 f26 f27 f28 f29 f30 f31 f32 f33 f34 c9 T9 c15 T15 : Addr} {dr9 : PySem.DefRec} {dr15 : PySem.DefRec}
    (G : PySem.W.Ground q loose [] XP w s0 mg mb h) (X : K.In h) (hfa : mg "law" = some (.ref fa))
    {od1 an1 od2 an2 od3 an3 od4 an4 od5 an5 od6 an6 od7 an7 od8 an8 od9 an9 odc9 od10 an10 od11 an11 od12 an12 od13 an13 od14 an14 od15 an15 odc15 od16 an16 od17 an17 od18 an18 od19 an19 od20 an20 od21 an21 od22 an22 od23 an23 od24 an24 od25 an25 od26 an26 od27 an27 od28 an28 od29 an29 od30 an30 od31 an31 od32 an32 od33 an33 od34 an34 : Option Addr} {sl1 sl2 sl3 sl4 sl5 sl6 sl7 sl8 sl9 slc9 sl10 sl11 sl12 sl13 sl14 sl15 slc15 sl16 sl17 sl18 sl19 sl20 sl21 sl22 sl23 sl24 sl25 sl26 sl27 sl28 sl29 sl30 sl31 sl32 sl33 sl34 : Array (Option Value)} {oc1 kV1 dc1 pm1 ct1 cd1 oc2 kV2 dc2 pm2 ct2 cd2 oc3 kV3 dc3 pm3 ct3 cd3 oc4 kV4 dc4 pm4 ct4 cd4 oc5 kV5 dc5 pm5 ct5 cd5 oc6 kV6 dc6 pm6 ct6 cd6 oc7 kV7 dc7 pm7 ct7 cd7 oc8 kV8 dc8 pm8 ct8 cd8 oc9 kV9 dc9 pm9 ct9 occ9 oc10 kV10 dc10 pm10 ct10 cd10 oc11 kV11 dc11 pm11 ct11 cd11 oc12 kV12 dc12 pm12 ct12 cd12 oc13 kV13 dc13 pm13 ct13 cd13 oc14 kV14 dc14 pm14 ct14 cd14 oc15 kV15 dc15 pm15 ct15 occ15 oc16 kV16 dc16 pm16 ct16 cd16 oc17 kV17 dc17 pm17 ct17 cd17 oc18 kV18 dc18 pm18 ct18 cd18 oc19 kV19 dc19 pm19 ct19 cd19 oc20 kV20 dc20 pm20 ct20 cd20 oc21 kV21 dc21 pm21 ct21 cd21 oc22 kV22 dc22 pm22 ct22 cd22 oc23 kV23 dc23 pm23 ct23 cd23 oc24 kV24 dc24 pm24 ct24 cd24 oc25 kV25 dc25 pm25 ct25 cd25 oc26 kV26 dc26 pm26 ct26 cd26 oc27 kV27 dc27 pm27 ct27 cd27 oc28 kV28 dc28 pm28 ct28 cd28 oc29 kV29 dc29 pm29 ct29 cd29 oc30 kV30 dc30 pm30 ct30 cd30 oc31 kV31 dc31 pm31 ct31 cd31 oc32 kV32 dc32 pm32 ct32 cd32 oc33 kV33 dc33 pm33 ct33 cd33 oc34 kV34 dc34 pm34 ct34 cd34 : Value}
    {vsc9 vsc15 : Array Value}
    (a1 : PySem.W.nsIn K mainGlobals "good_of" = some (some (.ref f1)))
    (l1 : K.lookup f1 = some ⟨oc1, od1, .func (PySem.W.fnOf "good_of" "good_of" (defArgs sGood) (defBody sGood) (defScope sGood) .none kV1 dc1 pm1 an1 cd1 ct1), sl1⟩)
    (c_1 : PySem.W.codeIn K cd1 "good_of" = true)
    (k1 : PySem.W.keepIn K (.ref f1) = true)
    (a2 : PySem.W.nsIn K mainGlobals "places_of" = some (some (.ref f2)))
    (l2 : K.lookup f2 = some ⟨oc2, od2, .func (PySem.W.fnOf "places_of" "places_of" (defArgs sPlacesOf) (defBody sPlacesOf) (defScope sPlacesOf) .none kV2 dc2 pm2 an2 cd2 ct2), sl2⟩)
    (c_2 : PySem.W.codeIn K cd2 "places_of" = true)
    (k2 : PySem.W.keepIn K (.ref f2) = true)
    (a3 : PySem.W.nsIn K mainGlobals "change_at" = some (some (.ref f3)))
    (l3 : K.lookup f3 = some ⟨oc3, od3, .func (PySem.W.fnOf "change_at" "change_at" (defArgs sChange) (defBody sChange) (defScope sChange) .none kV3 dc3 pm3 an3 cd3 ct3), sl3⟩)
    (c_3 : PySem.W.codeIn K cd3 "change_at" = true)
    (k3 : PySem.W.keepIn K (.ref f3) = true)
    (a4 : PySem.W.nsIn K mainGlobals "with_places" = some (some (.ref f4)))
    (l4 : K.lookup f4 = some ⟨oc4, od4, .func (PySem.W.fnOf "with_places" "with_places" (defArgs sWithPlaces) (defBody sWithPlaces) (defScope sWithPlaces) .none kV4 dc4 pm4 an4 cd4 ct4), sl4⟩)
    (c_4 : PySem.W.codeIn K cd4 "with_places" = true)
    (k4 : PySem.W.keepIn K (.ref f4) = true)
    (a5 : PySem.W.nsIn K mainGlobals "track_at" = some (some (.ref f5)))
    (l5 : K.lookup f5 = some ⟨oc5, od5, .func (PySem.W.fnOf "track_at" "track_at" (defArgs sTrackAt) (defBody sTrackAt) (defScope sTrackAt) .none kV5 dc5 pm5 an5 cd5 ct5), sl5⟩)
    (c_5 : PySem.W.codeIn K cd5 "track_at" = true)
    (k5 : PySem.W.keepIn K (.ref f5) = true)
    (a6 : PySem.W.nsIn K mainGlobals "tracks_behind" = some (some (.ref f6)))
    (l6 : K.lookup f6 = some ⟨oc6, od6, .func (PySem.W.fnOf "tracks_behind" "tracks_behind" (defArgs sBehind) (defBody sBehind) (defScope sBehind) .none kV6 dc6 pm6 an6 cd6 ct6), sl6⟩)
    (c_6 : PySem.W.codeIn K cd6 "tracks_behind" = true)
    (k6 : PySem.W.keepIn K (.ref f6) = true)
    (a7 : PySem.W.nsIn K mainGlobals "tracks_at_first" = some (some (.ref f7)))
    (l7 : K.lookup f7 = some ⟨oc7, od7, .func (PySem.W.fnOf "tracks_at_first" "tracks_at_first" (defArgs sFirst) (defBody sFirst) (defScope sFirst) .none kV7 dc7 pm7 an7 cd7 ct7), sl7⟩)
    (c_7 : PySem.W.codeIn K cd7 "tracks_at_first" = true)
    (k7 : PySem.W.keepIn K (.ref f7) = true)
    (a8 : PySem.W.nsIn K mainGlobals "exchanged" = some (some (.ref f8)))
    (l8 : K.lookup f8 = some ⟨oc8, od8, .func (PySem.W.fnOf "exchanged" "exchanged" (defArgs sExch) (defBody sExch) (defScope sExch) .none kV8 dc8 pm8 an8 cd8 ct8), sl8⟩)
    (c_8 : PySem.W.codeIn K cd8 "exchanged" = true)
    (k8 : PySem.W.keepIn K (.ref f8) = true)
    (a9 : PySem.W.nsIn K mainGlobals "along_tracks" = some (some (.ref f9)))
    (l9 : K.lookup f9 = some ⟨oc9, od9, .func (PySem.W.fnOf "along_tracks" "along_tracks" (defArgs sAlong) (defBody sAlong) (defScope sAlong) .none kV9 dc9 pm9 an9 (.ref c9) ct9), sl9⟩)
    (c_9 : PySem.W.codeIn K (.ref c9) "along_tracks" = true)
    (k9 : PySem.W.keepIn K (.ref f9) = true)
    (lc9 : K.lookup c9 = some ⟨occ9, odc9, .fields vsc9, slc9⟩)
    (hv9 : (vsc9[11]? : Option Value) = some (.ref T9))
    (nT9 : K.lookup T9 = none)
    (r9 : (PyProof.Rows.recsOf q).find? (fun e => e.name == ("along_tracks" : Str)) = some dr9)
    (a10 : PySem.W.nsIn K mainGlobals "book_behind" = some (some (.ref f10)))
    (l10 : K.lookup f10 = some ⟨oc10, od10, .func (PySem.W.fnOf "book_behind" "book_behind" (defArgs sBookB) (defBody sBookB) (defScope sBookB) .none kV10 dc10 pm10 an10 cd10 ct10), sl10⟩)
    (c_10 : PySem.W.codeIn K cd10 "book_behind" = true)
    (k10 : PySem.W.keepIn K (.ref f10) = true)
    (a11 : PySem.W.nsIn K mainGlobals "last_counted" = some (some (.ref f11)))
    (l11 : K.lookup f11 = some ⟨oc11, od11, .func (PySem.W.fnOf "last_counted" "last_counted" (defArgs sLastC) (defBody sLastC) (defScope sLastC) .none kV11 dc11 pm11 an11 cd11 ct11), sl11⟩)
    (c_11 : PySem.W.codeIn K cd11 "last_counted" = true)
    (k11 : PySem.W.keepIn K (.ref f11) = true)
    (a12 : PySem.W.nsIn K mainGlobals "differences" = some (some (.ref f12)))
    (l12 : K.lookup f12 = some ⟨oc12, od12, .func (PySem.W.fnOf "differences" "differences" (defArgs sDiff) (defBody sDiff) (defScope sDiff) .none kV12 dc12 pm12 an12 cd12 ct12), sl12⟩)
    (c_12 : PySem.W.codeIn K cd12 "differences" = true)
    (k12 : PySem.W.keepIn K (.ref f12) = true)
    (a13 : PySem.W.nsIn K mainGlobals "pieces" = some (some (.ref f13)))
    (l13 : K.lookup f13 = some ⟨oc13, od13, .func (PySem.W.fnOf "pieces" "pieces" (defArgs sPieces) (defBody sPieces) (defScope sPieces) .none kV13 dc13 pm13 an13 cd13 ct13), sl13⟩)
    (c_13 : PySem.W.codeIn K cd13 "pieces" = true)
    (k13 : PySem.W.keepIn K (.ref f13) = true)
    (a14 : PySem.W.nsIn K mainGlobals "pieces_of_track" = some (some (.ref f14)))
    (l14 : K.lookup f14 = some ⟨oc14, od14, .func (PySem.W.fnOf "pieces_of_track" "pieces_of_track" (defArgs sPoT) (defBody sPoT) (defScope sPoT) .none kV14 dc14 pm14 an14 cd14 ct14), sl14⟩)
    (c_14 : PySem.W.codeIn K cd14 "pieces_of_track" = true)
    (k14 : PySem.W.keepIn K (.ref f14) = true)
    (a15 : PySem.W.nsIn K mainGlobals "piece_row" = some (some (.ref f15)))
    (l15 : K.lookup f15 = some ⟨oc15, od15, .func (PySem.W.fnOf "piece_row" "piece_row" (defArgs sRow) (defBody sRow) (defScope sRow) .none kV15 dc15 pm15 an15 (.ref c15) ct15), sl15⟩)
    (c_15 : PySem.W.codeIn K (.ref c15) "piece_row" = true)
    (k15 : PySem.W.keepIn K (.ref f15) = true)
    (lc15 : K.lookup c15 = some ⟨occ15, odc15, .fields vsc15, slc15⟩)
    (hv15 : (vsc15[11]? : Option Value) = some (.ref T15))
    (nT15 : K.lookup T15 = none)
    (r15 : (PyProof.Rows.recsOf q).find? (fun e => e.name == ("piece_row" : Str)) = some dr15)
    (a16 : PySem.W.nsIn K mainGlobals "counted" = some (some (.ref f16)))
    (l16 : K.lookup f16 = some ⟨oc16, od16, .func (PySem.W.fnOf "counted" "counted" (defArgs sCounted) (defBody sCounted) (defScope sCounted) .none kV16 dc16 pm16 an16 cd16 ct16), sl16⟩)
    (c_16 : PySem.W.codeIn K cd16 "counted" = true)
    (k16 : PySem.W.keepIn K (.ref f16) = true)
    (a17 : PySem.W.nsIn K mainGlobals "name_of" = some (some (.ref f17)))
    (l17 : K.lookup f17 = some ⟨oc17, od17, .func (PySem.W.fnOf "name_of" "name_of" (defArgs sNameOf) (defBody sNameOf) (defScope sNameOf) .none kV17 dc17 pm17 an17 cd17 ct17), sl17⟩)
    (c_17 : PySem.W.codeIn K cd17 "name_of" = true)
    (k17 : PySem.W.keepIn K (.ref f17) = true)
    (a18 : PySem.W.nsIn K mainGlobals "_law_pen" = some (some (.ref f18)))
    (l18 : K.lookup f18 = some ⟨oc18, od18, .func (PySem.W.fnOf "_law_pen" "_law_pen" (defArgs sPen) (defBody sPen) (defScope sPen) .none kV18 dc18 pm18 an18 cd18 ct18), sl18⟩)
    (c_18 : PySem.W.codeIn K cd18 "_law_pen" = true)
    (k18 : PySem.W.keepIn K (.ref f18) = true)
    (a19 : PySem.W.nsIn K mainGlobals "_law_take" = some (some (.ref f19)))
    (l19 : K.lookup f19 = some ⟨oc19, od19, .func (PySem.W.fnOf "_law_take" "_law_take" (defArgs sTake) (defBody sTake) (defScope sTake) .none kV19 dc19 pm19 an19 cd19 ct19), sl19⟩)
    (c_19 : PySem.W.codeIn K cd19 "_law_take" = true)
    (k19 : PySem.W.keepIn K (.ref f19) = true)
    (a20 : PySem.W.nsIn K mainGlobals "_law_namer" = some (some (.ref f20)))
    (l20 : K.lookup f20 = some ⟨oc20, od20, .func (PySem.W.fnOf "_law_namer" "_law_namer" (defArgs sNamer) (defBody sNamer) (defScope sNamer) .none kV20 dc20 pm20 an20 cd20 ct20), sl20⟩)
    (c_20 : PySem.W.codeIn K cd20 "_law_namer" = true)
    (k20 : PySem.W.keepIn K (.ref f20) = true)
    (a21 : PySem.W.nsIn K mainGlobals "_law_name" = some (some (.ref f21)))
    (l21 : K.lookup f21 = some ⟨oc21, od21, .func (PySem.W.fnOf "_law_name" "_law_name" (defArgs sName) (defBody sName) (defScope sName) .none kV21 dc21 pm21 an21 cd21 ct21), sl21⟩)
    (c_21 : PySem.W.codeIn K cd21 "_law_name" = true)
    (k21 : PySem.W.keepIn K (.ref f21) = true)
    (a22 : PySem.W.nsIn K mainGlobals "_law_many" = some (some (.ref f22)))
    (l22 : K.lookup f22 = some ⟨oc22, od22, .func (PySem.W.fnOf "_law_many" "_law_many" (defArgs sMany) (defBody sMany) (defScope sMany) .none kV22 dc22 pm22 an22 cd22 ct22), sl22⟩)
    (c_22 : PySem.W.codeIn K cd22 "_law_many" = true)
    (k22 : PySem.W.keepIn K (.ref f22) = true)
    (a23 : PySem.W.nsIn K mainGlobals "_law_moments" = some (some (.ref f23)))
    (l23 : K.lookup f23 = some ⟨oc23, od23, .func (PySem.W.fnOf "_law_moments" "_law_moments" (defArgs sMoments) (defBody sMoments) (defScope sMoments) .none kV23 dc23 pm23 an23 cd23 ct23), sl23⟩)
    (c_23 : PySem.W.codeIn K cd23 "_law_moments" = true)
    (k23 : PySem.W.keepIn K (.ref f23) = true)
    (a24 : PySem.W.nsIn K mainGlobals "_law_entry" = some (some (.ref f24)))
    (l24 : K.lookup f24 = some ⟨oc24, od24, .func (PySem.W.fnOf "_law_entry" "_law_entry" (defArgs sEntry) (defBody sEntry) (defScope sEntry) .none kV24 dc24 pm24 an24 cd24 ct24), sl24⟩)
    (c_24 : PySem.W.codeIn K cd24 "_law_entry" = true)
    (k24 : PySem.W.keepIn K (.ref f24) = true)
    (a25 : PySem.W.nsIn K mainGlobals "_law_order" = some (some (.ref f25)))
    (l25 : K.lookup f25 = some ⟨oc25, od25, .func (PySem.W.fnOf "_law_order" "_law_order" (defArgs sOwn) (defBody sOwn) (defScope sOwn) .none kV25 dc25 pm25 an25 cd25 ct25), sl25⟩)
    (c_25 : PySem.W.codeIn K cd25 "_law_order" = true)
    (k25 : PySem.W.keepIn K (.ref f25) = true)
    (a26 : PySem.W.nsIn K mainGlobals "_law_done" = some (some (.ref f26)))
    (l26 : K.lookup f26 = some ⟨oc26, od26, .func (PySem.W.fnOf "_law_done" "_law_done" (defArgs sDone) (defBody sDone) (defScope sDone) .none kV26 dc26 pm26 an26 cd26 ct26), sl26⟩)
    (c_26 : PySem.W.codeIn K cd26 "_law_done" = true)
    (k26 : PySem.W.keepIn K (.ref f26) = true)
    (a27 : PySem.W.nsIn K mainGlobals "_law_told" = some (some (.ref f27)))
    (l27 : K.lookup f27 = some ⟨oc27, od27, .func (PySem.W.fnOf "_law_told" "_law_told" (defArgs sTold) (defBody sTold) (defScope sTold) .none kV27 dc27 pm27 an27 cd27 ct27), sl27⟩)
    (c_27 : PySem.W.codeIn K cd27 "_law_told" = true)
    (k27 : PySem.W.keepIn K (.ref f27) = true)
    (a28 : PySem.W.nsIn K mainGlobals "_law_counted" = some (some (.ref f28)))
    (l28 : K.lookup f28 = some ⟨oc28, od28, .func (PySem.W.fnOf "_law_counted" "_law_counted" (defArgs sLCounted) (defBody sLCounted) (defScope sLCounted) .none kV28 dc28 pm28 an28 cd28 ct28), sl28⟩)
    (c_28 : PySem.W.codeIn K cd28 "_law_counted" = true)
    (k28 : PySem.W.keepIn K (.ref f28) = true)
    (a29 : PySem.W.nsIn K mainGlobals "_law_house" = some (some (.ref f29)))
    (l29 : K.lookup f29 = some ⟨oc29, od29, .func (PySem.W.fnOf "_law_house" "_law_house" (defArgs sHouse) (defBody sHouse) (defScope sHouse) .none kV29 dc29 pm29 an29 cd29 ct29), sl29⟩)
    (c_29 : PySem.W.codeIn K cd29 "_law_house" = true)
    (k29 : PySem.W.keepIn K (.ref f29) = true)
    (a30 : PySem.W.nsIn K mainGlobals "_law_after" = some (some (.ref f30)))
    (l30 : K.lookup f30 = some ⟨oc30, od30, .func (PySem.W.fnOf "_law_after" "_law_after" (defArgs sAfter) (defBody sAfter) (defScope sAfter) .none kV30 dc30 pm30 an30 cd30 ct30), sl30⟩)
    (c_30 : PySem.W.codeIn K cd30 "_law_after" = true)
    (k30 : PySem.W.keepIn K (.ref f30) = true)
    (a31 : PySem.W.nsIn K mainGlobals "_law_steps" = some (some (.ref f31)))
    (l31 : K.lookup f31 = some ⟨oc31, od31, .func (PySem.W.fnOf "_law_steps" "_law_steps" (defArgs sSteps) (defBody sSteps) (defScope sSteps) .none kV31 dc31 pm31 an31 cd31 ct31), sl31⟩)
    (c_31 : PySem.W.codeIn K cd31 "_law_steps" = true)
    (k31 : PySem.W.keepIn K (.ref f31) = true)
    (a32 : PySem.W.nsIn K mainGlobals "_law_by_books" = some (some (.ref f32)))
    (l32 : K.lookup f32 = some ⟨oc32, od32, .func (PySem.W.fnOf "_law_by_books" "_law_by_books" (defArgs sByBooks) (defBody sByBooks) (defScope sByBooks) .none kV32 dc32 pm32 an32 cd32 ct32), sl32⟩)
    (c_32 : PySem.W.codeIn K cd32 "_law_by_books" = true)
    (k32 : PySem.W.keepIn K (.ref f32) = true)
    (a33 : PySem.W.nsIn K mainGlobals "_law_by_pieces" = some (some (.ref f33)))
    (l33 : K.lookup f33 = some ⟨oc33, od33, .func (PySem.W.fnOf "_law_by_pieces" "_law_by_pieces" (defArgs sByPieces) (defBody sByPieces) (defScope sByPieces) .none kV33 dc33 pm33 an33 cd33 ct33), sl33⟩)
    (c_33 : PySem.W.codeIn K cd33 "_law_by_pieces" = true)
    (k33 : PySem.W.keepIn K (.ref f33) = true)
    (a34 : PySem.W.nsIn K mainGlobals "law" = some (some (.ref f34)))
    (l34 : K.lookup f34 = some ⟨oc34, od34, .func (PySem.W.fnOf "law" "law" (defArgs sLaw) (defBody sLaw) (defScope sLaw) .none kV34 dc34 pm34 an34 cd34 ct34), sl34⟩)
    (c_34 : PySem.W.codeIn K cd34 "law" = true)
    (k34 : PySem.W.keepIn K (.ref f34) = true)
    (ne915 : T9 ≠ T15)
    (y_abs : PySem.W.nsIn K mainGlobals "abs" = some none)
    (y_dict : PySem.W.nsIn K mainGlobals "dict" = some none)
    (y_enumerate : PySem.W.nsIn K mainGlobals "enumerate" = some none)
    (y_int : PySem.W.nsIn K mainGlobals "int" = some none)
    (y_isinstance : PySem.W.nsIn K mainGlobals "isinstance" = some none)
    (y_len : PySem.W.nsIn K mainGlobals "len" = some none)
    (y_list : PySem.W.nsIn K mainGlobals "list" = some none)
    (y_max : PySem.W.nsIn K mainGlobals "max" = some none)
    (y_min : PySem.W.nsIn K mainGlobals "min" = some none)
    (y_range : PySem.W.nsIn K mainGlobals "range" = some none)
    (y_repr : PySem.W.nsIn K mainGlobals "repr" = some none)
    (y_sorted : PySem.W.nsIn K mainGlobals "sorted" = some none)
    (y_sum : PySem.W.nsIn K mainGlobals "sum" = some none)
    (y_tuple : PySem.W.nsIn K mainGlobals "tuple" = some none) :
    LawG l w K 7 63 "_law_script" mg fa h := by
  have Gg := G.T.g
  have e := hfa.symm.trans (PySem.W.mg_of X Gg a34)
  cases e
  have n_abs := PySem.W.mg_none_of X Gg y_abs
  have n_dict := PySem.W.mg_none_of X Gg y_dict
  have n_enumerate := PySem.W.mg_none_of X Gg y_enumerate
  have n_int := PySem.W.mg_none_of X Gg y_int
  have n_isinstance := PySem.W.mg_none_of X Gg y_isinstance
  have n_len := PySem.W.mg_none_of X Gg y_len
  have n_list := PySem.W.mg_none_of X Gg y_list
  have n_max := PySem.W.mg_none_of X Gg y_max
  have n_min := PySem.W.mg_none_of X Gg y_min
  have n_range := PySem.W.mg_none_of X Gg y_range
  have n_repr := PySem.W.mg_none_of X Gg y_repr
  have n_sorted := PySem.W.mg_none_of X Gg y_sorted
  have n_sum := PySem.W.mg_none_of X Gg y_sum
  have n_tuple := PySem.W.mg_none_of X Gg y_tuple
  have F1 := fun_mk (st := sGood) l1 c_1 k1
  have b1 := F1.binds (ps := ["entry"]) fun _ _ _ _ _ _ us hl => match us, hl with | [_], _ => rfl
  have g1 := PySem.W.mg_of X Gg a1
  have F2 := fun_mk (st := sPlacesOf) l2 c_2 k2
  have b2 := F2.binds (ps := ["entry"]) fun _ _ _ _ _ _ us hl => match us, hl with | [_], _ => rfl
  have g2 := PySem.W.mg_of X Gg a2
  have F3 := fun_mk (st := sChange) l3 c_3 k3
  have b3 := F3.binds (ps := ["entry", "place"]) fun _ _ _ _ _ _ us hl => match us, hl with | [_, _], _ => rfl
  have g3 := PySem.W.mg_of X Gg a3
  have F4 := fun_mk (st := sWithPlaces) l4 c_4 k4
  have b4 := F4.binds (ps := ["entry", "places"]) fun _ _ _ _ _ _ us hl => match us, hl with | [_, _], _ => rfl
  have g4 := PySem.W.mg_of X Gg a4
  have F5 := fun_mk (st := sTrackAt) l5 c_5 k5
  have b5 := F5.binds (ps := ["house", "place", "at"]) fun _ _ _ _ _ _ us hl => match us, hl with | [_, _, _], _ => rfl
  have g5 := PySem.W.mg_of X Gg a5
  have F6 := fun_mk (st := sBehind) l6 c_6 k6
  have b6 := F6.binds (ps := ["house", "at"]) fun _ _ _ _ _ _ us hl => match us, hl with | [_, _], _ => rfl
  have g6 := PySem.W.mg_of X Gg a6
  have F7 := fun_mk (st := sFirst) l7 c_7 k7
  have b7 := F7.binds (ps := ["house"]) fun _ _ _ _ _ _ us hl => match us, hl with | [_], _ => rfl
  have g7 := PySem.W.mg_of X Gg a7
  have F8 := fun_mk (st := sExch) l8 c_8 k8
  have b8 := F8.binds (ps := ["there", "entry"]) fun _ _ _ _ _ _ us hl => match us, hl with | [_, _], _ => rfl
  have g8 := PySem.W.mg_of X Gg a8
  have F9 := fun_mk (st := sAlong) l9 c_9 k9
  have b9 := F9.binds (ps := ["house"]) fun _ _ _ _ _ _ us hl => match us, hl with | [_], _ => rfl
  have g9 := PySem.W.mg_of X Gg a9
  have F10 := fun_mk (st := sBookB) l10 c_10 k10
  have b10 := F10.binds (ps := ["house", "good", "place", "at"]) fun _ _ _ _ _ _ us hl => match us, hl with | [_, _, _, _], _ => rfl
  have g10 := PySem.W.mg_of X Gg a10
  have F11 := fun_mk (st := sLastC) l11 c_11 k11
  have b11 := F11.binds (ps := ["told", "good", "track"]) fun _ _ _ _ _ _ us hl => match us, hl with | [_, _, _], _ => rfl
  have g11 := PySem.W.mg_of X Gg a11
  have F12 := fun_mk (st := sDiff) l12 c_12 k12
  have b12 := F12.binds (ps := ["house"]) fun _ _ _ _ _ _ us hl => match us, hl with | [_], _ => rfl
  have g12 := PySem.W.mg_of X Gg a12
  have F13 := fun_mk (st := sPieces) l13 c_13 k13
  have b13 := F13.binds (ps := ["house", "good"]) fun _ _ _ _ _ _ us hl => match us, hl with | [_, _], _ => rfl
  have g13 := PySem.W.mg_of X Gg a13
  have F14 := fun_mk (st := sPoT) l14 c_14 k14
  have b14 := F14.binds (ps := ["track", "told"]) fun _ _ _ _ _ _ us hl => match us, hl with | [_, _], _ => rfl
  have g14 := PySem.W.mg_of X Gg a14
  have F15 := fun_mk (st := sRow) l15 c_15 k15
  have b15 := F15.binds (ps := ["piece", "opens", "closes", "inside"]) fun _ _ _ _ _ _ us hl => match us, hl with | [_, _, _, _], _ => rfl
  have g15 := PySem.W.mg_of X Gg a15
  have F16 := fun_mk (st := sCounted) l16 c_16 k16
  have b16 := F16.binds (ps := ["entry"]) fun _ _ _ _ _ _ us hl => match us, hl with | [_], _ => rfl
  have g16 := PySem.W.mg_of X Gg a16
  have F17 := fun_mk (st := sNameOf) l17 c_17 k17
  have b17 := F17.binds (ps := ["entry"]) fun _ _ _ _ _ _ us hl => match us, hl with | [_], _ => rfl
  have g17 := PySem.W.mg_of X Gg a17
  have F18 := fun_mk (st := sPen) l18 c_18 k18
  have b18 := F18.binds (ps := ["_law_script"]) fun _ _ _ _ _ _ us hl => match us, hl with | [_], _ => rfl
  have g18 := PySem.W.mg_of X Gg a18
  have F19 := fun_mk (st := sTake) l19 c_19 k19
  have b19 := F19.binds (ps := ["_law_pen_here", "_law_many_here"]) fun _ _ _ _ _ _ us hl => match us, hl with | [_, _], _ => rfl
  have g19 := PySem.W.mg_of X Gg a19
  have F20 := fun_mk (st := sNamer) l20 c_20 k20
  have b20 := F20.binds (ps := ["_law_pen_here", "_law_most"]) fun _ _ _ _ _ _ us hl => match us, hl with | [_, _], _ => rfl
  have g20 := PySem.W.mg_of X Gg a20
  have F21 := fun_mk (st := sName) l21 c_21 k21
  have b21 := F21.binds (ps := ["_law_namer_here", "_law_k"]) fun _ _ _ _ _ _ us hl => match us, hl with | [_, _], _ => rfl
  have g21 := PySem.W.mg_of X Gg a21
  have F22 := fun_mk (st := sMany) l22 c_22 k22
  have b22 := F22.binds (ps := ["_law_pen_here"]) fun _ _ _ _ _ _ us hl => match us, hl with | [_], _ => rfl
  have g22 := PySem.W.mg_of X Gg a22
  have F23 := fun_mk (st := sMoments) l23 c_23 k23
  have b23 := F23.binds (ps := ["_law_pen_here"]) fun _ _ _ _ _ _ us hl => match us, hl with | [_], _ => rfl
  have g23 := PySem.W.mg_of X Gg a23
  have F24 := fun_mk (st := sEntry) l24 c_24 k24
  have b24 := F24.binds (ps := ["_law_pen_here", "_law_world", "_law_name_here", "_law_word"]) fun _ _ _ _ _ _ us hl => match us, hl with | [_, _, _, _], _ => rfl
  have g24 := PySem.W.mg_of X Gg a24
  have F25 := fun_mk (st := sOwn) l25 c_25 k25
  have b25 := F25.binds (ps := ["_law_entry_here"]) fun _ _ _ _ _ _ us hl => match us, hl with | [_], _ => rfl
  have g25 := PySem.W.mg_of X Gg a25
  have F26 := fun_mk (st := sDone) l26 c_26 k26
  have b26 := F26.binds (ps := ["_law_pen_here", "_law_stock", "_law_entry_here", "_law_goods"]) fun _ _ _ _ _ _ us hl => match us, hl with | [_, _, _, _], _ => rfl
  have g26 := PySem.W.mg_of X Gg a26
  have F27 := fun_mk (st := sTold) l27 c_27 k27
  have b27 := F27.binds (ps := ["_law_pen_here", "_law_many_here", "_law_spoilt"]) fun _ _ _ _ _ _ us hl => match us, hl with | [_, _, _], _ => rfl
  have g27 := PySem.W.mg_of X Gg a27
  have F28 := fun_mk (st := sLCounted) l28 c_28 k28
  have b28 := F28.binds (ps := ["_law_pen_here", "_law_house_here", "_law_spoilt"]) fun _ _ _ _ _ _ us hl => match us, hl with | [_, _, _], _ => rfl
  have g28 := PySem.W.mg_of X Gg a28
  have F29 := fun_mk (st := sHouse) l29 c_29 k29
  have b29 := F29.binds (ps := ["_law_pen_here", "_law_words"]) fun _ _ _ _ _ _ us hl => match us, hl with | [_, _], _ => rfl
  have g29 := PySem.W.mg_of X Gg a29
  have F30 := fun_mk (st := sAfter) l30 c_30 k30
  have b30 := F30.binds (ps := ["_law_entry_here", "_law_books"]) fun _ _ _ _ _ _ us hl => match us, hl with | [_, _], _ => rfl
  have g30 := PySem.W.mg_of X Gg a30
  have F31 := fun_mk (st := sSteps) l31 c_31 k31
  have b31 := F31.binds (ps := ["_law_house_here", "_law_good"]) fun _ _ _ _ _ _ us hl => match us, hl with | [_, _], _ => rfl
  have g31 := PySem.W.mg_of X Gg a31
  have F32 := fun_mk (st := sByBooks) l32 c_32 k32
  have b32 := F32.binds (ps := ["_law_house_here"]) fun _ _ _ _ _ _ us hl => match us, hl with | [_], _ => rfl
  have g32 := PySem.W.mg_of X Gg a32
  have F33 := fun_mk (st := sByPieces) l33 c_33 k33
  have b33 := F33.binds (ps := ["_law_house_here", "_law_good"]) fun _ _ _ _ _ _ us hl => match us, hl with | [_, _], _ => rfl
  have g33 := PySem.W.mg_of X Gg a33
  have F34 := fun_mk (st := sLaw) l34 c_34 k34
  have t9 := tab_is a9 l9 rfl lc9 hv9
  obtain ⟨hd9, tb9⟩ := PySem.W.tab_of G.T X r9 t9
  have t15 := tab_is a15 l15 rfl lc15 hv15
  obtain ⟨hd15, tb15⟩ := PySem.W.tab_of G.T X r15 t15

  refine ⟨PySem.W.fnOf "law" "law" (defArgs sLaw) (defBody sLaw) (defScope sLaw) .none kV34 dc34 pm34 an34 cd34 ct34, [(c9, T9), (c15, T15)], spLaw K [T9, T15], ⟨fun p hp => ?_, fun p hp => ?_, fun p hp => ?_⟩, fun s v => .of_eq rfl, fun H a ns hlen hT hS => ?_, fun base _ _ TB => ?_⟩
  · simp only [List.mem_cons, List.not_mem_nil, or_false] at hp
    rcases hp with rfl | rfl
    · exact tb9
    · exact tb15
  · simp only [List.mem_cons, List.not_mem_nil, or_false] at hp
    rcases hp with rfl | rfl
    · exact nT9
    · exact nT15
  · simp only [List.mem_cons, List.not_mem_nil, or_false] at hp
    rcases hp with rfl | rfl
    · exact hd9
    · exact hd15
  · refine ⟨a, ns, rfl, hS, fun T hT' => ?_, fun _ => rfl⟩
    simp only [List.mem_cons, List.not_mem_nil, or_false] at hT'
    rcases hT' with rfl | rfl
    · exact ⟨#[], hT (c9, _) (by simp), trivial⟩
    · exact ⟨#[], hT (c15, _) (by simp), trivial⟩
  · have B9 := TB (c9, T9) (by simp)
    have B15 := TB (c15, T15) (by simp)
    have TT : TakeT l.prog w K mg base f19 _ := ⟨ok_take F19 n_len n_abs, g19, k19, b19⟩
    have GP : DefT l.prog w K mg base "_law_pen" 1 f18 _ _ (spPen K) := ⟨ok_pen F18 n_list, g18, k18, b18⟩
    have NR : DefT l.prog w K mg base "_law_namer" 2 f20 _ _ (spNamer) := ⟨ok_namer F20 TT n_len n_range, g20, k20, b20⟩
    have NM : DefT l.prog w K mg base "_law_name" 1 f21 _ _ (spName) := ⟨ok_name F21, g21, k21, b21⟩
    have MY : DefT l.prog w K mg base "_law_many" 2 f22 _ _ (spMany) := ⟨ok_many F22 TT, g22, k22, b22⟩
    have MO : DefT l.prog w K mg base "_law_moments" 2 f23 _ _ (spMoms) := ⟨ok_moms F23 TT n_range, g23, k23, b23⟩
    have EN : DefT l.prog w K mg base "_law_entry" 3 f24 _ _ (spEnt) := ⟨ok_ent F24 TT MY n_len n_max n_int, g24, k24, b24⟩
    have OD : DefT l.prog w K mg base "_law_order" 1 f25 _ _ (spOrd) := ⟨ok_own F25, g25, k25, b25⟩
    have DO : DefT l.prog w K mg base "_law_done" 2 f26 _ _ (spDone) := ⟨ok_done F26 TT, g26, k26, b26⟩
    have TO : DefT l.prog w K mg base "_law_told" 3 f27 _ _ (spTold) := ⟨ok_told F27 TT MY n_min n_max, g27, k27, b27⟩
    have LC : DefT l.prog w K mg base "_law_counted" 4 f28 _ _ (spLCnt) := ⟨ok_lcnt F28 TT DO TO n_tuple, g28, k28, b28⟩
    have PO : DefT l.prog w K mg base "places_of" 1 f2 _ _ (spPlaces) := ⟨ok_placesOf F2, g2, k2, b2⟩
    have WP : DefT l.prog w K mg base "with_places" 1 f4 _ _ (spWithPl) := ⟨ok_withPl F4 n_len, g4, k4, b4⟩
    have GO : DefT l.prog w K mg base "good_of" 1 f1 _ _ (spGood) := ⟨ok_good F1, g1, k1, b1⟩
    have FI : DefT l.prog w K mg base "tracks_at_first" 1 f7 _ _ (spFirst) := ⟨ok_first F7, g7, k7, b7⟩
    have XC : DefT l.prog w K mg base "exchanged" 2 f8 _ _ (spExch) := ⟨ok_exch F8 PO, g8, k8, b8⟩
    have AL : DefT l.prog w K mg base "along_tracks" 3 f9 _ _ (spAlong [T9, T15]) := ⟨ok_along l9 c_9 ⟨B9.code, B9.bm, B9.gP⟩ (by simp) PO WP FI XC n_tuple, g9, k9, b9⟩
    have CH : DefT l.prog w K mg base "change_at" 1 f3 _ _ (spChange) := ⟨ok_change F3, g3, k3, b3⟩
    have CO : DefT l.prog w K mg base "counted" 1 f16 _ _ (spCounted) := ⟨ok_counted F16, g16, k16, b16⟩
    have NO : DefT l.prog w K mg base "name_of" 1 f17 _ _ (spNameOf) := ⟨ok_nameOf F17, g17, k17, b17⟩
    have RW : DefT l.prog w K mg base "piece_row" 3 f15 _ _ (spRow [T9, T15]) := ⟨ok_row l15 c_15 ⟨B15.code, B15.bm, B15.gP⟩ (by simp) CH CO NO n_tuple n_sum, g15, k15, b15⟩
    have PT : DefT l.prog w K mg base "pieces_of_track" 4 f14 _ _ (spPoT [T9, T15]) := ⟨ok_pot F14 RW n_len, g14, k14, b14⟩
    have PI : DefT l.prog w K mg base "pieces" 5 f13 _ _ (spPieces [T9, T15]) := ⟨ok_pieces F13 AL GO PT PO, g13, k13, b13⟩
    have BH : DefT l.prog w K mg base "tracks_behind" 3 f6 _ _ (spBehind) := ⟨ok_behind F6 FI XC, g6, k6, b6⟩
    have TA : DefT l.prog w K mg base "track_at" 4 f5 _ _ (spTrackAt) := ⟨ok_trackAt F5 BH, g5, k5, b5⟩
    have L2 : DefT l.prog w K mg base "last_counted" 2 f11 _ _ (spLastC) := ⟨ok_lastC F11 GO PO CH, g11, k11, b11⟩
    have BB : DefT l.prog w K mg base "book_behind" 5 f10 _ _ (spBookB [T9, T15]) := ⟨ok_bookB F10 L2 AL TA, g10, k10, b10⟩
    have DF : DefT l.prog w K mg base "differences" 4 f12 _ _ (spDiff K [T9, T15]) := ⟨ok_diff F12 AL L2 n_enumerate n_sorted, g12, k12, b12⟩
    have HS : DefT l.prog w K mg base "_law_house" 5 f29 _ _ (spBHouse) := ⟨ok_bhouse F29 TT NR NM MO EN OD LC n_range n_sorted n_tuple n_len n_int, g29, k29, b29⟩
    have AF : DefT l.prog w K mg base "_law_after" 1 f30 _ _ (spAfter) := ⟨ok_after F30 n_dict n_int, g30, k30, b30⟩
    have SP : DefG l.prog w K mg base "_law_steps" 6 f31 _ _ (spSteps [T9, T15]) := ⟨ok_steps F31 BB AF n_dict n_enumerate n_repr, g31, k31, b31⟩
    have YB : DefT l.prog w K mg base "_law_by_books" 6 f32 _ _ (spByBooks K [T9, T15]) := ⟨ok_byBooks F32 BB n_enumerate n_sorted, g32, k32, b32⟩
    have YP : DefT l.prog w K mg base "_law_by_pieces" 6 f33 _ _ (spByPieces [T9, T15]) := ⟨ok_byPieces F33 PI, g33, k33, b33⟩
    exact ok_law F34 GP TT HS DF SP YB YP n_len n_repr n_sorted n_isinstance n_list n_tuple
end Shelf
open PySem PySem.W PyProof.Rows
set_option maxHeartbeats 0 in
theorem PySem.Challenge.cw_shelfcounts_k19_whole_books_meet_counts_holds : PySem.Challenge.rw_shelfcounts_k19_whole_books_meet_counts.Holds := by
  w_on; o_law; k_head; (case hw => w_witness2)
  k_fill
  refine Shelf.end_G (l := PySem.Challenge.rw_shelfcounts_k19_whole_books_meet_counts) (n := 63) (k := 7) (x := "_law_script") rfl (by decide) rfl ⟨rfl, by decide, by decide⟩ (fun w h Y => PySem.W.kIn_of Y) ?F
  case F =>
    intro w s0 mg mb fa h G KX hmg
    refine' Shelf.all_mk G KX hmg ?a1 ?l1 ?c_1 ?k1 ?a2 ?l2 ?c_2 ?k2 ?a3 ?l3 ?c_3 ?k3 ?a4 ?l4 ?c_4 ?k4 ?a5 ?l5 ?c_5 ?k5 ?a6 ?l6 ?c_6 ?k6 ?a7 ?l7 ?c_7 ?k7 ?a8 ?l8 ?c_8 ?k8 ?a9 ?l9 ?c_9 ?k9 ?lc9 ?hv9 ?nT9 ?r9 ?a10 ?l10 ?c_10 ?k10 ?a11 ?l11 ?c_11 ?k11 ?a12 ?l12 ?c_12 ?k12 ?a13 ?l13 ?c_13 ?k13 ?a14 ?l14 ?c_14 ?k14 ?a15 ?l15 ?c_15 ?k15 ?lc15 ?hv15 ?nT15 ?r15 ?a16 ?l16 ?c_16 ?k16 ?a17 ?l17 ?c_17 ?k17 ?a18 ?l18 ?c_18 ?k18 ?a19 ?l19 ?c_19 ?k19 ?a20 ?l20 ?c_20 ?k20 ?a21 ?l21 ?c_21 ?k21 ?a22 ?l22 ?c_22 ?k22 ?a23 ?l23 ?c_23 ?k23 ?a24 ?l24 ?c_24 ?k24 ?a25 ?l25 ?c_25 ?k25 ?a26 ?l26 ?c_26 ?k26 ?a27 ?l27 ?c_27 ?k27 ?a28 ?l28 ?c_28 ?k28 ?a29 ?l29 ?c_29 ?k29 ?a30 ?l30 ?c_30 ?k30 ?a31 ?l31 ?c_31 ?k31 ?a32 ?l32 ?c_32 ?k32 ?a33 ?l33 ?c_33 ?k33 ?a34 ?l34 ?c_34 ?k34 ?ne915 ?y_abs ?y_dict ?y_enumerate ?y_int ?y_isinstance ?y_len ?y_list ?y_max ?y_min ?y_range ?y_repr ?y_sorted ?y_sum ?y_tuple
    (case a1 => k_is); (case l1 => k_is); (case c_1 => k_is); (case k1 => k_is); (case a2 => k_is); (case l2 => k_is)
    (case c_2 => k_is); (case k2 => k_is); (case a3 => k_is); (case l3 => k_is); (case c_3 => k_is); (case k3 => k_is)
    (case a4 => k_is); (case l4 => k_is); (case c_4 => k_is); (case k4 => k_is); (case a5 => k_is); (case l5 => k_is)
    (case c_5 => k_is); (case k5 => k_is); (case a6 => k_is); (case l6 => k_is); (case c_6 => k_is); (case k6 => k_is)
    (case a7 => k_is); (case l7 => k_is); (case c_7 => k_is); (case k7 => k_is); (case a8 => k_is); (case l8 => k_is)
    (case c_8 => k_is); (case k8 => k_is); (case a9 => k_is); (case l9 => k_is); (case c_9 => k_is); (case k9 => k_is)
    (case lc9 => k_is); (case hv9 => rfl); (case nT9 => kernel_rfl); (case r9 => rfl); (case a10 => k_is); (case l10 => k_is)
    (case c_10 => k_is); (case k10 => k_is); (case a11 => k_is); (case l11 => k_is); (case c_11 => k_is); (case k11 => k_is)
    (case a12 => k_is); (case l12 => k_is); (case c_12 => k_is); (case k12 => k_is); (case a13 => k_is); (case l13 => k_is)
    (case c_13 => k_is); (case k13 => k_is); (case a14 => k_is); (case l14 => k_is); (case c_14 => k_is); (case k14 => k_is)
    (case a15 => k_is); (case l15 => k_is); (case c_15 => k_is); (case k15 => k_is); (case lc15 => k_is); (case hv15 => rfl)
    (case nT15 => kernel_rfl); (case r15 => rfl); (case a16 => k_is); (case l16 => k_is); (case c_16 => k_is); (case k16 => k_is)
    (case a17 => k_is); (case l17 => k_is); (case c_17 => k_is); (case k17 => k_is); (case a18 => k_is); (case l18 => k_is)
    (case c_18 => k_is); (case k18 => k_is); (case a19 => k_is); (case l19 => k_is); (case c_19 => k_is); (case k19 => k_is)
    (case a20 => k_is); (case l20 => k_is); (case c_20 => k_is); (case k20 => k_is); (case a21 => k_is); (case l21 => k_is)
    (case c_21 => k_is); (case k21 => k_is); (case a22 => k_is); (case l22 => k_is); (case c_22 => k_is); (case k22 => k_is)
    (case a23 => k_is); (case l23 => k_is); (case c_23 => k_is); (case k23 => k_is); (case a24 => k_is); (case l24 => k_is)
    (case c_24 => k_is); (case k24 => k_is); (case a25 => k_is); (case l25 => k_is); (case c_25 => k_is); (case k25 => k_is)
    (case a26 => k_is); (case l26 => k_is); (case c_26 => k_is); (case k26 => k_is); (case a27 => k_is); (case l27 => k_is)
    (case c_27 => k_is); (case k27 => k_is); (case a28 => k_is); (case l28 => k_is); (case c_28 => k_is); (case k28 => k_is)
    (case a29 => k_is); (case l29 => k_is); (case c_29 => k_is); (case k29 => k_is); (case a30 => k_is); (case l30 => k_is)
    (case c_30 => k_is); (case k30 => k_is); (case a31 => k_is); (case l31 => k_is); (case c_31 => k_is); (case k31 => k_is)
    (case a32 => k_is); (case l32 => k_is); (case c_32 => k_is); (case k32 => k_is); (case a33 => k_is); (case l33 => k_is)
    (case c_33 => k_is); (case k33 => k_is); (case a34 => k_is); (case l34 => k_is); (case c_34 => k_is); (case k34 => k_is)
    (case ne915 => decide); (case y_abs => k_is); (case y_dict => k_is); (case y_enumerate => k_is); (case y_int => k_is); (case y_isinstance => k_is)
    (case y_len => k_is); (case y_list => k_is); (case y_max => k_is); (case y_min => k_is); (case y_range => k_is); (case y_repr => k_is)
    (case y_sorted => k_is); (case y_sum => k_is); (case y_tuple => k_is)

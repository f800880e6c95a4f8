import PyProof.Rows.All
import Wide.All
import OpenK.AllK
import Wide.FinOn
import HandS.ForMost
import HandS.AnyAll
import HandS.IsInst
import HandS.Style
import HandS.EndTab
import HandS.Codes
import HandS.GenOver
import HandS.Strs
import HandS.Zip
import HandS.Walk
import HandS.More
import KE.KEqSeq
import HandS.SortKw
import HandS.Keys
import HandS.ExcValue
import HandS.ExcIs
import HandS.ForExc
import HandS.Lambda
import HandS.TupAny
import HandS.DictComp
import KE.SortKeyHeap
import KE.KRevSl
import PyProof.DictUpdate
import PyProof.DictDisplay
import PyProof.DictValues
import HandS.SetTxt0
import HandS.Set
import KE.KDictList
import PyProof.MeetsDict
import HandS.JoinGen
import HandS.Text
import HandS.Star
import KE.KUnpackStar
import KE.KIntText
import KE.IntTextLaws
import KE.GoesEnum
import HandS.StrMore
import HandS.MapJoin
import HandS.Zip0
import HandS.Iter
import PySem.Challenge.RW_shelfcounts_k75_rows_of_a_log_written_an
import HandS.Conv
import KE.GoesZip
import KE.GoesMore
import HandS.RaiseMore
import HandS.ExcInit
import HandS.ExcField
import KE.KExcIs
set_option Elab.async false
set_option linter.all false
set_option maxRecDepth 100000
namespace Shelf
open PySem PySem.Spec PyProof.Rows L2
def topS (i : Nat) : Stmt := PySem.Challenge.pw_shelfcounts_k75_rows_of_a_log_written_an.main.body.getD i (.Pass ⟨0, 0, 0, 0⟩)
abbrev sName : Stmt := topS 3
abbrev sWhole : Stmt := topS 4
abbrev sIsEntry : Stmt := topS 8
abbrev sFits : Stmt := topS 9
abbrev sPlacesOf : Stmt := topS 10
abbrev sNumberOf : Stmt := topS 33
abbrev sIsDay : Stmt := topS 37
abbrev sEntryText : Stmt := topS 40
abbrev sRowText : Stmt := topS 41
abbrev sReadEntry : Stmt := topS 43
abbrev sEntryIn : Stmt := topS 44
abbrev sPartIn : Stmt := topS 45
abbrev sReadRow : Stmt := topS 46
abbrev sRowIn : Stmt := topS 47
abbrev sPen : Stmt := topS 49
abbrev sTake : Stmt := topS 50
abbrev sNames : Stmt := topS 51
abbrev sWords : Stmt := topS 52
abbrev sMoments : Stmt := topS 53
abbrev sMany : Stmt := topS 54
abbrev sEntryOf : Stmt := topS 55
abbrev sEntry : Stmt := topS 56
abbrev sOwn : Stmt := topS 57
abbrev sLWhole : Stmt := topS 58
abbrev sEnds : Stmt := topS 59
abbrev sLIsEntry : Stmt := topS 60
abbrev sLine : Stmt := topS 61
abbrev sLNumber : Stmt := topS 62
abbrev sLEntryIn : Stmt := topS 63
abbrev sRefused : Stmt := topS 64
abbrev sLRowIn : Stmt := topS 65
abbrev sBent : Stmt := topS 66
abbrev sRowRight : Stmt := topS 67
abbrev sEntryRight : Stmt := topS 68
abbrev sLRows : Stmt := topS 69
abbrev sLaw : Stmt := topS 70
/-! ### the pen: what a script is drawn from -/
theorem same_new {H : Hp} {p : Addr} {o : HO} (h : H p = none) : Same H (upd H p o) := fun b x e => (upd_ne (ne_of_none e h)).trans e
/-- all but the object at p is as it was -/
def But (p : Addr) (H H' : Hp) : Prop := ∀ b o, H b = some o → b ≠ p → H' b = some o
theorem But.refl (p : Addr) (H : Hp) : But p H H := fun _ _ e _ => e
theorem But.of {p : Addr} {H H' : Hp} (h : Same H H') : But p H H' := fun b o e _ => h b o e
theorem But.tr {p : Addr} {H H1 H2 : Hp} (a : But p H H1) (b : But p H1 H2) : But p H H2 := fun c o e n => b c o (a c o e n) n
theorem But.to {p : Addr} {H H1 : Hp} (a : But p H H1) {l : Addr} {o : HO} (h : H l = none) (n : H p ≠ none) : But p H (upd H1 l o) := fun c u e nc => (upd_ne (ne_of_none e h)).trans (a c u e nc)
theorem dget_s {H : Hp} {p : Addr} {kvs : List (Key × V)} {x : Str} {v : V} (h : H p = some (.dK kvs)) (e : valV kvs (Sum.inr x) = some v) : DGet H p (.str x) (some v) := .inl ⟨kvs, Sum.inr x, .inl h, rfl, e.symm⟩
theorem dput_s {H : Hp} {p : Addr} {kvs : List (Key × V)} {x : Str} {v : V} (h : H p = some (.dK kvs)) (hl : kvs.length < sizeLine) : DPut H p (.str x) v (upd H p (.dK (putK kvs (Sum.inr x) v))) := .inl ⟨kvs, Sum.inr x, h, rfl, hl, rfl⟩
theorem put_len {kvs : List (Key × V)} {k : Key} {v u : V} (e : valV kvs k = some u) : (putK kvs k v).length = kvs.length := by
  have h := valV_any k kvs
  rw [e] at h
  have h' : (kvs.any fun kv => decide (kv.1 = k)) = true := h
  unfold putK
  rw [if_pos h', List.length_map]
abbrev kCells : Key := Sum.inr "cells"
abbrev kAt : Key := Sum.inr "at"
abbrev kLeft : Key := Sum.inr "left"
theorem nCA : ¬ kCells = kAt := by decide +kernel
theorem nCL : ¬ kCells = kLeft := by decide +kernel
theorem nAL : ¬ kAt = kLeft := by decide +kernel
theorem nLA : ¬ kLeft = kAt := by decide +kernel
/-- a pen stands at p, its cells at c; at most n have been drawn -/
structure PenAt (H : Hp) (p c : Addr) (n : Nat) : Prop where
  ex : ∃ (kvs : List (Key × V)) (ns : List Int) (a l : Int), H p = some (.dK kvs) ∧ kvs.length ≤ 3 ∧ valV kvs kCells = some (.ref c) ∧ valV kvs kAt = some (.int a) ∧ valV kvs kLeft = some (.int l) ∧ H c = some (.lst (ns.map V.int)) ∧ 0 ≤ a ∧ a ≤ n ∧ 0 ≤ l
theorem PenAt.same {H H' : Hp} {p c : Addr} {n : Nat} (P : PenAt H p c n) (h : Same H H') : PenAt H' p c n := by
  obtain ⟨kvs, ns, a, l, h1, h2, h3, h4, h5, h6, h7⟩ := P.ex
  exact ⟨kvs, ns, a, l, h _ _ h1, h2, h3, h4, h5, h _ _ h6, h7⟩
theorem PenAt.there {H : Hp} {p c : Addr} {n : Nat} (P : PenAt H p c n) : H p ≠ none := by
  obtain ⟨kvs, ns, a, l, h1, _⟩ := P.ex
  rw [h1]
  exact fun z => nomatch z
theorem PenAt.cells {H : Hp} {p c : Addr} {n : Nat} (P : PenAt H p c n) : H c ≠ none := by
  obtain ⟨kvs, ns, a, l, _, _, _, _, _, h1, _⟩ := P.ex
  rw [h1]
  exact fun z => nomatch z
theorem PenAt.upd {H : Hp} {p c l : Addr} {n : Nat} {o : HO} (P : PenAt H p c n) (h1 : l ≠ p) (h2 : l ≠ c) : PenAt (L2.upd H l o) p c n := by
  obtain ⟨kvs, ns, a, x, g1, g2, g3, g4, g5, g6, g7⟩ := P.ex
  exact ⟨kvs, ns, a, x, (upd_ne h1.symm).trans g1, g2, g3, g4, g5, (upd_ne h2.symm).trans g6, g7⟩
theorem PenAt.mono {H : Hp} {p c : Addr} {n m : Nat} (P : PenAt H p c n) (h : n ≤ m) : PenAt H p c m := by
  obtain ⟨kvs, ns, a, l, g1, g2, g3, g4, g5, g6, g7, g8, g9⟩ := P.ex
  exact ⟨kvs, ns, a, l, g1, g2, g3, g4, g5, g6, g7, by omega, g9⟩
theorem dp_ints {K : PySem.W.Frag} {H : Hp} : ∀ ns : List Int, DpAll K H (ns.map V.int) (ns.map PyData.int)
  | [] => .nil
  | n :: r => .cons (.int n) (dp_ints r)
/-- what a draw promises: a number below many, the pen drawn once more, nothing else touched -/
def spTake : Sp := fun vs H Q _ => ∃ (p c : Addr) (n : Nat) (m : Int), vs = [.ref p, .int m] ∧ PenAt H p c n ∧ n ≤ 100000 ∧ 1 ≤ m ∧ m ≤ 1000000000 ∧
  ∀ (r : Int) (H' : Hp), 0 ≤ r → r < m → PenAt H' p c (n + 1) → But p H H' → Q (.int r) H'
def spPen (K : PySem.W.Frag) : Sp := fun vs H Q _ => ∃ (a : Addr) (ns : List Int), vs = [.ref a] ∧ SqL K H a (ns.map V.int) ∧
  ∀ (p c : Addr) (H' : Hp), H p = none → H c = none → PenAt H' p c 0 → Same H H' → Q (.ref p) H'
theorem mem_cut {α : Type} {xs : List α} {lo hi : Nat} : ∀ x ∈ (xs.drop lo).take hi, x ∈ xs := fun x h => List.mem_of_mem_drop (List.mem_of_mem_take h)
theorem cut_ints (ns : List Int) (lo hi : Option Int) : ∃ ms : List Int, cutV (ns.map V.int) lo hi = ms.map V.int := by
  unfold cutV
  rw [← List.map_drop, ← List.map_take]
  exact ⟨_, rfl⟩
section
variable {P : Program} {w : World} {K : PySem.W.Frag} {mg : Str → Option Value} {base : Heap}
theorem scPen : FnScope ["_law_script"] ["_law_script"] (defScope sPen) := ⟨rfl, rfl, rfl, by decide +kernel, rfl, by decide +kernel, by decide +kernel⟩
theorem scTake : FnScope ["_law_pen_here", "_law_many_here", "_law_found", "_law_at", "_law_cells", "_law_cell", "_law_one", "_law_two"] ["_law_pen_here", "_law_many_here"] (defScope sTake) := ⟨rfl, rfl, rfl, by decide +kernel, rfl, by decide +kernel, by decide +kernel⟩
theorem ok_pen {f : Addr} {fd : FuncData} (F : Fun K "_law_pen" "_law_pen" sPen f fd) (ml : mg "list" = none) : FnOk P w K mg base CX0 1 f fd ["_law_script"] (spPen K) := by
  refine F.ok scPen (fun vs H Q E h => ?_) (fun cdv A outer s H vs Q E hr h => ?_)
  · obtain ⟨a, ns, rfl, _⟩ := h
    rfl
  · obtain ⟨a, ns, rfl, hS, q⟩ := h
    refine ⟨_, pss_one (ps_ret (pe_disp (pps_cons pe_str (pe_callTy call_list_of (by rfl) ml (by decide +kernel) (pa_cons (pe_slice sl_list (pv 0) po_none (po_some pe_int)) pa_nil))
      (pps_cons pe_str pe_int (pps_cons pe_str pe_int pps_nil))) (by rfl) (by rfl) (fun z => by cases z) (by decide))), ?_⟩
    refine fun p np => ?_
    have s1 : Same H (upd H p (.dK [])) := same_new np
    refine ⟨.ref a, rfl, 63, rfl, a, ns.map V.int, rfl, s1.seq hS, fun t nt => ?_⟩
    obtain ⟨ms, em⟩ := cut_ints ns none (some 63)
    have s2 : Same (upd H p (.dK [])) (upd (upd H p (.dK [])) t (.lst (cutV (ns.map V.int) none (some 63)))) := same_new nt
    refine ⟨t, _, rfl, .inl (SqL.of upd_same), fun c nc => ?_⟩
    have s3 := @same_new _ _ (.lst (cutV (ns.map V.int) none (some 63))) nc
    have hp := s3 _ _ (s2 _ _ upd_same)
    refine ⟨hp, [(kCells, .ref c), (kAt, .int 0), (kLeft, .int 0)], rfl, (by show 3 ≤ 15; decide), ?_⟩
    have s4 := s1.trans (s2.trans s3)
    have npc : p ≠ c := ne_of_none (s2 _ _ upd_same) nc
    refine q p c _ np (s1.free (s2.free nc)) ⟨_, ms, 0, 0, upd_same, (by exact Nat.le_refl 3), ?_, ?_, ?_, ?_, Int.le_refl _, Int.le_refl _, Int.le_refl _⟩ fun b o e => (upd_ne (ne_of_none e np)).trans (s4 b o e)
    · rfl
    · rfl
    · rfl
    · rw [upd_ne npc.symm, upd_same, em]
theorem ok_take {f : Addr} {fd : FuncData} (F : Fun K "_law_take" "_law_take" sTake f fd) (mlen : mg "len" = none) (mabs : mg "abs" = none) : FnOk P w K mg base CX0 1 f fd ["_law_pen_here", "_law_many_here"] spTake := by
  refine F.ok scTake (fun vs H Q E h => ?_) (fun cdv A outer s H vs Q E hr h => ?_)
  · obtain ⟨p, c, n, m, rfl, _⟩ := h
    rfl
  · obtain ⟨p, c, n, m, rfl, pen, hn, m1, m2, q⟩ := h
    have hu := hu_of hr
    have nd := scTake.nd
    refine ⟨_, pss_cons (ps_if (pt_cmpR op_gt (pe_dget hu (pv 0) pe_str (fun _ _ => rfl)) pe_int (nomark _))
        (pss_cons (ps_set (i := 2) nd rfl (Or.inl rfl) (pe_op op_mod (pe_dget hu (pv 0) pe_str (fun _ _ => rfl)) (pv 1)))
        (pss_cons (ps_dput hu (pv 0) pe_str (pe_op op_fdiv (pe_dget hu (pv 0) pe_str (fun _ _ => rfl)) (pv 1)) rfl)
        (pss_one (ps_ret (pv 2))))) pss_nil)
      (pss_cons (ps_set (i := 3) nd rfl (Or.inl rfl) (pe_dget hu (pv 0) pe_str (fun _ _ => rfl)))
      (pss_cons (ps_dput hu (pv 0) pe_str (pe_op op_add (pv 3) pe_int) rfl)
      (pss_cons (ps_set (i := 4) nd rfl (Or.inl rfl) (pe_dget hu (pv 0) pe_str (fun _ _ => rfl)))
      (pss_cons (ps_set (i := 5) nd rfl (Or.inl rfl) (pe_op op_add (pe_op op_add (pe_op op_mul (pe_op op_mul pe_int (pv 3)) (pv 3)) (pe_op op_mul pe_int (pv 3))) pe_int))
      (C8.pss_cut (ps_if (pt_cmpR (op_neD hr.units) (pv 4) (pe_lst pa_nil) (nomark _))
        (pss_one (ps_set (i := 5) nd rfl (Or.inl rfl) (pe_ix ix_list (pv 4) (pe_op op_mod (pv 3) (pe_callB call_len_seq (by rfl) mlen PySem.boot_len (pa_cons (pv 4) pa_nil))) (fun _ _ => rfl)))) pss_nil)
      (C8.pss_cut (ps_if (PW.pt (pw_and (pt_cmpR op_lt (pv 3) (pe_callB call_len_seq (by rfl) mlen PySem.boot_len (pa_cons (pv 4) pa_nil)) (nomark _))
          (pw_and1 (pt_cmpR op_ge (pe_callB call_abs (by rfl) mabs (by decide +kernel) (pa_cons (pv 5) pa_nil)) (pe_op op_pow pe_int pe_int) (nomark _)))))
        (pss_cons (ps_dput hu (pv 0) pe_str (pe_op op_fdiv (pe_callB call_abs (by rfl) mabs (by decide +kernel) (pa_cons (pv 5) pa_nil)) (pv 1)) rfl)
        (pss_one (ps_ret (pe_op op_mod (pe_callB call_abs (by rfl) mabs (by decide +kernel) (pa_cons (pv 5) pa_nil)) (pv 1))))) pss_nil)
      (pss_cons (ps_set (i := 6) nd rfl (Or.inl rfl) (pe_op op_mod (pe_op op_pow (pe_op op_add (pe_op op_add (pe_op op_mod (pv 5) pe_int) (pe_op op_mul pe_int (pv 3))) pe_int) pe_int) pe_int))
      (pss_cons (ps_set (i := 7) nd rfl (Or.inl rfl) (pe_op op_mod (pe_op op_pow (pe_op op_add (pe_op op_add (pv 6) (pe_op op_mul (pe_op op_mul pe_int (pv 3)) (pv 3))) pe_int) pe_int) pe_int))
      (pss_one (ps_ret (pe_op op_mod (pe_op op_fdiv (pe_op op_mod (pe_op op_mul (pv 7) (pe_op op_add (pe_op op_mod (pv 6) pe_int) pe_int)) pe_int) pe_int) (pv 1)))))))))))), ?_⟩
    obtain ⟨kvs, ns, a, l, g1, g2, g3, g4, g5, g6, g7, g8, g9⟩ := pen.ex
    have hsz : kvs.length < sizeLine := small1000 (by omega)
    have npc : p ≠ c := ne_of g1 g6 (by intro z; cases z)
    -- the left
    refine ⟨_, rfl, p, _, rfl, dget_s g1 g5, l, 0, rfl, rfl, _, rfl, ite2 (fun e => ?_) (fun e => ?_)⟩
    · have e' : 0 < l := of_decide_eq_true e
      refine ⟨_, rfl, p, _, rfl, dget_s g1 g5, _, rfl, l, m, rfl, rfl, (by show (0 : Int) < m; omega), ?_⟩
      refine ⟨_, rfl, p, _, rfl, dget_s g1 g5, _, rfl, l, m, rfl, rfl, ⟨by omega, by omega⟩, _, rfl, p, _, rfl, dput_s g1 hsz, _, rfl, ?_⟩
      refine q _ _ (Int.emod_nonneg _ (by omega)) (Int.emod_lt_of_pos _ (by omega)) ⟨_, ns, a, l / m, upd_same, (by rw [put_len g5]; exact g2), ?_, ?_, ?_, ?_, g7, by omega, Int.ediv_nonneg (by omega) (by omega)⟩ fun b o z nb => (upd_ne nb).trans z
      · rw [valV_put, if_neg nCL]; exact g3
      · rw [valV_put, if_neg nAL]; exact g4
      · rw [valV_put, if_pos rfl]
      · rw [upd_ne npc.symm]; exact g6
    · -- a new cell
      refine ⟨_, rfl, p, _, rfl, dget_s g1 g4, ?_⟩
      refine ⟨_, rfl, a, 1, rfl, rfl, _, rfl, p, _, rfl, dput_s g1 hsz, ?_⟩
      have k1 : (upd H p (.dK (putK kvs kAt (.int (a + 1))))) p = some (.dK (putK kvs kAt (.int (a + 1)))) := upd_same
      have v3 : valV (putK kvs kAt (.int (a + 1))) kCells = some (.ref c) := by rw [valV_put, if_neg nCA]; exact g3
      have v4 : valV (putK kvs kAt (.int (a + 1))) kAt = some (.int (a + 1)) := by rw [valV_put, if_pos rfl]
      have v5 : valV (putK kvs kAt (.int (a + 1))) kLeft = some (.int l) := by rw [valV_put, if_neg nLA]; exact g5
      have k2 : (putK kvs kAt (.int (a + 1))).length ≤ 3 := by rw [put_len g4]; exact g2
      have k6 : (upd H p (.dK (putK kvs kAt (.int (a + 1))))) c = some (.lst (ns.map V.int)) := by rw [upd_ne npc.symm]; exact g6
      generalize putK kvs kAt (.int (a + 1)) = kw at k1 k2 k6 v3 v4 v5
      refine ⟨_, rfl, p, _, rfl, dget_s k1 v3, ?_⟩
      refine ⟨_, rfl, 70207, a, rfl, rfl, .inl ⟨by decide, by decide⟩, _, rfl, _, a, rfl, rfl, .inr ⟨by omega, by omega⟩, _, rfl, 131, a, rfl, rfl, .inl ⟨by decide, by decide⟩, _, _, rfl, rfl, _, 29, rfl, rfl, ?_⟩
      refine ⟨fun σ' H' => ∃ x : Int, σ' = [some (.ref p), some (.int m), none, some (.int a), some (.ref c), some (.int x), none, none] ∧ Same (upd H p (.dK kw)) H', ?_, ?_⟩
      · refine ⟨_, rfl, Nat.zero_le _, fun t nt => ?_⟩
        have s1 := @same_new _ _ (.lst []) nt
        refine ⟨.list (ns.map PyData.int), .list [], .lst (SqL.of (s1 _ _ k6)) (dp_ints ns), .lst (SqL.of upd_same) .nil, PySem.W.ke_shaped_ints ns, PySem.W.ke_shaped_ints [], _, rfl, ?_⟩
        cases e2 : (!PyData.eqv (.list (ns.map PyData.int)) (.list [])) with
        | false => exact iteF ⟨_, rfl, s1⟩
        | true =>
          refine iteT ?_
          have hne : ns ≠ [] := fun z => by
            subst z
            rw [show PyData.eqv (.list (([] : List Int).map PyData.int)) (.list []) = true from rfl] at e2
            cases e2
          have hlen : 0 < ns.length := List.length_pos_iff.mpr hne
          have hlt : (a % (ns.length : Int)).toNat < ns.length := by
            have h1 := Int.emod_nonneg a (show (ns.length : Int) ≠ 0 by omega)
            have h2 := Int.emod_lt_of_pos a (show (0 : Int) < ns.length by omega)
            omega
          refine ⟨_, rfl, _, rfl, _, rfl, c, _, rfl, .inl (SqL.of (s1 _ _ k6)), a, _, rfl, rfl, ?_, c, _, _, .int ns[(a % (ns.length : Int)).toNat], rfl, rfl, SqL.of (s1 _ _ k6), ?_, _, rfl, s1⟩
          · show (0 : Int) < ((ns.map V.int).length : Int)
            rw [List.length_map]; omega
          · rw [List.length_map]
            refine at_of (j := (a % (ns.length : Int)).toNat) (Int.toNat_of_nonneg (Int.emod_nonneg a (show (ns.length : Int) ≠ 0 by omega))).symm ?_
            rw [List.getElem?_map, List.getElem?_eq_getElem hlt]
            rfl
      · rintro σ' H2 ⟨x, rfl, s1⟩
        have j1 := s1 _ _ k1
        have j6 := s1 _ _ k6
        have bt : But p H H2 := fun b o z nb => s1 _ _ ((upd_ne nb).trans z)
        have absn : (0 : Int) ≤ if x < 0 then -x else x := by split <;> omega
        have fin : ∀ r : Int, 0 ≤ r → r < m → Q (.int r) H2 := fun r r1 r2 => q r H2 r1 r2 ⟨kw, ns, a + 1, l, j1, k2, v3, v4, v5, j6, by omega, by omega, g9⟩ bt
        have a2 : 0 ≤ 1213 * a * a ∧ 1213 * a * a ≤ 121300000 * 100000 := ⟨Int.mul_nonneg (by omega) g7, Int.mul_le_mul (by omega) (by omega) g7 (by decide)⟩
        refine ⟨fun σ' H' => σ' = [some (.ref p), some (.int m), none, some (.int a), some (.ref c), some (.int x), none, none] ∧ H' = H2, ?_, ?_⟩
        · refine ⟨_, rfl, _, rfl, c, _, rfl, .inl (SqL.of j6), a, _, rfl, rfl, _, rfl, ?_⟩
          refine ite2 (fun _ => ?_) (fun _ => ?_)
          · refine ⟨_, rfl, x, rfl, 10, 18, rfl, rfl, ⟨by decide, by decide, by decide⟩, _, _, rfl, rfl, _, rfl, ite2 (fun _ => ?_) (fun _ => ⟨rfl, rfl⟩)⟩
            refine ⟨_, rfl, x, rfl, _, rfl, _, m, rfl, rfl, ⟨by omega, by omega⟩, _, rfl, p, _, rfl, dput_s j1 (small1000 (by omega)), ?_⟩
            refine ⟨_, rfl, x, rfl, _, rfl, _, m, rfl, rfl, (by show (0 : Int) < m; omega), ?_⟩
            refine q _ _ (Int.emod_nonneg _ (by omega)) (Int.emod_lt_of_pos _ (by omega)) ⟨_, ns, a + 1, (if x < 0 then -x else x) / m, upd_same, (by rw [put_len v5]; exact k2), ?_, ?_, ?_, ?_, by omega, by omega, Int.ediv_nonneg absn (by omega)⟩ fun b o z nb => (upd_ne nb).trans (bt b o z nb)
            · rw [valV_put, if_neg nCL]; exact v3
            · rw [valV_put, if_neg nAL]; exact v4
            · rw [valV_put, if_pos rfl]
            · rw [upd_ne npc.symm]; exact j6
          · exact iteF ⟨rfl, rfl⟩
        · rintro σ' H' ⟨rfl, rfl⟩
          have b1 := Int.emod_nonneg x (show (2147483587 : Int) ≠ 0 by decide)
          have b2 := Int.emod_lt_of_pos x (show (0 : Int) < 2147483587 by decide)
          refine ⟨_, rfl, x, _, rfl, rfl, (by show (0 : Int) < 2147483587; decide), _, rfl, 45007, a, rfl, rfl, .inl ⟨by decide, by decide⟩, _, _, rfl, rfl, _, 11, rfl, rfl, _, 3, rfl, rfl, ⟨by decide, by decide, ?_⟩, _, 2147483629, rfl, rfl, (by show (0 : Int) < 2147483629; decide), ?_⟩
          · generalize x % 2147483587 = y at b1 b2
            show (y + 45007 * a + 11).natAbs < 2 ^ 64
            omega
          · generalize (x % 2147483587 + 45007 * a + 11) ^ (3 : Int).toNat = z
            have d1 := Int.emod_nonneg z (show (2147483629 : Int) ≠ 0 by decide)
            have d2 := Int.emod_lt_of_pos z (show (0 : Int) < 2147483629 by decide)
            obtain ⟨o, ho⟩ : ∃ o, z % 2147483629 = o := ⟨_, rfl⟩
            rw [ho] at d1 d2
            show tSeq _ _ _ [some (.ref p), some (.int m), none, some (.int a), some (.ref c), some (.int x), some (.int (z % 2147483629)), none] _
            rw [ho]
            have f1 := Int.emod_nonneg o (show (64007 : Int) ≠ 0 by decide)
            have f2 := Int.emod_lt_of_pos o (show (0 : Int) < 64007 by decide)
            refine ⟨_, rfl, _, rfl, 1213, a, rfl, rfl, .inl ⟨by decide, by decide⟩, _, rfl, _, a, rfl, rfl, .inr ⟨by omega, by omega⟩, o, _, rfl, rfl, _, 3, rfl, rfl, _, 5, rfl, rfl, ⟨by decide, by decide, ?_⟩, _, 2147483543, rfl, rfl, (by show (0 : Int) < 2147483543; decide), ?_⟩
            · show (o + 1213 * a * a + 3).natAbs < 2 ^ 64
              omega
            · refine ⟨_, rfl, _, rfl, o, 64007, rfl, rfl, (by show (0 : Int) < 64007; decide), _, 1, rfl, rfl, _, _, rfl, rfl, .inr ⟨by omega, by omega⟩, _, 2147483579, rfl, rfl, (by show (0 : Int) < 2147483579; decide), _, 64, rfl, rfl, ⟨by decide, by decide⟩, _, rfl, _, m, rfl, rfl, (by show (0 : Int) < m; omega), ?_⟩
              exact fin _ (Int.emod_nonneg _ (by omega)) (Int.emod_lt_of_pos _ (by omega))
end
/-! ### texts as lists of signs -/
abbrev sc (l : List Nat) : Str := ⟨l.toArray⟩
theorem sc_list (z : Str) : sc z.cps.toList = z := rfl
theorem sc_len (l : List Nat) : (sc l).length = l.length := by
  show l.toArray.size = l.length
  simp
theorem sc_app (a b : List Nat) : (sc a ++ sc b : Str) = sc (a ++ b) := by
  have h : TL.tl (sc a ++ sc b) = TL.tl (sc (a ++ b)) := by
    rw [TL.tl_append]
  have h2 := congrArg sc h
  exact h2
theorem sc_take (l : List Nat) {k : Nat} (hk : k ≤ l.length) : cutS (sc l) none (some (k : Int)) = sc (l.take k) := by
  unfold cutS
  rw [HT.sIx_none, HT.sIx_nat, sc_len, Nat.min_eq_left hk]
  show sc ((l.toArray.toList.drop 0).take (k - 0)) = sc (l.take k)
  simp
theorem sc_drop (l : List Nat) {k : Nat} (hk : k ≤ l.length) : cutS (sc l) (some (k : Int)) none = sc (l.drop k) := by
  unfold cutS
  rw [HT.sIx_none, HT.sIx_nat, sc_len, Nat.min_eq_left hk]
  show sc ((l.toArray.toList.drop k).take (l.length - k)) = sc (l.drop k)
  rw [List.take_of_length_le (by simp)]
theorem sc_join (ls : List (List Nat)) : Txt.join "" (ls.map sc) = sc ls.flatten := by
  have h : ∀ l : List (List Nat), TL.joinL [] l = l.flatten := by
    intro l
    induction l with
    | nil => rfl
    | cons p r ih =>
      cases r with
      | nil => show p = [p].flatten; simp
      | cons q r => show p ++ ([] ++ TL.joinL [] (q :: r)) = _; rw [List.nil_append, ih]; rfl
  have e := TL.tl_join "" (ls.map sc)
  rw [show TL.tl ("" : Str) = [] from rfl, h, List.map_map] at e
  rw [TL.join_eq]
  have e2 : ls.map (TL.tl ∘ sc) = ls := by
    have : (TL.tl ∘ sc) = id := funext fun l => by show l.toArray.toList = l; simp
    rw [this, List.map_id]
  rw [e2] at e
  exact congrArg sc e
abbrev abc : Str := "abcdefghijklmnopqrstuvwxyz"
def Lc (i : Nat) : Nat := abc.cps.toList.getD i 0
theorem abc_len : abc.cps.toList.length = 26 := by decide +kernel
theorem at_abc {r : Int} (h0 : 0 ≤ r) (h1 : r < 26) : atI abc.cps.toList r = some (Lc r.toNat) := by
  have h : r.toNat < abc.cps.toList.length := by rw [abc_len]; omega
  have e : ((r.toNat : Nat) : Int) = r := by omega
  have q := atI_nat (List.getElem?_eq_getElem h)
  rw [e] at q
  rw [q, Lc, List.getD_eq_getElem?_getD, List.getElem?_eq_getElem h]
  rfl
theorem Lc_in {i : Nat} (h : i < 26) : Lc i ∈ abc.cps.toList := by
  rw [Lc, List.getD_eq_getElem?_getD, List.getElem?_eq_getElem (by rw [abc_len]; exact h)]
  exact List.getElem_mem _
/-! ### the names that a law draws -/
def nmPair (t k : Nat) : List Nat := [Lc ((t + 7 * k) % 26), Lc ((t + k / 26) % 26)]
def bij (t : Nat) : Nat → List Nat
  | 0 => []
  | r + 1 => bij t (r / 2) ++ [Lc ((t + 9 * ((r + 1) % 2)) % 26)]
def nm (way t : Nat) (B : List Nat) (sp k : Nat) : List Nat := if way = 1 then bij t (k + 1) else B.take sp ++ nmPair t k ++ B.drop sp
def nmStr (way t : Nat) (B : List Nat) (sp k : Nat) : Str := sc (nm way t B sp k)
structure NmOk (way t : Nat) (B : List Nat) (sp : Nat) : Prop where
  t26 : t < 26
  b6 : B.length ≤ 6
  bl : ∀ c ∈ B, c ∈ abc.cps.toList
  s : sp ≤ B.length
/-- a list of names at l -/
def NmAt (H : Hp) (l : Addr) (m : Nat) : Prop := ∃ way t B sp, NmOk way t B sp ∧ H l = some (.lst ((List.range m).map fun k => V.str (nmStr way t B sp k)))
theorem bij_len (t : Nat) : ∀ r, (bij t r).length = if r = 0 then 0 else (bij t ((r - 1) / 2)).length + 1
  | 0 => by rw [bij]; rfl
  | r + 1 => by rw [bij, List.length_append, if_neg (by omega)]; rfl
theorem bij_le (t : Nat) : ∀ r, (bij t r).length ≤ r
  | 0 => by rw [bij]; exact Nat.le_refl _
  | r + 1 => by
    rw [bij, List.length_append]
    have := bij_le t (r / 2)
    show _ + 1 ≤ _
    omega
theorem flat_one : ∀ B : List Nat, (B.map fun c => [c]).flatten = B
  | [] => rfl
  | b :: r => by rw [List.map_cons, List.flatten_cons, flat_one r]; rfl
theorem sum_one : ∀ B : List Nat, (((B.map fun c => [c]).map sc).map (·.length)).sum = B.length
  | [] => rfl
  | b :: r => by
    rw [List.map_cons, List.map_cons, List.map_cons, List.sum_cons, sum_one r, List.length_cons, sc_len]
    exact Nat.add_comm _ _
def restOf (σ : L2.St) (_ : Hp) : Nat := match σ[10]? with
  | some (some (V.int r)) => r.toNat
  | _ => 0
/-- what _law_names promises -/
def spNames : Sp := fun vs H Q _ => ∃ (p c : Addr) (n : Nat) (m : Int), vs = [.ref p, .int m] ∧ PenAt H p c n ∧ n ≤ 50000 ∧ 0 ≤ m ∧ m ≤ 31 ∧
  ∀ (l : Addr) (H' : Hp), H l = none → NmAt H' l m.toNat → PenAt H' p c (n + 10) → But p H H' → Q (.ref l) H'
theorem yesT {σ : L2.St} {H : Hp} {A B : Hp → Prop} (h : A H) : tYes σ H fun b H3 => if b = true then A H3 else B H3 := iteT (A := A H) (B := B H) h
theorem small_sz {n : Nat} (h : n ≤ 1000) : n ≤ sizeLine := Nat.le_of_lt (small1000 h)
theorem at_ex {α : Type} {xs : List α} {r : Int} (h0 : 0 ≤ r) (h1 : r < (xs.length : Int)) : ∃ v, atI xs r = some v ∧ v ∈ xs := by
  have h : r.toNat < xs.length := by omega
  have e : ((r.toNat : Nat) : Int) = r := by omega
  have q := atI_nat (List.getElem?_eq_getElem h)
  rw [e] at q
  exact ⟨_, q, List.getElem_mem h⟩
/-- the def _law_take, as its callers need it -/
structure TakeT (P : Program) (w : World) (K : PySem.W.Frag) (mg : Str → Option Value) (base : Heap) (f : Addr) (fd : FuncData) : Prop where
  ok : FnOk P w K mg base CX0 1 f fd ["_law_pen_here", "_law_many_here"] spTake
  g : mg "_law_take" = some (.ref f)
  kp : PySem.W.keepIn K (.ref f) = true
  b : Binds K fd ["_law_pen_here", "_law_many_here"] []
/-- any def, as its callers need it -/
structure DefT (P : Program) (w : World) (K : PySem.W.Frag) (mg : Str → Option Value) (base : Heap) (x : Str) (k : Nat) (f : Addr) (fd : FuncData) (ps : List Str) (sp : Sp) : Prop where
  ok : FnOk P w K mg base CX0 k f fd ps sp
  g : mg x = some (.ref f)
  kp : PySem.W.keepIn K (.ref f) = true
  b : Binds K fd ps []
abbrev namesN : List Str := ["_law_pen_here", "_law_many_here", "_law_letters", "_law_way", "_law_turn", "_law_k", "_law_base", "_law_spot", "_law_found", "_law_word", "_law_rest"]
section
variable {P : Program} {w : World} {K : PySem.W.Frag} {mg : Str → Option Value} {base : Heap}
theorem scNames : FnScope namesN ["_law_pen_here", "_law_many_here"] (defScope sNames) := ⟨rfl, rfl, rfl, by decide +kernel, rfl, by decide +kernel, by decide +kernel⟩
set_option maxHeartbeats 4000000 in
theorem ok_names {f fT : Addr} {fd fdT : FuncData} (F : Fun K "_law_names" "_law_names" sNames f fd) (T : TakeT P w K mg base fT fdT) (ml : mg "len" = none) (mr : mg "range" = none) :
    FnOk P w K mg base CX0 2 f fd ["_law_pen_here", "_law_many_here"] spNames := by
  refine F.ok scNames (fun vs H Q E h => ?_) (fun cdv A outer s H vs Q E hr h => ?_)
  · obtain ⟨p, c, n, m, rfl, _⟩ := h
    rfl
  · obtain ⟨p, c, n, m, rfl, pen, hn, m0, m31, q⟩ := h
    have nd := scNames.nd
    refine ⟨_, pss_cons (ps_set (i := 2) nd rfl (Or.inr rfl) pe_str)
      (pss_cons (ps_set (i := 3) nd rfl (Or.inl rfl) (pe_call T.ok hr (by rfl) T.g T.kp T.b .nil pass0 (pa_cons (pv 0) (pa_cons pe_int pa_nil))))
      (pss_cons (ps_set (i := 4) nd rfl (Or.inl rfl) (pe_call T.ok hr (by rfl) T.g T.kp T.b .nil pass0 (pa_cons (pv 0) (pa_cons pe_int pa_nil))))
      (pss_cons (ps_set (i := 6) nd rfl (Or.inl rfl) (pe_join pe_str (pe_lc (own := [("_law_k", 5)]) (g := gName 5) (tt := tYes) rfl nd
          (pi_range1 rfl mr (pa_cons (pe_ix ix_list (pe_lst (pa_cons (pe_call T.ok hr (by rfl) T.g T.kp T.b .nil pass0 (pa_cons (pv 0) (pa_cons pe_int pa_nil))) (pa_cons pe_int (pa_cons pe_int pa_nil)))) (pv 3) (fun _ _ => rfl)) pa_nil))
          (blkOk_by (N := namesN) (sc := defScope sNames) (by decide +kernel))
          (fun _ _ _ _ _ => pg_name (i := 5) nd rfl (Or.inl rfl)) (fun _ _ _ _ _ => pts_nil)
          (fun _ _ _ _ _ => pe_ix ix_str (pv 2) (pe_call T.ok hr (by rfl) T.g T.kp T.b .nil pass0 (pa_cons (pv 0) (pa_cons pe_int pa_nil))) (fun _ _ => rfl)))))
      (pss_cons (ps_set (i := 7) nd rfl (Or.inl rfl) (pe_call T.ok hr (by rfl) T.g T.kp T.b .nil pass0 (pa_cons (pv 0) (pa_cons (pe_op op_add (pe_callB call_len_str (by rfl) ml PySem.boot_len (pa_cons (pv 6) pa_nil)) pe_int) pa_nil))))
      (pss_cons (ps_set (i := 8) nd rfl (Or.inl rfl) (pe_lst pa_nil))
      (pss_cons (ps_for PassesOwn.never rfl (pi_range1 rfl mr (pa_cons (pv 1) pa_nil)) (pg_name (i := 5) nd rfl (Or.inl rfl))
        (pss_cons (ps_set (i := 9) nd rfl (Or.inl rfl) (pe_op op_add_str (pe_ix ix_str (pv 2) (pe_op op_mod (pe_op op_add (pv 4) (pe_op op_mul pe_int (pv 5))) pe_int) (fun _ _ => rfl)) (pe_ix ix_str (pv 2) (pe_op op_mod (pe_op op_add (pv 4) (pe_op op_fdiv (pv 5) pe_int)) pe_int) (fun _ _ => rfl))))
        (pss_cons (ps_set (i := 9) nd rfl (Or.inl rfl) (pe_op op_add_str (pe_op op_add_str (pe_slice sl_str (pv 6) po_none (po_some (pv 7))) (pv 9)) (pe_slice sl_str (pv 6) (po_some (pv 7)) po_none)))
        (C8.pss_cut (ps_if (pt_cmpR op_eq (pv 3) pe_int (nomark _))
            (pss_cons (ps_set (i := 9) nd rfl (Or.inl rfl) pe_str)
            (pss_cons (ps_set (i := 10) nd rfl (Or.inl rfl) (pe_op op_add (pv 5) pe_int))
            (pss_one (ps_while PassesOwn.never (pt_cmpR op_gt (pv 10) pe_int (nomark _))
              (pss_cons (ps_set (i := 9) nd rfl (Or.inl rfl) (pe_op op_add_str (pe_ix ix_str (pv 2) (pe_op op_mod (pe_op op_add (pv 4) (pe_op op_mul pe_int (pe_op op_mod (pv 10) pe_int))) pe_int) (fun _ _ => rfl)) (pv 9)))
              (pss_one (ps_set (i := 10) nd rfl (Or.inl rfl) (pe_op op_fdiv (pe_op op_sub (pv 10) pe_int) pe_int)))))))) pss_nil)
        (pss_one (ps_expr (pe_bm PySem.F.plainAttrs_list PySem.F.slot_list_append PySem.F.type_list_append mt_append (pv 8) (pa_cons (pv 9) pa_nil))))))))
      (pss_one (ps_ret (pv 8))))))))), ?_⟩
    -- way, turn
    refine ⟨_, rfl, p, c, n, 3, rfl, pen, by omega, by decide, by decide, fun r1 H1 a1 b1 pen1 bt1 => ?_⟩
    refine ⟨_, rfl, p, c, n + 1, 26, rfl, pen1, by omega, by decide, by decide, fun r2 H2 a2 b2 pen2 bt2 => ?_⟩
    -- the base's size
    refine ⟨⟨_, rfl⟩, _, rfl, p, c, n + 2, 7, rfl, pen2, by omega, by decide, by decide, fun r3 H3 a3 b3 pen3 bt3 => ?_⟩
    refine ⟨(by show 3 ≤ sizeLine; decide), fun l nl => ?_⟩
    have s4 := @same_new _ _ (.lst [V.int r3, .int 0, .int 6]) nl
    obtain ⟨kk, hkk, k0, k6⟩ : ∃ kk : Int, atI [V.int r3, .int 0, .int 6] r1 = some (.int kk) ∧ 0 ≤ kk ∧ kk ≤ 6 := by
      have w3 : r1 = 0 ∨ r1 = 1 ∨ r1 = 2 := by omega
      rcases w3 with rfl | rfl | rfl
      · exact ⟨r3, atI_nat (j := 0) rfl, a3, by omega⟩
      · exact ⟨0, atI_nat (j := 1) rfl, by decide, by decide⟩
      · exact ⟨6, atI_nat (j := 2) rfl, by decide, by decide⟩
    have pen4 := pen3.same s4
    have bt4 : But p H (upd H3 l (.lst [V.int r3, .int 0, .int 6])) := (bt1.tr (bt2.tr bt3)).tr (.of s4)
    refine ⟨_, rfl, l, _, r1, _, rfl, rfl, SqL.of upd_same, hkk, kk, rfl, by omega, by omega, fun D nD => ?_⟩
    generalize upd H3 l (.lst [V.int r3, .int 0, .int 6]) = H4 at pen4 bt4 nD
    have nDp : D ≠ p := fun z => pen4.there (z ▸ nD)
    have nDc : D ≠ c := fun z => pen4.cells (z ▸ nD)
    refine lc_range (lo := 0) (n := kk.toNat) (fun j H' => PenAt H' p c (n + 3 + j) ∧ But p H H' ∧ ∃ B : List Nat, H' D = some (.lst (((B.map fun c => [c]).map sc).map V.str)) ∧ B.length = j ∧ ∀ c ∈ B, c ∈ abc.cps.toList)
      ⟨pen4.same (same_new nD), bt4.tr (.of (same_new nD)), [], upd_same, rfl, fun y hy => nomatch hy⟩ ?_ ?_
    · rintro j H6 hj ⟨pen6, bt6, B, hD6, ly, one⟩
      refine ⟨rfl, yesT ?_⟩
      refine ⟨_, rfl, _, rfl, p, c, _, 26, rfl, pen6, by omega, by decide, by decide, fun r H7 a7 b7 pen7 bt7 => ?_⟩
      have hD7 := bt7 D _ hD6 nDp
      have hDn : H D = none := by
        cases e : H D with
        | none => rfl
        | some o => rw [bt4 D o e nDp] at nD; cases nD
      refine ⟨abc, r, _, rfl, rfl, (by decide +kernel), at_abc a7 b7, _, hD7, (by simp only [List.length_map]; exact small1000 (by omega)), pen7.upd nDp nDc, fun b o e nb => (upd_ne (ne_of_none e hDn)).trans ((bt6.tr bt7) b o e nb), B ++ [Lc r.toNat], ?_, by simp [ly], ?_⟩
      · rw [upd_same, List.map_append, List.map_append, List.map_append]
        rfl
      · intro y hy
        rcases List.mem_append.mp hy with h | h
        · exact one y h
        · rw [List.mem_singleton.mp h]
          exact Lc_in (by omega)
    · rintro H6 ⟨pen6, bt6, B, hD6, ly, one⟩
      have bl : B.length ≤ 6 := by omega
      have ej : Txt.join "" ((B.map fun c => [c]).map sc) = sc B := by rw [sc_join, flat_one]
      refine ⟨"", D, (B.map fun c => [c]).map sc, rfl, rfl, .inl (SqL.of hD6), (by rw [sum_one]; simp only [List.length_map]; show B.length + B.length * 0 ≤ 16777216; omega), ?_⟩
      rw [ej]
      -- the spot
      refine ⟨_, rfl, _, rfl, sc B, rfl, (by rw [sc_len]; exact small_sz (by omega)), _, 1, rfl, rfl, p, c, n + 9, (B.length : Int) + 1, (by rw [sc_len]; rfl), pen6.mono (by omega), by omega, by omega, by omega, fun r4 H7 a4 b4 pen7 bt7 => ?_⟩
      refine ⟨Nat.zero_le _, fun Fd nFd => ?_⟩
      have nFp : Fd ≠ p := fun z => pen7.there (z ▸ nFd)
      have nFc : Fd ≠ c := fun z => pen7.cells (z ▸ nFd)
      have bt8 := bt6.tr bt7
      have hFn : H Fd = none := by
        cases e : H Fd with
        | none => rfl
        | some o => rw [bt8 Fd o e nFp] at nFd; cases nFd
      have nmok : NmOk r1.toNat r2.toNat B r4.toNat := ⟨by omega, bl, one, by omega⟩
      refine ⟨_, rfl, m, rfl, by omega, by omega, for_range (lo := 0) (n := m.toNat) (fun j σ H' => ∃ y5 y9 y10, σ = [some (.ref p), some (.int m), some (.str abc), some (.int r1), some (.int r2), y5, some (.str (sc B)), some (.int r4), some (.ref Fd), y9, y10] ∧
        PenAt H' p c (n + 10) ∧ But p H H' ∧ H' Fd = some (.lst ((List.range j).map fun k => V.str (nmStr r1.toNat r2.toNat B r4.toNat k)))) ⟨_, _, _, rfl, pen7.same (same_new nFd), bt8.tr (.of (same_new nFd)), upd_same⟩ ?_ ?_⟩
      · rintro j σ H9 hj ⟨y5, y9, y10, rfl, pen9, bt9, hF9⟩
        have i1 : 0 ≤ (r2 + 7 * (0 + (j : Int))) % 26 := Int.emod_nonneg _ (by decide)
        have i2 : (r2 + 7 * (0 + (j : Int))) % 26 < 26 := Int.emod_lt_of_pos _ (by decide)
        have i3 : 0 ≤ (r2 + (0 + (j : Int)) / 26) % 26 := Int.emod_nonneg _ (by decide)
        have i4 : (r2 + (0 + (j : Int)) / 26) % 26 < 26 := Int.emod_lt_of_pos _ (by decide)
        refine ⟨_, rfl, _, rfl, _, rfl, 7, 0 + (j : Int), rfl, rfl, .inl ⟨by decide, by decide⟩, r2, _, rfl, rfl, _, 26, rfl, rfl, (by show (0 : Int) < 26; decide), abc, _, _, rfl, rfl, (by decide +kernel), at_abc i1 i2, ?_⟩
        refine ⟨_, rfl, _, rfl, _, rfl, 0 + (j : Int), 26, rfl, rfl, ⟨by decide, by decide⟩, r2, _, rfl, rfl, _, 26, rfl, rfl, (by show (0 : Int) < 26; decide), abc, _, _, rfl, rfl, (by decide +kernel), at_abc i3 i4, _, _, rfl, rfl, (by show 1 + 1 ≤ sizeLine; decide), ?_⟩
        have q1 : ((r2 + 7 * (0 + (j : Int))) % 26).toNat = (r2.toNat + 7 * j) % 26 := by omega
        have q2 : ((r2 + (0 + (j : Int)) / 26) % 26).toNat = (r2.toNat + j / 26) % 26 := by
          have h : (0 + (j : Int)) / 26 = ((j / 26 : Nat) : Int) := by omega
          rw [h]
          generalize j / 26 = u
          omega
        have wd : ((⟨#[Lc ((r2 + 7 * (0 + (j : Int))) % 26).toNat]⟩ : Str) ++ ⟨#[Lc ((r2 + (0 + (j : Int)) / 26) % 26).toNat]⟩ : Str) = sc (nmPair r2.toNat j) := by
          rw [q1, q2]
          exact sc_app [_] [_]
        have e4 : ((r4.toNat : Nat) : Int) = r4 := by omega
        have c1 : cutS (sc B) none (some r4) = sc (B.take r4.toNat) := by rw [← e4]; exact sc_take B (by omega)
        have c2 : cutS (sc B) (some r4) none = sc (B.drop r4.toNat) := by rw [← e4]; exact sc_drop B (by omega)
        have szB : (sc B).length ≤ sizeLine := by rw [sc_len]; exact small_sz (by omega)
        refine ⟨_, rfl, _, rfl, r4, rfl, sc B, rfl, szB, _, rfl, _, _, rfl, rfl, ?_, _, rfl, _, rfl, r4, rfl, sc B, rfl, szB, _, _, rfl, rfl, ?_, ?_⟩
        · rw [wd, c1, sc_len, sc_len]
          refine small_sz ?_
          rw [List.length_take]
          show _ + 2 ≤ _
          omega
        · rw [wd, c1, c2, sc_app, sc_len, sc_len, List.length_append, List.length_take, List.length_drop]
          refine small_sz ?_
          show _ + 2 + _ ≤ _
          omega
        rw [wd, c1, c2, sc_app, sc_app]
        refine ⟨fun σ' H' => ∃ y10, σ' = [some (.ref p), some (.int m), some (.str abc), some (.int r1), some (.int r2), some (.int (0 + (j : Int))), some (.str (sc B)), some (.int r4), some (.ref Fd), some (.str (nmStr r1.toNat r2.toNat B r4.toNat j)), y10] ∧ H' = H9, ?_, ?_⟩
        · refine ⟨_, rfl, rfl, _, rfl, ite2 (fun e => ?_) (fun e => ?_)⟩
          · have e1 : r1 = 1 := V.int.inj (of_decide_eq_true e)
            subst e1
            refine ⟨_, rfl, _, 1, rfl, rfl, ?_⟩
            have el : (bij r2.toNat (j + 1)).length ≤ 100 := Nat.le_trans (bij_le _ _) (by omega)
            refine while_by (fun σ' H' => ∃ (L : List Nat) (r : Int), σ' = [some (.ref p), some (.int m), some (.str abc), some (.int 1), some (.int r2), some (.int (0 + (j : Int))), some (.str (sc B)), some (.int r4), some (.ref Fd), some (.str (sc L)), some (.int r)] ∧ H' = H9 ∧ 0 ≤ r ∧ bij r2.toNat (j + 1) = bij r2.toNat r.toNat ++ L)
              restOf ⟨[], _, rfl, rfl, by omega, ?_⟩ ?_ ?_
            · rw [List.append_nil, show (0 + (j : Int) + 1).toNat = j + 1 by omega]
            · rintro σ' H' ⟨L, r, rfl, rfl, r0, hb⟩
              have lL : L.length ≤ 100 := by
                have := congrArg List.length hb
                rw [List.length_append] at this
                omega
              refine ⟨_, rfl, r, 0, rfl, rfl, _, rfl, ite2 (fun er => ?_) (fun er => ?_)⟩
              · have er' : 0 < r := of_decide_eq_true er
                have d1 : 0 ≤ (r2 + 9 * (r % 2)) % 26 := Int.emod_nonneg _ (by decide)
                have d2 : (r2 + 9 * (r % 2)) % 26 < 26 := Int.emod_lt_of_pos _ (by decide)
                refine ⟨_, rfl, _, rfl, _, rfl, r, 2, rfl, rfl, (by show (0 : Int) < 2; decide), 9, _, rfl, rfl, .inl ⟨by decide, by decide⟩, r2, _, rfl, rfl, _, 26, rfl, rfl, (by show (0 : Int) < 26; decide), abc, _, _, rfl, rfl, (by decide +kernel), at_abc d1 d2, _, rfl, _, sc L, rfl, rfl, ?_, ?_⟩
                · show 1 + (sc L).length ≤ sizeLine
                  rw [sc_len]
                  exact small_sz (by omega)
                · refine ⟨_, rfl, r, 1, rfl, rfl, r - 1, 2, rfl, rfl, ⟨by decide, by decide⟩, ⟨Lc ((r2 + 9 * (r % 2)) % 26).toNat :: L, (r - 1) / 2, ?_, rfl, by omega, ?_⟩, ?_⟩
                  · rw [show ((⟨#[Lc ((r2 + 9 * (r % 2)) % 26).toNat]⟩ : Str) ++ sc L : Str) = sc (Lc ((r2 + 9 * (r % 2)) % 26).toNat :: L) from sc_app [_] L]
                    rfl
                  · rw [hb]
                    obtain ⟨u, rfl⟩ : ∃ u : Nat, r = ((u + 1 : Nat) : Int) := ⟨(r - 1).toNat, by omega⟩
                    rw [Int.toNat_natCast, bij, List.append_assoc, show ((((u + 1 : Nat) : Int) - 1) / 2).toNat = u / 2 by omega, show ((r2 + 9 * ((((u + 1 : Nat) : Int)) % 2)) % 26).toNat = (r2.toNat + 9 * ((u + 1) % 2)) % 26 by omega]
                    rfl
                  · show ((r - 1) / 2).toNat < r.toNat
                    omega
              · have er' : ¬ 0 < r := fun h => er (decide_eq_true h)
                have : r = 0 := by omega
                subst this
                refine ⟨some (.int 0), ?_, rfl⟩
                rw [show nmStr (1 : Int).toNat r2.toNat B r4.toNat j = sc L by
                  show sc (if 1 = 1 then bij r2.toNat (j + 1) else _) = sc L
                  rw [if_pos rfl, hb, show (0 : Int).toNat = 0 from rfl, bij, List.nil_append]]
            · rintro σ' H' Q1 Q2 hq ⟨v, hv, i, k, x1, x2, b, x3, x4⟩
              exact ⟨v, hv, i, k, x1, x2, b, x3, hq _ _ x4⟩
          · have e1 : ¬ r1 = 1 := fun h => e (decide_eq_true (congrArg V.int h))
            refine ⟨y10, ?_, rfl⟩
            rw [show nmStr r1.toNat r2.toNat B r4.toNat j = sc (B.take r4.toNat ++ nmPair r2.toNat j ++ B.drop r4.toNat) by
              show sc (if r1.toNat = 1 then _ else _) = _
              rw [if_neg (by omega)]]
            rfl
        · rintro σ' H' ⟨z10, rfl, rfl⟩
          refine ⟨_, rfl, .inl ⟨rfl, _, SqL.of hF9⟩, _, rfl, Fd, _, _, rfl, rfl, hF9, (by simp only [List.length_map, List.length_range]; exact small1000 (by omega)), ⟨_, _, _, rfl, pen9.upd nFp nFc, fun b o e nb => (upd_ne (ne_of_none e hFn)).trans (bt9 b o e nb), ?_⟩⟩
          rw [upd_same, List.range_succ, List.map_append]
          rfl
      · rintro σ H9 ⟨y5, y9, y10, rfl, pen9, bt9, hF9⟩
        exact ⟨_, rfl, q Fd H9 hFn ⟨_, _, _, _, nmok, hF9⟩ pen9 bt9⟩
end
/-! ### entries -/
inductive Ent where
  | come (nm : Str) (mo : Int) (g pl : Str) (many price : Int)
  | go (nm : Str) (mo : Int) (g pl : Str) (many : Int)
  | move (nm : Str) (mo : Int) (g one other : Str) (many : Int)
  | some_ (nm : Str) (mo : Int) (g one other : Str)
  | swap (nm : Str) (mo : Int) (one other : Str)
  | count (nm : Str) (mo : Int) (g pl : Str) (many : Int) (hand : Str)
  | look (nm : Str) (mo : Int) (g pl : Str)
namespace Ent
def word : Ent → Str
  | come .. => "come" | go .. => "go" | move .. => "move" | some_ .. => "some" | swap .. => "swap" | count .. => "count" | look .. => "look"
def name : Ent → Str
  | come n .. => n | go n .. => n | move n .. => n | some_ n .. => n | swap n .. => n | count n .. => n | look n .. => n
def moment : Ent → Int
  | come _ m .. => m | go _ m .. => m | move _ m .. => m | some_ _ m .. => m | swap _ m .. => m | count _ m .. => m | look _ m .. => m
def rest : Ent → List V
  | come _ _ g p m r => [.str g, .str p, .int m, .int r]
  | go _ _ g p m => [.str g, .str p, .int m]
  | move _ _ g o t m => [.str g, .str o, .str t, .int m]
  | some_ _ _ g o t => [.str g, .str o, .str t]
  | swap _ _ o t => [.str o, .str t]
  | count _ _ g p m h => [.str g, .str p, .int m, .str h]
  | look _ _ g p => [.str g, .str p]
def vals (e : Ent) : List V := .str e.word :: .str e.name :: .int e.moment :: e.rest
/-- its parts are drawn from these places, goods and hands -/
def From (PL GL HL : List Str) : Ent → Prop
  | come _ _ g p m r => g ∈ GL ∧ p ∈ PL ∧ 1 ≤ m ∧ m ≤ 1000000000 ∧ 0 ≤ r ∧ r ≤ 1000000000
  | go _ _ g p m => g ∈ GL ∧ p ∈ PL ∧ 1 ≤ m ∧ m ≤ 1000000000
  | move _ _ g o t m => g ∈ GL ∧ o ∈ PL ∧ t ∈ PL ∧ (PL.Nodup → o ≠ t) ∧ 1 ≤ m ∧ m ≤ 1000000000
  | some_ _ _ g o t => g ∈ GL ∧ o ∈ PL ∧ (t = "" ∨ (t ∈ PL ∧ (PL.Nodup → o ≠ t)))
  | swap _ _ o t => o ∈ PL ∧ t ∈ PL ∧ (PL.Nodup → o ≠ t)
  | count _ _ g p m h => g ∈ GL ∧ p ∈ PL ∧ 0 ≤ m ∧ m ≤ 1000000000 ∧ h ∈ HL
  | look _ _ g p => g ∈ GL ∧ p ∈ PL
end Ent
def words7 : List Str := ["come", "go", "move", "some", "swap", "count", "look"]
abbrev words10 : List Str := ["come", "go", "move", "some", "swap", "count", "look", "count", "swap", "move"]
theorem Ent.word_in (e : Ent) : e.word ∈ words7 := by
  cases e <;> simp [Ent.word, words7]
abbrev StrsAt (H : Hp) (l : Addr) (ys : List Str) : Prop := H l = some (.lst (ys.map V.str))
def spMany : Sp := fun vs H Q _ => ∃ (p c : Addr) (n : Nat), vs = [.ref p] ∧ PenAt H p c n ∧ n ≤ 90000 ∧
  ∀ (r : Int) (H' : Hp), 1 ≤ r → r ≤ 1000000000 → PenAt H' p c (n + 4) → But p H H' → Q (.int r) H'
def spEntryOf : Sp := fun vs H Q _ => ∃ (p c : Addr) (n : Nat) (wd nme : Str) (mo : Int) (a1 a2 a3 : Addr) (PL GL HL : List Str), vs = [.ref p, .str wd, .str nme, .int mo, .ref a1, .ref a2, .ref a3] ∧ PenAt H p c n ∧ n ≤ 80000 ∧ wd ∈ words7 ∧
  StrsAt H a1 PL ∧ StrsAt H a2 GL ∧ StrsAt H a3 HL ∧ PL ≠ [] ∧ GL ≠ [] ∧ HL ≠ [] ∧ PL.length ≤ 100 ∧ GL.length ≤ 100 ∧ HL.length ≤ 100 ∧
  ∀ (tp : Addr) (e : Ent) (H' : Hp), H tp = none → H' tp = some (.tup e.vals) → e.name = nme → e.moment = mo → e.From PL GL HL → PenAt H' p c (n + 20) → But p H H' → Q (.ref tp) H'
def spEntry : Sp := fun vs H Q _ => ∃ (p c : Addr) (n : Nat) (nme : Str) (mo : Int) (a1 a2 a3 : Addr) (PL GL HL : List Str), vs = [.ref p, .str nme, .int mo, .ref a1, .ref a2, .ref a3] ∧ PenAt H p c n ∧ n ≤ 70000 ∧
  StrsAt H a1 PL ∧ StrsAt H a2 GL ∧ StrsAt H a3 HL ∧ PL ≠ [] ∧ GL ≠ [] ∧ HL ≠ [] ∧ PL.length ≤ 100 ∧ GL.length ≤ 100 ∧ HL.length ≤ 100 ∧
  ∀ (tp : Addr) (e : Ent) (H' : Hp), H tp = none → H' tp = some (.tup e.vals) → e.name = nme → e.moment = mo → e.From PL GL HL → PenAt H' p c (n + 30) → But p H H' → Q (.ref tp) H'
theorem pen_strs {H H' : Hp} {p c l : Addr} {n : Nat} {ys : List Str} (pen : PenAt H p c n) (b : But p H H') (h : StrsAt H l ys) : StrsAt H' l ys := by
  obtain ⟨kvs, ns, a, x, g1, _⟩ := pen.ex
  exact b l _ h (ne_of h g1 (by intro z; cases z))
theorem pen_free {H H' : Hp} {p c l : Addr} {n : Nat} (pen : PenAt H p c n) (b : But p H H') (h : H' l = none) (pen' : PenAt H' p c n) : H l = none := by
  cases e : H l with
  | none => rfl
  | some o =>
    have nl : l ≠ p := fun z => pen'.there (z ▸ h)
    rw [b l o e nl] at h
    cases h
theorem But.free {H H' : Hp} {p l : Addr} (b : But p H H') (h : H' l = none) (hp : H' p ≠ none) : H l = none := by
  cases e : H l with
  | none => rfl
  | some o =>
    have nl : l ≠ p := fun z => hp (z ▸ h)
    rw [b l o e nl] at h
    cases h
theorem at_strs {ys : List Str} {r : Int} (h0 : 0 ≤ r) (h1 : r < (ys.length : Int)) : ∃ y, atI (ys.map V.str) r = some (.str y) ∧ ys[r.toNat]? = some y ∧ y ∈ ys := by
  have h : r.toNat < ys.length := by omega
  have e : ((r.toNat : Nat) : Int) = r := by omega
  have q := atI_nat (xs := ys.map V.str) (j := r.toNat) (v := .str ys[r.toNat]) (by rw [List.getElem?_map, List.getElem?_eq_getElem h]; rfl)
  rw [e] at q
  exact ⟨_, q, List.getElem?_eq_getElem h, List.getElem_mem h⟩
section
variable {P : Program} {w : World} {K : PySem.W.Frag} {mg : Str → Option Value} {base : Heap}
theorem scMany : FnScope ["_law_pen_here", "_law_way"] ["_law_pen_here"] (defScope sMany) := ⟨rfl, rfl, rfl, by decide +kernel, rfl, by decide +kernel, by decide +kernel⟩
theorem ok_many {f fT : Addr} {fd fdT : FuncData} (F : Fun K "_law_many" "_law_many" sMany f fd) (T : TakeT P w K mg base fT fdT) : FnOk P w K mg base CX0 2 f fd ["_law_pen_here"] spMany := by
  refine F.ok scMany (fun vs H Q E h => ?_) (fun cdv A outer s H vs Q E hr h => ?_)
  · obtain ⟨p, c, n, rfl, _⟩ := h
    rfl
  · obtain ⟨p, c, n, rfl, pen, hn, q⟩ := h
    have nd := scMany.nd
    refine ⟨_, pss_cons (ps_set (i := 1) nd rfl (Or.inl rfl) (pe_call T.ok hr (by rfl) T.g T.kp T.b .nil pass0 (pa_cons (pv 0) (pa_cons pe_int pa_nil))))
      (pss_one (ps_ret (pe_ix ix_list (pe_lst (pa_cons pe_int (pa_cons (pe_op op_add pe_int (pe_call T.ok hr (by rfl) T.g T.kp T.b .nil pass0 (pa_cons (pv 0) (pa_cons pe_int pa_nil))))
        (pa_cons (pe_op op_sub (pe_op op_pow pe_int pe_int) (pe_call T.ok hr (by rfl) T.g T.kp T.b .nil pass0 (pa_cons (pv 0) (pa_cons pe_int pa_nil))))
        (pa_cons (pe_op op_add pe_int (pe_call T.ok hr (by rfl) T.g T.kp T.b .nil pass0 (pa_cons (pv 0) (pa_cons (pe_op op_pow pe_int pe_int) pa_nil)))) pa_nil))))) (pv 1) (fun _ _ => rfl)))), ?_⟩
    refine ⟨_, rfl, p, c, n, 4, rfl, pen, by omega, by decide, by decide, fun r1 H1 a1 b1 pen1 bt1 => ?_⟩
    refine ⟨_, rfl, p, c, n + 1, 9, rfl, pen1, by omega, by decide, by decide, fun r2 H2 a2 b2 pen2 bt2 => ?_⟩
    refine ⟨1, r2, rfl, rfl, 10, 9, rfl, rfl, ⟨by decide, by decide, by decide⟩, _, rfl, p, c, n + 2, 3, rfl, pen2, by omega, by decide, by decide, fun r3 H3 a3 b3 pen3 bt3 => ?_⟩
    refine ⟨_, r3, rfl, rfl, _, rfl, 10, 9, rfl, rfl, ⟨by decide, by decide, by decide⟩, p, c, n + 3, 10 ^ (9 : Int).toNat, rfl, pen3, by omega, by decide, by decide, fun r4 H4 a4 b4 pen4 bt4 => ?_⟩
    have b4' : r4 < 1000000000 := b4
    refine ⟨1, r4, rfl, rfl, (by show 4 ≤ sizeLine; decide), fun l nl => ?_⟩
    have fin : ∀ r : Int, 1 ≤ r → r ≤ 1000000000 → Q (.int r) (upd H4 l (.lst [.int 1, .int (1 + r2), .int (10 ^ (9 : Int).toNat - r3), .int (1 + r4)])) := fun r h1 h2 => q r _ h1 h2 (pen4.same (same_new nl)) ((bt1.tr (bt2.tr (bt3.tr bt4))).tr (.of (same_new nl)))
    have w4 : r1 = 0 ∨ r1 = 1 ∨ r1 = 2 ∨ r1 = 3 := by omega
    rcases w4 with rfl | rfl | rfl | rfl
    · exact ⟨_, rfl, l, _, 0, _, rfl, rfl, SqL.of upd_same, atI_nat (j := 0) rfl, fin _ (by decide) (by decide)⟩
    · exact ⟨_, rfl, l, _, 1, _, rfl, rfl, SqL.of upd_same, atI_nat (j := 1) rfl, fin _ (by omega) (by omega)⟩
    · exact ⟨_, rfl, l, _, 2, _, rfl, rfl, SqL.of upd_same, atI_nat (j := 2) rfl, fin _ (by show (1 : Int) ≤ 1000000000 - r3; omega) (by show (1000000000 : Int) - r3 ≤ 1000000000; omega)⟩
    · exact ⟨_, rfl, l, _, 3, _, rfl, rfl, SqL.of upd_same, atI_nat (j := 3) rfl, fin _ (by omega) (by omega)⟩
abbrev entN : List Str := ["_law_pen_here", "_law_word", "_law_name", "_law_moment", "_law_places", "_law_goods", "_law_hands", "_law_at", "_law_one", "_law_good", "_law_other"]
theorem scEntryOf : FnScope entN ["_law_pen_here", "_law_word", "_law_name", "_law_moment", "_law_places", "_law_goods", "_law_hands"] (defScope sEntryOf) := ⟨rfl, rfl, rfl, by decide +kernel, rfl, by decide +kernel, by decide +kernel⟩
set_option maxHeartbeats 4000000 in
theorem ok_entryOf {f fT fM : Addr} {fd fdT fdM : FuncData} (F : Fun K "_law_entry_of" "_law_entry_of" sEntryOf f fd) (T : TakeT P w K mg base fT fdT) (M : DefT P w K mg base "_law_many" 2 fM fdM ["_law_pen_here"] spMany) (ml : mg "len" = none) :
    FnOk P w K mg base CX0 3 f fd ["_law_pen_here", "_law_word", "_law_name", "_law_moment", "_law_places", "_law_goods", "_law_hands"] spEntryOf := by
  refine F.ok scEntryOf (fun vs H Q E h => ?_) (fun cdv A outer s H vs Q E hr h => ?_)
  · obtain ⟨p, c, n, wd, nme, mo, a1, a2, a3, PL, GL, HL, rfl, _⟩ := h
    rfl
  · obtain ⟨p, c, n, wd, nme, mo, a1, a2, a3, PL, GL, HL, rfl, pen, hn, hw, h1, h2, h3, ne1, ne2, ne3, lp, lg, lh, q⟩ := h
    have nd := scEntryOf.nd
    have hr1 : Room 1 _ := hr.mono (by decide)
    refine ⟨_, pss_cons (ps_set (i := 7) nd rfl (Or.inl rfl) (pe_call T.ok hr1 (by rfl) T.g T.kp T.b .nil pass0 (pa_cons (pv 0) (pa_cons (pe_callB call_len_seq (by rfl) ml PySem.boot_len (pa_cons (pv 4) pa_nil)) pa_nil))))
      (pss_cons (ps_set (i := 8) nd rfl (Or.inl rfl) (pe_ix ix_list (pv 4) (pv 7) (fun _ _ => rfl)))
      (pss_cons (ps_set (i := 9) nd rfl (Or.inl rfl) (pe_ix ix_list (pv 5) (pe_call T.ok hr1 (by rfl) T.g T.kp T.b .nil pass0 (pa_cons (pv 0) (pa_cons (pe_callB call_len_seq (by rfl) ml PySem.boot_len (pa_cons (pv 5) pa_nil)) pa_nil))) (fun _ _ => rfl)))
      (pss_cons (ps_set (i := 10) nd rfl (Or.inl rfl) pe_str)
      (C8.pss_cut (ps_if (pt_cmpR op_gt (pe_callB call_len_seq (by rfl) ml PySem.boot_len (pa_cons (pv 4) pa_nil)) pe_int (nomark _))
        (pss_one (ps_set (i := 10) nd rfl (Or.inl rfl) (pe_ix ix_list (pv 4) (pe_op op_mod (pe_op op_add (pe_op op_add (pv 7) pe_int) (pe_call T.ok hr1 (by rfl) T.g T.kp T.b .nil pass0 (pa_cons (pv 0) (pa_cons (pe_op op_sub (pe_callB call_len_seq (by rfl) ml PySem.boot_len (pa_cons (pv 4) pa_nil)) pe_int) pa_nil)))) (pe_callB call_len_seq (by rfl) ml PySem.boot_len (pa_cons (pv 4) pa_nil))) (fun _ _ => rfl)))) pss_nil)
      (pss_cons (ps_if (pt_cmpR op_eq (pv 1) pe_str (nomark _)) (pss_one (ps_ret (pe_tup (pa_cons (pv 1) (pa_cons (pv 2) (pa_cons (pv 3) (pa_cons (pv 9) (pa_cons (pv 8) (pa_cons (pe_call M.ok hr (by rfl) M.g M.kp M.b .nil pass0 (pa_cons (pv 0) pa_nil)) (pa_cons (pe_op op_sub (pe_call M.ok hr (by rfl) M.g M.kp M.b .nil pass0 (pa_cons (pv 0) pa_nil)) (pe_call T.ok hr1 (by rfl) T.g T.kp T.b .nil pass0 (pa_cons (pv 0) (pa_cons pe_int pa_nil)))) pa_nil)))))))))) pss_nil)
      (pss_cons (ps_if (pt_cmpR op_eq (pv 1) pe_str (nomark _)) (pss_one (ps_ret (pe_tup (pa_cons (pv 1) (pa_cons (pv 2) (pa_cons (pv 3) (pa_cons (pv 9) (pa_cons (pv 8) (pa_cons (pe_call M.ok hr (by rfl) M.g M.kp M.b .nil pass0 (pa_cons (pv 0) pa_nil)) pa_nil))))))))) pss_nil)
      (C8.pss_cut (ps_if (PW.pt (pw_and (pt_cmpR op_eq (pv 1) pe_str (nomark _)) (pw_and1 (pt_cmpR op_ne (pv 10) pe_str (nomark _))))) (pss_one (ps_ret (pe_tup (pa_cons (pv 1) (pa_cons (pv 2) (pa_cons (pv 3) (pa_cons (pv 9) (pa_cons (pv 8) (pa_cons (pv 10) (pa_cons (pe_call M.ok hr (by rfl) M.g M.kp M.b .nil pass0 (pa_cons (pv 0) pa_nil)) pa_nil)))))))))) pss_nil)
      (pss_cons (ps_if (pt_cmpR op_eq (pv 1) pe_str (nomark _)) (pss_one (ps_ret (pe_tup (pa_cons (pv 1) (pa_cons (pv 2) (pa_cons (pv 3) (pa_cons (pv 9) (pa_cons (pv 8) (pa_cons (pe_ix ix_list (pe_lst (pa_cons (pv 10) (pa_cons (pv 10) (pa_cons pe_str pa_nil)))) (pe_call T.ok hr1 (by rfl) T.g T.kp T.b .nil pass0 (pa_cons (pv 0) (pa_cons pe_int pa_nil))) (fun _ _ => rfl)) pa_nil))))))))) pss_nil)
      (C8.pss_cut (ps_if (PW.pt (pw_and (pt_cmpR op_eq (pv 1) pe_str (nomark _)) (pw_and1 (pt_cmpR op_ne (pv 10) pe_str (nomark _))))) (pss_one (ps_ret (pe_tup (pa_cons (pv 1) (pa_cons (pv 2) (pa_cons (pv 3) (pa_cons (pv 8) (pa_cons (pv 10) pa_nil)))))))) pss_nil)
      (pss_cons (ps_if (pt_cmpR op_eq (pv 1) pe_str (nomark _)) (pss_one (ps_ret (pe_tup (pa_cons (pv 1) (pa_cons (pv 2) (pa_cons (pv 3) (pa_cons (pv 9) (pa_cons (pv 8) (pa_cons (pe_op op_sub (pe_call M.ok hr (by rfl) M.g M.kp M.b .nil pass0 (pa_cons (pv 0) pa_nil)) (pe_call T.ok hr1 (by rfl) T.g T.kp T.b .nil pass0 (pa_cons (pv 0) (pa_cons pe_int pa_nil)))) (pa_cons (pe_ix ix_list (pv 6) (pe_call T.ok hr1 (by rfl) T.g T.kp T.b .nil pass0 (pa_cons (pv 0) (pa_cons (pe_callB call_len_seq (by rfl) ml PySem.boot_len (pa_cons (pv 6) pa_nil)) pa_nil))) (fun _ _ => rfl)) pa_nil)))))))))) pss_nil)
      (pss_one (ps_ret (pe_tup (pa_cons pe_str (pa_cons (pv 2) (pa_cons (pv 3) (pa_cons (pv 9) (pa_cons (pv 8) pa_nil)))))))))))))))))), ?_⟩
    have p1 : 0 < PL.length := List.length_pos_iff.mpr ne1
    have g1 : 0 < GL.length := List.length_pos_iff.mpr ne2
    have k1 : 0 < HL.length := List.length_pos_iff.mpr ne3
    have lmap : ∀ ys : List Str, ((ys.map V.str).length : Int) = (ys.length : Int) := fun ys => by rw [List.length_map]
    -- at, one
    refine ⟨_, rfl, _, rfl, a1, _, rfl, .inl (SqL.of h1), p, c, n, _, rfl, pen, by omega, by rw [lmap]; omega, by rw [lmap]; omega, fun r1 H1 b1 d1 pen1 bt1 => ?_⟩
    rw [lmap] at d1
    have h11 := pen_strs pen bt1 h1
    have h12 := pen_strs pen bt1 h2
    have h13 := pen_strs pen bt1 h3
    obtain ⟨one, ho, ho2, ho3⟩ := at_strs b1 d1
    refine ⟨_, rfl, _, rfl, a1, _, r1, _, rfl, rfl, SqL.of h11, ho, ?_⟩
    refine ⟨_, rfl, _, rfl, _, rfl, a2, _, rfl, .inl (SqL.of h12), p, c, n + 1, _, rfl, pen1, by omega, by rw [lmap]; omega, by rw [lmap]; omega, fun r2 H2 b2 d2 pen2 bt2 => ?_⟩
    rw [lmap] at d2
    have h21 := pen_strs pen1 bt2 h11
    have h22 := pen_strs pen1 bt2 h12
    have h23 := pen_strs pen1 bt2 h13
    obtain ⟨good, hg, _, hg3⟩ := at_strs b2 d2
    have bt02 := bt1.tr bt2
    refine ⟨a2, _, r2, _, rfl, rfl, SqL.of h22, hg, ?_⟩
    refine ⟨fun σ' H' => ∃ other : Str, σ' = [some (.ref p), some (.str wd), some (.str nme), some (.int mo), some (.ref a1), some (.ref a2), some (.ref a3), some (.int r1), some (.str one), some (.str good), some (.str other)] ∧ (other = "" ∨ (other ∈ PL ∧ (PL.Nodup → one ≠ other))) ∧
      PenAt H' p c (n + 3) ∧ But p H H' ∧ StrsAt H' a1 PL ∧ StrsAt H' a2 GL ∧ StrsAt H' a3 HL, ?_, ?_⟩
    · refine ⟨_, rfl, a1, _, rfl, .inl (SqL.of h21), _, 1, rfl, rfl, _, rfl, ite2 (fun e => ?_) (fun e => ⟨"", rfl, .inl rfl, pen2.mono (by omega), bt02, h21, h22, h23⟩)⟩
      have e' : 1 < ((PL.map V.str).length : Int) := of_decide_eq_true e
      rw [lmap] at e'
      refine ⟨_, rfl, _, rfl, r1, 1, rfl, rfl, _, rfl, _, rfl, a1, _, rfl, .inl (SqL.of h21), _, 1, rfl, rfl, p, c, n + 2, _, rfl, pen2, by omega, by rw [lmap]; omega, by rw [lmap]; omega, fun r3 H3 b3 d3 pen3 bt3 => ?_⟩
      rw [lmap] at d3
      have h31 := pen_strs pen2 bt3 h21
      have h32 := pen_strs pen2 bt3 h22
      have h33 := pen_strs pen2 bt3 h23
      have x1 : 0 ≤ (r1 + 1 + r3) % (PL.length : Int) := Int.emod_nonneg _ (by omega)
      have x2 : (r1 + 1 + r3) % (PL.length : Int) < (PL.length : Int) := Int.emod_lt_of_pos _ (by omega)
      obtain ⟨other, hp, hp2, hp3⟩ := at_strs x1 x2
      refine ⟨r1 + 1, r3, rfl, rfl, _, rfl, a1, _, rfl, .inl (SqL.of h31), _, (PL.length : Int), rfl, by rw [lmap], (by show (0 : Int) < PL.length; omega), a1, _, _, .str other, rfl, rfl, SqL.of h31, hp, other, rfl, .inr ⟨hp3, fun nod z => ?_⟩, pen3, bt02.tr bt3, h31, h32, h33⟩
      subst z
      have := (List.getElem?_inj (show r1.toNat < PL.length by omega) nod).mp (ho2.trans hp2.symm)
      have x3 : (r1 + 1 + r3) % (PL.length : Int) = r1 + 1 + r3 ∨ (r1 + 1 + r3) % (PL.length : Int) = r1 + 1 + r3 - PL.length := by
        by_cases h : r1 + 1 + r3 < PL.length
        · exact .inl (Int.emod_eq_of_lt (by omega) h)
        · right
          rw [← Int.sub_emod_right]
          exact Int.emod_eq_of_lt (by omega) (by omega)
      omega
    · rintro σ' H3 ⟨other, rfl, oth, pen3, bt3, h31, h32, h33⟩
      have fin : ∀ (tp : Addr) (e : Ent) (H4 : Hp) (k : Nat), H4 tp = none → But p H3 H4 → PenAt H4 p c (n + 3 + k) → k ≤ 17 → e.name = nme → e.moment = mo → e.From PL GL HL → Q (.ref tp) (upd H4 tp (.tup e.vals)) := fun tp e H4 k ntp bt4 pen4 hk e1 e2 e3 =>
        q tp e _ ((bt3.tr bt4).free ntp pen4.there) upd_same e1 e2 e3 ((pen4.mono (by omega)).same (same_new ntp)) ((bt3.tr bt4).tr (.of (same_new ntp)))
      refine ⟨_, rfl, rfl, _, rfl, ite2 (fun e => ?_) (fun e1 => ?_)⟩
      · have e' : wd = "come" := V.str.inj (of_decide_eq_true e)
        subst e'
        refine ⟨_, rfl, _, rfl, _, rfl, _, rfl, _, rfl, _, rfl, p, c, n + 3, rfl, pen3, by omega, fun m1 H4 c1 d1 pen4 bt4 => ?_⟩
        refine ⟨_, rfl, p, c, _, rfl, pen4, by omega, fun m2 H5 c2 d2 pen5 bt5 => ?_⟩
        refine ⟨_, rfl, p, c, _, 2, rfl, pen5, by omega, by decide, by decide, fun r6 H6 c6 d6 pen6 bt6 => ?_⟩
        refine ⟨m2, r6, rfl, rfl, (by show 7 ≤ sizeLine; decide), fun tp ntp => ?_⟩
        exact fin tp (.come nme mo good one m1 (m2 - r6)) H6 9 ntp (bt4.tr (bt5.tr bt6)) pen6 (by decide) rfl rfl ⟨hg3, ho3, c1, d1, by omega, by omega⟩
      refine ⟨_, rfl, rfl, _, rfl, ite2 (fun e => ?_) (fun e2 => ?_)⟩
      · have e' : wd = "go" := V.str.inj (of_decide_eq_true e)
        subst e'
        refine ⟨_, rfl, _, rfl, _, rfl, _, rfl, _, rfl, _, rfl, p, c, n + 3, rfl, pen3, by omega, fun m1 H4 c1 d1 pen4 bt4 => ?_⟩
        refine ⟨(by show 6 ≤ sizeLine; decide), fun tp ntp => ?_⟩
        exact fin tp (.go nme mo good one m1) H4 4 ntp bt4 pen4 (by decide) rfl rfl ⟨hg3, ho3, c1, d1⟩
      have mv : ∀ (A B : Prop), (other ≠ "" → A) → B → (if (!decide (V.str other = V.str "")) = true then A else B) := fun A B hA hB => by
        by_cases z : other = ""
        · subst z
          rw [decide_eq_true rfl]
          exact iteF hB
        · rw [decide_eq_false fun h => z (V.str.inj h)]
          exact iteT (hA z)
      have oin : other ≠ "" → other ∈ PL ∧ (PL.Nodup → one ≠ other) := fun z => oth.resolve_left z
      refine ⟨fun σ' H' => σ' = [some (.ref p), some (.str wd), some (.str nme), some (.int mo), some (.ref a1), some (.ref a2), some (.ref a3), some (.int r1), some (.str one), some (.str good), some (.str other)] ∧ H' = H3, ?_, ?_⟩
      · refine ⟨_, rfl, rfl, _, rfl, ite2 (fun e => ?_) (fun _ => iteF ⟨rfl, rfl⟩)⟩
        have e' : wd = "move" := V.str.inj (of_decide_eq_true e)
        subst e'
        refine ⟨_, rfl, rfl, _, rfl, mv _ _ (fun z => ?_) ⟨rfl, rfl⟩⟩
        refine ⟨_, rfl, _, rfl, _, rfl, _, rfl, _, rfl, _, rfl, _, rfl, p, c, n + 3, rfl, pen3, by omega, fun m1 H4 c1 d1 pen4 bt4 => ?_⟩
        refine ⟨(by show 7 ≤ sizeLine; decide), fun tp ntp => ?_⟩
        exact fin tp (.move nme mo good one other m1) H4 4 ntp bt4 pen4 (by decide) rfl rfl ⟨hg3, ho3, (oin z).1, (oin z).2, c1, d1⟩
      rintro σ' H' ⟨rfl, rfl⟩
      refine ⟨_, rfl, rfl, _, rfl, ite2 (fun e => ?_) (fun e3 => ?_)⟩
      · have e' : wd = "some" := V.str.inj (of_decide_eq_true e)
        subst e'
        refine ⟨_, rfl, _, rfl, _, rfl, _, rfl, _, rfl, _, rfl, _, rfl, (by show 3 ≤ sizeLine; decide), fun l nl => ?_⟩
        have sl := @same_new _ _ (.lst [V.str other, .str other, .str ""]) nl
        have nlp : l ≠ p := fun z => pen3.there (z ▸ nl)
        refine ⟨_, rfl, p, c, n + 3, 3, rfl, pen3.same sl, by omega, by decide, by decide, fun r4 H4 c4 d4 pen4 bt4 => ?_⟩
        have hl := bt4 l _ upd_same nlp
        obtain ⟨to, ht, hto⟩ : ∃ to : Str, atI [V.str other, .str other, .str ""] r4 = some (.str to) ∧ (to = "" ∨ (to ∈ PL ∧ (PL.Nodup → one ≠ to))) := by
          have w3 : r4 = 0 ∨ r4 = 1 ∨ r4 = 2 := by omega
          rcases w3 with rfl | rfl | rfl
          · exact ⟨other, atI_nat (j := 0) rfl, oth⟩
          · exact ⟨other, atI_nat (j := 1) rfl, oth⟩
          · exact ⟨"", atI_nat (j := 2) rfl, .inl rfl⟩
        refine ⟨l, _, r4, _, rfl, rfl, SqL.of hl, ht, (by show 6 ≤ sizeLine; decide), fun tp ntp => ?_⟩
        exact fin tp (.some_ nme mo good one to) H4 1 ntp ((But.of sl).tr bt4) pen4 (by decide) rfl rfl ⟨hg3, ho3, hto⟩
      refine ⟨fun σ' H1 => σ' = [some (.ref p), some (.str wd), some (.str nme), some (.int mo), some (.ref a1), some (.ref a2), some (.ref a3), some (.int r1), some (.str one), some (.str good), some (.str other)] ∧ H1 = H', ?_, ?_⟩
      · refine ⟨_, rfl, rfl, _, rfl, ite2 (fun e => ?_) (fun _ => iteF ⟨rfl, rfl⟩)⟩
        have e' : wd = "swap" := V.str.inj (of_decide_eq_true e)
        subst e'
        refine ⟨_, rfl, rfl, _, rfl, mv _ _ (fun z => ?_) ⟨rfl, rfl⟩⟩
        refine ⟨_, rfl, _, rfl, _, rfl, _, rfl, _, rfl, (by show 5 ≤ sizeLine; decide), fun tp ntp => ?_⟩
        exact fin tp (.swap nme mo one other) H' 0 ntp (.refl _ _) pen3 (by decide) rfl rfl ⟨ho3, (oin z).1, (oin z).2⟩
      rintro σ' H2 ⟨rfl, rfl⟩
      refine ⟨_, rfl, rfl, _, rfl, ite2 (fun e => ?_) (fun e5 => ?_)⟩
      · have e' : wd = "count" := V.str.inj (of_decide_eq_true e)
        subst e'
        refine ⟨_, rfl, _, rfl, _, rfl, _, rfl, _, rfl, _, rfl, p, c, n + 3, rfl, pen3, by omega, fun m1 H4 c1 d1 pen4 bt4 => ?_⟩
        refine ⟨_, rfl, p, c, _, 2, rfl, pen4, by omega, by decide, by decide, fun r5 H5 c5 d5 pen5 bt5 => ?_⟩
        have h43 := pen_strs pen4 bt5 (pen_strs pen3 bt4 h33)
        refine ⟨m1, r5, rfl, rfl, _, rfl, _, rfl, _, rfl, a3, _, rfl, .inl (SqL.of h43), p, c, _, _, rfl, pen5, by omega, by rw [lmap]; omega, by rw [lmap]; omega, fun r6 H6 c6 d6 pen6 bt6 => ?_⟩
        rw [lmap] at d6
        obtain ⟨hand, hh, _, hh3⟩ := at_strs c6 d6
        refine ⟨a3, _, r6, _, rfl, rfl, SqL.of (pen_strs pen5 bt6 h43), hh, (by show 7 ≤ sizeLine; decide), fun tp ntp => ?_⟩
        exact fin tp (.count nme mo good one (m1 - r5) hand) H6 6 ntp (bt4.tr (bt5.tr bt6)) pen6 (by decide) rfl rfl ⟨hg3, ho3, by omega, by omega, hh3⟩
      refine ⟨_, rfl, _, rfl, _, rfl, _, rfl, (by show 5 ≤ sizeLine; decide), fun tp ntp => ?_⟩
      exact fin tp (.look nme mo good one) H2 0 ntp (.refl _ _) pen3 (by decide) rfl rfl ⟨hg3, ho3⟩
abbrev entryN : List Str := ["_law_pen_here", "_law_name", "_law_moment", "_law_places", "_law_goods", "_law_hands", "_law_words_here"]
theorem scEntry : FnScope entryN ["_law_pen_here", "_law_name", "_law_moment", "_law_places", "_law_goods", "_law_hands"] (defScope sEntry) := ⟨rfl, rfl, rfl, by decide +kernel, rfl, by decide +kernel, by decide +kernel⟩
theorem ok_entry {f fT fE : Addr} {fd fdT fdE : FuncData} (F : Fun K "_law_entry" "_law_entry" sEntry f fd) (T : TakeT P w K mg base fT fdT)
    (EO : DefT P w K mg base "_law_entry_of" 3 fE fdE ["_law_pen_here", "_law_word", "_law_name", "_law_moment", "_law_places", "_law_goods", "_law_hands"] spEntryOf) :
    FnOk P w K mg base CX0 4 f fd ["_law_pen_here", "_law_name", "_law_moment", "_law_places", "_law_goods", "_law_hands"] spEntry := by
  refine F.ok scEntry (fun vs H Q E h => ?_) (fun cdv A outer s H vs Q E hr h => ?_)
  · obtain ⟨p, c, n, nme, mo, a1, a2, a3, PL, GL, HL, rfl, _⟩ := h
    rfl
  · obtain ⟨p, c, n, nme, mo, a1, a2, a3, PL, GL, HL, rfl, pen, hn, h1, h2, h3, ne1, ne2, ne3, lp, lg, lh, q⟩ := h
    have nd := scEntry.nd
    have hr1 : Room 1 _ := hr.mono (by decide)
    refine ⟨_, pss_cons (ps_set (i := 6) nd rfl (Or.inl rfl) (pe_lst (pa_cons pe_str (pa_cons pe_str (pa_cons pe_str (pa_cons pe_str (pa_cons pe_str (pa_cons pe_str (pa_cons pe_str (pa_cons pe_str (pa_cons pe_str (pa_cons pe_str pa_nil))))))))))))
      (pss_one (ps_ret (pe_call EO.ok hr (by rfl) EO.g EO.kp EO.b .nil pass0 (pa_cons (pv 0) (pa_cons (pe_ix ix_list (pv 6) (pe_call T.ok hr1 (by rfl) T.g T.kp T.b .nil pass0 (pa_cons (pv 0) (pa_cons pe_int pa_nil))) (fun _ _ => rfl)) (pa_cons (pv 1) (pa_cons (pv 2) (pa_cons (pv 3) (pa_cons (pv 4) (pa_cons (pv 5) pa_nil)))))))))), ?_⟩
    refine ⟨(by show 10 ≤ sizeLine; decide), fun l nl => ?_⟩
    have sl := @same_new _ _ (.lst (words10.map V.str)) nl
    have nlp : l ≠ p := fun z => pen.there (z ▸ nl)
    have pen' := pen.same sl
    refine ⟨_, rfl, _, rfl, _, rfl, p, c, n, 10, rfl, pen', by omega, by decide, by decide, fun r1 H1 b1 d1 pen1 bt1 => ?_⟩
    obtain ⟨wd, hw, _, hw3⟩ := at_strs (ys := words10) b1 d1
    have hl : StrsAt H1 l words10 := bt1 l _ upd_same nlp
    have w7 : wd ∈ words7 := by
      simp only [List.mem_cons, List.not_mem_nil, or_false] at hw3
      rcases hw3 with rfl | rfl | rfl | rfl | rfl | rfl | rfl | rfl | rfl | rfl <;> simp [words7]
    refine ⟨l, _, r1, _, rfl, rfl, SqL.of hl, hw, _, rfl, _, rfl, _, rfl, _, rfl, _, rfl, p, c, n + 1, wd, nme, mo, a1, a2, a3, PL, GL, HL, rfl, pen1, by omega, w7, pen_strs pen' bt1 (sl _ _ h1), pen_strs pen' bt1 (sl _ _ h2), pen_strs pen' bt1 (sl _ _ h3), ne1, ne2, ne3, lp, lg, lh, fun tp e H2 ntp ht en em ef pen2 bt2 => ?_⟩
    exact q tp e H2 (sl.free ((bt1.free ntp pen1.there))) ht en em ef (pen2.mono (by omega)) ((But.of sl).tr (bt1.tr bt2))
end
/-! ### words and moments -/
def NmL (ys : List Str) (m : Nat) : Prop := ∃ way t B sp, NmOk way t B sp ∧ ys = (List.range m).map (nmStr way t B sp)
theorem nmAt_strs {H : Hp} {l : Addr} {m : Nat} (h : NmAt H l m) : ∃ ys, StrsAt H l ys ∧ NmL ys m := by
  obtain ⟨way, t, B, sp, ok, e⟩ := h
  refine ⟨(List.range m).map (nmStr way t B sp), ?_, way, t, B, sp, ok, rfl⟩
  show H l = _
  rw [e, List.map_map]
  rfl
theorem NmL.len {ys : List Str} {m : Nat} (h : NmL ys m) : ys.length = m := by
  obtain ⟨way, t, B, sp, ok, rfl⟩ := h
  simp
theorem NmL.take {ys : List Str} {m k : Nat} (h : NmL ys m) (hk : k ≤ m) : NmL (ys.take k) k := by
  obtain ⟨way, t, B, sp, ok, rfl⟩ := h
  refine ⟨way, t, B, sp, ok, ?_⟩
  rw [← List.map_take, List.take_range, Nat.min_eq_left hk]
theorem cut_take {xs : List V} {k : Nat} : cutV xs none (some (k : Int)) = xs.take k := by
  unfold cutV
  rw [HT.sIx_none, HT.sIx_nat]
  show (xs.drop 0).take (min k xs.length - 0) = xs.take k
  rw [List.drop_zero, Nat.sub_zero]
  by_cases h : k ≤ xs.length
  · rw [Nat.min_eq_left h]
  · rw [Nat.min_eq_right (by omega), List.take_length, List.take_of_length_le (by omega)]
def spWords : Sp := fun vs H Q _ => ∃ (p c : Addr) (n : Nat) (a b e : Nat), vs = [.ref p, .int a, .int b, .int e] ∧ PenAt H p c n ∧ n ≤ 40000 ∧ a ≤ 31 ∧ b ≤ 31 ∧ e ≤ 31 ∧
  ∀ (tp l1 l2 l3 l4 : Addr) (PL GL HL EL : List Str) (H' : Hp), H tp = none → H' tp = some (.tup [.ref l1, .ref l2, .ref l3, .ref l4]) → StrsAt H' l1 PL → StrsAt H' l2 GL → StrsAt H' l3 HL → StrsAt H' l4 EL →
    NmL PL a → NmL GL b → NmL HL 3 → NmL EL e → PenAt H' p c (n + 50) → But p H H' → Q (.ref tp) H'
def spMoments : Sp := fun vs H Q _ => ∃ (p c : Addr) (n : Nat) (m : Nat), vs = [.ref p, .int m] ∧ PenAt H p c n ∧ n ≤ 60000 ∧ m ≤ 31 ∧
  ∀ (l : Addr) (ns : List Int) (H' : Hp), H l = none → H' l = some (.lst (ns.map V.int)) → ns.length = m → (∀ x ∈ ns, 0 ≤ x ∧ x ≤ 9999) → PenAt H' p c (n + 100) → But p H H' → Q (.ref l) H'
section
variable {P : Program} {w : World} {K : PySem.W.Frag} {mg : Str → Option Value} {base : Heap}
abbrev wordsN : List Str := ["_law_pen_here", "_law_places", "_law_goods", "_law_entries", "_law_some", "_law_hands"]
theorem scWords : FnScope wordsN ["_law_pen_here", "_law_places", "_law_goods", "_law_entries"] (defScope sWords) := ⟨rfl, rfl, rfl, by decide +kernel, rfl, by decide +kernel, by decide +kernel⟩
theorem ok_words {f fT fN : Addr} {fd fdT fdN : FuncData} (F : Fun K "_law_words" "_law_words" sWords f fd) (T : TakeT P w K mg base fT fdT) (N : DefT P w K mg base "_law_names" 2 fN fdN ["_law_pen_here", "_law_many_here"] spNames) :
    FnOk P w K mg base CX0 3 f fd ["_law_pen_here", "_law_places", "_law_goods", "_law_entries"] spWords := by
  refine F.ok scWords (fun vs H Q E h => ?_) (fun cdv A outer s H vs Q E hr h => ?_)
  · obtain ⟨p, c, n, a, b, e, rfl, _⟩ := h
    rfl
  · obtain ⟨p, c, n, a, b, e, rfl, pen, hn, ha, hb, he, q⟩ := h
    have nd := scWords.nd
    have hr1 : Room 1 _ := hr.mono (by decide)
    refine ⟨_, pss_cons (ps_if (pt_cmpR op_eq (pe_call T.ok hr1 (by rfl) T.g T.kp T.b .nil pass0 (pa_cons (pv 0) (pa_cons pe_int pa_nil))) pe_int (nomark _))
        (pss_cons (ps_set (i := 4) nd rfl (Or.inl rfl) (pe_call N.ok hr (by rfl) N.g N.kp N.b .nil pass0 (pa_cons (pv 0) (pa_cons pe_int pa_nil))))
        (pss_one (ps_ret (pe_tup (pa_cons (pe_slice sl_list (pv 4) po_none (po_some (pv 1))) (pa_cons (pe_slice sl_list (pv 4) po_none (po_some (pv 2))) (pa_cons (pe_slice sl_list (pv 4) po_none (po_some pe_int)) (pa_cons (pe_slice sl_list (pv 4) po_none (po_some (pv 3))) pa_nil)))))))) pss_nil)
      (pss_cons (ps_set (i := 5) nd rfl (Or.inl rfl) (pe_call N.ok hr (by rfl) N.g N.kp N.b .nil pass0 (pa_cons (pv 0) (pa_cons pe_int pa_nil))))
      (pss_one (ps_ret (pe_tup (pa_cons (pe_call N.ok hr (by rfl) N.g N.kp N.b .nil pass0 (pa_cons (pv 0) (pa_cons (pv 1) pa_nil))) (pa_cons (pe_call N.ok hr (by rfl) N.g N.kp N.b .nil pass0 (pa_cons (pv 0) (pa_cons (pv 2) pa_nil))) (pa_cons (pv 5) (pa_cons (pe_call N.ok hr (by rfl) N.g N.kp N.b .nil pass0 (pa_cons (pv 0) (pa_cons (pv 3) pa_nil))) pa_nil)))))))), ?_⟩
    refine ⟨_, rfl, p, c, n, 4, rfl, pen, by omega, by decide, by decide, fun r1 H1 b1 d1 pen1 bt1 => ⟨rfl, _, rfl, ite2 (fun _ => ?_) (fun _ => ?_)⟩⟩
    · refine ⟨_, rfl, p, c, n + 1, 31, rfl, pen1, by omega, by decide, by decide, fun l H2 nl hl pen2 bt2 => ?_⟩
      obtain ⟨ys, hy, ny⟩ := nmAt_strs hl
      have tk : ∀ k : Nat, cutV (ys.map V.str) none (some (k : Int)) = (ys.take k).map V.str := fun k => by rw [cut_take, List.map_take]
      refine ⟨_, rfl, _, rfl, (a : Int), rfl, l, _, rfl, SqL.of hy, fun l1 n1 => ?_⟩
      have s1 := @same_new _ _ (.lst (cutV (ys.map V.str) none (some (a : Int)))) n1
      refine ⟨_, rfl, _, rfl, (b : Int), rfl, l, _, rfl, SqL.of (s1 _ _ hy), fun l2 n2 => ?_⟩
      have s2 := @same_new _ _ (.lst (cutV (ys.map V.str) none (some (b : Int)))) n2
      refine ⟨_, rfl, 3, rfl, l, _, rfl, SqL.of (s2 _ _ (s1 _ _ hy)), fun l3 n3 => ?_⟩
      have s3 := @same_new _ _ (.lst (cutV (ys.map V.str) none (some (3 : Int)))) n3
      refine ⟨_, rfl, _, rfl, (e : Int), rfl, l, _, rfl, SqL.of (s3 _ _ (s2 _ _ (s1 _ _ hy))), fun l4 n4 => ?_⟩
      have s4 := @same_new _ _ (.lst (cutV (ys.map V.str) none (some (e : Int)))) n4
      refine ⟨(by show 4 ≤ sizeLine; decide), fun tp ntp => ?_⟩
      have s5 := @same_new _ _ (.tup [V.ref l1, .ref l2, .ref l3, .ref l4]) ntp
      have u4 := s4.trans s5
      have u3 := s3.trans u4
      have u2 := s2.trans u3
      have u1 := s1.trans u2
      have bt := (bt1.tr bt2).tr (.of u1)
      have f0 : H tp = none := (bt1.tr bt2).free (s1.free (s2.free (s3.free (s4.free ntp)))) pen2.there
      refine q tp l1 l2 l3 l4 (ys.take a) (ys.take b) (ys.take 3) (ys.take e) _ f0 upd_same ?_ ?_ ?_ ?_ (ny.take ha) (ny.take hb) (ny.take (by decide)) (ny.take he) ((pen2.mono (by omega)).same u1) bt
      · exact u2 _ _ (by rw [upd_same, tk])
      · exact u3 _ _ (by rw [upd_same, tk])
      · exact u4 _ _ (by rw [upd_same]; exact congrArg (fun z => some (HO.lst z)) (tk 3))
      · exact s5 _ _ (by rw [upd_same, tk])
    · refine ⟨_, rfl, p, c, n + 1, 3, rfl, pen1, by omega, by decide, by decide, fun l3 H2 nl3 hl3 pen2 bt2 => ?_⟩
      obtain ⟨ys3, hy3, ny3⟩ := nmAt_strs hl3
      refine ⟨_, rfl, _, rfl, p, c, n + 11, (a : Int), rfl, pen2, by omega, by omega, by omega, fun l1 H3 nl1 hl1 pen3 bt3 => ?_⟩
      obtain ⟨ys1, hy1, ny1⟩ := nmAt_strs hl1
      refine ⟨_, rfl, _, rfl, p, c, n + 21, (b : Int), rfl, pen3, by omega, by omega, by omega, fun l2 H4 nl2 hl2 pen4 bt4 => ?_⟩
      obtain ⟨ys2, hy2, ny2⟩ := nmAt_strs hl2
      refine ⟨_, rfl, _, rfl, _, rfl, p, c, n + 31, (e : Int), rfl, pen4, by omega, by omega, by omega, fun l4 H5 nl4 hl4 pen5 bt5 => ?_⟩
      obtain ⟨ys4, hy4, ny4⟩ := nmAt_strs hl4
      refine ⟨(by show 4 ≤ sizeLine; decide), fun tp ntp => ?_⟩
      have s5 := @same_new _ _ (.tup [V.ref l1, .ref l2, .ref l3, .ref l4]) ntp
      have bt := bt1.tr (bt2.tr (bt3.tr (bt4.tr bt5)))
      exact q tp l1 l2 l3 l4 ys1 ys2 ys3 ys4 _ (bt.free ntp pen5.there) upd_same (s5 _ _ (pen_strs pen4 bt5 (pen_strs pen3 bt4 hy1))) (s5 _ _ (pen_strs pen4 bt5 hy2)) (s5 _ _ (pen_strs pen4 bt5 (pen_strs pen3 bt4 (pen_strs pen2 bt3 hy3)))) (s5 _ _ hy4)
        (by rw [Int.toNat_natCast] at ny1; exact ny1) (by rw [Int.toNat_natCast] at ny2; exact ny2) ny3 (by rw [Int.toNat_natCast] at ny4; exact ny4) ((pen5.mono (by omega)).same s5) (bt.tr (.of s5))
abbrev momN : List Str := ["_law_pen_here", "_law_many_here", "_law_way", "_law_some", "_law_k", "_law_few", "_law_found"]
theorem scMom : FnScope momN ["_law_pen_here", "_law_many_here"] (defScope sMoments) := ⟨rfl, rfl, rfl, by decide +kernel, rfl, by decide +kernel, by decide +kernel⟩
theorem at_ints {ns : List Int} {r : Int} (h0 : 0 ≤ r) (h1 : r < (ns.length : Int)) : ∃ y, atI (ns.map V.int) r = some (.int y) ∧ y ∈ ns := by
  have h : r.toNat < ns.length := by omega
  have e : ((r.toNat : Nat) : Int) = r := by omega
  have q := atI_nat (xs := ns.map V.int) (j := r.toNat) (v := .int ns[r.toNat]) (by rw [List.getElem?_map, List.getElem?_eq_getElem h]; rfl)
  rw [e] at q
  exact ⟨_, q, List.getElem_mem h⟩
set_option maxHeartbeats 4000000 in
theorem ok_moments {f fT : Addr} {fd fdT : FuncData} (F : Fun K "_law_moments" "_law_moments" sMoments f fd) (T : TakeT P w K mg base fT fdT) (ml : mg "len" = none) (mr : mg "range" = none) (mi : mg "int" = none) :
    FnOk P w K mg base CX0 2 f fd ["_law_pen_here", "_law_many_here"] spMoments := by
  refine F.ok scMom (fun vs H Q E h => ?_) (fun cdv A outer s H vs Q E hr h => ?_)
  · obtain ⟨p, c, n, m, rfl, _⟩ := h
    rfl
  · obtain ⟨p, c, n, m, rfl, pen, hn, hm, q⟩ := h
    have nd := scMom.nd
    refine ⟨_, pss_cons (ps_set (i := 2) nd rfl (Or.inl rfl) (pe_call T.ok hr (by rfl) T.g T.kp T.b .nil pass0 (pa_cons (pv 0) (pa_cons pe_int pa_nil))))
      (pss_cons (ps_set (i := 3) nd rfl (Or.inr rfl) (pe_lst (pa_cons pe_int (pa_cons pe_int (pa_cons pe_int (pa_cons pe_int (pa_cons (pe_call T.ok hr (by rfl) T.g T.kp T.b .nil pass0 (pa_cons (pv 0) (pa_cons pe_int pa_nil))) (pa_cons (pe_call T.ok hr (by rfl) T.g T.kp T.b .nil pass0 (pa_cons (pv 0) (pa_cons pe_int pa_nil))) pa_nil))))))))
      (pss_cons (ps_setLc (i := 5) (own := [("_law_k", 4)]) (g := gName 4) (tt := tYes) (te := tOp (rIxL K) (tVar 3) (tCall spTake [] E0 (tCons (tVar 0) (tCons (tC (V.int 6)) tNil)))) rfl nd rfl rfl (sw_true rfl rfl rfl (by decide +kernel))
          (pi_range1 rfl mr (pa_cons (pe_op op_add pe_int (pe_call T.ok hr (by rfl) T.g T.kp T.b .nil pass0 (pa_cons (pv 0) (pa_cons pe_int pa_nil)))) pa_nil))
          (blkOk_by (N := momN) (sc := defScope sMoments) (by decide +kernel))
          (fun _ _ _ _ _ => pg_name (i := 4) nd rfl (Or.inl rfl)) (fun _ _ _ _ _ => pts_nil)
          (fun _ _ _ _ _ => pe_ix ix_list (pv 3) (pe_call T.ok hr (by rfl) T.g T.kp T.b .nil pass0 (pa_cons (pv 0) (pa_cons pe_int pa_nil))) (fun _ _ => rfl)))
      (pss_cons (ps_set (i := 6) nd rfl (Or.inl rfl) (pe_lst pa_nil))
      (pss_cons (ps_for PassesOwn.never rfl (pi_range1 rfl mr (pa_cons (pv 1) pa_nil)) (pg_name (i := 4) nd rfl (Or.inl rfl))
        (pss_one (ps_expr (pe_bm PySem.F.plainAttrs_list PySem.F.slot_list_append PySem.F.type_list_append mt_append (pv 6) (pa_cons (pe_ix ix_list
          (pe_lst (pa_cons (pe_ix ix_list (pv 5) (pe_call T.ok hr (by rfl) T.g T.kp T.b .nil pass0 (pa_cons (pv 0) (pa_cons (pe_callB call_len_seq (by rfl) ml PySem.boot_len (pa_cons (pv 5) pa_nil)) pa_nil))) (fun _ _ => rfl)) (pa_cons (pe_call T.ok hr (by rfl) T.g T.kp T.b .nil pass0 (pa_cons (pv 0) (pa_cons pe_int pa_nil))) pa_nil)))
          (pe_callTy call_int1 (by rfl) mi (by decide +kernel) (pa_cons (pe_cmpR op_eq (pv 2) pe_int (nomark _)) pa_nil)) (fun _ _ => rfl)) pa_nil)))))
      (pss_one (ps_ret (pv 6))))))), ?_⟩
    refine ⟨_, rfl, p, c, n, 4, rfl, pen, by omega, by decide, by decide, fun r1 H1 b1 d1 pen1 bt1 => ?_⟩
    refine ⟨_, rfl, p, c, n + 1, 10000, rfl, pen1, by omega, by decide, by decide, fun r2 H2 b2 d2 pen2 bt2 => ?_⟩
    refine ⟨_, rfl, p, c, n + 2, 10000, rfl, pen2, by omega, by decide, by decide, fun r3 H3 b3 d3 pen3 bt3 => ?_⟩
    refine ⟨(by show 6 ≤ sizeLine; decide), fun S nS => ?_⟩
    have sS := @same_new _ _ (.lst (([0, 99, 100, 9999, r2, r3] : List Int).map V.int)) nS
    have penS := pen3.same sS
    have nSp : S ≠ p := fun z => pen3.there (z ▸ nS)
    have btS : But p H (upd H3 S (.lst (([0, 99, 100, 9999, r2, r3] : List Int).map V.int))) := (bt1.tr (bt2.tr bt3)).tr (.of sS)
    have hS : (upd H3 S (.lst (([0, 99, 100, 9999, r2, r3] : List Int).map V.int))) S = some (.lst (([0, 99, 100, 9999, r2, r3] : List Int).map V.int)) := upd_same
    refine ⟨_, rfl, p, c, n + 3, 4, rfl, penS, by omega, by decide, by decide, fun r4 H4 b4 d4 pen4 bt4 => ?_⟩
    have hS4 := bt4 S _ hS nSp
    refine ⟨1, r4, rfl, rfl, 1 + r4, rfl, by omega, by omega, fun D nD => ?_⟩
    have nDp : D ≠ p := fun z => pen4.there (z ▸ nD)
    have nDc : D ≠ c := fun z => pen4.cells (z ▸ nD)
    have nSD : S ≠ D := ne_of_none hS4 nD
    have hDn : H D = none := (btS.tr bt4).free nD pen4.there
    refine lc_range (lo := 0) (n := (1 + r4).toNat) (fun j H' => PenAt H' p c (n + 4 + j) ∧ But p H H' ∧ H' S = some (.lst (([0, 99, 100, 9999, r2, r3] : List Int).map V.int)) ∧ ∃ fs : List Int, H' D = some (.lst (fs.map V.int)) ∧ fs.length = j ∧ ∀ x ∈ fs, 0 ≤ x ∧ x ≤ 9999)
      ⟨pen4.same (same_new nD), (btS.tr bt4).tr (.of (same_new nD)), (upd_ne nSD).trans hS4, [], upd_same, rfl, fun y hy => nomatch hy⟩ ?_ ?_
    · rintro j H6 hj ⟨pen6, bt6, hS6, fs, hD6, lf, bd⟩
      refine ⟨rfl, yesT ?_⟩
      refine ⟨_, rfl, _, rfl, p, c, _, 6, rfl, pen6, by omega, by decide, by decide, fun r H7 b7 d7 pen7 bt7 => ?_⟩
      obtain ⟨y, hy, my⟩ := at_ints (ns := [0, 99, 100, 9999, r2, r3]) b7 d7
      have hD7 := bt7 D _ hD6 nDp
      have hS7 := bt7 S _ hS6 nSp
      refine ⟨S, _, r, _, rfl, rfl, SqL.of hS7, hy, _, hD7, (by rw [List.length_map]; exact small1000 (by omega)), pen7.upd nDp nDc, fun b o e nb => (upd_ne (ne_of_none e hDn)).trans ((bt6.tr bt7) b o e nb), (upd_ne nSD).trans hS7, fs ++ [y], ?_, by simp [lf], ?_⟩
      · rw [upd_same, List.map_append]
        rfl
      · intro x hx
        rcases List.mem_append.mp hx with h | h
        · exact bd x h
        · rw [List.mem_singleton.mp h]
          simp only [List.mem_cons, List.not_mem_nil, or_false] at my
          rcases my with rfl | rfl | rfl | rfl | rfl | rfl <;> constructor <;> omega
    · rintro H6 ⟨pen6, bt6, hS6, fs, hD6, lf, bd⟩
      refine ⟨Nat.zero_le _, fun Fd nFd => ?_⟩
      have nFp : Fd ≠ p := fun z => pen6.there (z ▸ nFd)
      have nFc : Fd ≠ c := fun z => pen6.cells (z ▸ nFd)
      have nDF : D ≠ Fd := ne_of_none hD6 nFd
      have hFn : H Fd = none := bt6.free nFd pen6.there
      refine ⟨_, rfl, (m : Int), rfl, by omega, by omega, for_range (lo := 0) (n := (m : Int).toNat) (fun j σ H' => ∃ y4, σ = [some (.ref p), some (.int (m : Int)), some (.int r1), some (.ref S), y4, some (.ref D), some (.ref Fd)] ∧ PenAt H' p c (n + 8 + 2 * j) ∧ But p H H' ∧ H' D = some (.lst (fs.map V.int)) ∧
        ∃ ns : List Int, H' Fd = some (.lst (ns.map V.int)) ∧ ns.length = j ∧ ∀ x ∈ ns, 0 ≤ x ∧ x ≤ 9999) ⟨_, rfl, (pen6.mono (by omega)).same (same_new nFd), bt6.tr (.of (same_new nFd)), (upd_ne nDF).trans hD6, [], upd_same, rfl, fun y hy => nomatch hy⟩ ?_ ?_⟩
      · rintro j σ H9 hj ⟨y4, rfl, pen9, bt9, hD9, ns, hF9, ln, bn⟩
        have lfs : ((fs.map V.int).length : Int) = (fs.length : Int) := by rw [List.length_map]
        refine ⟨_, rfl, .inl ⟨rfl, _, SqL.of hF9⟩, _, rfl, _, rfl, _, rfl, D, _, rfl, .inl (SqL.of hD9), p, c, _, _, rfl, pen9, by omega, by rw [lfs]; omega, by rw [lfs]; omega, fun r5 H10 b5 d5 pen10 bt10 => ?_⟩
        rw [lfs] at d5
        obtain ⟨y, hy, my⟩ := at_ints b5 d5
        have hD10 := bt10 D _ hD9 nDp
        refine ⟨D, _, r5, _, rfl, rfl, SqL.of hD10, hy, _, rfl, p, c, _, 10000, rfl, pen10, by omega, by decide, by decide, fun r6 H11 b6 d6 pen11 bt11 => ?_⟩
        refine ⟨(by show 2 ≤ sizeLine; decide), fun L nL => ?_⟩
        have sL := @same_new _ _ (.lst (([y, r6] : List Int).map V.int)) nL
        refine ⟨_, rfl, rfl, .inr ⟨decide (V.int r1 = V.int 0), rfl, ?_⟩⟩
        have z01 : (0 : Int) ≤ (if decide (V.int r1 = V.int 0) = true then 1 else 0) ∧ (if decide (V.int r1 = V.int 0) = true then (1 : Int) else 0) < 2 := by
          cases decide (V.int r1 = V.int 0) <;> decide
        obtain ⟨x, hx, mx⟩ := at_ints (ns := [y, r6]) z01.1 z01.2
        have hF12 := sL _ _ (bt11 Fd _ (bt10 Fd _ hF9 nFp) nFp)
        have bt12 := (bt9.tr (bt10.tr bt11)).tr (.of sL)
        refine ⟨L, _, _, _, rfl, rfl, SqL.of upd_same, hx, Fd, _, _, rfl, rfl, hF12, (by rw [List.length_map]; exact small1000 (by omega)), _, rfl, (((pen11.mono (by omega)).same sL).upd nFp nFc), fun b o e nb => (upd_ne (ne_of_none e hFn)).trans (bt12 b o e nb), (upd_ne nDF).trans (sL _ _ (bt11 D _ hD10 nDp)), ns ++ [x], ?_, by simp [ln], ?_⟩
        · rw [upd_same, List.map_append]
          rfl
        · intro z hz
          rcases List.mem_append.mp hz with h | h
          · exact bn z h
          · rw [List.mem_singleton.mp h]
            have by_ := bd y my
            simp only [List.mem_cons, List.not_mem_nil, or_false] at mx
            rcases mx with rfl | rfl <;> constructor <;> omega
      · rintro σ H9 ⟨y4, rfl, pen9, bt9, hD9, ns, hF9, ln, bn⟩
        exact ⟨_, rfl, q Fd ns H9 hFn hF9 (by omega) bn (pen9.mono (by omega)) bt9⟩
end
/-! ### generator expressions whose element reads the module's names and the def's cells -/
section
variable {X : Cx} {pins : List (Addr × Obj)} {σ : L2.St} {H : Hp} {s : Shared}
/-- walking u makes one new object and reads fp alone; n items, the i-th one as Pf says -/
def GSrc (X : Cx) (T : Addr) (u : Value) (s1 : Shared) (n : Nat) (Pf : Nat → Value → Prop) : Prop :=
  ∀ (Q : Value → Shared → Prop) (E : Value → Shared → Prop),
    (∀ (o : Obj) (fp : List Addr) (St : Nat → Heap → Prop),
      (∀ A' : Around, A'.handled = none → Walks X.prog X.w A' s1.heap.objs.size fp [s1.heap.objs.size] n Pf St) →
      St 0 (s1.heap.push o) → (∀ b ∈ fp, b ≤ s1.heap.objs.size ∧ b ≠ T) →
      Q (.ref s1.heap.objs.size) { s1 with heap := s1.heap.push o }) →
    wpAny (model X.prog X.w) X.A (pyIter u) Q E s1
/-- the tests and the element at the item v: nothing that stood is changed -/
structure GElt (X : Cx) (T : Addr) (scope : Scope) (x : Str) (ifs : List Expr) (elt : Expr) (s1 : Shared) (Pf : Nat → Value → Prop) (pz : Nat → Bool) (F : Nat → Value → Prop) : Prop where
  run : ∀ (ce : Env) (A' : Around) (E' : Value → Shared → Prop) (i : Nat) (v : Value) (s2 : Shared) (m2 : Str → Option Value),
    ce.scope = scope → ce.globals = mainGlobals → ce.cells = cloFrom X.env.cells scope.names [] → A'.handled = none → Pf i v → s2.heap.Ns ce.locals m2 → m2 x = some v →
    (∀ b u, b ≠ T → s1.heap.get? b = some u → s2.heap.get? b = some u) →
    wpAny (model X.prog X.w) A' (forIn ifs true fun c r => if r = true then do let ok ← isTrue c ce (eval c ce); pure (ForInStep.yield ok) else pure (ForInStep.yield r)) (fun ok s3 => ok = pz i ∧ Keeps s2 s3) E' s2 ∧
    (pz i = true → wpAny (model X.prog X.w) A' (eval elt ce) (fun y s3 => F i y ∧ Keeps s2 s3) E' s2)
/-- the generator g is ready to be walked in s5 -/
def GReady (X : Cx) (pins : List (Addr × Obj)) (σ : L2.St) (H1 : Hp) (T : Addr) (n : Nat) (pz : Nat → Bool) (F : Nat → Value → Prop) (g : Addr) (s5 : Shared) : Prop :=
  ∃ (fp wr : List Addr) (G : Array GenState → Array GenState → Prop) (St : Nat → Shared → Prop),
    WalksS X.prog X.w X.A.in1 g fp wr G (passing pz n 0).length (fun j y => ∃ i, (passing pz n 0)[j]? = some i ∧ F i y) St ∧ St 0 s5 ∧
    ∀ s', Moved wr G s5 s' → ∃ H2, GxR.Tabbed T H1 H2 ∧ Inv X pins σ H2 s'
theorem gen_mk {c T : Addr} {elt iter : Expr} {x : Str} {px gpos : Pos} {ifs : List Expr} {scope : Scope} {te : TE} {k : Nat} {Q' : Value → Shared → Prop} {R : V → Hp → Prop}
    (hr : Room k X.A) (TB : GxR.TabB X.base X.mg c T) (hcode : X.env.code = .ref c) (S : GxR.GenS X.env scope x) (hi : PE X iter te)
    (hs : ∀ v, genFold iter X.env v = pure v) (I : Inv X pins σ H s) (h : te σ H fun v H1 => GxR.TabG H1 T ∧ R v H1)
    (hQ : ∀ v u H1 s1, Inv X pins σ H1 s1 → RelV v u → GxR.TabG H1 T → R v H1 → ∃ n Pf pz F, GSrc X T u s1 n Pf ∧ GElt X T scope x ifs elt s1 Pf pz F ∧
      ∀ g s5, GReady X pins σ H1 T n pz F g s5 → Q' (.ref g) s5) :
    wpAny (model X.prog X.w) X.A (eval (.GeneratorExp elt [⟨.Name x px, iter, ifs, 0⟩] scope gpos) X.env) Q' X.xe s := by
  refine wpAny_GeneratorExp_walksQ hr.hd S.co (closure_ok S.free) S.cell S.dot S.loc S.kind (Nat.lt_of_le_of_lt (by omega : X.A.depth ≤ X.A.depth + 3 * k + 5) hr.dp) ?_ hs
  refine thn (hi.run pins s σ H _ I h) fun u s1 ⟨v, H1, J, rv, ⟨ps, hT, hok⟩, hR⟩ => ?_
  obtain ⟨n, Pf, pz, F, src, el, fin⟩ := hQ v u H1 s1 J rv ⟨ps, hT, hok⟩ hR
  refine src _ _ fun o fp St W st0 hfp => ?_
  have gT : s1.heap.get? T = some (PySem.W.tabObj ps) := J.hok T _ hT
  have ltT := Heap.lt_size gT
  have sz : (s1.heap.push o).objs.size = s1.heap.objs.size + 1 := Heap.size_push ..
  have cd : PySem.W.CodeHd (s1.heap.push o) c T := TB.code.keeps fun b z e => Heap.get?_push_of_some _ (J.bk b z e)
  have pT : (s1.heap.push o).get? T = some (PySem.W.tabObj ps) := Heap.get?_push_of_some _ gT
  have lim : (s1.heap.push o).NoLimit := J.nolimit.push o
  obtain ⟨mc, nsC, _⟩ := id J.nolimit
  have ltC : cStatics < s1.heap.objs.size := nsC.lt
  have neC : cStatics ≠ T := fun e => by
    obtain ⟨oo, es, ep, go, dd, _⟩ := nsC
    rw [e, gT] at go
    cases go
    cases dd
  refine ⟨lim, ?_⟩
  -- behind the code object: the generator is made and handed on
  have on : ∀ (code : Value) (h3 : Heap) (tk : Nat) (ps' : Array Value), Heap.ExtBut T (s1.heap.push o) h3 → (s1.heap.push o).objs.size ≤ h3.objs.size →
      h3.get? T = some (PySem.W.tabObj ps') → (∃ more, ps' = ps ++ more) → TriplesOk ps'.toList →
      wpAny (model X.prog X.w) X.A (builtinsFor X.env.globals X.env.builtins) (fun bi s4 =>
        ∃ I' fp' wr n0 P' St' pz' F', Value.ref s1.heap.objs.size = .ref I' ∧ (∀ A' : Around, A'.handled = none → Walks X.prog X.w A' I' fp' wr n0 P' St') ∧ St' 0 s4.heap ∧ (∀ b ∈ fp', b < s4.heap.objs.size) ∧
          s4.heap.NoLimit ∧ cStatics ∉ wr ∧
          (∀ href : Heap, (∀ b z, s4.heap.get? b = some z → href.get? b = some z) →
            QuietGen X.prog X.w (genEnv scope (cloFrom X.env.cells scope.names []) s4.heap.objs.size code bi X.env) x ifs elt (List.range s4.heap.objs.size) wr P' pz' F' href) ∧
          (∀ a h5 tk5 gs, gs.bare = true → s4.heap.objs.size < a → h5.objs.size = a + 1 → (∀ b z, s4.heap.get? b = some z → h5.get? b = some z) →
            WalksS X.prog X.w X.A.in4 a (a :: s4.heap.objs.size :: List.range s4.heap.objs.size) (s4.heap.objs.size :: wr) (GenOnlyQ s4.gens.size) (passing pz' n0 0).length
              (fun j y => ∃ i, (passing pz' n0 0)[j]? = some i ∧ F' i y) (GenAt X.prog X.w X.A.in4 a s4.gens.size s4.heap.objs.size (List.range s4.heap.objs.size) wr pz' n0 F') →
            GenAt X.prog X.w X.A.in4 a s4.gens.size s4.heap.objs.size (List.range s4.heap.objs.size) wr pz' n0 F' 0 { s4 with gens := s4.gens.push gs, toks := tk5, heap := h5 } →
            Q' (.ref a) { s4 with gens := s4.gens.push gs, toks := tk5, heap := h5 })) X.xe { s1 with heap := h3, toks := tk } := by
    intro code h3 tk ps' ext ge3 gT3 mo ok3
    have stay : ∀ b z, b ≠ T → s1.heap.get? b = some z → h3.get? b = some z := fun b z nb e => ext b z nb (Heap.get?_push_of_some _ e)
    have glo : ∀ h4 : Heap, (∀ b z, b ≠ T → s1.heap.get? b = some z → h4.get? b = some z) → h4.Ns mainGlobals X.mg := fun h4 st => by
      obtain ⟨oo, es, ep, go, r⟩ := J.mod.glob
      exact ⟨oo, es, ep, st _ _ TB.gP (J.bk _ _ go), r⟩
    obtain ⟨bm, ob, e1, e2, _, e4, e5, e6, e7, e8⟩ := TB.bm
    refine wpAny_builtinsFor (m := X.mg) (by rw [J.ok.glob]; exact glo h3 stay) e1 e2 (stay _ _ e4 (J.bk _ _ e5)) e6 e7 e8 ?_
    refine ⟨s1.heap.objs.size, fp, [s1.heap.objs.size], n, Pf, St, pz, F, rfl, W, ?_, fun b hb => ?_, lim.extBut ext neC, fun z => ?_, fun href keepR => ⟨?_, ?_⟩, ?_⟩
    · exact (W X.A hr.hd).frame _ _ _ st0 fun b hb z e => ext b z (hfp b hb).2 e
    · have l1 := (hfp b hb).1
      have l2 := ge3
      rw [sz] at l2
      exact Nat.lt_of_lt_of_le (Nat.lt_succ_of_le l1) l2
    · rw [List.mem_singleton] at z
      exact absurd z (Nat.ne_of_lt ltC)
    · intro A' E' i v2 s2 m2 hA hP hn hm hk
      refine (el.run (genEnv scope (cloFrom X.env.cells scope.names []) h3.objs.size code builtinsNs X.env) A' E' i v2 s2 m2 rfl J.ok.glob rfl hA hP hn hm fun b z nb e => ?_).1
      have hb := Heap.lt_size e
      refine hk b (List.mem_range.mpr ?_) (fun q => ?_) z (keepR b z (stay b z nb e))
      · have := ge3
        rw [sz] at this
        exact Nat.lt_of_lt_of_le (Nat.lt_succ_of_lt hb) this
      · rw [List.mem_singleton] at q
        exact absurd q (Nat.ne_of_lt hb)
    · intro A' E' i v2 s2 m2 hA hP hz hn hm hk
      refine (el.run (genEnv scope (cloFrom X.env.cells scope.names []) h3.objs.size code builtinsNs X.env) A' E' i v2 s2 m2 rfl J.ok.glob rfl hA hP hn hm fun b z nb e => ?_).2 hz
      have hb := Heap.lt_size e
      refine hk b (List.mem_range.mpr ?_) (fun q => ?_) z (keepR b z (stay b z nb e))
      · have := ge3
        rw [sz] at this
        exact Nat.lt_of_lt_of_le (Nat.lt_succ_of_lt hb) this
      · rw [List.mem_singleton] at q
        exact absurd q (Nat.ne_of_lt hb)
    · intro g h5 tk5 gs bare ltg sz5 keep5 W5 at5
      refine fin g _ ⟨_, _, _, _, W5.in4_1, at5, fun s' mv => ?_⟩
      obtain ⟨more, em⟩ := mo
      have out : ∀ b z, s1.heap.get? b = some z → b ∉ h3.objs.size :: [s1.heap.objs.size] := fun b z e hb => by
        have l1 := Heap.lt_size e
        have l3 := ge3
        rw [sz] at l3
        rcases List.mem_cons.mp hb with q | q
        · rw [q] at l1
          exact Nat.lt_irrefl _ (Nat.lt_trans l1 l3)
        · rw [List.mem_singleton] at q
          rw [q] at l1
          exact Nat.lt_irrefl _ l1
      have K5 := GxR.inv_tab (more := more) (h' := s'.heap) (g' := s'.gens) (d' := s'.drawn) (t' := s'.toks) J hT
        (fun b z nb e => mv.heap b z (out b z e) (keep5 b z (stay b z nb e))) (by rw [← em]; exact mv.heap T _ (out T _ gT) (keep5 T _ gT3)) (AllBare.movedS (J.bare.push bare) mv)
      rw [GxR.sh_eta s1 s' mv.os] at K5
      exact ⟨upd H1 T (.tbl (ps ++ more)), ⟨⟨_, upd_same, by rw [← em]; exact ok3⟩, fun b nb => upd_ne nb⟩, K5⟩
  cases among : codeAmong gpos ps.toList with
  | some cv =>
    refine wpAny_genexprCode_hit hcode (cd.code pT hok) among ?_
    exact on cv _ s1.toks ps (Heap.ExtBut.refl _ _) (Nat.le_refl _) pT ⟨#[], (Array.append_empty).symm⟩ hok
  | none =>
    refine wpAny_genexprCodeX hcode (cd.code pT hok) (cd.tab pT) among fun c' h' tk hx hge hlt isC _ tab' _ => ?_
    obtain ⟨_, _, _, _, _, _, _, _, _, _, _, _, _, _, _, _, _, _, _, ok', _⟩ := isC
    exact on _ h' tk _ hx (Nat.le_trans hge (Nat.le_of_lt hlt)) tab'.2 ⟨_, rfl⟩ ok'
/-- a text's signs as what is walked -/
theorem gsrc_str {T : Addr} {a : Str} {t : Tok} {s1 : Shared} (hT : T < s1.heap.objs.size) : GSrc X T (.str a t) s1 a.cps.size (SignAt a) := fun Q E h =>
  wpAny_pyIter_str fun o St W st0 => h o _ St W st0 fun b hb => by
    rw [List.mem_singleton] at hb
    subst hb
    exact ⟨Nat.le_refl _, Nat.ne_of_gt hT⟩
theorem pass_all (n : Nat) : passing (fun _ => true) n 0 = List.range n := by
  simp [passing]
/-- all(test for x in e), e a text -/
def tAllT (T : Addr) (pb : Nat → Bool) (te : TE) : TE := fun σ H Q => te σ H fun v H1 => GxR.TabG H1 T ∧ ∃ a : Str, v = .str a ∧ ∀ H2, GxR.Tabbed T H1 H2 → Q (.bl (a.cps.toList.all pb)) H2
theorem pe_allT {c T : Addr} {elt iter : Expr} {x : Str} {px p pos gpos : Pos} {scope : Scope} {pb : Nat → Bool} {te : TE} {k : Nat}
    (hr : Room k X.A) (hg : Gl X "all") (hm : X.mg "all" = none) (TB : GxR.TabB X.base X.mg c T) (hcode : X.env.code = .ref c) (S : GxR.GenS X.env scope x) (hi : PE X iter te)
    (hel : ∀ pins s1 σ H1 a, Inv X pins σ H1 s1 → GElt X T scope x [] elt s1 (SignAt a) (fun _ => true) (fun i y => ∃ cc, a.cps[i]? = some cc ∧ y = .bool (pb cc)))
    (hs : ∀ v, genFold iter X.env v = pure v)
    (he : starEach [.GeneratorExp elt [⟨.Name x px, iter, [], 0⟩] scope gpos] X.env = (false, eval (.GeneratorExp elt [⟨.Name x px, iter, [], 0⟩] scope gpos) X.env) :: starEach [] X.env := by rfl) :
    PE X (.Call (.Name "all" p) [.GeneratorExp elt [⟨.Name x px, iter, [], 0⟩] scope gpos] [] pos) (tAllT T pb te) := by
  refine ⟨fun pins s σ H Q I h => wpAny_Call_Name_kw (ld_blt I hg hm (show bootBuiltins "all" = some (.builtin "all") by decide +kernel) ?_)⟩
  refine PyProof.Rows.callWith_builtin1 ?_ he (by rfl)
  rw [he]
  refine Calls.spliced_cons (gen_mk hr TB hcode S hi hs I h fun v u H1 s1 J rv tg hR => ?_)
  obtain ⟨a, rfl, hR⟩ := hR
  obtain ⟨t, rfl⟩ := id rv
  refine ⟨_, _, fun _ => true, _, gsrc_str ?_, hel pins s1 σ H1 a J, fun g s5 rdy => ?_⟩
  · obtain ⟨ps, e, _⟩ := tg
    exact J.hok.lt e
  obtain ⟨fp, wr, G, St, W, st0, back⟩ := rdy
  rw [pass_all] at W
  refine Calls.spliced_nil (call_all_walkS (W.self 0 _ _ _ st0 ⟨g, fp, wr, G, _, _, St, GxR.trF pb a.cps.toList, rfl, W, st0, ?_, fun s' mv => ?_⟩))
  · intro j y sj Qj Ej hy hq
    obtain ⟨i, ij, cc, hc, rfl⟩ := hy
    obtain ⟨hj, ej⟩ := List.getElem?_eq_some_iff.mp ij
    rw [List.getElem_range] at ej
    subst ej
    refine wpAny_truthy_bool ?_
    rw [← GxR.trF_some (pb := pb) (show a.cps.toList[j]? = some cc by rw [Array.getElem?_toList]; exact hc)]
    exact hq
  · obtain ⟨H2, tab, K2⟩ := back s' mv
    refine ⟨.bl _, H2, K2, rfl, ?_⟩
    rw [List.length_range, GxR.all_signs a pb]
    exact hR H2 tab
end
/-! ### is_name -/
def signB (c : Nat) : Bool := decide (c ∈ abc.cps.toList)
def nameB (z : Str) : Bool := decide (1 ≤ z.length) && decide (z.length ≤ 8) && z.cps.toList.all signB
theorem nameB_in {z : Str} (h1 : (1 : Int) ≤ (z.length : Int)) (h2 : (z.length : Int) ≤ 8) : nameB z = z.cps.toList.all signB := by
  unfold nameB
  rw [decide_eq_true (show 1 ≤ z.length by omega), decide_eq_true (show z.length ≤ 8 by omega)]
  rfl
theorem nameB_long {z : Str} (h : ¬ (z.length : Int) ≤ 8) : nameB z = false := by
  unfold nameB
  rw [decide_eq_false (show ¬ z.length ≤ 8 by omega), Bool.and_false]
  rfl
theorem nameB_short {z : Str} (h : ¬ (1 : Int) ≤ (z.length : Int)) : nameB z = false := by
  unfold nameB
  rw [decide_eq_false (show ¬ 1 ≤ z.length by omega)]
  rfl
/-- what is_name is told: a text, or what is of another built-in kind -/
def spName (K : PySem.W.Frag) (T : Addr) : Sp := fun vs H Q _ => ∃ v : V, vs = [v] ∧ GxR.TabG H T ∧
  ((∃ z : Str, v = .str z ∧ z.length ≤ sizeLine ∧ ∀ H2, GxR.Tabbed T H H2 → Q (.bl (nameB z)) H2) ∨
   ∃ t : String, TyX K H v (.type t) ∧ kitB t "str" = some false ∧ Q (.bl false) H)
section
variable {P : Program} {w : World} {K : PySem.W.Frag} {mg : Str → Option Value} {base : Heap}
theorem scName : FnScope ["thing"] ["thing"] (defScope sName) := ⟨rfl, rfl, rfl, by decide +kernel, rfl, by decide +kernel, by decide +kernel⟩
theorem ok_name {f c T : Addr} {oc kV doc pm ct : Value} {od an : Option Addr} {osl : Array (Option Value)}
    (lk : K.lookup f = some ⟨oc, od, .func (PySem.W.fnOf "is_name" "is_name" (defArgs sName) (defBody sName) (defScope sName) .none kV doc pm an (.ref c) ct), osl⟩) (cdI : PySem.W.codeIn K (.ref c) "is_name" = true)
    (TB : GxR.TabB base mg c T) (mi : mg "isinstance" = none) (mst : mg "str" = none) (ml : mg "len" = none) (ma : mg "all" = none) (mL : ∃ t, mg "LETTERS" = some (.str abc t)) (mN : ∃ t, mg "LONGEST_NAME" = some (.int 8 t)) :
    FnOk P w K mg base CX0 1 f (PySem.W.fnOf "is_name" "is_name" (defArgs sName) (defBody sName) (defScope sName) .none kV doc pm an (.ref c) ct) ["thing"] (spName K T) := by
  refine fn_of lk cdI scName (fun vs H Q E h => ?_) (fun A outer s H vs Q E hr h => ?_)
  · obtain ⟨v, rfl, _⟩ := h
    rfl
  · obtain ⟨v, rfl, tg, h⟩ := h
    obtain ⟨tL, mL⟩ := mL
    obtain ⟨tN, mN⟩ := mN
    refine ⟨_, pss_cons (ps_if (pt_not (pt_val (pe_callB call_isi (by rfl) mi (by decide +kernel) (pa_cons (pv 0) (pa_cons (pe_bltn (v := .ty "str") (u := .type "str") (by rfl) mst (by decide +kernel) rfl) pa_nil)))))
        (pss_one (ps_ret pe_bl)) pss_nil)
      (pss_one (ps_ret (pe_and (pe_chain op_le op_le pe_int (pe_callB call_len_str (by rfl) ml PySem.boot_len (pa_cons (pv 0) pa_nil)) (pe_glob (v := .int 8) rfl mN ⟨_, rfl⟩))
        (pe_one (pe_allT (T := T) (c := c) (pb := signB) hr (by rfl) ma TB rfl ⟨rfl, rfl, by decide +kernel, rfl, rfl, by intro y hy e; simp only [List.mem_cons, List.not_mem_nil, or_false] at hy; rcases hy with rfl | rfl | rfl <;> cases e⟩ (pv 0) ?_ (fun _ => rfl)))))), ?_⟩
    · intro pins s1 σ H1 a J
      refine ⟨fun ce A' E' i v s2 m2 e1 e2 e3 hA hP hn hm hk => ⟨?_, fun _ => ?_⟩⟩
      · simp only [List.forIn_nil]
        exact wpAny_pure ⟨rfl, GxR.keeps_refl _⟩
      · obtain ⟨cc, u, hc, rfl⟩ := hP
        refine wpAny_Compare1 ?_
        refine wpAny_Name (wpAny_loadName_local (by rw [e1]) (show ce.scope.names.lookup _ = some .local by rw [e1]; rfl) hn hm ?_) (by decide)
        refine Calls.Name_function_global (by rw [e1]) (show ce.scope.names.lookup _ = some .globalImplicit by rw [e1]; rfl) ?_
        have G : s2.heap.Ns mainGlobals mg := by
          obtain ⟨oo, es, ep, go, r⟩ := J.mod.glob
          exact ⟨oo, es, ep, hk _ _ TB.gP (J.bk _ _ go), r⟩
        refine Calls.loadGlobal_global (by rw [e2]; exact G) mL ?_
        exact PyProof.Rows.in_str ⟨⟨cc, hc, congrArg Value.bool (PySem.StrLaws.found_one abc cc)⟩, GxR.keeps_refl _⟩
    · refine ⟨v, rfl, ?_⟩
      rcases h with ⟨z, rfl, hz, q⟩ | ⟨t, ty, kt, q⟩
      · refine ⟨_, _, _, _, true, rfl, .ty "str", .base (.str z), kit_ty (by decide +kernel), _, rfl, iteF ?_⟩
        refine ⟨_, rfl, z, rfl, hz, 1, _, rfl, rfl, _, rfl, ite2 (fun e1 => ?_) (fun e1 => ?_)⟩
        · refine ⟨_, 8, rfl, rfl, _, rfl, ite2 (fun e2 => ?_) (fun e2 => ?_)⟩
          · refine ⟨_, rfl, tg, z, rfl, fun H2 tb => ?_⟩
            have e3 := q H2 tb
            rw [nameB_in (of_decide_eq_true e1) (of_decide_eq_true e2)] at e3
            exact e3
          · have e3 := q H ⟨tg, fun _ _ => rfl⟩
            rw [nameB_long fun h => e2 (decide_eq_true h)] at e3
            exact e3
        · have e3 := q H ⟨tg, fun _ _ => rfl⟩
          rw [nameB_short fun h => e1 (decide_eq_true h)] at e3
          exact ⟨_, rfl, iteF e3⟩
      · exact ⟨_, _, _, _, false, rfl, .ty "str", ty, kit_ty kt, _, rfl, iteT q⟩
end
/-! ### the drawn names are names, unlike ones -/
theorem bij_pow (t : Nat) : ∀ (j r : Nat), r + 1 ≤ 2 ^ j → (bij t r).length ≤ j
  | 0, r, h => by
    have : r = 0 := by simp at h; exact h
    subst this
    rw [bij]
    exact Nat.le_refl _
  | j + 1, 0, _ => by
    rw [bij]
    exact Nat.zero_le _
  | j + 1, r + 1, h => by
    rw [bij, List.length_append]
    have h2 : 2 ^ (j + 1) = 2 * 2 ^ j := by rw [Nat.pow_succ]; omega
    have := bij_pow t j (r / 2) (by rw [h2] at h; omega)
    show _ + 1 ≤ _
    omega
theorem bij_in (t : Nat) : ∀ (r : Nat), ∀ c ∈ bij t r, c ∈ abc.cps.toList
  | 0, c, h => by
    rw [bij] at h
    cases h
  | r + 1, c, h => by
    rw [bij] at h
    rcases List.mem_append.mp h with h | h
    · exact bij_in t (r / 2) c h
    · rw [List.mem_singleton.mp h]
      exact Lc_in (Nat.mod_lt _ (by decide))
theorem nm_in {way t : Nat} {B : List Nat} {sp : Nat} (ok : NmOk way t B sp) (k : Nat) : ∀ c ∈ nm way t B sp k, c ∈ abc.cps.toList := by
  intro c h
  unfold nm at h
  split at h
  · exact bij_in _ _ c h
  · rcases List.mem_append.mp h with h | h
    · rcases List.mem_append.mp h with h | h
      · exact ok.bl c (List.mem_of_mem_take h)
      · simp only [nmPair, List.mem_cons, List.not_mem_nil, or_false] at h
        rcases h with rfl | rfl <;> exact Lc_in (Nat.mod_lt _ (by decide))
    · exact ok.bl c (List.mem_of_mem_drop h)
theorem nm_len {way t : Nat} {B : List Nat} {sp : Nat} (ok : NmOk way t B sp) {k : Nat} (hk : k ≤ 30) : 1 ≤ (nm way t B sp k).length ∧ (nm way t B sp k).length ≤ 8 := by
  unfold nm
  split
  · have h := bij_pow t 5 (k + 1) (by show k + 1 + 1 ≤ 32; omega)
    refine ⟨?_, by omega⟩
    rw [bij, List.length_append]
    show 1 ≤ _ + 1
    omega
  · have := ok.b6
    have := ok.s
    rw [List.length_append, List.length_append, List.length_take, List.length_drop]
    show 1 ≤ _ + 2 + _ ∧ _ + 2 + _ ≤ 8
    constructor <;> omega
theorem nm_name {way t : Nat} {B : List Nat} {sp : Nat} (ok : NmOk way t B sp) {k : Nat} (hk : k ≤ 30) : nameB (nmStr way t B sp k) = true := by
  have h := nm_len ok hk
  have e : (nmStr way t B sp k).length = (nm way t B sp k).length := sc_len _
  unfold nameB
  rw [e, decide_eq_true h.1, decide_eq_true h.2]
  show (nmStr way t B sp k).cps.toList.all signB = true
  rw [List.all_eq_true]
  intro c hc
  exact decide_eq_true (nm_in ok k c (by simpa [nmStr] using hc))
theorem Lc_inj : ∀ i < 26, ∀ j < 26, Lc i = Lc j → i = j := by decide +kernel
theorem bij_inj {t : Nat} : ∀ (r q : Nat), bij t r = bij t q → r = q := by
  intro r
  induction r using Nat.strongRecOn with
  | ind r ih =>
    intro q h
    cases r with
    | zero =>
      cases q with
      | zero => rfl
      | succ q =>
        have := congrArg List.length h
        rw [bij, bij, List.length_append] at this
        simp at this
    | succ r =>
      cases q with
      | zero =>
        have := congrArg List.length h
        rw [bij, bij, List.length_append] at this
        simp at this
      | succ q =>
        rw [bij, bij] at h
        have h1 := List.append_inj_left' h rfl
        have h2 := List.append_inj_right' h rfl
        have e := ih (r / 2) (by omega) (q / 2) h1
        have e2 : Lc ((t + 9 * ((r + 1) % 2)) % 26) = Lc ((t + 9 * ((q + 1) % 2)) % 26) := List.head_eq_of_cons_eq h2
        have e3 := Lc_inj _ (Nat.mod_lt _ (by decide)) _ (Nat.mod_lt _ (by decide)) e2
        omega
theorem nm_inj {way t : Nat} {B : List Nat} {sp : Nat} {k j : Nat} (hk : k ≤ 30) (hj : j ≤ 30) (h : nm way t B sp k = nm way t B sp j) : k = j := by
  unfold nm at h
  split at h
  · have := bij_inj _ _ h
    omega
  · have h1 := List.append_inj_left' h rfl
    have h2 := List.append_inj_right h1 rfl
    unfold nmPair at h2
    have a := List.head_eq_of_cons_eq h2
    have b := List.head_eq_of_cons_eq (List.tail_eq_of_cons_eq h2)
    have a' := Lc_inj _ (Nat.mod_lt _ (by decide)) _ (Nat.mod_lt _ (by decide)) a
    have b' := Lc_inj _ (Nat.mod_lt _ (by decide)) _ (Nat.mod_lt _ (by decide)) b
    clear h h1 h2 a b
    have u1 : k / 26 ≤ 1 := by omega
    have u2 : j / 26 ≤ 1 := by omega
    have e1 : k / 26 = j / 26 := by
      generalize k / 26 = u at b' u1
      generalize j / 26 = v at b' u2
      omega
    clear b' u1 u2
    have e2 : (7 * k) % 26 = (7 * j) % 26 := by omega
    have e3 : k % 26 = j % 26 := by
      clear a'
      omega
    omega
theorem NmL.names {ys : List Str} {m : Nat} (h : NmL ys m) (hm : m ≤ 31) : ∀ y ∈ ys, nameB y = true := by
  obtain ⟨way, t, B, sp, ok, rfl⟩ := h
  intro y hy
  obtain ⟨k, hk, rfl⟩ := List.mem_map.mp hy
  exact nm_name ok (by have := List.mem_range.mp hk; omega)
theorem NmL.nodup {ys : List Str} {m : Nat} (h : NmL ys m) (hm : m ≤ 31) : ys.Nodup := by
  obtain ⟨way, t, B, sp, ok, rfl⟩ := h
  rw [List.Nodup, List.pairwise_map]
  refine List.Pairwise.imp_of_mem ?_ (List.nodup_range (n := m))
  intro a b ha hb ne e
  have ha' := List.mem_range.mp ha
  have hb' := List.mem_range.mp hb
  have e2 : nm way t B sp a = nm way t B sp b := by
    have := congrArg (fun z : Str => z.cps.toList) e
    simpa [nmStr] using this
  exact ne (nm_inj (by omega) (by omega) e2)
/-! ### defs that are called while nothing is being shown: the guards are known -/
structure FnG (P : Program) (w : World) (K : PySem.W.Frag) (mg : Str → Option Value) (base : Heap) (k : Nat) (f : Addr) (fd : FuncData) (ps : List Str) (sp : Sp) : Prop where
  many : ∀ vs H Q E, sp vs H Q E → vs.length = ps.length
  goes : ∀ (B : Around) (st : List Env) (s : Shared) (H : Hp) (as : Args) (us : List Value) (vs : List V) (Q : VK) (E : XK), B.guards = some [] → Room k B → Env0 P w K mg base B st s H →
    BindsTo s fd as (ps.zip us) → Vals vs us → sp vs H Q E → codeAny (model P w) B (.call (.ref f) as) (CR CX0 st P w H s Q E) s
section
variable {P : Program} {w : World} {K : PySem.W.Frag} {mg : Str → Option Value} {base : Heap}
theorem FnG.of {k : Nat} {f : Addr} {fd : FuncData} {ps : List Str} {sp : Sp} (F : FnOk P w K mg base CX0 k f fd ps sp) : FnG P w K mg base k f fd ps sp :=
  ⟨F.len, fun B st s H as us vs Q E _ => F.run B st s H as us vs Q E⟩
theorem Fun.okG {x qual : Str} {st : Stmt} {f : Addr} {fd : FuncData} {N ps : List Str} {k : Nat} {sp : Sp} (F : Fun K x qual st f fd) (S : FnScope N ps (defScope st)) (many : ∀ vs H Q E, sp vs H Q E → vs.length = ps.length)
    (body : ∀ (cdv : Value) (B : Around) (fs : List Env) (s : Shared) (H : Hp) (vs : List V) (Q : VK) (E : XK), B.guards = some [] → Room k (B.deeper (envOfC qual (defScope st) s.heap.objs.size f cdv)) → sp vs H Q E →
      ∃ t, PSs (cxOf CX0 P w K mg base N qual (defScope st) f cdv B fs s H E).nox (defBody st) t ∧ t { nx := fun _ H' => Q .non H', rt := Q } (start N vs) H) : FnG P w K mg base (k + 1) f fd ps sp := by
  obtain ⟨oc, od, kV, doc, pm, an, cdv, ct, osl, rfl, lk, hcd⟩ := F.ex
  refine ⟨many, fun B fs s H as us vs Q E hg hr e0 hb r hsp => ?_⟩
  have old : ∀ b o, base.get? b = some o → s.heap.get? b = some o := fun b o e => (e0.bs b o e).1
  have KX := e0.mod.kin.keeps old
  obtain ⟨t, pt, ht⟩ := body cdv B fs s H vs Q E hg (hr.deeper _) hsp
  refine codeAny_call_function hr.depth (KX _ _ lk) rfl S.co S.gen rfl (PySem.W.codeRec_of KX hcd) (hb _ _ _ _ ?_)
  refine wpAny_newFunctionEnv_cells S.kind ?_ ?_
  · rintro ⟨n, v⟩ hy
    have hn := (List.of_mem_zip hy).1
    exact (S.par n hn).imp id fun q => ⟨q, PySem.W.cellsFrom_some _ _ _ (.inl q)⟩
  · rintro env rfl s1 x
    have I := inv_start (CX := CX0) (E := E) S hr.hd e0 (many _ _ _ _ hsp) r x
    refine ⟨(e0.mod.nolimit.keeps old).keeps x.toInCall.keep, codeAny_func (wpAny_mono (pt.nox.run [] s1 _ H _ I ht) ?_ fun e s' hs => hs)⟩
    rintro fl s' hs
    cases fl with
    | ret u =>
      obtain ⟨v, σ', H', J, rv, q⟩ := hs
      exact ⟨v, H', J.os, J.bare, J.base, J.hok, rv, q⟩
    | next =>
      obtain ⟨σ', H', J, q⟩ := hs
      exact ⟨.non, H', J.os, J.bare, J.base, J.hok, rfl, q⟩
    | brk =>
      obtain ⟨_, _, _, q⟩ := hs
      exact False.elim q
    | cont =>
      obtain ⟨_, _, _, q⟩ := hs
      exact False.elim q
end
/-- f(e, ..): a def of this kind -/
theorem pe_callG {X : Cx} {k : Nat} {f : Addr} {fd : FuncData} {ps : List Str} {sp : Sp} {x : Str} {p pos : Pos} {e : Expr} {es : List Expr} {t : TA} (F : FnG X.prog X.w X.K X.mg X.base k f fd ps sp) (hG : X.A.guards = some []) (hr : Room k X.A) (hg : Gl X x) (hm : X.mg x = some (.ref f))
    (hk : PySem.W.keepIn X.K (.ref f) = true) (hb : Binds X.K fd ps []) (ha : PA X (e :: es) t) (hdb : (x == ("__debug__" : Str)) = false := by decide) (he : starEach (e :: es) X.env = (false, eval e X.env) :: starEach es X.env := by rfl)
    (hpl : (backTo pos (starEach es X.env)).any (·.1) = false := by rfl) : PE X (.Call (.Name x p) (e :: es) [] pos) (tCall sp [] E0 t) := by
  refine ⟨fun pins s σ H Q I h => wpAny_Call_Name_kw (ld_glob I hg hm ?_ hdb)⟩
  refine PySem.W.callWith_K (h₀ := X.base) I.ok.mod.kin hk (thn (ha.run pos pins s σ H _ I h) ?_) he hpl
  rintro us s1 ⟨vs, H1, I1, r, q⟩
  rw [List.append_nil] at q
  have hl : us.length = ps.length := r.length.symm.trans (F.many _ _ _ _ q)
  have bd := hb s1 us I1.kIn (by rw [List.append_nil]; exact hl)
  rw [List.append_nil] at bd
  refine ⟨I1.kIn, wpAny_call (codeAny_mono (F.goes X.A X.stack s1 H1 ⟨us, []⟩ us vs Q E0 hG hr I1.env0 bd r q) ?_)⟩
  rintro r2 s2 hq
  cases r2 with
  | error e => exact False.elim hq
  | ok fl =>
    cases fl with
    | ret u => exact I1.after hq
    | next => exact False.elim hq
    | brk => exact False.elim hq
    | cont => exact False.elim hq
/-! ### the top's call of the law, for a law that shows things -/
def topH (K : PySem.W.Frag) (a : Addr) (o : Obj) (xs : List V) (cs : List (Addr × Addr)) : Hp := fun b =>
  if b ∈ cs.map (·.2) then some (.tbl #[]) else if b = a ∧ K.lookup a = none then some (.frz o (.lst xs)) else none
section
variable {P : Program} {w : World} {K : PySem.W.Frag} {mg mb : Str → Option Value} {a : Addr} {o : Obj} {cs : List (Addr × Addr)} {s₁ : Shared} {vs : List Value} {ns : List Int}
theorem topH_tab {xs : List V} {p : Addr × Addr} (hp : p ∈ cs) : topH K a o xs cs p.2 = some (.tbl #[]) := if_pos (List.mem_map.mpr ⟨p, hp, rfl⟩)
theorem topH_cases {xs : List V} {b : Addr} {u : HO} (h : topH K a o xs cs b = some u) : (b ∈ cs.map (·.2) ∧ u = .tbl #[]) ∨ (b = a ∧ K.lookup a = none ∧ u = .frz o (.lst xs)) := by
  unfold topH at h
  split at h
  · rename_i hb
    exact .inl ⟨hb, (Option.some.inj h).symm⟩
  · split at h
    · rename_i hb
      exact .inr ⟨hb.1, hb.2, (Option.some.inj h).symm⟩
    · cases h
theorem top_call {fa : Addr} {k : Nat} {fd : FuncData} {x : Str} {sp : Sp}
    (KX : K.In s₁.heap) (hns : s₁.heap.Ns mainGlobals mg) (hb : s₁.heap.Ns builtinsNs mb) (hbb : ∀ x : Str, x ≠ "__name__" → mb x = bootBuiltins x) (hlim : s₁.heap.NoLimit) (hg : s₁.gens = #[])
    (hT : ∀ p ∈ cs, s₁.heap.get? p.2 = some { cls := .none, data := .fields #[] }) (nT : ∀ p ∈ cs, K.lookup p.2 = none) (C : ∀ p ∈ cs, PySem.W.CodeHd s₁.heap p.1 p.2)
    (hbm : ∃ (bm : Addr) (ob : Obj), mg "__builtins__" = some (.ref bm) ∧ bm ≠ builtinsNs ∧ s₁.heap.get? bm = some ob ∧ ob.cls = .type "module" ∧ ob.dict = some builtinsNs ∧ ob.data = .plain)
    (ha : s₁.heap.get? a = some { cls := .type "list", data := .seq vs.toArray }) (hi : IntsAre vs ns) (hl : ns.length ≤ sizeLine) (hr : Room k callerA)
    (F : ∀ base : Heap, K.In base → base.Ns mainGlobals mg → (∀ p ∈ cs, LamX.TabB base mg p.1 p.2) → FnG P w K mg base k fa fd [x] sp) (hbind : ∀ (s : Shared) (u : Value), BindsTo s fd ⟨[u], []⟩ [(x, u)])
    (hsp : ∀ H : Hp, (∀ p ∈ cs, H p.2 = some (.tbl #[])) → SqL K H a (ns.map V.int) → sp [.ref a] H (fun v _ => v = .bl true) fun _ _ _ => False) :
    codeAny (model P w) callerA (.call (.ref fa) ⟨[.ref a], []⟩) (fun r s' => r = .ok (.ret (.bool true)) ∧ OldK s₁.heap s'.heap ∧ s'.os = s₁.os ∧ AllBare s'.gens) s₁ := by
  have tabAt : ∀ b : Addr, b ∈ cs.map (·.2) → s₁.heap.get? b = some { cls := .none, data := .fields #[] } := fun b hb => by
    obtain ⟨p, hp, rfl⟩ := List.mem_map.mp hb
    exact hT p hp
  have naT : a ∉ cs.map (·.2) := fun z => by
    have q := (tabAt a z).symm.trans ha
    cases q
  have rv := vals_ints hi
  let H : Hp := topH K a { cls := .type "list", data := .seq vs.toArray } (ns.map V.int) cs
  have hH : ∀ p ∈ cs, H p.2 = some (.tbl #[]) := fun p hp => topH_tab hp
  -- what is tracked is a list or a table
  have free : ∀ {b : Addr} {ob : Obj}, s₁.heap.get? b = some ob → (∀ us n, ob.data ≠ .seq us n) → ob.data ≠ .fields #[] → H b = none := fun {b ob} e h1 h2 => by
    cases q : H b with
    | none => rfl
    | some u =>
      rcases topH_cases q with ⟨hb, _⟩ | ⟨rfl, _, _⟩
      · rw [tabAt b hb] at e
        cases e
        exact absurd rfl h2
      · rw [ha] at e
        cases e
        exact absurd rfl (h1 _ _)
  have dic : ∀ {b : Addr} {m : Str → Option Value}, s₁.heap.Ns b m → (hidT s₁.heap H).Ns b m := fun {b m} ⟨ob, es, ep, e, d, r⟩ =>
    ⟨ob, es, ep, hidT_get e (free e (fun us n z => by rw [d] at z; cases z) fun z => by rw [d] at z; cases z), d, r⟩
  have hK : K.In (hidT s₁.heap H) := fun b ob e => hidT_get (KX b ob e) (by
    cases q : H b with
    | none => rfl
    | some u =>
      rcases topH_cases q with ⟨hb, _⟩ | ⟨rfl, n, _⟩
      · obtain ⟨p, hp, rfl⟩ := List.mem_map.mp hb
        rw [nT p hp] at e
        cases e
      · rw [n] at e
        cases e)
  have hok : HOk P w H s₁.heap := fun b u q => by
    rcases topH_cases q with ⟨hb, rfl⟩ | ⟨rfl, _, rfl⟩
    · exact tabAt b hb
    · exact ⟨ha, by rw [List.length_map]; exact hl, vs, _, rv, ha⟩
  have hS : SqL K H a (ns.map V.int) := by
    cases hk : K.lookup a with
    | some ob =>
      have e := (KX a ob hk).symm.trans ha
      cases e
      exact .inr ⟨_, vs.toArray, _, hk, rfl, rfl, rfl, by rw [List.size_toArray, hi.length]; exact hl, by simpa using rv⟩
    | none => exact .inl (.inr ⟨{ cls := .type "list", data := .seq vs.toArray }, (if_neg naT).trans (if_pos ⟨rfl, hk⟩)⟩)
  have hM : L2.Mod K mg (hidT s₁.heap H) := ⟨hK, dic hns, ⟨mb, dic hb, hbb⟩, let ⟨mc, h1, h2⟩ := hlim; ⟨mc, dic h1, h2⟩⟩
  have TB : ∀ p ∈ cs, LamX.TabB (hidT s₁.heap H) mg p.1 p.2 := fun p hp => by
    have hTp := hT p hp
    obtain ⟨og, eg, pg, g1, g2, _⟩ := hns
    refine ⟨?_, ?_, fun z => ?_⟩
    · obtain ⟨ob, us, file, tf, flags, tg, inF, text, tt, e1, r1, r2, r3, r4⟩ := C p hp
      refine ⟨ob, us, file, tf, flags, tg, inF, text, tt, hidT_get e1 (free e1 (fun us n z => ?_) fun z => ?_), r1, r2, r3, r4⟩
      · rw [r2] at z
        cases z
      · rw [r2] at z
        cases z
        simp at r3
    · obtain ⟨bm, ob, b1, b2, b3, b4, b5, b6⟩ := hbm
      refine ⟨bm, ob, b1, b2, fun z => ?_, fun z => ?_, hidT_get b3 (free b3 (fun us n z => by rw [b6] at z; cases z) fun z => by rw [b6] at z; cases z), b4, b5, b6⟩
      · rw [z, g1] at b3
        cases b3
        rw [g2] at b6
        cases b6
      · rw [z, hTp] at b3
        cases b3
        cases b6
    · rw [z, hTp] at g1
      cases g1
      cases g2
  have e0 : Env0 P w K mg (hidT s₁.heap H) callerA [] s₁ H := ⟨rfl, hM, fun b ob e => of_hidT e, Nat.le_of_eq (hidT_size _ _), trivial, (fun b hb => nomatch (show b ∈ ([] : List Addr) from hb)), hok, .of_eq hg⟩
  refine codeAny_mono ((F _ hK (dic hns) TB).goes callerA [] s₁ H ⟨[.ref a], []⟩ [.ref a] [.ref a] _ _ rfl hr e0 (hbind s₁ (.ref a)) (.cons rfl .nil) (hsp H hH hS)) ?_
  rintro r s' h
  cases r with
  | error e => exact False.elim h
  | ok fl =>
    cases fl with
    | next => exact False.elim h
    | brk => exact False.elim h
    | cont => exact False.elim h
    | ret u =>
      obtain ⟨v, H', os, bare, un, hok', r', rfl⟩ := h
      obtain rfl : u = Value.bool true := r'
      have stays : ∀ b ob, b ∉ cs.map (·.2) → s₁.heap.get? b = some ob → s'.heap.get? b = some ob := fun b ob nb e => by
        cases q : H b with
        | none => exact un.keep b ob e q (fun z => nomatch (show b ∈ ([] : List Addr) from z)) (by simp)
        | some u =>
          rcases topH_cases q with ⟨z, _⟩ | ⟨rfl, _, rfl⟩
          · exact absurd z nb
          · rw [ha] at e
            cases e
            exact (hok' _ _ (un.frzs _ _ _ q)).1
      have grown : ∀ b ∈ cs.map (·.2), ∃ p ∈ cs, b = p.2 ∧ ∃ more : Array Value, s'.heap.get? b = some { cls := .none, data := .fields more } := fun b hb => by
        obtain ⟨p, hp, rfl⟩ := List.mem_map.mp hb
        obtain ⟨more, z⟩ := un.tbls p.2 #[] (hH p hp)
        exact ⟨p, hp, rfl, _, hok' p.2 _ z⟩
      refine ⟨rfl, ⟨fun b ob e => ?_, fun b ob e => ?_⟩, os, bare⟩
      · by_cases hb : b ∈ cs.map (·.2)
        · obtain ⟨p, hp, rfl, more, hm⟩ := grown b hb
          rw [hT p hp] at e
          cases e
          exact .inr (.inl ⟨((C p hp).tab (hT p hp)).isCodeTable, rfl, #[], more, rfl, by rw [Array.empty_append]; exact hm⟩)
        · exact .inl (stays b ob hb e)
      · by_cases hb : b ∈ cs.map (·.2)
        · obtain ⟨p, hp, rfl, more, hm⟩ := grown b hb
          exact ⟨_, hm⟩
        · exact ⟨ob, stays b ob hb e⟩
end
/-- what is known of a law that shows things -/
def LawG (l : PySem.W.OpenLaw) (w : World) (K : PySem.W.Frag) (k n : Nat) (x : Str) (mg : Str → Option Value) (fa : Addr) (h : Heap) : Prop :=
  ∃ (fd : FuncData) (cs : List (Addr × Addr)) (sp : Sp), ((∀ p ∈ cs, h.get? p.2 = some { cls := .none, data := .fields #[] }) ∧ (∀ p ∈ cs, K.lookup p.2 = none) ∧ ∀ p ∈ cs, PySem.W.CodeHd h p.1 p.2) ∧ (∀ (s : Shared) (u : Value), BindsTo s fd ⟨[u], []⟩ [(x, u)]) ∧
    (∀ (H : Hp) (a : Addr) (ns : List Int), ns.length ≤ n → (∀ p ∈ cs, H p.2 = some (.tbl #[])) → SqL K H a (ns.map V.int) → sp [.ref a] H (fun v _ => v = .bl true) fun _ _ _ => False) ∧
    ∀ base : Heap, K.In base → base.Ns mainGlobals mg → (∀ p ∈ cs, LamX.TabB base mg p.1 p.2) → FnG l.prog w K mg base k fa fd [x] sp
theorem end_G {l : PySem.W.OpenLaw} {n k : Nat} {q : Program} {loose : List Str} {XP : (Str → Option Value) → Heap → Prop} {YP : World → Heap → Prop} {d : PySem.DefRec} {K : Params → PySem.W.Frag} {x : Str}
    (hn : l.most = some n) (hn2 : n ≤ sizeLine) (hdf : d.params.defaults = []) (hr : Room k callerA)
    (hY : ∀ (w : World) (h : Heap), YP w h → (K w.params).In h)
    (F : ∀ (w : World) (s0 : Shared) (mg mb : Str → Option Value) (fa : Addr) (h : Heap), PySem.W.Ground q loose [] XP w s0 mg mb h → (K w.params).In h → mg d.name = some (.ref fa) → LawG l w (K w.params) k n x mg fa h) :
    PySem.W.WalkO q loose XP YP l.row.toRowW d [] (fun f vs => PySem.call f vs) := by
  refine Att.attach_callB hn hdf fun w s0 s1 mg mb fa o pm cd doc a vs ns G Y ho hd hcd hmg hobj hints hlen hbits hg => ?_
  have KX := hY w _ Y
  obtain ⟨fd, cs, sp, ⟨hT, nT, C⟩, hb, hsp, hF⟩ := F w s0 mg mb fa _ G KX hmg
  exact top_call KX G.T.g G.T.b G.T.builtins G.T.nolimit hg hT nT C G.T.bmain hobj hints (Nat.le_trans hlen hn2) hr hF hb (fun H hH hS => hsp H a ns hlen hH hS)
/-! ### repr of data -/
theorem cr_repr {X : Cx} (hG : X.A.guards = some []) (hu : X.A.units + 64 < cLine) : CallR X (.builtin "repr") (fun vs H Q => ∃ (a : Addr) (d : PyData), vs = [.ref a] ∧ Dp X.K H (.ref a) d ∧ d.showable = true ∧ d.hasDict = false ∧ d.depth ≤ 60 ∧ d.shown.length ≤ sizeLine ∧ Q (.str d.shown) H) := by
  rintro pins s σ H vs us Q I r ⟨a, d, rfl, hd, sh, nd, dp, sz, q⟩
  rw [Vals.ref1 r]
  obtain ⟨as, rd⟩ := Dp.reads I d (.ref a) (.ref a) hd rfl
  exact repr_of_reads' rd sh (PyData.noDict_hsm nd) hG (by omega) (fun _ _ e => e) (fun h' u tk hk => ⟨.str d.shown, H, I.kept hk, ⟨_, rfl⟩, q⟩) sz
/-! ### sorted(xs, key=f), f a def whose answers are data -/
mutual
theorem Dp.on {K : PySem.W.Frag} {H H' : Hp} (s : Same H H') : ∀ {v : V} {d : PyData}, Dp K H v d → Dp K H' v d
  | _, _, .non => .non
  | _, _, .bl b => .bl b
  | _, _, .int i => .int i
  | _, _, .str x => .str x
  | _, _, .lst h r => .lst (h.imp (fun z => z.imp (s _ _) fun ⟨o, e⟩ => ⟨o, s _ _ e⟩) id) (DpAll.on s r)
  | _, _, .tup h r => .tup (h.imp (fun z => z.imp (s _ _) fun ⟨o, e⟩ => ⟨o, s _ _ e⟩) id) (DpAll.on s r)
theorem DpAll.on {K : PySem.W.Frag} {H H' : Hp} (s : Same H H') : ∀ {vs : List V} {ds : List PyData}, DpAll K H vs ds → DpAll K H' vs ds
  | _, _, .nil => .nil
  | _, _, .cons h r => .cons (Dp.on s h) (DpAll.on s r)
end
theorem DpAll.snoc {K : PySem.W.Frag} {H : Hp} {v : V} {d : PyData} : ∀ {vs : List V} {ds : List PyData}, DpAll K H vs ds → Dp K H v d → DpAll K H (vs ++ [v]) (ds ++ [d])
  | _, _, .nil, h => .cons h .nil
  | _, _, .cons a r, h => .cons a (DpAll.snoc r h)
theorem DpAll.len {K : PySem.W.Frag} {H : Hp} : ∀ {vs : List V} {ds : List PyData}, DpAll K H vs ds → vs.length = ds.length
  | _, _, .nil => rfl
  | _, _, .cons _ r => congrArg Nat.succ (DpAll.len r)
theorem vals_snoc {v : V} {u : Value} : ∀ {vs : List V} {us : List Value}, Vals vs us → RelV v u → Vals (vs ++ [v]) (us ++ [u])
  | _, _, .nil, h => .cons h .nil
  | _, _, .cons a r, h => .cons a (vals_snoc r h)
theorem vals_get {vs : List V} {us : List Value} (h : Vals vs us) : ∀ {i : Nat} {u : Value}, us[i]? = some u → ∃ v, vs[i]? = some v ∧ RelV v u := by
  induction h with
  | nil => intro i u e; cases e
  | cons a r ih =>
    intro i u e
    cases i with
    | zero => exact ⟨_, rfl, by rw [← Option.some.inj e]; exact a⟩
    | succ n => exact ih (i := n) e
theorem each_dp {X : Cx} {pins : List (Addr × Obj)} {σ : L2.St} {H : Hp} {s : Shared} (I : Inv X pins σ H s) : ∀ {vs : List V} {ds : List PyData} {us : List Value}, DpAll X.K H vs ds → Vals vs us → PySem.W.EachIs (fun v d => ∃ as, Reads s.heap v d as) us ds
  | _, _, _, .nil, .nil => .nil
  | _, _, _, .cons h r, .cons a t => .cons (Dp.reads I _ _ _ h a) (each_dp I r t)
theorem each_pairs : ∀ {es : List (V × PyData)} {us : List Value}, Vals (es.map (·.1)) us → PySem.W.EachIs (fun v (e : V × PyData) => RelV e.1 v) us es
  | [], _, .nil => .nil
  | _ :: _, _, .cons a t => .cons a (each_pairs t)
theorem pairs_each : ∀ {es : List (V × PyData)} {us : List Value}, PySem.W.EachIs (fun v (e : V × PyData) => RelV e.1 v) us es → Vals (es.map (·.1)) us
  | [], _, .nil => .nil
  | _ :: _, _, .cons a t => .cons a (pairs_each t)
abbrev keyed (es : List (V × PyData)) : List (V × PyData) := es.mergeSort (PySem.W.dataLe false fun e => e.2)
def rSortK (K : PySem.W.Frag) (f : Addr) (sp : Sp) : List V → List V → Hp → VK → Prop := fun vs zs H Q => ∃ (l : Addr) (es : List (V × PyData)), vs = [.ref l] ∧ zs = [.ref f] ∧ SqL K H l (es.map (·.1)) ∧ PySem.W.AllAlike (es.map (·.2)) ∧ PySem.W.Sortable (es.map (·.2)) ∧ (∀ e ∈ es, e.2.depth ≤ 60) ∧
  (∀ e ∈ es, ∀ H1, Same H H1 → ∀ Q1 : VK, (∀ v H2, Same H1 H2 → Dp K H2 v e.2 → Q1 v H2) → sp [e.1] H1 Q1 E0) ∧ ∀ (p : Addr) (H1 : Hp), H p = none → Same H H1 → H1 p = some (.lst ((keyed es).map (·.1))) → Q (.ref p) H1
theorem cr_sortK {X : Cx} {k : Nat} {f : Addr} {fd : FuncData} {p1 : Str} {sp : Sp} (F : FnOk X.prog X.w X.K X.mg X.base CX0 k f fd [p1] sp) (hr : Room (k + 2) X.A) (hb : Binds X.K fd [p1] []) : CallRK X (.builtin "sorted") [Str.ofString "key"] (rSortK X.K f sp) := by
  rintro pins s σ H vs zs us ws Q I r rz ⟨l, es, rfl, rfl, hs, al, so, dp, key, q⟩
  obtain rfl := Vals.ref1 r
  obtain rfl := Vals.ref1 rz
  obtain ⟨its, rv, hl, hz⟩ := I.list hs
  have hlen : its.length = es.length := by rw [← rv.length, List.length_map]
  have hZ : its.length ≤ sizeLine := by rw [← rv.length]; exact hz
  have rB : Room k X.A.in1.in1 := hr.in1.in1
  have uB : X.A.in1.in1.units + 64 < cLine := rB.units
  refine PySem.W.sorted_of_sort (vs := its) hl.isList hZ (PyProof.Rows.ksk_s1 _ _) (fun _ => PyProof.Rows.ksk_l1 _ _) fun E' => ?_
  show wpAny _ X.A.in1.in1 (Builtin.«list.sort» ⟨[.ref (s.heap.objs.size + 1)], [(Str.ofString "key", .ref f)]⟩) _ _ _
  rw [PyProof.Rows.ksk_t1]
  generalize ha : s.heap.objs.size + 1 = a
  have ho : (PySem.W.copyHeap s.heap its).get? a = some (seqObj "list" its.toArray 0) := by rw [← ha]; exact PySem.W.copyHeap_at s.heap its
  obtain ⟨e1, ho1⟩ : ∃ e1, ((PySem.W.copyHeap s.heap its).update a (Obj.mapSeq fun _ => (#[] : Array Value))).get? a = some (seqObj "list" #[] e1) := ⟨_, get?_update_seq ho fun _ => #[]⟩
  have hsz0 : a < (PySem.W.copyHeap s.heap its).objs.size := Heap.lt_size ho
  unfold PyProof.Rows.ksk_tree
  refine wpAny_bind (listItems_at ho rfl ?_)
  refine wpAny_bind (listUpdate_at ho rfl ?_ (by rw [List.size_toArray]; exact hZ) (Nat.zero_le _))
  refine wpAny_bind (seqEpoch_at ho1 rfl ?_)
  refine wpAny_bind (wpAny_newTuple ?_ hZ)
  refine wpAny_bind (wpAny_newList ?_ (Nat.zero_le _))
  refine wpAny_holding ?_
  generalize hk : (((PySem.W.copyHeap s.heap its).update a (Obj.mapSeq fun _ => (#[] : Array Value))).push (seqObj "tuple" its.toArray 0)).objs.size = kS
  generalize hg : (((PySem.W.copyHeap s.heap its).update a (Obj.mapSeq fun _ => (#[] : Array Value))).push (seqObj "tuple" its.toArray 0)).push (seqObj "list" #[] 0) = g
  have size_g : s.heap.objs.size < kS := by
    rw [← hk, size_push', Heap.size_update]
    omega
  have hka : kS ≠ a := by
    rw [← hk, size_push', Heap.size_update]
    omega
  have old : ∀ b o, s.heap.get? b = some o → g.get? b = some o := fun b o e => by
    rw [← hg]
    refine Heap.get?_push_of_some _ (Heap.get?_push_of_some _ ((Heap.get?_update_ne _ _ _ _ (Nat.ne_of_lt ?_)).trans (PySem.W.copyHeap_old e)))
    exact Nat.lt_of_lt_of_le (Heap.lt_size e) (by omega)
  have ga : g.get? a = some (seqObj "list" #[] e1) := by
    rw [← hg]
    exact Heap.get?_push_of_some _ (Heap.get?_push_of_some _ ho1)
  have gk : g.get? kS = some (seqObj "list" #[] 0) := by
    rw [← hg, ← hk]
    exact Heap.get?_push_size _ rfl
  have fa : ∀ {H1 : Hp}, H1 a = none → FpOk X pins H1 a := fun n => I.fpOk (by omega) n
  have fk : ∀ {H1 : Hp}, H1 kS = none → FpOk X pins H1 kS := fun n => I.fpOk (by omega) n
  -- the two lists of the sort are held as pins
  have pin : ∀ {H1 : Hp} {s1 : Shared} {kA : Array Value} {n : Nat}, Inv X pins σ H1 s1 → H1 a = none → H1 kS = none → s1.heap.get? a = some (seqObj "list" #[] e1) → s1.heap.get? kS = some (seqObj "list" kA n) → Inv X (pins ++ [(a, seqObj "list" #[] e1), (kS, seqObj "list" kA n)]) σ H1 s1 := fun {H1 s1 kA n} J na nk ea ek => by
    refine J.pins_of fun p hp => ?_
    rcases List.mem_append.mp hp with h | h
    · exact J.pin p (List.mem_append_right _ h)
    · rcases List.mem_cons.mp h with rfl | h
      · exact ⟨ea, na, (fa na).2.1, (fa na).2.2.1, fun v z => by cases z⟩
      · rw [List.mem_singleton.mp h]
        exact ⟨ek, nk, (fk nk).2.1, (fk nk).2.2.1, fun v z => by cases z⟩
  have I0 : Inv X pins σ H { s with heap := g } := I.kept (t' := s.toks) old
  have na0 : H a = none := I.hok.fresh (by omega)
  have nk0 : H kS = none := I.hok.fresh (by omega)
  unfold PyProof.Rows.ksk_rest
  refine wpAny_bind (wpAny_rule ?_)
  first
    | rw [List.forIn_toArray]
    | (rw [← Array.forIn_toList]; simp only [List.toList_toArray])
  refine wpAny_bind (PyProof.Rows.ksk_fold (fun i s' => ∃ H1 kA n kv, Same H H1 ∧ Inv X (pins ++ [(a, seqObj "list" #[] e1), (kS, seqObj "list" kA n)]) σ H1 s' ∧ Vals kv kA.toList ∧ DpAll X.K H1 kv ((es.take i).map (·.2))) its 0 _
    ⟨H, #[], 0, [], fun _ _ e => e, pin I0 na0 nk0 ga gk, .nil, .nil⟩ ?step ?done)
  case step =>
    rintro j u s1 hu ⟨H1, kA, n, kv, sm, J, vk, dk⟩
    rw [Nat.zero_add] at dk ⊢
    obtain ⟨v, hv, rel⟩ := vals_get rv hu
    rw [List.getElem?_map] at hv
    obtain ⟨e, he, rfl⟩ := Option.map_eq_some_iff.mp hv
    have pa := J.pin (a, seqObj "list" #[] e1) (by simp)
    have pk := J.pin (kS, seqObj "list" kA n) (by simp)
    have hj : j < its.length := (List.getElem?_eq_some_iff.mp hu).1
    have ck : kA.size ≤ its.length := by
      have h1 : kv.length = kA.size := vk.length.trans Array.length_toList
      have h2 := DpAll.len dk
      rw [List.length_map, List.length_take] at h2
      omega
    have E1 := J.env0
    have sp1 := key e (List.mem_of_getElem? he) H1 sm (fun v H2 => Same H1 H2 ∧ Dp X.K H2 v e.2) fun v H2 h1 h2 => ⟨h1, h2⟩
    refine wpAny_bind (wpAny_attempt ?_)
    refine wpAny_call (codeAny_mono (F.run X.A.in1.in1 X.stack s1 H1 ⟨[u], []⟩ [u] [e.1] _ E0 rB ⟨E1.frames, E1.mod, E1.bs, E1.bsz, E1.funs, E1.frf, E1.hok, E1.bare⟩ (hb s1 [u] J.kIn rfl) (.cons rel .nil) sp1) ?_)
    rintro r s2 hq
    cases r with
    | error e => exact False.elim hq
    | ok fl =>
      cases fl with
      | next => exact False.elim hq
      | brk => exact False.elim hq
      | cont => exact False.elim hq
      | ret x =>
        obtain ⟨v2, H2, J2, rel2, sm2, dp2⟩ := J.after hq
        have pa2 := J2.pin (a, seqObj "list" #[] e1) (by simp)
        have pk2 := J2.pin (kS, seqObj "list" kA n) (by simp)
        have J3 : Inv X pins σ H2 s2 := J2.unpinned
        obtain ⟨c2, hc2⟩ : ∃ c2, (s2.heap.update kS (Obj.mapSeq (·.push x))).get? kS = some (seqObj "list" (kA.push x) c2) := ⟨_, get?_update_seq pk2.1 (·.push x)⟩
        have sb := Heap.SameBut.update s2.heap kS (Obj.mapSeq (·.push x))
        show wpAny _ _ _ _ _ _
        refine wpAny_bind (listUpdate_at pk2.1 rfl ?_ (Nat.le_trans ck hZ) (Nat.le_trans (Nat.le_of_eq (Array.size_push ..)) (Nat.succ_le_succ (Nat.le_trans ck hZ))))
        have J4 : Inv X pins σ H2 { s2 with heap := s2.heap.update kS (Obj.mapSeq (·.push x)), toks := s2.toks } := J3.turnedL (ch := [kS]) (fun b o hb e => (sb.2 b (fun z => hb (by simp [z]))).trans e) fun b hb => by rw [List.mem_singleton.mp hb]; exact fk pk2.2.1
        refine wpAny_pure ⟨rfl, H2, kA.push x, c2, kv ++ [v2], fun b o e => sm2 b o (sm b o e), pin J4 pa2.2.1 pk2.2.1 ((sb.2 a hka.symm).trans pa2.1) hc2, ?_, ?_⟩
        · rw [Array.toList_push]
          exact vals_snoc vk rel2
        · rw [List.take_add_one, he, List.map_append]
          exact DpAll.snoc (DpAll.on sm2 dk) dp2
  case done =>
    rintro s1 ⟨H1, kA, n, kv, sm, J, vk, dk⟩
    have pa := J.pin (a, seqObj "list" #[] e1) (by simp)
    have pk := J.pin (kS, seqObj "list" kA n) (by simp)
    have J1 : Inv X pins σ H1 s1 := J.unpinned
    rw [Nat.zero_add, hlen, List.take_length] at dk
    have hk1 := each_dp J dk vk
    have sz : kA.size = its.length := by
      have h1 : kv.length = kA.size := vk.length.trans Array.length_toList
      have h2 := DpAll.len dk
      rw [List.length_map] at h2
      omega
    have hu : ∀ d, d ∈ es.map (·.2) → X.A.in1.in1.units + d.depth < cLine := fun d hd => by
      obtain ⟨e, he, rfl⟩ := List.mem_map.mp hd
      have := dp e he
      omega
    obtain ⟨G, g1, g2⟩ := L2.restrict s1.heap fun b => decide (b ≠ kS)
    have kp : PySem.W.KeepsBut a G s1.heap := fun b o _ e => by
      by_cases z : b = kS
      · rw [g2 b (decide_eq_false fun h => h z)] at e
        cases e
      · rw [g1 b (decide_eq_true z)] at e
        exact e
    refine wpAny_bind (listItems_at pk.1 rfl ?_)
    refine PySem.W.keyH_end (κ := PySem.W.dataKind s1.heap (es.map (·.2))) (h₁ := G) kp (g2 kS (decide_eq_false fun h => h rfl)) pk.1 pa.1 hka (PySem.W.SortsAt.data hk1 al so hu) sz hZ fun h3 tk3 c k3 n3 => ⟨rfl, ?_⟩
    have ko : PySem.W.KeyedOut false (es.map (·.2)) its (PySem.W.sortVals (PySem.W.dataKind s1.heap (es.map (·.2))) false kA.toList its) := ⟨s1.heap, kA.toList, al, rfl, hk1⟩
    have out := pairs_each (PySem.W.keyedOut_each (fun e : V × PyData => e.2) ko (each_pairs rv))
    have J2 : Inv X pins σ H1 { s1 with heap := h3, toks := tk3 } := J1.turnedL (ch := [a, kS]) (fun b o hb e => k3 b o (fun z => hb (by simp [z])) ((g1 b (decide_eq_true fun z => hb (by simp [z]))).trans e)) fun b hb => by
      rcases List.mem_cons.mp hb with rfl | h
      · exact fa pa.2.1
      · rw [List.mem_singleton.mp h]
        exact fk pk.2.1
    have lo : ((keyed es).map (·.1)).length ≤ sizeLine := by
      rw [List.length_map, List.length_mergeSort, ← hlen]
      exact hZ
    refine ⟨.ref a, upd H1 a (.lst ((keyed es).map (·.1))), J2.take (it := a) (fun b o _ e => e) (fa pa.2.1) ⟨lo, _, c, out, n3⟩, rfl, q a _ na0 (fun b o e => (upd_ne (ne_of_none e na0)).trans (sm b o e)) upd_same⟩
/-! ### generator expressions whose parts may call: the generator's own frame as a context -/
abbrev gxc (X : Cx) (A' : Around) (s : Shared) (H : Hp) (ce : Env) (fp : List Addr) : Cx :=
  { X with A := A', s_0 := s, H_0 := H, env := ce, outer := X.stack, stack := ce :: X.stack, ex := fp, fn := fun _ => false, calm := true, pn := [], xe := fun _ _ => False }
abbrev genE (X : Cx) (scope : Scope) (C : Addr) (code : Value) : Env := genEnv scope (cloFrom X.env.cells scope.names []) C code builtinsNs X.env
structure GOk (N : List Str) (sc scope : Scope) (own : List (Str × Nat)) : Prop where
  blk : BlkOk N sc scope own
  co : scope.isCoroutine = false
  cell : ∀ y ∈ scope.names, y.2 ≠ .cell
  dot : scope.names.lookup (".0" : Str) = some NameKind.local
section
variable {X : Cx} {pins : List (Addr × Obj)} {σ : L2.St} {H : Hp} {s : Shared}
theorem gx_free {N : List Str} {scope : Scope} {own : List (Str × Nat)} (I : Inv X pins σ H s) (ok : GOk N X.env.scope scope own) : ∀ y ∈ scope.names, y.2 = .free → ∃ c, X.env.cells.lookup y.1 = some c := fun y hy e => by
  rcases ok.blk.free y hy e with k | k
  · exact I.ok.has _ (.inl k)
  · exact I.ok.has _ (.inr k)
/-- the generator's frame and the generator itself have come -/
theorem gx_start {scope : Scope} {own : List (Str × Nat)} {fp : List Addr} {A' : Around} {code it : Value} {h' : Heap} {oG : Obj} {g' : Array GenState} {t' : Nat} (I : Inv X pins σ H s) (ok : GOk X.N X.env.scope scope own) (hN : X.N.Nodup)
    (hfp : ∀ b ∈ fp, FpOk X pins H b ∧ b < s.heap.objs.size) (hA : A'.handled = none) (hfr : A'.frames = some (genE X scope s.heap.objs.size code :: X.stack))
    (hn : h'.Ns s.heap.objs.size (fun y => if y = ".0" then some it else none)) (hs : Heap.SameBut s.heap.objs.size (s.heap.push { cls := .type "frame", data := .dict #[] }) h')
    (hG : ∀ v, oG.data ≠ .cell v) (hb : AllBare g') (fG : oG.isFreed = false) :
    Inv (gxc X A' s H (genE X scope s.heap.objs.size code) fp) [(h'.objs.size, oG)] (wipe σ (own.map (·.2))) H { s with gens := g', toks := t', heap := h'.push oG } := by
  have sz : h'.objs.size = s.heap.objs.size + 1 := by rw [hs.1, Heap.size_push]
  have k1 : ∀ b o, s.heap.get? b = some o → h'.get? b = some o := fun b o e => hs.extBut b o (Nat.ne_of_lt (Heap.lt_size e)) (Heap.get?_push_of_some _ e)
  have kp : ∀ b o, s.heap.get? b = some o → (h'.push oG).get? b = some o := fun b o e => Heap.get?_push_of_some _ (k1 b o e)
  have fr := gx_free I ok
  have cm : ∀ {y c}, (cloFrom X.env.cells scope.names []).lookup y = some c → X.env.cells.lookup y = some c ∧ c < s.heap.objs.size ∧ (y, NameKind.free) ∈ scope.names := fun {y c} e => by
    rcases cloFrom_mem (PySem.mem_of_lookup e) with hm | ⟨h1, rfl⟩
    · cases hm
    · obtain ⟨c, hc⟩ := fr _ h1 rfl
      rw [hc]
      obtain ⟨w, z⟩ := I.cell _ _ hc
      exact ⟨rfl, z.lt, h1⟩
  have has : ∀ {y}, (y, NameKind.free) ∈ scope.names → ∃ c, (cloFrom X.env.cells scope.names []).lookup y = some c := fun {y} hy => mem_lookup (cloFrom_has (cells := X.env.cells) (acc := []) hy)
  have uq : ∀ {y k}, (y, k) ∈ scope.names → scope.names.lookup y = some k := fun {y k} h => ok.blk.uniq _ h
  have okG : (gxc X A' s H (genE X scope s.heap.objs.size code) fp).Ok := by
    refine ⟨I.ok.mod, ok.blk.kind, I.ok.glob, rfl, Nat.le_refl _, fun y z c e1 e2 => I.ok.inj y z c (cm e1).1 (cm e2).1, fun y hy => ?_, fun y c z _ => (nomatch z), fun _ => hA, hfr, .inr ⟨rfl, rfl⟩,
      fun b hb => ⟨Nat.ne_of_lt (hfp b hb).2, fun y c e z => (hfp b hb).1.2.2.2.2.1 y c (cm e).1 z⟩, I.bs, Nat.le_trans I.ok.bsz I.sz, fun b o e hb => ?_, fun b hb z => ?_, I.stack, I.stkFree⟩
    · rcases hy with hy | hy
      · exact absurd rfl (ok.cell _ (PySem.mem_of_lookup (show scope.names.lookup y = some .cell from hy)))
      · exact has (PySem.mem_of_lookup (show scope.names.lookup y = some .free from hy))
    · rcases (hfp b hb).1.2.2.2.1 with z | z
      · exact I.ok.noex b o e z
      · exact absurd (Nat.lt_of_lt_of_le (Heap.lt_size e) (Nat.le_trans I.ok.bsz z)) (Nat.lt_irrefl _)
    · rcases List.mem_cons.mp (I.stkSub b z) with z | z
      · exact (hfp b hb).1.2.1 z
      · exact (hfp b hb).1.2.2.1 z
  refine ⟨okG, rfl, hb, Un.kept kp, ⟨_, hn.push oG, fun i y v e1 e2 e3 => ?_⟩, fun y c e => ?_, I.hok.fresh (Nat.le_refl _), fun y c e => I.freeC y c (cm e).1, fun p hp => ?_, I.hok.kept kp, by rw [wipe_length]; exact I.len⟩
  · obtain ⟨e2, hne⟩ := wipe_some e2
    have key : scope.names.lookup y = some .free := by
      have no : ∀ k, scope.names.lookup y = some k → ¬ (k = .local ∨ k = .cell) := fun k hk hh => by
        rcases ok.blk.own _ (PySem.mem_of_lookup hk) hh with e' | e'
        · obtain ⟨p, hp, hpy⟩ := List.mem_map.mp e'
          have e4 := ok.blk.ix p hp
          have : p.1 = y := hpy
          rw [this] at e4
          exact hne (List.mem_map.mpr ⟨p, hp, nodup_ix hN e4 e1⟩)
        · exact e' (List.mem_of_getElem? e1)
      rcases (show Vis scope y from e3) with e3 | e3 | e3
      · exact absurd (.inl rfl) (no _ e3)
      · exact absurd (.inr rfl) (no _ e3)
      · exact e3
    obtain ⟨m, _, hl⟩ := I.loc
    have fy := PySem.mem_of_lookup key
    have hvis : Vis X.env.scope y := (ok.blk.free _ fy rfl).elim (fun k => .inr (.inl k)) (fun k => .inr (.inr k))
    obtain ⟨u, r, q⟩ := hl i y v e1 e2 hvis
    refine ⟨u, r, .inr ⟨.inr key, ?_⟩⟩
    obtain ⟨c, h1⟩ := has fy
    rcases q with ⟨k, _⟩ | ⟨_, c', e', z⟩
    · have k : X.env.scope.names.lookup y = some .local := k
      rcases ok.blk.free _ fy rfl with k' | k' <;> rw [show X.env.scope.names.lookup y = _ from k'] at k <;> cases k
    · have h2 := (cm h1).1
      rw [h2] at e'
      cases e'
      exact ⟨c, h1, z.keeps kp⟩
  · obtain ⟨v, z⟩ := I.cell y c (cm e).1
    exact ⟨v, z.keeps kp⟩
  · have hp' : p = (h'.objs.size, oG) := by simpa using hp
    subst hp'
    have nl : s.heap.objs.size ≤ h'.objs.size := by omega
    refine ⟨Heap.get?_push_size _ fG, I.hok.fresh nl, by show h'.objs.size ≠ s.heap.objs.size; omega, fun z => ?_, hG⟩
    rcases List.mem_cons.mp (I.stkSub _ z) with z | z
    · have := I.lt
      rw [← z] at this
      exact Nat.lt_irrefl _ (Nat.lt_of_lt_of_le this nl)
    · exact I.nofs nl z
end
/-! ### the generator's turns -/
abbrev gxl (X : Cx) (Ag : Around) (elt tg iter : Expr) (ifs : List Expr) (scope : Scope) (gpos : Pos) (it : Addr) (ce : Env) (s3 : Shared) (H3 : Hp) (fp : List Addr) : Cx :=
  gxc X (Ag.over (.compLoop (.GeneratorExp elt [⟨tg, iter, ifs, 0⟩] scope gpos) 0 (.ref it) .none ce) []) s3 H3 ce fp
/-- what stands between two turns: at most m turns are left, the i-th is next -/
def GTurns (J : It) (g : TG) (tt : TT) (te : TE) (vs : List Nat) (σ : L2.St) (W : Nat → Nat → Hp → Prop) (Out : Nat → Nat → V → Hp → Prop) (Fin : Hp → Prop) : Prop :=
  ∀ i m H, W i m H → (J.stop i H ∧ Fin H) ∨ (J.go i H ∧ ∀ x H', J.yld i H x H' → g x (wipe σ vs) H' fun σ2 H2 => wipe σ2 vs = wipe σ vs ∧ tt σ2 H2 fun b H3 =>
    if b = true then te σ2 H3 fun y H4 => Out i m y H4 else ∃ m', m' < m ∧ W (i + 1) m' H3)
def gxY (IG : Hp → Shared → Prop) (tn : Nat → Heap → Prop) (fp : List Addr) (W : Nat → Nat → Hp → Prop) (Out : Nat → Nat → V → Hp → Prop) (gn : Nat) : Protocol := fun n _ v s kap =>
  ∃ i m y H, RelV y v ∧ IG H s ∧ tn (i + 1) s.heap ∧ (∀ b ∈ fp, H b = none) ∧ Out i m y H ∧ gn < s.gens.size ∧ m ≤ n ∧
    ∀ m', m' < m → W (i + 1) m' H → ∀ s'' : Shared, IG H s'' → tn (i + 1) s''.heap → gn < s''.gens.size → kap (.send .none) s''
def gxR (IG : Hp → Shared → Prop) (Fin : Hp → Prop) : Nat → Shared → Shared → Prop := fun _ _ s1 => ∃ H, IG H s1 ∧ Fin H
section
variable {X : Cx} {σ : L2.St} {Ag : Around} {tg elt iter : Expr} {ifs : List Expr} {scope : Scope} {gpos : Pos} {it a : Addr} {oG : Obj} {ce : Env} {fp : List Addr} {s3 : Shared} {H3 : Hp} {tn : Nat → Heap → Prop} {J : It} {vs : List Nat} {gn : Nat}
  {g : TG} {tt : TT} {te : TE} {W : Nat → Nat → Hp → Prop} {Out : Nat → Nat → V → Hp → Prop} {Fin : Hp → Prop}
theorem gx_stat {σ' : L2.St} {H' : Hp} {s' : Shared} {A' : Around} (I' : Inv (gxc X A' s3 H3 ce fp) [(a, oG)] σ' H' s') (na : a ∉ fp) (hn : ∀ b ∈ fp, H' b = none) : ∀ b ∈ fp, FpOk (gxc X A' s3 H3 ce fp) [(a, oG)] H' b := fun b hb => by
  refine ⟨hn b hb, (I'.ok.exf b hb).1, I'.ok.exfs b hb, .inl hb, fun x c e => (I'.ok.exf b hb).2 x c e, fun p hp z => ?_⟩
  have hp' : p = (a, oG) := by simpa using hp
  subst hp'
  have z' : a = b := z
  exact na (z' ▸ hb)
theorem gx_seg (T : Turn X.prog X.w X.K tg J fp it tn) (na : a ∉ fp) (hco : ce.scope.isCoroutine = false)
    (pg : PG (gxl X Ag elt tg iter ifs scope gpos it ce s3 H3 fp) tg g)
    (pt : PTs (gxl X Ag elt tg iter ifs scope gpos it ce s3 H3 fp) ifs tt)
    (pe : PE (gxl X Ag elt tg iter ifs scope gpos it ce s3 H3 fp) elt te)
    (turn : GTurns J g tt te vs σ W Out Fin) (IG : Hp → Shared → Prop)
    (hIG : IG = fun H s => Inv (gxl X Ag elt tg iter ifs scope gpos it ce s3 H3 fp) [(a, oG)] (wipe σ vs) H s) :
    ∀ (m n i : Nat) (H : Hp) (s s0 : Shared), m < n → IG H s → tn i s.heap → (∀ b ∈ fp, H b = none) → W i m H → gn < s.gens.size →
      Seg (model X.prog X.w) Ag (fun n s0 r s1 => r = .ok .next ∧ gxR IG Fin n s0 s1) (gxY IG tn fp W Out gn) n s0
        (.compLoop (.GeneratorExp elt [⟨tg, iter, ifs, 0⟩] scope gpos) 0 (.ref it) .none ce)
        ((model X.prog X.w).den (.compLoop (.GeneratorExp elt [⟨tg, iter, ifs, 0⟩] scope gpos) 0 (.ref it) .none ce)) [] s := by
  intro m
  induction m using Nat.strongRecOn with
  | ind m ih =>
  intro n i H s s0 hmn I0 st n0 w0 hg
  have I : Inv (gxl X Ag elt tg iter ifs scope gpos it ce s3 H3 fp) [(a, oG)] (wipe σ vs) H s := by
    rw [hIG] at I0
    exact I0
  show Seg _ Ag _ _ _ s0 _ ((compTurn (.GeneratorExp elt [⟨tg, iter, ifs, 0⟩] scope gpos) 0 (.ref it) .none ce).onRaise (leaving ce)) [] s
  rw [compTurn_gen, Sem.onRaise_eq_wrap]
  refine seg_bind_wrap (wpAny_standAt ?_)
  rcases turn i m H w0 with ⟨stop, fin⟩ | ⟨go, step⟩
  · refine seg_bind_wrap (thnF (T.done (gxl X Ag elt tg iter ifs scope gpos it ce s3 H3 fp) rfl rfl rfl rfl i [(a, oG)] s _ H (fun _ _ => False) I (gx_stat I na n0) st stop) fun r s6 ⟨hr, I6⟩ => ?_)
    subst hr
    exact seg_end (.ok .next) ⟨rfl, H, by rw [hIG]; exact I6, fin⟩
  · refine seg_bind_wrap (GenW.wpAny_gsz hg (thnF (T.item (gxl X Ag elt tg iter ifs scope gpos it ce s3 H3 fp) rfl rfl rfl rfl i [(a, oG)] s _ H (fun _ _ => False) I (gx_stat I na n0) st go) fun r s6 ⟨u, hr, h6⟩ hg6 => ?_))
    subst hr
    refine seg_bind_wrap (GenW.wpAny_gsz hg6 (thnF h6 fun _ s7 ⟨x, H7, I7, r7, y7, st7, n7⟩ hg7 => ?_))
    have I7' := I7.pinned (gx_stat I7 na n7) (T.obj _ _ st7)
    refine seg_bind_wrap (GenW.wpAny_gsz hg7 (thnF (pg.run _ s7 _ H7 x u _ I7' r7 (step x H7 y7)) fun _ s8 ⟨σ8, H8, I8, hw8, q8⟩ hg8 => ?_))
    refine seg_bind_wrap (GenW.wpAny_gsz hg8 (thnF (pt.run _ s8 σ8 H8 _ I8 q8) fun b s9 ⟨H9, I9, q9⟩ hg9 => ?_))
    have hl : (wipe σ vs).length = σ8.length := by rw [← hw8, wipe_length]
    have back : ∀ {s' : Shared} {H' : Hp}, Inv (gxl X Ag elt tg iter ifs scope gpos it ce s3 H3 fp) ([(a, oG)] ++ pinsAt fp s7.heap) σ8 H' s' →
        IG H' s' ∧ tn (i + 1) s'.heap ∧ ∀ b ∈ fp, H' b = none := fun {s' H'} I' => by
      have pin' : ∀ b ∈ fp, ∀ o, s7.heap.get? b = some o → s'.heap.get? b = some o ∧ H' b = none := fun b hb o e =>
        let z := I'.pin (b, o) (List.mem_append_right _ (List.mem_append_right _ (mem_pinsAt hb e)))
        ⟨z.1, z.2.1⟩
      refine ⟨?_, T.keep _ _ _ st7 fun b hb o e => (pin' b hb o e).1, fun b hb => ?_⟩
      · rw [hIG]
        refine I'.unpinned.weak hl fun j v e => ?_
        rw [← hw8] at e
        exact (wipe_some e).1
      · obtain ⟨o, e, _⟩ := T.obj _ _ st7 b hb
        exact (pin' b hb o e).2
    cases b with
    | false =>
      simp only [Bool.false_eq_true, if_false] at q9 ⊢
      obtain ⟨m', hm, w'⟩ := q9
      obtain ⟨b1, b2, b3⟩ := back I9
      exact seg_again rfl (ih m' hm n (i + 1) H9 s9 s0 (Nat.lt_trans hm hmn) b1 b2 b3 w' hg9)
    | true =>
      simp only [if_true] at q9 ⊢
      have hy : ∀ v, yieldOut ce v = yieldValue v := fun v => by simp only [yieldOut, hco, Bool.false_eq_true, if_false]
      simp only [hy]
      rw [Sem.bind_eq_wrap', Sem.bind_eq_wrap', Sem.wrap_wrap, Sem.wrap_wrap]
      obtain ⟨n', rfl⟩ : ∃ n', n = n' + 1 := ⟨n - 1, by omega⟩
      refine seg_wrap (GenW.wpAny_gsz hg9 (thnF (pe.run _ s9 σ8 H9 _ I9 q9) fun z s10 ⟨yv, H10, I10, r10, out⟩ hg10 => ?_))
      obtain ⟨b1, b2, b3⟩ := back I10
      refine seg_at (seg_yield rfl rfl rfl ⟨i, m, yv, H10, r10, b1, b2, b3, out, hg10, by omega, fun m' hm w' s'' I'' st'' hg'' => ?_⟩)
      exact seg_again rfl (ih m' hm n' (i + 1) H10 s'' s'' (by omega) I'' st'' b3 w' hg'')
theorem gx_seg0 (T : Turn X.prog X.w X.K tg J fp it tn) {n : Nat} {s0 s : Shared} {R : GenEnd} {Y : Protocol} (st : tn 0 s.heap)
    (loop : Seg (model X.prog X.w) Ag R Y n s0 (.compLoop (.GeneratorExp elt [⟨tg, iter, ifs, 0⟩] scope gpos) 0 (.ref it) .none ce)
        ((model X.prog X.w).den (.compLoop (.GeneratorExp elt [⟨tg, iter, ifs, 0⟩] scope gpos) 0 (.ref it) .none ce)) [] s) :
    Seg (model X.prog X.w) Ag R Y n s0 (.compStart (.GeneratorExp elt [⟨tg, iter, ifs, 0⟩] scope gpos) 0 (.ref it) .none ce)
      ((model X.prog X.w).den (.compStart (.GeneratorExp elt [⟨tg, iter, ifs, 0⟩] scope gpos) 0 (.ref it) .none ce)) [] s := by
  show Seg _ Ag _ _ _ s0 _ ((compStart (.GeneratorExp elt [⟨tg, iter, ifs, 0⟩] scope gpos) 0 (.ref it) .none ce).onRaise (leaving ce)) [] s
  unfold compStart
  rw [Sem.onRaise_eq_wrap]
  show Seg _ Ag _ _ _ s0 _ ((ask >>= _).wrap _ _ _ _) [] s
  refine seg_bind_wrap (wpAny_askSetting ?_)
  split
  · exact seg_again rfl loop
  · refine seg_bind_wrap (wpAny_rule ?_)
    show Seg _ Ag _ _ _ s0 _ ((standAt iter.pos >>= _).wrap _ _ _ _) [] s
    exact seg_bind_wrap (wpAny_standAt (seg_bind_wrap (T.self _ 0 s _ _ st (seg_again rfl loop))))
end
/-! ### the generator asked for its next -/
structure IGok (X : Cx) (pins : List (Addr × Obj)) (σ : L2.St) (a : Addr) (gn : Nat) (IG : Hp → Shared → Prop) : Prop where
  bare : ∀ {H s}, IG H s → AllBare s.gens
  gens : ∀ {H s g'}, IG H s → AllBare g' → IG H { s with gens := g' }
  kept : ∀ {H : Hp} {s : Shared} {h' : Heap} {tk : Nat}, IG H s → (∀ b o, s.heap.get? b = some o → h'.get? b = some o) → IG H { s with heap := h', toks := tk }
  isgen : ∀ {H s}, IG H s → s.heap.IsGen a gn
  nolim : ∀ {H s}, IG H s → s.heap.NoLimit
  back : ∀ {H s}, IG H s → Inv X pins σ H s
def GRun (X : Cx) (Ac : Around) (IG : Hp → Shared → Prop) (tn : Nat → Heap → Prop) (fp : List Addr) (W : Nat → Nat → Hp → Prop) (Out : Nat → Nat → V → Hp → Prop) (Fin : Hp → Prop) (gn i m n : Nat) (H : Hp) (s : Shared) : Prop :=
  IG H s ∧ tn i s.heap ∧ (∀ b ∈ fp, H b = none) ∧ W i m H ∧ ∃ gs, s.gens[gn]? = some gs ∧ m < n ∧ ∀ s'' : Shared, IG H s'' → tn i s''.heap → gn < s''.gens.size →
    gs.Goes (model X.prog X.w) Ac.in1 (fun n s0 r s1 => r = .ok .next ∧ gxR IG Fin n s0 s1) (gxY IG tn fp W Out gn) n (.send .none) s''
theorem bare_set {s : Shared} {gn : Nat} {x : GenState} (h : AllBare s.gens) (hx : x.bare = true) : AllBare (s.setGen gn x).gens := by
  intro y hy
  have hy' : y ∈ s.gens.setIfInBounds gn x := hy
  rcases Array.mem_or_eq_of_mem_setIfInBounds hy' with h1 | h1
  · exact h y h1
  · rw [h1]; exact hx
section
variable {X : Cx} {pins : List (Addr × Obj)} {σ : L2.St} {Ac : Around} {IG : Hp → Shared → Prop} {tn : Nat → Heap → Prop} {fp : List Addr} {W : Nat → Nat → Hp → Prop} {Out : Nat → Nat → V → Hp → Prop} {Fin : Hp → Prop} {a : Addr} {gn : Nat}
theorem GRun.lt {i m n : Nat} {H : Hp} {s : Shared} (G : GRun X Ac IG tn fp W Out Fin gn i m n H s) : gn < s.gens.size := by
  obtain ⟨_, _, _, _, gs, h, _⟩ := G
  exact (Array.getElem?_eq_some_iff.mp h).1
/-- what a consumer lays beside it changes nothing -/
theorem GRun.kept (ig : IGok X pins σ a gn IG) (hk : ∀ i h h', tn i h → (∀ b o, h.get? b = some o → h'.get? b = some o) → tn i h') {i m n : Nat} {H : Hp} {s : Shared} {h' : Heap} {tk : Nat} (G : GRun X Ac IG tn fp W Out Fin gn i m n H s)
    (k : ∀ b o, s.heap.get? b = some o → h'.get? b = some o) : GRun X Ac IG tn fp W Out Fin gn i m n H { s with heap := h', toks := tk } := by
  obtain ⟨g1, g2, g3, g4, gs, g5, g6, g7⟩ := G
  exact ⟨ig.kept g1 k, hk _ _ _ g2 k, g3, g4, gs, g5, g6, g7⟩
theorem gx_next {E : Value → Shared → Prop} {Q : Option Value → Shared → Prop} {i m n : Nat} {H : Hp} {s : Shared} (ig : IGok X pins σ a gn IG) (hA : Ac.handled = none) (hd : Ac.depth < recursionLimit) (G : GRun X Ac IG tn fp W Out Fin gn i m n H s)
    (hout : ∀ v y H' s' i' m', RelV y v → Out i' m' y H' → IG H' s' → (∀ m'', m'' < m' → W (i' + 1) m'' H' → GRun X Ac IG tn fp W Out Fin gn (i' + 1) m'' (n - 1) H' s') → Q (some v) s')
    (hfin : ∀ H' s', Fin H' → IG H' s' → Q none s') : wpAny (model X.prog X.w) Ac (pyNext (.ref a)) Q E s := by
  have lt := G.lt
  obtain ⟨g1, g2, g3, g4, gs, g5, g6, g7⟩ := G
  have run : IG H (s.setGen gn .running) := ig.gens g1 (bare_set (ig.bare g1) rfl)
  refine wpAny_pyNext_genexpQ (P := gxR IG Fin) hA (ig.nolim g1) hd (ig.isgen g1) g5 (g7 _ run g2 (by rw [GenW.setGen_size]; exact lt)) (fun v s1 gs' hb hv => ?_) fun s1 hp h' hk => ?_
  · obtain ⟨i', m', y, H', r, I1, st1, nf, out, hg1, hmn, kap⟩ := hv
    have I2 : IG H' (s1.setGen gn gs') := ig.gens I1 (bare_set (ig.bare I1) hb)
    refine hout v y H' _ i' m' r out I2 fun m'' hm w' => ⟨I2, st1, nf, w', gs', ?_, by omega, fun s'' J'' st'' hg'' => ?_⟩
    · show (s1.gens.setIfInBounds gn gs')[gn]? = some gs'
      rw [Array.getElem?_setIfInBounds_self_of_lt hg1]
    · have q := kap m'' hm w' s'' J'' st'' hg''
      cases n with
      | zero => exact q.elim
      | succ n => exact q
  · obtain ⟨H', I1, fin⟩ := hp
    exact hfin H' _ fin (ig.kept (tk := (s1.setGen gn .finished).toks) (ig.gens I1 (bare_set (ig.bare I1) rfl)) hk)
end
/-! ### the generator made -/
section
variable {X : Cx} {pins : List (Addr × Obj)} {σ : L2.St} {H : Hp} {s : Shared}
theorem over_gen {Ag : Around} {stack : List Env} {elt tg iter : Expr} {ifs : List Expr} {scope : Scope} {gpos : Pos} {it : Value} {ce : Env} (hf : Ag.frames = some stack) :
    (Ag.over (.compLoop (.GeneratorExp elt [⟨tg, iter, ifs, 0⟩] scope gpos) 0 it .none ce) []).frames = some (ce :: stack) := by
  show pushEnvs [ce] (pushEnvs [] Ag.frames) = _
  rw [hf]
  rfl
theorem room_gen {Ag : Around} {k : Nat} {elt tg iter : Expr} {ifs : List Expr} {scope : Scope} {gpos : Pos} {it : Value} {ce : Env} (h1 : Ag.handled = none) (h2 : Ag.depth + 1 + 3 * k + 5 < recursionLimit) (h3 : Ag.units + 3 + 16 * k + 200 < cLine) :
    Room k (Ag.over (.compLoop (.GeneratorExp elt [⟨tg, iter, ifs, 0⟩] scope gpos) 0 it .none ce) []) := by
  refine ⟨h1, ?_, ?_⟩
  · show Ag.depth + 0 + 1 + 3 * k + 5 < _
    omega
  · show Ag.units + 0 + 3 + 16 * k + 200 < _
    omega
/-- a generator expression is made; Ac: where it will be asked -/
theorem gx_mk {c T : Addr} {elt tg iter : Expr} {ifs : List Expr} {scope : Scope} {own : List (Str × Nat)} {gpos : Pos} {wi : TI} {g : TG} {tt : TT} {te : TE} {k : Nat} {Q' : Value → Shared → Prop} {Outf : (Nat → Nat → Hp → Prop) → Nat → Nat → V → Hp → Prop} {Fin : Hp → Prop}
    (Ac : Around) (hA : Ac.handled = none) (hfr : Ac.frames = some X.stack) (hd : Ac.depth ≤ X.A.depth) (hu : Ac.units ≤ X.A.units + 8) (hr : Room (k + 1) X.A) (hc : X.calm = true) (hN : X.N.Nodup) (TB : GxR.TabB X.base X.mg c T) (hcode : X.env.code = .ref c) (ok : GOk X.N X.env.scope scope own) (hi : PI X tg iter wi)
    (hg : ∀ (A' : Around) (s3 : Shared) (H3 : Hp) (C : Addr) (code : Value) (fp : List Addr), PG (gxc X A' s3 H3 (genE X scope C code) fp) tg g)
    (ht : ∀ (A' : Around) (s3 : Shared) (H3 : Hp) (C : Addr) (code : Value) (fp : List Addr), Room k A' → PTs (gxc X A' s3 H3 (genE X scope C code) fp) ifs tt)
    (he : ∀ (A' : Around) (s3 : Shared) (H3 : Hp) (C : Addr) (code : Value) (fp : List Addr), Room k A' → PE (gxc X A' s3 H3 (genE X scope C code) fp) elt te)
    (hs : ∀ v, genFold iter X.env v = pure v) (I : Inv X pins σ H s)
    (h : wi σ H fun J H1 => GxR.TabG H1 T ∧ ∀ H2, GxR.Tabbed T H1 H2 → ∃ W, (∃ m, W 0 m H2) ∧ GTurns J g tt te (own.map (·.2)) σ W (Outf W) Fin)
    (hQ : ∀ (IG : Hp → Shared → Prop) (tn : Nat → Heap → Prop) (fp : List Addr) W (a : Addr) (gn m : Nat) (H2 : Hp) (s5 : Shared), IGok X pins σ a gn IG → (∀ i h h', tn i h → (∀ b o, h.get? b = some o → h'.get? b = some o) → tn i h') →
      GRun X Ac IG tn fp W (Outf W) Fin gn 0 m (m + 1) H2 s5 → Q' (.ref a) s5) :
    wpAny (model X.prog X.w) X.A (eval (.GeneratorExp elt [⟨tg, iter, ifs, 0⟩] scope gpos) X.env) Q' X.xe s := by
  have free := gx_free I ok
  refine wpAny_GeneratorExp_make ok.co (closure_ok free) ok.cell ok.dot ok.blk.kind (Nat.lt_of_le_of_lt (by omega : X.A.depth ≤ X.A.depth + 3 * (k + 1) + 5) hr.dp) ?_ hs
  refine thn (hi.run pins s σ H _ I h) fun xv s1 h1 => thn h1 fun itv s2 h2 => ?_
  obtain ⟨it, fp, tn, J, H1, rfl, J1, TU, st2, f2, ⟨ps, hT, hok⟩, q⟩ := h2
  have gT : s2.heap.get? T = some (PySem.W.tabObj ps) := J1.hok T _ hT
  have cd : PySem.W.CodeHd s2.heap c T := TB.code.keeps J1.bk
  refine ⟨J1.nolimit, ?_⟩
  have lts : ∀ b ∈ fp, b < s2.heap.objs.size := fun b hb => by
    obtain ⟨o, e, _⟩ := TU.obj _ _ st2 b hb
    exact Heap.lt_size e
  have nfT : ∀ b ∈ fp, b ≠ T := fun b hb z => by
    have := (f2 b hb).1
    rw [z, hT] at this
    cases this
  -- behind the code object
  have on : ∀ (code : Value) (h3 : Heap) (tk : Nat) (more : Array Value), Heap.ExtBut T s2.heap h3 → s2.heap.objs.size ≤ h3.objs.size → h3.get? T = some (PySem.W.tabObj (ps ++ more)) → TriplesOk (ps ++ more).toList →
      wpAny (model X.prog X.w) X.A (builtinsFor X.env.globals X.env.builtins) (fun bi s4 =>
        ∀ h', h'.Ns s4.heap.objs.size (fun y => if y = ".0" then some (.ref it) else none) → Heap.SameBut s4.heap.objs.size (s4.heap.push { cls := .type "frame", data := .dict #[] }) h' →
          Q' (.ref h'.objs.size) { s4 with
            gens := s4.gens.push (.fresh (.compStart (.GeneratorExp elt [⟨tg, iter, ifs, 0⟩] scope gpos) 0 (.ref it) .none (genEnv scope (cloFrom X.env.cells scope.names []) s4.heap.objs.size code bi X.env))),
            toks := s4.toks + 1 + 1 + 1,
            heap := h'.push { cls := .type "generator", data := .fields #[.int s4.gens.size 0, .str "<genexpr>" (s4.toks + 1), .str (X.env.qual ++ "<genexpr>") (s4.toks + 1 + 1)] } }) X.xe { s2 with heap := h3, toks := tk } := by
    intro code h3 tk more ext ge3 gT3 ok3
    have J3 : Inv X pins σ (upd H1 T (.tbl (ps ++ more))) { s2 with heap := h3, toks := tk } := GxR.inv_tab (g' := s2.gens) (d' := s2.drawn) J1 hT ext gT3 J1.bare
    have tb : GxR.Tabbed T H1 (upd H1 T (.tbl (ps ++ more))) := ⟨⟨_, upd_same, ok3⟩, fun b nb => upd_ne nb⟩
    obtain ⟨W, ⟨m0, w0⟩, turn⟩ := q _ tb
    obtain ⟨bm, ob, e1, e2, _, e4, e5, e6, e7, e8⟩ := TB.bm
    refine wpAny_builtinsFor (m := X.mg) (by rw [J3.ok.glob]; exact J3.mod.glob.keeps J3.bk) e1 e2 (ext _ _ e4 (J1.bk _ _ e5)) e6 e7 e8 ?_
    intro h' hn hsb
    have f3 : ∀ b ∈ fp, FpOk X pins (upd H1 T (.tbl (ps ++ more))) b ∧ b < h3.objs.size := fun b hb => by
      refine ⟨⟨?_, (f2 b hb).2⟩, Nat.lt_of_lt_of_le (lts b hb) ge3⟩
      rw [upd_ne (nfT b hb)]
      exact (f2 b hb).1
    have st3 : tn 0 h3 := TU.keep _ _ _ st2 fun b hb o e => ext b o (nfT b hb) e
    have nf3 : ∀ b ∈ fp, (upd H1 T (.tbl (ps ++ more))) b = none := fun b hb => (f3 b hb).1.1
    generalize hH3 : upd H1 T (.tbl (ps ++ more)) = H3 at J3 w0 f3 nf3
    generalize hs3 : ({ s2 with heap := h3, toks := tk } : Shared) = s3 at J3 hn hsb ⊢
    have eh : s3.heap = h3 := by rw [← hs3]
    have szh : h'.objs.size = s3.heap.objs.size + 1 := by rw [hsb.1, Heap.size_push]
    have kp : ∀ b o, s3.heap.get? b = some o → h'.get? b = some o := fun b o e => hsb.extBut b o (Nat.ne_of_lt (Heap.lt_size e)) (Heap.get?_push_of_some _ e)
    generalize hoG : ({ cls := .type "generator", data := .fields #[.int s3.gens.size 0, .str "<genexpr>" (s3.toks + 1), .str (X.env.qual ++ "<genexpr>") (s3.toks + 1 + 1)] } : Obj) = oG
    have na : h'.objs.size ∉ fp := fun z => by
      have := (f3 _ z).2
      rw [← eh] at this
      exact Nat.lt_irrefl _ (Nat.lt_of_lt_of_le this (by rw [szh]; exact Nat.le_succ _))
    have start := gx_start (A' := Ac.in1.over (.compLoop (.GeneratorExp elt [⟨tg, iter, ifs, 0⟩] scope gpos) 0 (.ref it) .none (genE X scope s3.heap.objs.size code)) []) (code := code) (it := .ref it) (oG := oG)
      (g' := s3.gens.push (.fresh (.compStart (.GeneratorExp elt [⟨tg, iter, ifs, 0⟩] scope gpos) 0 (.ref it) .none (genE X scope s3.heap.objs.size code)))) (t' := s3.toks + 1 + 1 + 1) J3 ok hN (fun b hb => ⟨(f3 b hb).1, by rw [eh]; exact (f3 b hb).2⟩) hA (over_gen hfr) hn hsb
      (fun v => by rw [← hoG]; exact fun z => nomatch z) (J3.bare.push rfl) (by rw [← hoG]; rfl)
    have rm : Room k (Ac.in1.over (.compLoop (.GeneratorExp elt [⟨tg, iter, ifs, 0⟩] scope gpos) 0 (.ref it) .none (genE X scope s3.heap.objs.size code)) []) :=
      room_gen hA (by have := hr.dp; show Ac.depth + 1 + 3 * k + 5 < _; omega) (by have := hr.un; show Ac.units + 1 + 3 + 16 * k + 200 < _; omega)
    refine hQ (fun H' s' => Inv (gxl X Ac.in1 elt tg iter ifs scope gpos it (genE X scope s3.heap.objs.size code) s3 H3 fp) [(h'.objs.size, oG)] (wipe σ (own.map (·.2))) H' s') tn fp W h'.objs.size s3.gens.size m0 H3 _ ?_ (fun i h h' st kk => TU.keep _ _ _ st fun b _ o e => kk b o e) ?_
    · refine ⟨fun I' => I'.bare, fun I' hb => ⟨I'.ok, I'.os, hb, I'.base, I'.loc, I'.cell, I'.free, I'.freeC, I'.pin, I'.hok, I'.len⟩, fun I' kk => I'.kept kk, fun I' => ?_, fun I' => I'.nolimit, fun I' => ?_⟩
      · have z := (I'.pin (h'.objs.size, oG) (by simp)).1
        rw [← hoG] at z
        exact ⟨_, _, _, z, rfl, rfl, rfl⟩
      · exact J3.call' (ch := fp) I'.os I'.base I'.hok I'.bare fun b hb => ⟨(f3 b hb).1.2.2.2.1, (f3 b hb).1.2.1, (f3 b hb).1.2.2.2.2.1, (f3 b hb).1.2.2.2.2.2⟩
    · refine ⟨start, TU.keep _ _ _ st3 fun b hb o e => Heap.get?_push_of_some _ (kp b o (by rw [eh]; exact e)), nf3, w0, _, Array.getElem?_push_size .., Nat.lt_succ_self _, fun s'' I'' st'' hg'' => ⟨rfl, ?_⟩⟩
      exact gx_seg0 TU st'' (gx_seg TU na ok.co (hg _ s3 H3 _ code fp) (ht _ s3 H3 _ code fp rm) (he _ s3 H3 _ code fp rm) turn _ rfl m0 (m0 + 1) 0 H3 s'' s'' (Nat.lt_succ_self _) I'' st'' nf3 w0 hg'')
  cases among : codeAmong gpos ps.toList with
  | some cv =>
    refine wpAny_genexprCode_hit hcode (cd.code gT hok) among ?_
    exact on cv s2.heap s2.toks #[] (Heap.ExtBut.refl _ _) (Nat.le_refl _) (by rw [Array.append_empty]; exact gT) (by rw [Array.append_empty]; exact hok)
  | none =>
    refine wpAny_genexprCodeX hcode (cd.code gT hok) (cd.tab gT) among fun c' h' tk hx hge hlt isC _ tab' _ => ?_
    obtain ⟨_, _, _, _, _, _, _, _, _, _, _, _, _, _, _, _, _, _, _, ok', _⟩ := isC
    exact on _ h' tk _ hx (Nat.le_trans hge (Nat.le_of_lt hlt)) tab'.2 ok'
end
/-! ### all(..) of a generator expression -/
def tAllG (T : Addr) (wi : TI) (g : TG) (tt : TT) (te : TE) (vs : List Nat) : TE := fun σ H Q => wi σ H fun J H1 => GxR.TabG H1 T ∧ ∀ H2, GxR.Tabbed T H1 H2 → ∃ W : Nat → Nat → Hp → Prop, (∃ m, W 0 m H2) ∧
  GTurns J g tt te vs σ W (fun i m y H' => ∃ k, y = .bl k ∧ (if k = true then ∃ m', m' < m ∧ W (i + 1) m' H' else Q (.bl false) H')) (fun H' => Q (.bl true) H')
section
variable {X : Cx} {pins : List (Addr × Obj)} {σ : L2.St}
theorem all_loop {IG : Hp → Shared → Prop} {tn : Nat → Heap → Prop} {fp : List Addr} {W : Nat → Nat → Hp → Prop} {a : Addr} {gn : Nat} {Q : VK} {R : Result → Shared → Prop} (ig : IGok X pins σ a gn IG) (hA : X.A.handled = none) (hd : X.A.depth < recursionLimit)
    (hR : ∀ b H s, Q (.bl b) H → IG H s → R (.ok (.ret (.bool b))) s) : ∀ (n i m : Nat) (H : Hp) (s : Shared),
    GRun X X.A.in1 IG tn fp W (fun i m y H' => ∃ k, y = .bl k ∧ (if k = true then ∃ m', m' < m ∧ W (i + 1) m' H' else Q (.bl false) H')) (fun H' => Q (.bl true) H') gn i m n H s →
    codeAny (model X.prog X.w) X.A (.builtin "all.loop" ⟨[.ref a], []⟩) R s := by
  intro n
  induction n with
  | zero =>
    intro i m H s G
    obtain ⟨_, _, _, _, gs, _, h, _⟩ := G
    exact absurd h (Nat.not_lt_zero _)
  | succ n ih =>
    intro i m H s G
    refine codeAny_builtin F.entry_all_loop ?_
    rw [Around.under_plainId F.plain_all_loop _]
    show wpAny _ X.A.in1 (pyNext (.ref a) >>= _) _ _ s
    refine wpAny_bind (gx_next ig hA hd G (fun v y H' s' i' m' r out I' cont => ?_) fun H' s' fin I' => ?_)
    · obtain ⟨k, rfl, hk⟩ := out
      obtain rfl : v = .bool k := r
      refine wpAny_bind (wpAny_holding (wpAny_truthy_bool ?_))
      refine wpAny_bind (wpAny_letGo ?_)
      cases k with
      | true =>
        obtain ⟨m'', hm, w'⟩ := hk
        exact wpAny_pure ⟨plainId_quiet F.plain_all_loop _, ih (i' + 1) m'' H' s' (cont m'' hm w')⟩
      | false =>
        refine wpAny_bind (wpAny_rule (wpAny_pure ?_))
        exact hR false H' s' hk I'
    · refine wpAny_bind (wpAny_rule (wpAny_pure ?_))
      exact hR true H' s' fin I'
theorem pe_allG {c T : Addr} {elt tg iter : Expr} {ifs : List Expr} {scope : Scope} {own : List (Str × Nat)} {gpos p pos : Pos} {wi : TI} {g : TG} {tt : TT} {te : TE} {k : Nat}
    (hr : Room (k + 1) X.A) (hgl : Gl X "all") (hm : X.mg "all" = none) (hc : X.calm = true) (hN : X.N.Nodup) (TB : GxR.TabB X.base X.mg c T) (hcode : X.env.code = .ref c) (ok : GOk X.N X.env.scope scope own) (hi : PI X tg iter wi)
    (hg : ∀ (A' : Around) (s3 : Shared) (H3 : Hp) (C : Addr) (code : Value) (fp : List Addr), PG (gxc X A' s3 H3 (genE X scope C code) fp) tg g)
    (ht : ∀ (A' : Around) (s3 : Shared) (H3 : Hp) (C : Addr) (code : Value) (fp : List Addr), Room k A' → PTs (gxc X A' s3 H3 (genE X scope C code) fp) ifs tt)
    (he : ∀ (A' : Around) (s3 : Shared) (H3 : Hp) (C : Addr) (code : Value) (fp : List Addr), Room k A' → PE (gxc X A' s3 H3 (genE X scope C code) fp) elt te)
    (hs : ∀ v, genFold iter X.env v = pure v := by intro _; rfl)
    (hst : starEach [.GeneratorExp elt [⟨tg, iter, ifs, 0⟩] scope gpos] X.env = (false, eval (.GeneratorExp elt [⟨tg, iter, ifs, 0⟩] scope gpos) X.env) :: starEach [] X.env := by rfl) :
    PE X (.Call (.Name "all" p) [.GeneratorExp elt [⟨tg, iter, ifs, 0⟩] scope gpos] [] pos) (tAllG T wi g tt te (own.map (·.2))) := by
  refine ⟨fun pins s σ H Q I h => wpAny_Call_Name_kw (ld_blt I hgl hm (show bootBuiltins "all" = some (.builtin "all") by decide +kernel) ?_)⟩
  refine PyProof.Rows.callWith_builtin1 ?_ hst (by rfl)
  rw [hst]
  have hA := I.ok.hd hc
  have hf := I.ok.frames
  refine Calls.spliced_cons (gx_mk (Outf := fun W i m y H' => ∃ k, y = .bl k ∧ (if k = true then ∃ m', m' < m ∧ W (i + 1) m' H' else Q (.bl false) H')) (Fin := fun H' => Q (.bl true) H')
    X.A.in1 hA hf (Nat.le_refl _) (by show X.A.units + 1 ≤ _; omega) hr hc hN TB hcode ok hi hg ht he hs I h ?_)
  · intro IG tn fp W a gn m H2 s5 ig hk G
    refine Calls.spliced_nil ?_
    refine call_function_tree F.kind_all F.plain_all F.entry_all (F.args_all1 _) ?_
    unfold Builtin.«all»
    refine wpAny_bind (m := oneArg "all" _) (wpAny_pure ?_)
    refine wpAny_bind (wpAny_pyIter_gen (ig.isgen G.1) ?_)
    exact wpAny_pure ⟨plainId_quiet F.plain_all_loop _, all_loop ig hA (Nat.lt_of_le_of_lt (by omega : X.A.depth ≤ X.A.depth + 3 * (k + 1) + 5) hr.dp) (fun b H s q I' => ⟨.bl b, H, ig.back I', rfl, q⟩) _ _ _ _ _ G⟩
end
/-! ### len(set(t)) of a tuple of texts -/
/-- the texts, each once -/
def once : List Str → List Str := fun xs => xs.foldl (fun acc x => if acc.contains x = true then acc else acc ++ [x]) []
theorem once_snoc (xs : List Str) (x : Str) : once (xs ++ [x]) = if (once xs).contains x = true then once xs else once xs ++ [x] := by
  unfold once
  rw [List.foldl_append]
  rfl
theorem once_le (l : List Str) : (once l).length ≤ l.length := by
  have more : ∀ (l acc : List Str), (l.foldl (fun acc x => if acc.contains x = true then acc else acc ++ [x]) acc).length ≤ acc.length + l.length := by
    intro l
    induction l with
    | nil => intro acc; exact Nat.le_refl _
    | cons x r ih =>
      intro acc
      refine Nat.le_trans (ih _) ?_
      show (if acc.contains x = true then acc else acc ++ [x]).length + r.length ≤ acc.length + (r.length + 1)
      by_cases h : acc.contains x = true
      · rw [if_pos h]; omega
      · rw [if_neg h, List.length_append]; show acc.length + 1 + r.length ≤ _; omega
  have h := more l []
  have z : (once l).length ≤ ([] : List Str).length + l.length := h
  simpa using z
section
variable {prog : Program} {w : World} {A : Around}
theorem set_texts_loop {R : Result → Shared → Prop} {it : Addr} {fp wr : List Addr} {G : Array GenState → Array GenState → Prop} {n : Nat} {P : Nat → Value → Prop} {St : Nat → Shared → Prop} (W : WalksS prog w A.in1 it fp wr G n P St) (S : Addr) (nS : S ∉ fp) (xs : List Str)
    (len : xs.length = n) (big : n + 1 < scanBound) (val : ∀ i v, P i v → ∃ t, v = .str (xs.getD i Str.empty) t) :
    ∀ (k i : Nat) (s : Shared), n - i = k → i ≤ n → St i s → s.heap.SetOf (PySem.strKind prog w) S (fun x => (once (xs.take i)).contains x) (once (xs.take i)).length →
      (∀ s', Moved (S :: wr) G s s' → s'.heap.SetOf (PySem.strKind prog w) S (fun x => (once xs).contains x) (once xs).length → R (.ok (.ret .none)) s') →
      codeAny (model prog w) A (.builtin "set.update.loop" ⟨[.ref S, .ref it], []⟩) R s := by
  have nW : S ∉ wr := fun h => nS (W.sub _ h)
  have up : ∀ b ∈ wr, b ∈ S :: wr := fun b hb => List.mem_cons_of_mem _ hb
  have stay : ∀ {s s' : Shared} {f : Str → Bool} {c : Nat}, Moved wr G s s' → s.heap.SetOf (PySem.strKind prog w) S f c → s'.heap.SetOf (PySem.strKind prog w) S f c := fun mv ⟨o, es, ep, t, ho, r⟩ => ⟨o, es, ep, t, mv.heap S _ nW ho, r⟩
  have most := once_le
  intro k
  induction k with
  | zero =>
    intro i s hk hi st hS hR
    obtain rfl : i = n := by omega
    refine codeAny_builtin PyProof.Rows.F.entry_set_update_loop ?_
    rw [Around.under_plainId PyProof.Rows.F.plain_set_update_loop _]
    show wpAny _ A.in1 (pyNext (.ref it) >>= _) _ _ s
    refine wpAny_bind (W.done s _ _ st fun s' mv => ?_)
    rw [List.take_of_length_le (Nat.le_of_eq len)] at hS
    exact wpAny_pure (hR s' (mv.mono up) (stay mv hS))
  | succ k ih =>
    intro i s hk hi st hS hR
    have lt : i < n := by omega
    refine codeAny_builtin PyProof.Rows.F.entry_set_update_loop ?_
    rw [Around.under_plainId PyProof.Rows.F.plain_set_update_loop _]
    show wpAny _ A.in1 (pyNext (.ref it) >>= _) _ _ s
    refine wpAny_bind (W.item i s _ _ lt st fun v s' hP st' mv => ?_)
    obtain ⟨t, rfl⟩ := val i v hP
    show wpAny _ A.in1 (holding [Value.str (xs.getD i Str.empty) t] (setAdd S (.str (xs.getD i Str.empty) t)) >>= _) _ _ s'
    refine wpAny_bind (wpAny_holding ?_)
    unfold setAdd
    refine wpAny_holding (wpAny_bind ((PySem.strKind prog w).pyHash (k := xs.getD i Str.empty) (strKind_is _ _ _ _) ?_))
    have small : (once (xs.take i)).length + 1 < scanBound := by
      have h := most (xs.take i)
      rw [List.length_take] at h
      omega
    refine wpAny_setAddHashed_of (knd := PySem.strKind prog w) (s := { s' with toks := s'.toks + 1 }) (strKind_is _ _ _ _) rfl (show s'.heap.SetOf _ S _ _ from stay mv hS) small fun h' sb hS2 => ?_
    have hx : xs.take (i + 1) = xs.take i ++ [xs.getD i Str.empty] := by
      have hl : i < xs.length := by omega
      rw [List.take_add_one, List.getElem?_eq_getElem hl, List.getD_eq_getElem?_getD, List.getElem?_eq_getElem hl]
      rfl
    have hS3 : h'.SetOf (PySem.strKind prog w) S (fun x => (once (xs.take (i + 1))).contains x) (once (xs.take (i + 1))).length := by
      rw [hx, once_snoc]
      revert hS2
      generalize xs.getD i Str.empty = z
      generalize once (xs.take i) = L
      intro hS2
      by_cases e : L.contains z = true
      · rw [if_pos e] at hS2 ⊢
        refine SetOf_congr hS2 (fun y => ?_) rfl
        by_cases q : y = z
        · rw [q, e]; rfl
        · rw [decide_eq_false q, Bool.or_false]
      · rw [if_neg e] at hS2 ⊢
        refine SetOf_congr hS2 (fun y => ?_) (by rw [List.length_append]; rfl)
        rw [List.contains_append]
        by_cases q : y = z
        · rw [q, decide_eq_true rfl]; simp
        · rw [decide_eq_false q]; simp [q]
    refine wpAny_pure ⟨plainId_quiet PyProof.Rows.F.plain_set_update_loop _, ih (i + 1) _ (by omega) lt (W.frame _ s' _ _ st' (Nat.le_succ _) fun b hb o e => ?_) hS3 fun s'' mv'' hS'' => ?_⟩
    · rw [sb.2 b (fun z : b = S => nS (by rw [← z]; exact hb))]
      exact e
    · refine hR s'' (Moved.trans W.gtrans ((mv.mono up).then_heap (Nat.le_succ _) fun b o hb e => ?_) mv'') hS''
      rw [sb.2 b (fun z : b = S => hb (by rw [z]; exact List.mem_cons_self))]
      exact e
abbrev set0 (led : Bool) : Obj := { cls := .type "set", dict := none, data := .set #[] 0 (.fresh 0 0 led) }
set_option maxHeartbeats 3200000 in
theorem set_of_texts {E : Value → Shared → Prop} {s : Shared} {l : Addr} {items : Array Value} {xs : List Str} {Q : Value → Shared → Prop} (hh : A.handled = none) (hl : s.heap.IsTuple l items) (hi : PyProof.Rows.StrsAre items.toList xs) (big : xs.length + 1 < scanBound)
    (h : ∀ (h' : Heap) (tk : Nat), h'.SetOf (PySem.strKind prog w) s.heap.objs.size (fun x => (once xs).contains x) (once xs).length →
      (∀ b o, b < s.heap.objs.size → s.heap.get? b = some o → h'.get? b = some o) → Q (.ref s.heap.objs.size) { s with heap := h', toks := tk }) :
    wpAny (model prog w) A (call (.type "set") [.ref l]) Q E s := by
  obtain ⟨c, tl, hmro⟩ := PySem.F.called_set.mro
  have hmade := PySem.F.called_set.made
  have hsub := PySem.F.called_set.sub
  refine wpAny_call (codeAny_of_tree ?_)
  show wpAny _ _ (callAny (.type "set") _) _ _ _
  refine wpAny_pure ⟨Code.quiet_builtin _ (by decide +kernel), codeAny_builtin PySem.F.entry_type_call ?_⟩
  rw [Around.under_plain (weight_type_call_type "set" [.ref l] []) rfl]
  have h1 := PySem.F.called_set.notType
  have h2 := PySem.F.called_set.canCreate
  have hct := PySem.F.typeCall_set_1 (.ref l)
  repeat (any_goals (first | assumption | wp_step))
  refine codeAny_mono (code_set_new_1 (.ref l) (E := E) (Q₁ := fun obj s₁ => ∃ led : Bool, obj = .ref s.heap.objs.size ∧ s₁ = { s with heap := s.heap.push { cls := .type "set", dict := none, data := .set #[] 0 (.fresh 0 0 led) } }) fun led => ⟨led, rfl, rfl⟩) fun r s₁ hr => ?_
  cases r with
  | error e => exact hr
  | ok fl =>
    cases fl with
    | ret obj =>
      obtain ⟨led, rfl, rfl⟩ := hr
      have fresh : (set0 led).isFreed = false := rfl
      have hS : (s.heap.push (set0 led)).get? s.heap.objs.size = some (set0 led) := Heap.get?_push_size _ fresh
      have hT : Shared.TypeIs { s with heap := s.heap.push (set0 led) } (.ref s.heap.objs.size) "set" := ⟨_, hS, rfl⟩
      have hli := PySem.F.called_set.init.lookup
      have hbi := PySem.F.called_set.init.bind (.ref s.heap.objs.size)
      repeat (any_goals (first | assumption | wp_step))
      refine codeAny_mono (codeAny_call_builtin (R := wants (fun r s₂ => r = .none ∧ ∃ h' tk, s₂ = { s with heap := h', toks := tk } ∧
          h'.SetOf (PySem.strKind prog w) s.heap.objs.size (fun x => (once xs).contains x) (once xs).length ∧
          (∀ b o, b < s.heap.objs.size → s.heap.get? b = some o → h'.get? b = some o)) E) PySem.F.called_set.init.plain PySem.F.entry_set_init (check_set_init_1 hT ?_)) fun r₂ s₂ hr₂ => ?_
      · obtain ⟨⟨ocls, odict, odata, oslots⟩, hol, hcl, nl, hdl⟩ := hl
        simp only at hcl hdl
        subst hcl; subst hdl
        have hol' : (s.heap.push (set0 led)).get? l = some { cls := .type "tuple", dict := odict, data := .seq items nl, slots := oslots } := Heap.get?_push_of_some _ hol
        have hsls := PySem.F.sub_tuple_set
        have hslf := PySem.F.sub_tuple_frozenset
        have hne : (Value.type "tuple" == Value.type "dict") = false := by decide
        have hl1 : (s.heap.push (set0 led)).IsTuple l items := ⟨_, hol', rfl, nl, rfl⟩
        unfold Builtin.«set.__init__» noKeywords Builtin.Frozenset.updateFrom
        generalize hPI : pyIter = PI
        wp_walk
        subst hPI
        refine wpAny_pyIter_tuple hl1 ?_
        refine wpAny_bind (wpAny_runValue ?_)
        have ltl : l < s.heap.objs.size := Heap.lt_size hol
        have szP : (s.heap.push (set0 led)).objs.size = s.heap.objs.size + 1 := Heap.size_push ..
        have hh3 : A.in1.in1.in1.handled = none := hh
        have neI : l ≠ (s.heap.push (set0 led)).objs.size := by rw [szP]; exact Nat.ne_of_lt (Nat.lt_succ_of_lt ltl)
        have len : xs.length = items.size := by rw [← StrsAre.len_eq hi, Array.length_toList]
        refine set_texts_loop ((Walks.tuple hh3 _ l neI items).toS) s.heap.objs.size ?n xs len (by rw [← len]; exact big)
          (fun i v hv => SS.strs_at hi i v (by rw [Array.getElem?_toList]; exact hv)) (items.size - 0) 0 _ (by omega) (Nat.zero_le _) ⟨⟨_, Heap.get?_push_size _ rfl, rfl, rfl⟩, (hl1.push _)⟩ ?z ?r
        case n =>
          rw [szP]
          simp only [List.mem_cons, List.not_mem_nil, or_false, not_or]
          exact ⟨Nat.ne_of_lt (Nat.lt_succ_self _), Nat.ne_of_gt ltl⟩
        case z =>
          refine PyProof.Rows.SetOf_congr ((PyProof.Rows.setObjOf_fresh (knd := PySem.strKind prog w) led).setOf (Heap.get?_push_of_some _ hS) (by unfold scanBound; omega)) (fun _ => rfl) rfl
        case r =>
          intro s' mv hS'
          obtain ⟨h', g', d', tk', os'⟩ := s'
          obtain rfl : g' = s.gens := mv.gens
          obtain rfl : d' = s.drawn := mv.drawn
          obtain rfl : os' = s.os := mv.os
          refine wpAny_pure ?_
          show wpAny _ _ (ret Value.none) _ _ _
          refine wpAny_pure ⟨rfl, h', tk', rfl, hS', fun b o hb e => mv.heap b o ?_ (Heap.get?_push_of_some _ (Heap.get?_push_of_some _ e))⟩
          rw [szP]
          simp only [List.mem_cons, List.not_mem_nil, or_false, not_or]
          exact ⟨Nat.ne_of_lt hb, Nat.ne_of_lt (Nat.lt_succ_of_lt hb)⟩
      · cases r₂ with
        | error e => exact hr₂
        | ok fl₂ =>
          cases fl₂ with
          | ret r =>
            obtain ⟨rfl, h', tk, rfl, hS', hk'⟩ := hr₂
            repeat (any_goals (first | assumption | wp_step))
            exact h _ _ hS' hk'
          | _ => exact hr₂.elim
    | _ => exact hr.elim
end
def tLenSetX (K : PySem.W.Frag) (ta : TE) : TE := fun σ H Q => ta σ H fun x H1 => ∃ l, ∃ xs : List Str, x = .ref l ∧ SqT K H1 l (xs.map V.str) ∧ xs.length ≤ 1000 ∧ Q (.int (once xs).length) H1
theorem pe_lenSetX {X : Cx} {a : Expr} {ta : TE} {p p2 q pos : Pos} (hc : X.calm = true) (hg : Gl X "len") (hm : X.mg "len" = none) (hg2 : Gl X "set") (hm2 : X.mg "set" = none) (ha : PE X a ta)
    (na : starEach [a] X.env = (false, eval a X.env) :: starEach [] X.env := by rfl) : PE X (.Call (.Name "len" p) [.Call (.Name "set" p2) [a] [] q] [] pos) (tLenSetX X.K ta) := by
  refine ⟨fun pins s σ H Q I h => Call_ (ld_blt I hg hm boot_len (PyProof.Rows.callWith_builtin1 (PyProof.Rows.args_cons ?_ rfl) rfl rfl))⟩
  refine Call_ (ld_blt I hg2 hm2 boot_set (PyProof.Rows.callWith_type1 (PyProof.Rows.args_cons (thn (ha.run pins s σ H _ I h) fun v s1 ⟨x, H1, I1, r1, q1⟩ => PyProof.Rows.args_nil ?_) na) na rfl))
  obtain ⟨l, xs, rfl, hq, le, q1⟩ := q1
  cases r1
  obtain ⟨its, r, pl, hz⟩ := I1.tuple hq
  refine set_of_texts (I1.ok.hd hc) pl (by simpa using strsAre_of r) (by unfold scanBound; omega) fun h' tk hS hk => PyProof.Rows.args_nil ?_
  obtain ⟨o, es, ep, t, ho, hex, hd, _, _, _, hf, hn⟩ := hS
  have I2 : Inv X pins σ H1 { s1 with heap := h', toks := tk } := I1.kept fun b o e => hk b o (Heap.lt_size e) e
  have most := once_le xs
  exact call_len_set ho hex hd hf (by rw [hn] <;> omega) ⟨.int (once xs).length, H1, I2.tok _, ⟨_, by rw [hn]⟩, q1⟩
/-! ### generators whose consumer keeps an object of its own -/
abbrev Pins := List (Addr × Obj)
def GTurnsL (J : It) (g : TG) (tt : TT) (te : TE) (vs : List Nat) (σ : L2.St) (W : Nat → Nat → List V → Hp → Prop) (Out : Nat → Nat → List V → V → Hp → Prop) (Fin : List V → Hp → Prop) : Prop :=
  ∀ i m ys H, W i m ys H → (J.stop i H ∧ Fin ys H) ∨ (J.go i H ∧ ∀ x H', J.yld i H x H' → g x (wipe σ vs) H' fun σ2 H2 => wipe σ2 vs = wipe σ vs ∧ tt σ2 H2 fun b H3 =>
    if b = true then te σ2 H3 fun y H4 => Out i m ys y H4 else ∃ m', m' < m ∧ W (i + 1) m' ys H3)
def gxYL (IG : Pins → Hp → Shared → Prop) (PX : List V → Pins → Prop) (tn : Nat → Heap → Prop) (fp : List Addr) (W : Nat → Nat → List V → Hp → Prop) (Out : Nat → Nat → List V → V → Hp → Prop) (gn : Nat) : Protocol := fun n s₀ v s kap =>
  ∃ i m ys y H px, (∀ p ∈ px, s₀.heap.get? p.1 = some p.2) ∧ RelV y v ∧ PX ys px ∧ IG px H s ∧ tn (i + 1) s.heap ∧ (∀ b ∈ fp, H b = none) ∧ Out i m ys y H ∧ gn < s.gens.size ∧ m ≤ n ∧
    ∀ m' px', m' < m → W (i + 1) m' (ys ++ [y]) H → PX (ys ++ [y]) px' → ∀ s'' : Shared, IG px' H s'' → tn (i + 1) s''.heap → gn < s''.gens.size → kap (.send .none) s''
def gxRL (IG : Pins → Hp → Shared → Prop) (PX : List V → Pins → Prop) (Fin : List V → Hp → Prop) : Nat → Shared → Shared → Prop := fun _ s₀ s1 => ∃ ys H px, (∀ p ∈ px, s₀.heap.get? p.1 = some p.2) ∧ PX ys px ∧ IG px H s1 ∧ Fin ys H
section
variable {X : Cx} {σ : L2.St} {Ag : Around} {tg elt iter : Expr} {ifs : List Expr} {scope : Scope} {gpos : Pos} {it a : Addr} {oG : Obj} {ce : Env} {fp : List Addr} {s3 : Shared} {H3 : Hp} {tn : Nat → Heap → Prop} {J : It} {vs : List Nat} {gn : Nat}
  {g : TG} {tt : TT} {te : TE} {W : Nat → Nat → List V → Hp → Prop} {Out : Nat → Nat → List V → V → Hp → Prop} {Fin : List V → Hp → Prop} {PX : List V → Pins → Prop}
theorem gx_statL {σ' : L2.St} {H' : Hp} {s' : Shared} {A' : Around} {px : Pins} (I' : Inv (gxc X A' s3 H3 ce fp) ((a, oG) :: px) σ' H' s') (na : a ∉ fp) (hpx : ∀ p ∈ px, p.1 ∉ fp) (hn : ∀ b ∈ fp, H' b = none) : ∀ b ∈ fp, FpOk (gxc X A' s3 H3 ce fp) ((a, oG) :: px) H' b := fun b hb => by
  refine ⟨hn b hb, (I'.ok.exf b hb).1, I'.ok.exfs b hb, .inl hb, fun x c e => (I'.ok.exf b hb).2 x c e, fun p hp z => ?_⟩
  have hp' : p ∈ (a, oG) :: px := by simpa using hp
  rcases List.mem_cons.mp hp' with e | e
  · subst e
    have z' : a = b := z
    exact na (z' ▸ hb)
  · exact hpx p e (z ▸ hb)
theorem gx_segL (T : Turn X.prog X.w X.K tg J fp it tn) (na : a ∉ fp) (hco : ce.scope.isCoroutine = false)
    (pg : PG (gxl X Ag elt tg iter ifs scope gpos it ce s3 H3 fp) tg g)
    (pt : PTs (gxl X Ag elt tg iter ifs scope gpos it ce s3 H3 fp) ifs tt)
    (pe : PE (gxl X Ag elt tg iter ifs scope gpos it ce s3 H3 fp) elt te)
    (turn : GTurnsL J g tt te vs σ W Out Fin) (IG : Pins → Hp → Shared → Prop) (Px : Pins → Prop) (hPx : ∀ px, Px px → ∀ p ∈ px, p.1 ∉ fp)
    (hIG : IG = fun px H s => Px px ∧ Inv (gxl X Ag elt tg iter ifs scope gpos it ce s3 H3 fp) ((a, oG) :: px) (wipe σ vs) H s) :
    ∀ (m n i : Nat) (ys : List V) (px : Pins) (H : Hp) (s s0 : Shared), m < n → (∀ p ∈ px, s0.heap.get? p.1 = some p.2) → PX ys px → IG px H s → tn i s.heap → (∀ b ∈ fp, H b = none) → W i m ys H → gn < s.gens.size →
      Seg (model X.prog X.w) Ag (fun n s0 r s1 => r = .ok .next ∧ gxRL IG PX Fin n s0 s1) (gxYL IG PX tn fp W Out gn) n s0
        (.compLoop (.GeneratorExp elt [⟨tg, iter, ifs, 0⟩] scope gpos) 0 (.ref it) .none ce)
        ((model X.prog X.w).den (.compLoop (.GeneratorExp elt [⟨tg, iter, ifs, 0⟩] scope gpos) 0 (.ref it) .none ce)) [] s := by
  intro m
  induction m using Nat.strongRecOn with
  | ind m ih =>
  intro n i ys px H s s0 hmn h00 hX I0 st n0 w0 hg
  have I1 : Px px ∧ Inv (gxl X Ag elt tg iter ifs scope gpos it ce s3 H3 fp) ((a, oG) :: px) (wipe σ vs) H s := by
    rw [hIG] at I0
    exact I0
  obtain ⟨hP, I⟩ := I1
  have hpx := hPx px hP
  show Seg _ Ag _ _ _ s0 _ ((compTurn (.GeneratorExp elt [⟨tg, iter, ifs, 0⟩] scope gpos) 0 (.ref it) .none ce).onRaise (leaving ce)) [] s
  rw [compTurn_gen, Sem.onRaise_eq_wrap]
  refine seg_bind_wrap (wpAny_standAt ?_)
  rcases turn i m ys H w0 with ⟨stop, fin⟩ | ⟨go, step⟩
  · refine seg_bind_wrap (thnF (T.done (gxl X Ag elt tg iter ifs scope gpos it ce s3 H3 fp) rfl rfl rfl rfl i ((a, oG) :: px) s _ H (fun _ _ => False) I (gx_statL I na hpx n0) st stop) fun r s6 ⟨hr, I6⟩ => ?_)
    subst hr
    exact seg_end (.ok .next) ⟨rfl, ys, H, px, h00, hX, by rw [hIG]; exact ⟨hP, I6⟩, fin⟩
  · refine seg_bind_wrap (GenW.wpAny_gsz hg (thnF (T.item (gxl X Ag elt tg iter ifs scope gpos it ce s3 H3 fp) rfl rfl rfl rfl i ((a, oG) :: px) s _ H (fun _ _ => False) I (gx_statL I na hpx n0) st go) fun r s6 ⟨u, hr, h6⟩ hg6 => ?_))
    subst hr
    refine seg_bind_wrap (GenW.wpAny_gsz hg6 (thnF h6 fun _ s7 ⟨x, H7, I7, r7, y7, st7, n7⟩ hg7 => ?_))
    have I7' := I7.pinned (gx_statL I7 na hpx n7) (T.obj _ _ st7)
    refine seg_bind_wrap (GenW.wpAny_gsz hg7 (thnF (pg.run _ s7 _ H7 x u _ I7' r7 (step x H7 y7)) fun _ s8 ⟨σ8, H8, I8, hw8, q8⟩ hg8 => ?_))
    refine seg_bind_wrap (GenW.wpAny_gsz hg8 (thnF (pt.run _ s8 σ8 H8 _ I8 q8) fun b s9 ⟨H9, I9, q9⟩ hg9 => ?_))
    have hl : (wipe σ vs).length = σ8.length := by rw [← hw8, wipe_length]
    have back : ∀ {s' : Shared} {H' : Hp}, Inv (gxl X Ag elt tg iter ifs scope gpos it ce s3 H3 fp) (((a, oG) :: px) ++ pinsAt fp s7.heap) σ8 H' s' →
        IG px H' s' ∧ tn (i + 1) s'.heap ∧ ∀ b ∈ fp, H' b = none := fun {s' H'} I' => by
      have pin' : ∀ b ∈ fp, ∀ o, s7.heap.get? b = some o → s'.heap.get? b = some o ∧ H' b = none := fun b hb o e =>
        let z := I'.pin (b, o) (List.mem_append_right _ (List.mem_append_right _ (mem_pinsAt hb e)))
        ⟨z.1, z.2.1⟩
      refine ⟨?_, T.keep _ _ _ st7 fun b hb o e => (pin' b hb o e).1, fun b hb => ?_⟩
      · rw [hIG]
        refine ⟨hP, I'.unpinned.weak hl fun j v e => ?_⟩
        rw [← hw8] at e
        exact (wipe_some e).1
      · obtain ⟨o, e, _⟩ := T.obj _ _ st7 b hb
        exact (pin' b hb o e).2
    cases b with
    | false =>
      simp only [Bool.false_eq_true, if_false] at q9 ⊢
      obtain ⟨m', hm, w'⟩ := q9
      obtain ⟨b1, b2, b3⟩ := back I9
      exact seg_again rfl (ih m' hm n (i + 1) ys px H9 s9 s0 (Nat.lt_trans hm hmn) h00 hX b1 b2 b3 w' hg9)
    | true =>
      simp only [if_true] at q9 ⊢
      have hy : ∀ v, yieldOut ce v = yieldValue v := fun v => by simp only [yieldOut, hco, Bool.false_eq_true, if_false]
      simp only [hy]
      rw [Sem.bind_eq_wrap', Sem.bind_eq_wrap', Sem.wrap_wrap, Sem.wrap_wrap]
      obtain ⟨n', rfl⟩ : ∃ n', n = n' + 1 := ⟨n - 1, by omega⟩
      refine seg_wrap (GenW.wpAny_gsz hg9 (thnF (pe.run _ s9 σ8 H9 _ I9 q9) fun z s10 ⟨yv, H10, I10, r10, out⟩ hg10 => ?_))
      obtain ⟨b1, b2, b3⟩ := back I10
      refine seg_at (seg_yield rfl rfl rfl ⟨i, m, ys, yv, H10, px, h00, r10, hX, b1, b2, b3, out, hg10, by omega, fun m' px' hm w' hX' s'' I'' st'' hg'' => ?_⟩)
      exact seg_again rfl (ih m' hm n' (i + 1) _ px' H10 s'' s'' (by omega) (fun p hp => by rw [hIG] at I''; exact (I''.2.pin p (by simp [hp])).1) hX' I'' st'' b3 w' hg'')
end
structure IGokL (X : Cx) (pins : List (Addr × Obj)) (σ : L2.St) (a : Addr) (gn : Nat) (tn : Nat → Heap → Prop) (IG : Pins → Hp → Shared → Prop) : Prop where
  bare : ∀ {px H s}, IG px H s → AllBare s.gens
  gens : ∀ {px H s g'}, IG px H s → AllBare g' → IG px H { s with gens := g' }
  kept : ∀ {px : Pins} {H : Hp} {s : Shared} {h' : Heap} {tk : Nat}, IG px H s → (∀ b o, s.heap.get? b = some o → h'.get? b = some o) → IG px H { s with heap := h', toks := tk }
  isgen : ∀ {px H s}, IG px H s → s.heap.IsGen a gn
  nolim : ∀ {px H s}, IG px H s → s.heap.NoLimit
  back : ∀ {px H s}, IG px H s → Inv X pins σ H s
  add : ∀ {H : Hp} {s : Shared} {h' : Heap} {tk : Nat} {S : Addr} {o : Obj}, IG [] H s → (∀ b u, s.heap.get? b = some u → h'.get? b = some u) → s.heap.objs.size ≤ S → h'.get? S = some o → (∀ v, o.data ≠ .cell v) → IG [(S, o)] H { s with heap := h', toks := tk }
  put : ∀ {H : Hp} {s : Shared} {h' : Heap} {tk : Nat} {S : Addr} {o o' : Obj}, IG [(S, o)] H s → (∀ b u, b ≠ S → s.heap.get? b = some u → h'.get? b = some u) → h'.get? S = some o' → (∀ v, o'.data ≠ .cell v) → IG [(S, o')] H { s with heap := h', toks := tk }
  own : ∀ {H s S o}, IG [(S, o)] H s → s.heap.get? S = some o
  tnk : ∀ {i h h'}, tn i h → (∀ b o, h.get? b = some o → h'.get? b = some o) → tn i h'
  tnp : ∀ {H s S o i h'}, IG [(S, o)] H s → tn i s.heap → (∀ b u, b ≠ S → s.heap.get? b = some u → h'.get? b = some u) → tn i h'
def GRunL (X : Cx) (Ac : Around) (IG : Pins → Hp → Shared → Prop) (PX : List V → Pins → Prop) (tn : Nat → Heap → Prop) (fp : List Addr) (W : Nat → Nat → List V → Hp → Prop) (Out : Nat → Nat → List V → V → Hp → Prop) (Fin : List V → Hp → Prop) (gn i m n : Nat) (ys : List V) (px : Pins) (H : Hp) (s : Shared) : Prop :=
  PX ys px ∧ IG px H s ∧ tn i s.heap ∧ (∀ b ∈ fp, H b = none) ∧ W i m ys H ∧ ∃ gs, s.gens[gn]? = some gs ∧ m < n ∧ ∀ (px' : Pins) (s'' : Shared), PX ys px' → IG px' H s'' → tn i s''.heap → gn < s''.gens.size →
    gs.Goes (model X.prog X.w) Ac.in1 (fun n s0 r s1 => r = .ok .next ∧ gxRL IG PX Fin n s0 s1) (gxYL IG PX tn fp W Out gn) n (.send .none) s''
def GStartL (X : Cx) (Ac : Around) (IG : Pins → Hp → Shared → Prop) (tn : Nat → Heap → Prop) (fp : List Addr) (W : Nat → Nat → List V → Hp → Prop) (Out : Nat → Nat → List V → V → Hp → Prop) (Fin : List V → Hp → Prop) (gn m : Nat) (H : Hp) (s : Shared) : Prop :=
  IG [] H s ∧ tn 0 s.heap ∧ (∀ b ∈ fp, H b = none) ∧ W 0 m [] H ∧ ∃ gs, s.gens[gn]? = some gs ∧ ∀ (PX : List V → Pins → Prop) (px' : Pins) (s'' : Shared), PX [] px' → IG px' H s'' → tn 0 s''.heap → gn < s''.gens.size →
    gs.Goes (model X.prog X.w) Ac.in1 (fun n s0 r s1 => r = .ok .next ∧ gxRL IG PX Fin n s0 s1) (gxYL IG PX tn fp W Out gn) (m + 1) (.send .none) s''
section
variable {X : Cx} {pins : List (Addr × Obj)} {σ : L2.St} {Ac : Around} {IG : Pins → Hp → Shared → Prop} {PX : List V → Pins → Prop} {tn : Nat → Heap → Prop} {fp : List Addr} {W : Nat → Nat → List V → Hp → Prop} {Out : Nat → Nat → List V → V → Hp → Prop} {Fin : List V → Hp → Prop} {a : Addr} {gn : Nat}
theorem gx_nextL {E : Value → Shared → Prop} {Q : Option Value → Shared → Prop} {i m n : Nat} {ys : List V} {px : Pins} {H : Hp} {s : Shared} (ig : IGokL X pins σ a gn tn IG) (hA : Ac.handled = none) (hd : Ac.depth < recursionLimit) (G : GRunL X Ac IG PX tn fp W Out Fin gn i m n ys px H s)
    (hout : ∀ v y H' s' i' m' ys' px', (∀ p ∈ px', s.heap.get? p.1 = some p.2) → RelV y v → Out i' m' ys' y H' → PX ys' px' → IG px' H' s' → tn (i' + 1) s'.heap →
      (∀ m'' px'' h' tk, m'' < m' → W (i' + 1) m'' (ys' ++ [y]) H' → PX (ys' ++ [y]) px'' → IG px'' H' { s' with heap := h', toks := tk } → tn (i' + 1) h' → GRunL X Ac IG PX tn fp W Out Fin gn (i' + 1) m'' (n - 1) (ys' ++ [y]) px'' H' { s' with heap := h', toks := tk }) → Q (some v) s')
    (hfin : ∀ ys' H' s' px', (∀ p ∈ px', s.heap.get? p.1 = some p.2) → Fin ys' H' → PX ys' px' → IG px' H' s' → Q none s') : wpAny (model X.prog X.w) Ac (pyNext (.ref a)) Q E s := by
  obtain ⟨g0, g1, g2, g3, g4, gs, g5, g6, g7⟩ := G
  have lt := (Array.getElem?_eq_some_iff.mp g5).1
  have run : IG px H (s.setGen gn .running) := ig.gens g1 (bare_set (ig.bare g1) rfl)
  refine wpAny_pyNext_genexpQ (P := gxRL IG PX Fin) hA (ig.nolim g1) hd (ig.isgen g1) g5 (g7 px _ g0 run g2 (by rw [GenW.setGen_size]; exact lt)) (fun v s1 gs' hb hv => ?_) fun s1 hp h' hk => ?_
  · obtain ⟨i', m', ys', y, H', px', h00, r, hX, I1, st1, nf, out, hg1, hmn, kap⟩ := hv
    have I2 : IG px' H' (s1.setGen gn gs') := ig.gens I1 (bare_set (ig.bare I1) hb)
    refine hout v y H' _ i' m' ys' px' h00 r out hX I2 st1 fun m'' px'' h' tk hm w' hX' I3 st3 => ⟨hX', I3, st3, nf, w', gs', ?_, by omega, fun pz s'' hXz J'' st'' hg'' => ?_⟩
    · show (s1.gens.setIfInBounds gn gs')[gn]? = some gs'
      rw [Array.getElem?_setIfInBounds_self_of_lt hg1]
    · have q := kap m'' pz hm w' hXz s'' J'' st'' hg''
      cases n with
      | zero => exact q.elim
      | succ n => exact q
  · obtain ⟨ys', H', px', h00, hX, I1, fin⟩ := hp
    exact hfin ys' H' _ px' h00 fin hX (ig.kept (tk := (s1.setGen gn .finished).toks) (ig.gens I1 (bare_set (ig.bare I1) rfl)) hk)
/-- from the start on, with what the consumer keeps -/
theorem GStartL.run {m : Nat} {H : Hp} {s : Shared} {px : Pins} {h' : Heap} {tk : Nat} (G : GStartL X Ac IG tn fp W Out Fin gn m H s) (hX : PX [] px) (I : IG px H { s with heap := h', toks := tk }) (st : tn 0 h') : GRunL X Ac IG PX tn fp W Out Fin gn 0 m (m + 1) [] px H { s with heap := h', toks := tk } := by
  obtain ⟨g1, g2, g3, g4, gs, g5, g7⟩ := G
  exact ⟨hX, I, st, g3, g4, gs, g5, Nat.lt_succ_self _, fun px' s'' hX' I' st' hg => g7 PX px' s'' hX' I' st' hg⟩
end
section
variable {X : Cx} {pins : List (Addr × Obj)} {σ : L2.St} {H : Hp} {s : Shared}
theorem gx_mkL {c T : Addr} {elt tg iter : Expr} {ifs : List Expr} {scope : Scope} {own : List (Str × Nat)} {gpos : Pos} {wi : TI} {g : TG} {tt : TT} {te : TE} {k : Nat} {Q' : Value → Shared → Prop} {Outf : (Nat → Nat → List V → Hp → Prop) → Nat → Nat → List V → V → Hp → Prop} {Fin : List V → Hp → Prop}
    (Ac : Around) (hA : Ac.handled = none) (hfr : Ac.frames = some X.stack) (hd : Ac.depth ≤ X.A.depth) (hu : Ac.units ≤ X.A.units + 8) (hr : Room (k + 1) X.A) (hc : X.calm = true) (hN : X.N.Nodup) (TB : GxR.TabB X.base X.mg c T) (hcode : X.env.code = .ref c) (ok : GOk X.N X.env.scope scope own) (hi : PI X tg iter wi)
    (hg : ∀ (A' : Around) (s3 : Shared) (H3 : Hp) (C : Addr) (code : Value) (fp : List Addr), PG (gxc X A' s3 H3 (genE X scope C code) fp) tg g)
    (ht : ∀ (A' : Around) (s3 : Shared) (H3 : Hp) (C : Addr) (code : Value) (fp : List Addr), Room k A' → PTs (gxc X A' s3 H3 (genE X scope C code) fp) ifs tt)
    (he : ∀ (A' : Around) (s3 : Shared) (H3 : Hp) (C : Addr) (code : Value) (fp : List Addr), Room k A' → PE (gxc X A' s3 H3 (genE X scope C code) fp) elt te)
    (hs : ∀ v, genFold iter X.env v = pure v) (I : Inv X pins σ H s)
    (h : wi σ H fun J H1 => GxR.TabG H1 T ∧ ∀ H2, GxR.Tabbed T H1 H2 → ∃ W, (∃ m, W 0 m [] H2) ∧ GTurnsL J g tt te (own.map (·.2)) σ W (Outf W) Fin)
    (hQ : ∀ (IG : Pins → Hp → Shared → Prop) (tn : Nat → Heap → Prop) (fp : List Addr) W (a : Addr) (gn m : Nat) (H2 : Hp) (s5 : Shared), IGokL X pins σ a gn tn IG →
      GStartL X Ac IG tn fp W (Outf W) Fin gn m H2 s5 → Q' (.ref a) s5) :
    wpAny (model X.prog X.w) X.A (eval (.GeneratorExp elt [⟨tg, iter, ifs, 0⟩] scope gpos) X.env) Q' X.xe s := by
  have free := gx_free I ok
  refine wpAny_GeneratorExp_make ok.co (closure_ok free) ok.cell ok.dot ok.blk.kind (Nat.lt_of_le_of_lt (by omega : X.A.depth ≤ X.A.depth + 3 * (k + 1) + 5) hr.dp) ?_ hs
  refine thn (hi.run pins s σ H _ I h) fun xv s1 h1 => thn h1 fun itv s2 h2 => ?_
  obtain ⟨it, fp, tn, J, H1, rfl, J1, TU, st2, f2, ⟨ps, hT, hok⟩, q⟩ := h2
  have gT : s2.heap.get? T = some (PySem.W.tabObj ps) := J1.hok T _ hT
  have cd : PySem.W.CodeHd s2.heap c T := TB.code.keeps J1.bk
  refine ⟨J1.nolimit, ?_⟩
  have lts : ∀ b ∈ fp, b < s2.heap.objs.size := fun b hb => by
    obtain ⟨o, e, _⟩ := TU.obj _ _ st2 b hb
    exact Heap.lt_size e
  have nfT : ∀ b ∈ fp, b ≠ T := fun b hb z => by
    have := (f2 b hb).1
    rw [z, hT] at this
    cases this
  -- behind the code object
  have on : ∀ (code : Value) (h3 : Heap) (tk : Nat) (more : Array Value), Heap.ExtBut T s2.heap h3 → s2.heap.objs.size ≤ h3.objs.size → h3.get? T = some (PySem.W.tabObj (ps ++ more)) → TriplesOk (ps ++ more).toList →
      wpAny (model X.prog X.w) X.A (builtinsFor X.env.globals X.env.builtins) (fun bi s4 =>
        ∀ h', h'.Ns s4.heap.objs.size (fun y => if y = ".0" then some (.ref it) else none) → Heap.SameBut s4.heap.objs.size (s4.heap.push { cls := .type "frame", data := .dict #[] }) h' →
          Q' (.ref h'.objs.size) { s4 with
            gens := s4.gens.push (.fresh (.compStart (.GeneratorExp elt [⟨tg, iter, ifs, 0⟩] scope gpos) 0 (.ref it) .none (genEnv scope (cloFrom X.env.cells scope.names []) s4.heap.objs.size code bi X.env))),
            toks := s4.toks + 1 + 1 + 1,
            heap := h'.push { cls := .type "generator", data := .fields #[.int s4.gens.size 0, .str "<genexpr>" (s4.toks + 1), .str (X.env.qual ++ "<genexpr>") (s4.toks + 1 + 1)] } }) X.xe { s2 with heap := h3, toks := tk } := by
    intro code h3 tk more ext ge3 gT3 ok3
    have J3 : Inv X pins σ (upd H1 T (.tbl (ps ++ more))) { s2 with heap := h3, toks := tk } := GxR.inv_tab (g' := s2.gens) (d' := s2.drawn) J1 hT ext gT3 J1.bare
    have tb : GxR.Tabbed T H1 (upd H1 T (.tbl (ps ++ more))) := ⟨⟨_, upd_same, ok3⟩, fun b nb => upd_ne nb⟩
    obtain ⟨W, ⟨m0, w0⟩, turn⟩ := q _ tb
    obtain ⟨bm, ob, e1, e2, _, e4, e5, e6, e7, e8⟩ := TB.bm
    refine wpAny_builtinsFor (m := X.mg) (by rw [J3.ok.glob]; exact J3.mod.glob.keeps J3.bk) e1 e2 (ext _ _ e4 (J1.bk _ _ e5)) e6 e7 e8 ?_
    intro h' hn hsb
    have f3 : ∀ b ∈ fp, FpOk X pins (upd H1 T (.tbl (ps ++ more))) b ∧ b < h3.objs.size := fun b hb => by
      refine ⟨⟨?_, (f2 b hb).2⟩, Nat.lt_of_lt_of_le (lts b hb) ge3⟩
      rw [upd_ne (nfT b hb)]
      exact (f2 b hb).1
    have st3 : tn 0 h3 := TU.keep _ _ _ st2 fun b hb o e => ext b o (nfT b hb) e
    have nf3 : ∀ b ∈ fp, (upd H1 T (.tbl (ps ++ more))) b = none := fun b hb => (f3 b hb).1.1
    generalize hH3 : upd H1 T (.tbl (ps ++ more)) = H3 at J3 w0 f3 nf3
    generalize hs3 : ({ s2 with heap := h3, toks := tk } : Shared) = s3 at J3 hn hsb ⊢
    have eh : s3.heap = h3 := by rw [← hs3]
    have szh : h'.objs.size = s3.heap.objs.size + 1 := by rw [hsb.1, Heap.size_push]
    have kp : ∀ b o, s3.heap.get? b = some o → h'.get? b = some o := fun b o e => hsb.extBut b o (Nat.ne_of_lt (Heap.lt_size e)) (Heap.get?_push_of_some _ e)
    generalize hoG : ({ cls := .type "generator", data := .fields #[.int s3.gens.size 0, .str "<genexpr>" (s3.toks + 1), .str (X.env.qual ++ "<genexpr>") (s3.toks + 1 + 1)] } : Obj) = oG
    have na : h'.objs.size ∉ fp := fun z => by
      have := (f3 _ z).2
      rw [← eh] at this
      exact Nat.lt_irrefl _ (Nat.lt_of_lt_of_le this (by rw [szh]; exact Nat.le_succ _))
    have start := gx_start (A' := Ac.in1.over (.compLoop (.GeneratorExp elt [⟨tg, iter, ifs, 0⟩] scope gpos) 0 (.ref it) .none (genE X scope s3.heap.objs.size code)) []) (code := code) (it := .ref it) (oG := oG)
      (g' := s3.gens.push (.fresh (.compStart (.GeneratorExp elt [⟨tg, iter, ifs, 0⟩] scope gpos) 0 (.ref it) .none (genE X scope s3.heap.objs.size code)))) (t' := s3.toks + 1 + 1 + 1) J3 ok hN (fun b hb => ⟨(f3 b hb).1, by rw [eh]; exact (f3 b hb).2⟩) hA (over_gen hfr) hn hsb
      (fun v => by rw [← hoG]; exact fun z => nomatch z) (J3.bare.push rfl) (by rw [← hoG]; rfl)
    have rm : Room k (Ac.in1.over (.compLoop (.GeneratorExp elt [⟨tg, iter, ifs, 0⟩] scope gpos) 0 (.ref it) .none (genE X scope s3.heap.objs.size code)) []) :=
      room_gen hA (by have := hr.dp; show Ac.depth + 1 + 3 * k + 5 < _; omega) (by have := hr.un; show Ac.units + 1 + 3 + 16 * k + 200 < _; omega)
    let Px : Pins → Prop := fun px => ∀ p ∈ px, h'.objs.size + 1 ≤ p.1
    have hPx : ∀ px, Px px → ∀ p ∈ px, p.1 ∉ fp := fun px z p hp q => by
      have l1 : h'.objs.size + 1 ≤ p.1 := z p hp
      have l2 := (f3 _ q).2
      rw [← eh] at l2
      have l0 : s3.heap.objs.size ≤ h'.objs.size + 1 := by omega
      exact Nat.lt_irrefl _ (Nat.lt_of_lt_of_le l2 (Nat.le_trans l0 l1))
    refine hQ (fun px H' s' => Px px ∧ Inv (gxl X Ac.in1 elt tg iter ifs scope gpos it (genE X scope s3.heap.objs.size code) s3 H3 fp) ((h'.objs.size, oG) :: px) (wipe σ (own.map (·.2))) H' s') tn fp W h'.objs.size s3.gens.size m0 H3 _ ?_ ?_
    · have bk : ∀ {px : Pins} {H' : Hp} {s' : Shared}, Inv (gxl X Ac.in1 elt tg iter ifs scope gpos it (genE X scope s3.heap.objs.size code) s3 H3 fp) ((h'.objs.size, oG) :: px) (wipe σ (own.map (·.2))) H' s' → Inv X pins σ H' s' := fun I' =>
        J3.call' (ch := fp) I'.os I'.base I'.hok I'.bare fun b hb => ⟨(f3 b hb).1.2.2.2.1, (f3 b hb).1.2.1, (f3 b hb).1.2.2.2.2.1, (f3 b hb).1.2.2.2.2.2⟩
      refine ⟨fun I' => I'.2.bare, fun I' hb => ⟨I'.1, I'.2.ok, I'.2.os, hb, I'.2.base, I'.2.loc, I'.2.cell, I'.2.free, I'.2.freeC, I'.2.pin, I'.2.hok, I'.2.len⟩, fun I' kk => ⟨I'.1, I'.2.kept kk⟩, fun I' => ?_, fun I' => I'.2.nolimit, fun I' => bk I'.2, ?_, ?_, ?_, ?_, ?_⟩
      · have z := (I'.2.pin (h'.objs.size, oG) (by simp)).1
        rw [← hoG] at z
        exact ⟨_, _, _, z, rfl, rfl, rfl⟩
      · intro H' s' h2' tk' S o I' kk hS e nc
        have g0 := (I'.2.pin (h'.objs.size, oG) (by simp)).1
        have l0 := Heap.lt_size g0
        refine ⟨fun p hp => ?_, ?_⟩
        · rw [List.mem_singleton.mp hp]
          exact Nat.le_trans l0 hS
        · have K1 := I'.2.kept (t' := tk') kk
          have F := I'.2.fpOk (b := S) hS (I'.2.hok.fresh hS)
          refine K1.pins_of fun p hp => ?_
          rcases List.mem_cons.mp hp with z | z
          · rw [z]
            exact K1.pin _ (by simp)
          · rw [List.mem_singleton.mp z]
            exact ⟨e, F.1, F.2.1, F.2.2.1, nc⟩
      · intro H' s' h2' tk' S o o' I' kk e nc
        obtain ⟨p1, I1⟩ := I'
        obtain ⟨q1, q2, q3, q4, q5⟩ := I1.pin (S, o) (by simp)
        have lS : h'.objs.size + 1 ≤ S := p1 (S, o) (by simp)
        have Iu : Inv (gxl X Ac.in1 elt tg iter ifs scope gpos it (genE X scope s3.heap.objs.size code) s3 H3 fp) [(h'.objs.size, oG)] (wipe σ (own.map (·.2))) H' s' := I1.pins_of fun p hp => I1.pin p (by rw [List.mem_singleton.mp hp]; simp)
        have K1 := Iu.turned (t' := tk') (it := S) kk q2 q3 (.inr (by show s3.heap.objs.size ≤ S; omega)) (fun y cc ec z => ?_) (fun p hp z => ?_)
        · refine ⟨fun p hp => by rw [List.mem_singleton.mp hp]; exact lS, K1.pins_of fun p hp => ?_⟩
          rcases List.mem_cons.mp hp with z | z
          · rw [z]
            exact K1.pin _ (by simp)
          · rw [List.mem_singleton.mp z]
            exact ⟨e, q2, q3, q4, nc⟩
        · obtain ⟨v, zc⟩ := J3.cell y cc (by
            have ec' : (cloFrom X.env.cells scope.names []).lookup y = some cc := ec
            rcases cloFrom_mem (PySem.mem_of_lookup ec') with hm | ⟨h1, rfl⟩
            · cases hm
            · obtain ⟨c0, hc0⟩ := free _ h1 rfl
              rw [hc0]
              rfl)
          have l0 : s3.heap.objs.size ≤ h'.objs.size + 1 := by omega
          have l4 := zc.lt
          rw [z] at l4
          exact Nat.lt_irrefl _ (Nat.lt_of_lt_of_le l4 (Nat.le_trans l0 lS))
        · have hp' : p = (h'.objs.size, oG) := by simpa using hp
          rw [hp'] at z
          have z' : h'.objs.size = S := z
          omega
      · intro H' s' S o I'
        exact (I'.2.pin (S, o) (by simp)).1
      · exact fun st kk => TU.keep _ _ _ st fun b _ o e => kk b o e
      · intro H' s' S o i h2' I' st kk
        refine TU.keep _ _ _ st fun b hb ob e => kk b ob (fun z => ?_) e
        exact hPx _ I'.1 (S, o) (by simp) (z ▸ hb)
    · refine ⟨⟨fun p hp => (nomatch hp), start⟩, TU.keep _ _ _ st3 fun b hb o e => Heap.get?_push_of_some _ (kp b o (by rw [eh]; exact e)), nf3, w0, _, Array.getElem?_push_size .., fun PX px s'' hX I'' st'' hg'' => ⟨rfl, ?_⟩⟩
      exact gx_seg0 TU st'' (gx_segL TU na ok.co (hg _ s3 H3 _ code fp) (ht _ s3 H3 _ code fp rm) (he _ s3 H3 _ code fp rm) turn _ Px hPx rfl m0 (m0 + 1) 0 [] px H3 s'' s'' (Nat.lt_succ_self _) (fun p hp => (I''.2.pin p (by simp [hp])).1) hX I'' st'' nf3 w0 hg'')
  cases among : codeAmong gpos ps.toList with
  | some cv =>
    refine wpAny_genexprCode_hit hcode (cd.code gT hok) among ?_
    exact on cv s2.heap s2.toks #[] (Heap.ExtBut.refl _ _) (Nat.le_refl _) (by rw [Array.append_empty]; exact gT) (by rw [Array.append_empty]; exact hok)
  | none =>
    refine wpAny_genexprCodeX hcode (cd.code gT hok) (cd.tab gT) among fun c' h' tk hx hge hlt isC _ tab' _ => ?_
    obtain ⟨_, _, _, _, _, _, _, _, _, _, _, _, _, _, _, _, _, _, _, ok', _⟩ := isC
    exact on _ h' tk _ hx (Nat.le_trans hge (Nat.le_of_lt hlt)) tab'.2 ok'
end
/-! ### tuple(..) of a generator expression -/
abbrev lsO (acc : Array Value) (c : Nat) : Obj := { cls := .type "list", dict := none, data := .seq acc c, slots := #[] }
def pxL (S : Addr) : List V → Pins → Prop := fun ys px => ∃ acc c, px = [(S, lsO acc c)] ∧ Vals ys acc.toList
abbrev outL (W : Nat → Nat → List V → Hp → Prop) : Nat → Nat → List V → V → Hp → Prop := fun i m ys y H' => ys.length < sizeLine ∧ ∃ m', m' < m ∧ W (i + 1) m' (ys ++ [y]) H'
section
variable {X : Cx} {pins : List (Addr × Obj)} {σ : L2.St} {IG : Pins → Hp → Shared → Prop} {tn : Nat → Heap → Prop} {fp : List Addr} {W : Nat → Nat → List V → Hp → Prop} {Fin : List V → Hp → Prop} {a : Addr} {gn : Nat} {B : Around}
theorem vals_lenG {ys : List V} {acc : Array Value} (h : Vals ys acc.toList) : acc.size = ys.length := by
  rw [← Array.length_toList]
  exact h.length.symm
theorem gx_extend {S : Addr} {res : Value} {R : Result → Shared → Prop} (ig : IGokL X pins σ a gn tn IG) (hA : B.handled = none) (hd : B.depth < recursionLimit)
    (hR : ∀ ys acc c H s, Vals ys acc.toList → Fin ys H → IG [(S, lsO acc c)] H s → R (.ok (.ret res)) s) : ∀ (n i m : Nat) (ys : List V) (px : Pins) (H : Hp) (s : Shared),
    GRunL X B.in1 IG (pxL S) tn fp W (outL W) Fin gn i m n ys px H s → codeAny (model X.prog X.w) B (.builtin "list.extend.loop" ⟨[.ref S, .ref a, res], []⟩) R s := by
  intro n
  induction n with
  | zero =>
    intro i m ys px H s G
    obtain ⟨_, _, _, _, _, gs, _, h, _⟩ := G
    exact absurd h (Nat.not_lt_zero _)
  | succ n ih =>
    intro i m ys px H s G
    refine codeAny_builtin F.entry_extend_loop (Around.under_plainId (A := B) F.plain_extend_loop _ ▸ ?_)
    show wpAny _ B.in1 (pyNext (.ref a) >>= _) _ _ s
    refine wpAny_bind (gx_nextL ig hA hd G (fun v y H' s' i' m' ys' px' _ r out hX I' st' cont => ?_) fun ys' H' s' px' _ fin hX I' => ?_)
    · obtain ⟨acc, c, rfl, hv⟩ := hX
      obtain ⟨hlt, m'', hm, w'⟩ := out
      have own := ig.own I'
      have ln := vals_lenG hv
      have oth : ∀ b u, b ≠ S → s'.heap.get? b = some u → (s'.heap.update S (Obj.mapSeq (·.push v))).get? b = some u := fun b u nb e => (Heap.get?_update_other _ _ (Ne.symm nb)).trans e
      have self := Heap.get?_update_self (Obj.mapSeq (·.push v)) own rfl
      show wpAny _ B.in1 (updateSeq S (·.push v) >>= _) _ _ _
      refine wpAny_bind (wpAny_updateSeq own rfl (wpAny_pure ⟨plainId_quiet F.plain_extend_loop _, ih (i' + 1) m'' _ _ H' _ (cont m'' _ _ s'.toks hm w' ⟨acc.push v, _, rfl, ?_⟩ (ig.put I' oth self fun u z => nomatch z) (ig.tnp I' st' oth))⟩) (by omega)
        (by show (acc.push v).size ≤ sizeLine + 1; rw [Array.size_push]; omega))
      rw [Array.toList_push]
      exact Paired.snoc hv r
    · obtain ⟨acc, c, rfl, hv⟩ := hX
      exact wpAny_pure (hR ys' acc c H' s' hv fin I')
/-- what is collected from it -/
theorem gx_collect {Q : List Value → Shared → Prop} {E : Value → Shared → Prop} {m : Nat} {H : Hp} {s : Shared} (ig : IGokL X pins σ a gn tn IG) (hA : B.handled = none) (hd : B.depth < recursionLimit)
    (G : GStartL X B.in1 IG tn fp W (outL W) Fin gn m H s) (hQ : ∀ ys (acc : Array Value) H' s', Vals ys acc.toList → Fin ys H' → Inv X pins σ H' s' → Q acc.toList s') : wpAny (model X.prog X.w) B (collect (.ref a)) Q E s := by
  have g0 := ig.isgen G.1
  have lt : (a : Nat) < s.heap.objs.size := by
    obtain ⟨o, nm, qn, ho, _⟩ := g0
    exact Heap.lt_size ho
  have nSa : s.heap.objs.size ≠ a := Nat.ne_of_gt lt
  unfold collect
  refine wpAny_bind (wpAny_runValue (codeAny_builtin F.entry_proto_collect (Around.under_plainId (A := B) F.plain_proto_collect _ ▸ ?_)))
  show wpAny _ B.in1 (newList [] >>= fun l => again (.builtin "list.__iadd__" ⟨[l, .ref a], []⟩)) _ _ s
  refine wpAny_bind (wpAny_newObj_type (wpAny_pure ⟨plainId_quiet F.plain_list_iadd _, codeAny_builtin F.entry_list_iadd (Around.under_plainId (A := B) F.plain_list_iadd _ ▸ ?_)⟩))
  have k1 : ∀ b u, s.heap.get? b = some u → (s.heap.push { cls := .type "list", data := .seq ([] : List Value).toArray }).get? b = some u := fun b u e => Heap.get?_push_of_some _ e
  have gS : (s.heap.push { cls := .type "list", data := .seq ([] : List Value).toArray }).get? s.heap.objs.size = some (lsO #[] 0) := Heap.get?_push_size _ rfl
  generalize s.heap.push { cls := .type "list", data := .seq ([] : List Value).toArray } = h1 at k1 gS
  have ty : Shared.TypeIs { s with heap := h1 } (.ref a) "generator" := Heap.IsGen.typeIs (s := { s with heap := h1 }) (g0.keeps k1)
  show wpAny _ B.in1 (Builtin.List.listExtendWith (.ref s.heap.objs.size) (.ref a) (.ref s.heap.objs.size)) _ _ _
  unfold Builtin.List.listExtendWith
  refine wpAny_bind (wpAny_typeOf ty ?_)
  simp only [show Builtin.List.listSameRef (.ref s.heap.objs.size) (.ref a) = false by simp [Builtin.List.listSameRef, nSa], show (Value.type "generator" == Value.type "list") = false by decide, show (Value.type "generator" == Value.type "tuple") = false by decide, Bool.or_false, Bool.false_eq_true, if_false]
  refine wpAny_bind (wpAny_pyIter_gen (s := { s with heap := h1 }) (g0.keeps k1) (wpAny_bind (wpAny_holding ?_)))
  unfold Builtin.List.listLengthHint
  refine wpAny_bind (wpAny_specialOf ty F.gen_no_len ?_)
  show wpAny _ B.in1 (specialOf (Value.ref a) (Str.ofString "__length_hint__") >>= _) _ _ _
  refine wpAny_bind (wpAny_specialOf ty F.gen_no_hint (wpAny_pure ?_))
  show wpAny _ B.in1 (rule "list.extend.makes-room" >>= fun _ => Builtin.List.listTouch (.ref s.heap.objs.size) >>= fun _ => again (.builtin "list.extend.loop" ⟨[.ref s.heap.objs.size, .ref a, .ref s.heap.objs.size], []⟩)) _ _ _
  refine wpAny_bind (wpAny_rule (wpAny_bind ?_))
  show wpAny _ B.in1 (updateSeq s.heap.objs.size (·.push .none) >>= fun _ => updateSeq s.heap.objs.size (·.pop)) _ _ _
  refine wpAny_bind (wpAny_updateSeq gS rfl ?_)
  have gS2 := Heap.get?_update_self (Obj.mapSeq (·.push Value.none)) gS rfl
  refine wpAny_updateSeq gS2 rfl ?_
  have gS3 := Heap.get?_update_self (Obj.mapSeq (·.pop)) gS2 rfl
  have oth : ∀ b u, b ≠ s.heap.objs.size → h1.get? b = some u → ((h1.update s.heap.objs.size (Obj.mapSeq (·.push Value.none))).update s.heap.objs.size (Obj.mapSeq (·.pop))).get? b = some u := fun b u nb e =>
    (Heap.get?_update_other _ _ (Ne.symm nb)).trans ((Heap.get?_update_other _ _ (Ne.symm nb)).trans e)
  have I1 := ig.add (tk := s.toks) G.1 k1 (Nat.le_refl _) gS fun u z => nomatch z
  have st1 := ig.tnk G.2.1 k1
  have I3 := ig.put (tk := s.toks) I1 oth gS3 fun u z => nomatch z
  have st3 := ig.tnp I1 st1 oth
  refine wpAny_pure ⟨plainId_quiet F.plain_extend_loop _, gx_extend ig hA hd (fun ys acc c H' s' hv fin I' => ?_) (m + 1) 0 m [] _ H _ (G.run (PX := pxL s.heap.objs.size) ⟨#[], _, rfl, .nil⟩ I3 st3)⟩
  show wpAny _ B (load s.heap.objs.size >>= _) _ _ s'
  exact wpAny_bind (wpAny_load (ig.own I') (wpAny_pure (hQ ys acc H' s' hv fin (ig.back I'))))
theorem gx_tuple {A : Around} {Q : Value → Shared → Prop} {E : Value → Shared → Prop} {m : Nat} {H : Hp} {s : Shared} (ig : IGokL X pins σ a gn tn IG) (hA : A.handled = none) (hd : A.depth < recursionLimit)
    (G : GStartL X A.in1.in1.in1 IG tn fp W (outL W) Fin gn m H s) (hz : ∀ ys H', Fin ys H' → ys.length ≤ sizeLine)
    (hQ : ∀ ys (acc : Array Value) H' s', Vals ys acc.toList → Fin ys H' → Inv X pins σ H' s' → Q (.ref s'.heap.objs.size) { s' with heap := s'.heap.push { cls := .type "tuple", data := .seq acc } }) :
    wpAny (model X.prog X.w) A (call (.type "tuple") [.ref a]) Q E s := by
  refine callType_codes (Q₁ := fun obj s1 => s1.TypeIs obj "tuple" ∧ Q obj s1) F.called_tuple (F.typeCall_tuple_1 _) F.entry_object_init (codeAny_of_tree ?_) fun obj s1 h1 =>
    ⟨h1.1, F.args_object_init_2 obj _, object_init_meets F.called_tuple.init.lookup F.called_tuple.made (by decide) X.prog X.w A.in1 _ s1 ⟨h1.1, rfl, h1.2⟩⟩
  show wpAny _ A.in1.in1 (do checkBuiltinCall "tuple.__new__" ⟨[.type "tuple", .ref a], []⟩; again (.builtin "tuple.__new__" ⟨[.type "tuple", .ref a], []⟩)) _ _ s
  refine wpAny_bind (wpAny_of_eq (F.newCall_tuple_1 _) (wpAny_pure ⟨plainId_quiet F.plain_tuple_new _, codeAny_builtin F.entry_tuple_new (Around.under_plainId (A := A.in1) F.plain_tuple_new _ ▸ ?_)⟩))
  have e1 := sub_tuple_self
  have e2 := init_tuple_lookup
  have e3 := madeHere_tuple
  have ty : s.TypeIs (.ref a) "generator" := Heap.IsGen.typeIs (ig.isgen G.1)
  wp_walk using wpAny_typeOf ty, gx_collect (B := A.in1.in1) ig hA hd G
  intro ys acc H' s' hv fin I'
  show wpAny _ _ (Builtin.Tuple.tupleExact acc.toList.toArray >>= fun v => ret v) _ _ _
  unfold Builtin.Tuple.tupleExact
  rw [show acc.toList.toArray = acc by simp]
  exact wpAny_bind (wpAny_newObj_type (wpAny_pure ⟨⟨_, Heap.get?_push_size _ rfl, rfl⟩, hQ ys acc H' s' hv fin I'⟩) (by show acc.size ≤ sizeLine; rw [vals_lenG hv]; exact hz ys H' fin))
end
def tTupG (T : Addr) (wi : TI) (g : TG) (tt : TT) (te : TE) (vs : List Nat) : TE := fun σ H Q => wi σ H fun J H1 => GxR.TabG H1 T ∧ ∀ H2, GxR.Tabbed T H1 H2 → ∃ W : Nat → Nat → List V → Hp → Prop, (∃ m, W 0 m [] H2) ∧
  GTurnsL J g tt te vs σ W (outL W) (fun ys H' => ys.length ≤ sizeLine ∧ ∀ p, H' p = none → Q (.ref p) (upd H' p (.tup ys)))
section
variable {X : Cx} {pins : List (Addr × Obj)} {σ : L2.St}
theorem pe_tupG {c T : Addr} {elt tg iter : Expr} {ifs : List Expr} {scope : Scope} {own : List (Str × Nat)} {gpos p pos : Pos} {wi : TI} {g : TG} {tt : TT} {te : TE} {k : Nat}
    (hr : Room (k + 1) X.A) (hgl : Gl X "tuple") (hm : X.mg "tuple" = none) (hc : X.calm = true) (hN : X.N.Nodup) (TB : GxR.TabB X.base X.mg c T) (hcode : X.env.code = .ref c) (ok : GOk X.N X.env.scope scope own) (hi : PI X tg iter wi)
    (hg : ∀ (A' : Around) (s3 : Shared) (H3 : Hp) (C : Addr) (code : Value) (fp : List Addr), PG (gxc X A' s3 H3 (genE X scope C code) fp) tg g)
    (ht : ∀ (A' : Around) (s3 : Shared) (H3 : Hp) (C : Addr) (code : Value) (fp : List Addr), Room k A' → PTs (gxc X A' s3 H3 (genE X scope C code) fp) ifs tt)
    (he : ∀ (A' : Around) (s3 : Shared) (H3 : Hp) (C : Addr) (code : Value) (fp : List Addr), Room k A' → PE (gxc X A' s3 H3 (genE X scope C code) fp) elt te)
    (hs : ∀ v, genFold iter X.env v = pure v := by intro _; rfl)
    (hst : starEach [.GeneratorExp elt [⟨tg, iter, ifs, 0⟩] scope gpos] X.env = (false, eval (.GeneratorExp elt [⟨tg, iter, ifs, 0⟩] scope gpos) X.env) :: starEach [] X.env := by rfl) :
    PE X (.Call (.Name "tuple" p) [.GeneratorExp elt [⟨tg, iter, ifs, 0⟩] scope gpos] [] pos) (tTupG T wi g tt te (own.map (·.2))) := by
  refine ⟨fun pins s σ H Q I h => wpAny_Call_Name_kw (ld_blt I hgl hm (show bootBuiltins "tuple" = some (.type "tuple") by decide +kernel) ?_)⟩
  refine PyProof.Rows.callWith_type1 ?_ hst (by rfl)
  rw [hst]
  have hA := I.ok.hd hc
  have hf := I.ok.frames
  refine Calls.spliced_cons (gx_mkL (Outf := outL) (Fin := fun ys H' => ys.length ≤ sizeLine ∧ ∀ p, H' p = none → Q (.ref p) (upd H' p (.tup ys)))
    X.A.in1.in1.in1 hA hf (Nat.le_refl _) (by show X.A.units + 1 + 1 + 1 ≤ _; omega) hr hc hN TB hcode ok hi hg ht he hs I h ?_)
  intro IG tn fp W a gn m H2 s5 ig G
  refine Calls.spliced_nil (gx_tuple ig hA (Nat.lt_of_le_of_lt (by omega : X.A.depth ≤ X.A.depth + 3 * (k + 1) + 5) hr.dp) G (fun ys H' z => z.1) fun ys acc H' s' hv fin I' => ?_)
  have nw := I'.hok.fresh (Nat.le_refl s'.heap.objs.size)
  exact ⟨.ref s'.heap.objs.size, _, I'.laid (t' := s'.toks) (o := .tup ys) (fun b u e => Heap.get?_push_of_some _ e) (Nat.le_refl _) ⟨fin.1, acc.toList, hv, ⟨_, Heap.get?_push_size _ rfl, rfl, 0, by show Data.seq acc 0 = Data.seq acc.toList.toArray 0; rw [Array.toArray_toList]⟩⟩, rfl, fin.2 _ nw⟩
end
/-! ### entries that are entries -/
abbrev TB2 (T1 T2 : Addr) (H H' : Hp) : Prop := (∀ b o, H b = some o → b ≠ T1 → b ≠ T2 → H' b = some o) ∧ GxR.TabG H' T1 ∧ GxR.TabG H' T2
theorem TB2.tr {T1 T2 : Addr} {H H1 H2 : Hp} (a : TB2 T1 T2 H H1) (b : TB2 T1 T2 H1 H2) : TB2 T1 T2 H H2 := ⟨fun c o e n1 n2 => b.1 c o (a.1 c o e n1 n2) n1 n2, b.2⟩
theorem tabg_same {H H' : Hp} {T : Addr} (b : Same H H') (t : GxR.TabG H T) : GxR.TabG H' T := by
  obtain ⟨ps, e, ok⟩ := t
  exact ⟨ps, b T _ e, ok⟩
theorem TB2.same {T1 T2 : Addr} {H H' : Hp} (t1 : GxR.TabG H T1) (t2 : GxR.TabG H T2) (h : Same H H') : TB2 T1 T2 H H' := ⟨fun b o e _ _ => h b o e, tabg_same h t1, tabg_same h t2⟩
theorem TB2.one {T1 T2 : Addr} {H H' : Hp} (ne : T1 ≠ T2) (t2 : GxR.TabG H T2) (h : GxR.Tabbed T1 H H') : TB2 T1 T2 H H' := by
  obtain ⟨ps, e, ok⟩ := t2
  exact ⟨fun b o e n1 _ => (h.2 b n1).trans e, h.1, ps, (h.2 T2 ne.symm).trans e, ok⟩
theorem TB2.two {T1 T2 : Addr} {H H' : Hp} (ne : T1 ≠ T2) (t1 : GxR.TabG H T1) (h : GxR.Tabbed T2 H H') : TB2 T1 T2 H H' := by
  obtain ⟨ps, e, ok⟩ := t1
  exact ⟨fun b o e _ n2 => (h.2 b n2).trans e, ⟨ps, (h.2 T1 ne).trans e, ok⟩, h.1⟩
/-- what is no table stays -/
theorem TB2.keep {T1 T2 : Addr} {H H' : Hp} (h : TB2 T1 T2 H H') (t1 : GxR.TabG H T1) (t2 : GxR.TabG H T2) {a : Addr} {o : HO} (e : H a = some o) (n : ∀ ps, o ≠ .tbl ps) : H' a = some o := by
  obtain ⟨p1, e1, _⟩ := t1
  obtain ⟨p2, e2, _⟩ := t2
  exact h.1 a o e (ne_of e e1 (n p1)) (ne_of e e2 (n p2))
def nmV : V → Bool
  | .str z => nameB z
  | _ => false
def bnd (x : Str) : Int × Int := if x = "moment" then (0, 9999) else if x = "many" then (1, 1000000000) else (0, 1000000000)
def inB (x : Str) : V → Bool
  | .int i => decide ((bnd x).1 ≤ i) && decide (i ≤ (bnd x).2)
  | _ => false
def fitB (v : V) (x : Str) : Bool := if x = "name" then nmV v else if x = "end" then (decide (v = .str "") || nmV v) else inB x v
def Part (v : V) : Prop := (∃ z : Str, v = .str z ∧ z.length ≤ 1000) ∨ ∃ i, v = .int i
def sorts4 : List Str := ["moment", "many", "counted", "price"]
def sorts6 : List Str := ["name", "end", "moment", "many", "counted", "price"]
def spWhole : Sp := fun vs H Q _ => ∃ v : V, vs = [v] ∧ Part v ∧ Q (.bl (match v with | .int _ => true | _ => false)) H
def spFits (T1 : Addr) : Sp := fun vs H Q _ => ∃ (v : V) (x : Str), vs = [v, .str x] ∧ Part v ∧ x ∈ sorts6 ∧ GxR.TabG H T1 ∧ ∀ H', GxR.Tabbed T1 H H' → Q (.bl (fitB v x)) H'
namespace Ent
def sorts : Ent → List Str
  | come .. => ["name", "moment", "name", "name", "many", "price"]
  | go .. => ["name", "moment", "name", "name", "many"]
  | move .. => ["name", "moment", "name", "name", "name", "many"]
  | some_ .. => ["name", "moment", "name", "name", "end"]
  | swap .. => ["name", "moment", "name", "name"]
  | count .. => ["name", "moment", "name", "name", "counted", "name"]
  | look .. => ["name", "moment", "name", "name"]
def parts (e : Ent) : List V := .str e.name :: .int e.moment :: e.rest
def places : Ent → List Str
  | come _ _ _ p _ _ => [p]
  | go _ _ _ p _ => [p]
  | move _ _ _ o t _ => [o, t]
  | some_ _ _ _ o t => if t = "" then [o] else [o, t]
  | swap _ _ o t => [o, t]
  | count _ _ _ p _ _ => [p]
  | look _ _ _ p => [p]
def goodV : Ent → V
  | come _ _ g _ _ _ => .str g
  | go _ _ g _ _ => .str g
  | move _ _ g _ _ _ => .str g
  | some_ _ _ g _ _ => .str g
  | swap _ _ _ _ => .non
  | count _ _ g _ _ _ => .str g
  | look _ _ g _ => .str g
structure Fine (e : Ent) : Prop where
  fit : ∀ (i : Nat) (v : V) (x : Str), e.parts[i]? = some v → e.sorts[i]? = some x → Part v ∧ fitB v x = true
  apart : e.places.Nodup
theorem len_parts (e : Ent) : e.parts.length = e.sorts.length := by cases e <;> rfl
theorem sorts_in (e : Ent) : ∀ x ∈ e.sorts, x ∈ sorts6 := by
  cases e <;> (intro x hx; simp only [sorts, sorts6, List.mem_cons, List.not_mem_nil, or_false] at hx ⊢; rcases hx with rfl | rfl | rfl | rfl | rfl | rfl <;> simp) 
end Ent
def spPlaces : Sp := fun vs H Q _ => ∃ (a : Addr) (e : Ent), vs = [.ref a] ∧ H a = some (.tup e.vals) ∧ ∀ (tp : Addr) (H' : Hp), Same H H' → H' tp = some (.tup (e.places.map V.str)) → Q (.ref tp) H'
def spGood : Sp := fun vs H Q _ => ∃ (a : Addr) (e : Ent), vs = [.ref a] ∧ H a = some (.tup e.vals) ∧ Q e.goodV H
def spDay : Sp := fun vs H Q _ => ∃ m : Int, vs = [.int m] ∧ Q (.int (m / 100)) H
def spIsEntry (T1 T2 : Addr) : Sp := fun vs H Q _ => ∃ (a : Addr) (e : Ent), vs = [.ref a] ∧ H a = some (.tup e.vals) ∧ e.Fine ∧ GxR.TabG H T1 ∧ GxR.TabG H T2 ∧ ∀ H', TB2 T1 T2 H H' → Q (.bl true) H'
section
variable {P : Program} {w : World} {K : PySem.W.Frag} {mg : Str → Option Value} {base : Heap}
theorem scWhole : FnScope ["thing"] ["thing"] (defScope sWhole) := ⟨rfl, rfl, rfl, by decide +kernel, rfl, by decide +kernel, by decide +kernel⟩
theorem scFits : FnScope ["part", "sort", "low", "high"] ["part", "sort"] (defScope sFits) := ⟨rfl, rfl, rfl, by decide +kernel, rfl, by decide +kernel, by decide +kernel⟩
theorem scPlacesOf : FnScope ["entry", "word"] ["entry"] (defScope sPlacesOf) := ⟨rfl, rfl, rfl, by decide +kernel, rfl, by decide +kernel, by decide +kernel⟩
theorem at0 (e : Ent) : atI e.vals 0 = some (.str e.word) := atI_nat (j := 0) rfl
theorem at2 (e : Ent) : atI e.vals 2 = some (.int e.moment) := atI_nat (j := 2) rfl
theorem ok_whole {f : Addr} {fd : FuncData} (F : Fun K "is_whole" "is_whole" sWhole f fd) (mi : mg "isinstance" = none) (m1 : mg "int" = none) (m2 : mg "bool" = none) : FnOk P w K mg base CX0 1 f fd ["thing"] spWhole := by
  refine F.ok scWhole (fun vs H Q E h => ?_) (fun cdv A outer s H vs Q E hr h => ?_)
  · obtain ⟨v, rfl, _⟩ := h
    rfl
  · obtain ⟨v, rfl, pt, q⟩ := h
    refine ⟨_, pss_one (ps_ret (pe_and (pe_callB call_isi (by rfl) mi (by decide +kernel) (pa_cons (pv 0) (pa_cons (pe_bltn (v := .ty "int") (u := .type "int") (by rfl) m1 (by decide +kernel) rfl) pa_nil)))
      (pe_one (pe_not (pe_callB call_isi (by rfl) mi (by decide +kernel) (pa_cons (pv 0) (pa_cons (pe_bltn (v := .ty "bool") (u := .type "bool") (by rfl) m2 (by decide +kernel) rfl) pa_nil))))))), ?_⟩
    rcases pt with ⟨z, rfl, _⟩ | ⟨i, rfl⟩
    · exact ⟨_, rfl, _, _, _, _, false, rfl, .ty "int", .base (.str z), kit_ty (by decide +kernel), _, rfl, iteF q⟩
    · exact ⟨_, rfl, _, _, _, _, true, rfl, .ty "int", .base (.int i), kit_ty (by decide +kernel), _, rfl, iteT ⟨_, rfl, _, _, _, _, false, rfl, .ty "bool", .base (.int i), kit_ty (by decide +kernel), _, rfl, q⟩⟩
theorem at3 {e : Ent} (h : e.goodV ≠ .non) : atI e.vals 3 = some e.goodV := by
  cases e <;> first | exact atI_nat (j := 3) rfl | exact absurd rfl h
theorem sw_word (e : Ent) : e.word = "swap" ↔ e.goodV = .non := by
  have k1 : ("come" : Str) ≠ "swap" := by decide +kernel
  have k2 : ("go" : Str) ≠ "swap" := by decide +kernel
  have k3 : ("move" : Str) ≠ "swap" := by decide +kernel
  have k4 : ("some" : Str) ≠ "swap" := by decide +kernel
  have k6 : ("count" : Str) ≠ "swap" := by decide +kernel
  have k7 : ("look" : Str) ≠ "swap" := by decide +kernel
  cases e
  · exact ⟨fun h => absurd h k1, fun h => nomatch h⟩
  · exact ⟨fun h => absurd h k2, fun h => nomatch h⟩
  · exact ⟨fun h => absurd h k3, fun h => nomatch h⟩
  · exact ⟨fun h => absurd h k4, fun h => nomatch h⟩
  · exact ⟨fun _ => rfl, fun _ => rfl⟩
  · exact ⟨fun h => absurd h k6, fun h => nomatch h⟩
  · exact ⟨fun h => absurd h k7, fun h => nomatch h⟩
theorem ok_fits {f fN fW aB T1 : Addr} {fd dN dW : FuncData} (F : Fun K "fits" "fits" sFits f fd) (N : DefT P w K mg base "is_name" 1 fN dN ["thing"] (spName K T1)) (W : DefT P w K mg base "is_whole" 1 fW dW ["thing"] spWhole)
    (mB : mg "BOUNDS" = some (.ref aB)) (hB : ∀ x ∈ sorts4, ∃ aT, KDct K w aB x (.ref aT) ∧ ∀ H, SqT K H aT [.int (bnd x).1, .int (bnd x).2]) : FnOk P w K mg base CX0 2 f fd ["part", "sort"] (spFits T1) := by
  refine F.ok scFits (fun vs H Q E h => ?_) (fun cdv A outer s H vs Q E hr h => ?_)
  · obtain ⟨v, x, rfl, _⟩ := h
    rfl
  · obtain ⟨v, x, rfl, pt, hx, tg, q⟩ := h
    have nd := scFits.nd
    refine ⟨_, pss_cons (ps_if (pt_cmpR op_eq (pv 1) pe_str (nomark _)) (pss_one (ps_ret (pe_call N.ok hr (by rfl) N.g N.kp N.b .nil pass0 (pa_cons (pv 0) pa_nil)))) pss_nil)
      (pss_cons (ps_if (pt_cmpR op_eq (pv 1) pe_str (nomark _)) (pss_one (ps_ret (pe_or (pe_cmpR op_eq (pv 0) pe_str (nomark _)) (pe_one (pe_call N.ok hr (by rfl) N.g N.kp N.b .nil pass0 (pa_cons (pv 0) pa_nil)))))) pss_nil)
      (pss_cons (ps_asg (pe_ix ix_kdict (pe_glob (v := .ref aB) rfl mB rfl) (pv 1) (fun _ _ => rfl)) (pg_tup (by rfl) (pgs_cons (pg_name (i := 2) nd rfl (Or.inl rfl)) (pgs_cons (pg_name (i := 3) nd rfl (Or.inl rfl)) pgs_nil))))
      (pss_one (ps_ret (pe_and (pe_call W.ok hr (by rfl) W.g W.kp W.b .nil pass0 (pa_cons (pv 0) pa_nil)) (pe_one (pe_chain op_le op_le (pv 2) (pv 0) (pv 3)))))))), ?_⟩
    have same0 : GxR.Tabbed T1 H H := ⟨tg, fun _ _ => rfl⟩
    -- is_name of the part
    have nm : ∀ (Q1 : VK), (∀ H2, GxR.Tabbed T1 H H2 → Q1 (.bl (nmV v)) H2) → spName K T1 ([v] ++ []) H Q1 E0 := fun Q1 h1 => by
      rcases pt with ⟨z, rfl, lz⟩ | ⟨i, rfl⟩
      · exact ⟨_, rfl, tg, .inl ⟨z, rfl, small_sz lz, h1⟩⟩
      · exact ⟨_, rfl, tg, .inr ⟨"int", .base (.int i), by decide +kernel, h1 H same0⟩⟩
    refine ⟨_, rfl, rfl, _, rfl, ite2 (fun e => ?_) (fun e => ?_)⟩
    · have e' : x = "name" := V.str.inj (of_decide_eq_true e)
      refine ⟨_, rfl, nm _ fun H2 tb => ?_⟩
      have z := q H2 tb
      unfold fitB at z
      rw [if_pos e'] at z
      exact z
    · have e1 : ¬ x = "name" := fun h => e (decide_eq_true (congrArg V.str h))
      refine ⟨_, rfl, rfl, _, rfl, ite2 (fun e => ?_) (fun e => ?_)⟩
      · have e' : x = "end" := V.str.inj (of_decide_eq_true e)
        have fe : fitB v x = (decide (v = .str "") || nmV v) := by
          unfold fitB
          rw [if_neg e1, if_pos e']
        have fl : scal v (V.str "") = true := by
          rcases pt with ⟨z, rfl, _⟩ | ⟨i, rfl⟩ <;> rfl
        rw [fe] at q
        refine ⟨_, rfl, fl, decide (v = .str ""), rfl, ?_⟩
        cases hd : decide (v = V.str "") with
        | true =>
          rw [hd] at q
          exact iteT (q H same0)
        | false =>
          rw [hd] at q
          exact iteF ⟨_, rfl, nm _ fun H2 tb => q H2 tb⟩
      · have e2 : ¬ x = "end" := fun h => e (decide_eq_true (congrArg V.str h))
        have x4 : x ∈ sorts4 := by
          simp only [sorts6, sorts4, List.mem_cons, List.not_mem_nil, or_false] at hx ⊢
          rcases hx with h | h | h | h | h | h
          · exact absurd h e1
          · exact absurd h e2
          · exact .inl h
          · exact .inr (.inl h)
          · exact .inr (.inr (.inl h))
          · exact .inr (.inr (.inr h))
        obtain ⟨aT, kd, sq⟩ := hB x x4
        have fe : fitB v x = inB x v := by
          unfold fitB
          rw [if_neg e1, if_neg e2]
        rw [fe] at q
        have q0 := q H same0
        refine ⟨_, rfl, aB, x, _, rfl, rfl, kd, aT, _, rfl, sq H, rfl, _, _, rfl, _, _, rfl, rfl, _, rfl, v, rfl, pt, ?_⟩
        rcases pt with ⟨z, rfl, lz⟩ | ⟨i, rfl⟩
        · exact ⟨_, rfl, iteF q0⟩
        · refine ⟨_, rfl, iteT ⟨_, rfl, _, rfl, (bnd x).1, i, rfl, rfl, _, rfl, ite2 (fun a1 => ?_) (fun a1 => ?_)⟩⟩
          · refine ⟨_, rfl, i, (bnd x).2, rfl, rfl, ?_⟩
            have z : inB x (.int i) = decide (i ≤ (bnd x).2) := by
              show (decide ((bnd x).1 ≤ i) && decide (i ≤ (bnd x).2)) = _
              rw [a1, Bool.true_and]
            rw [z] at q0
            exact q0
          · have z : inB x (.int i) = false := by
              show (decide ((bnd x).1 ≤ i) && decide (i ≤ (bnd x).2)) = _
              rw [Bool.eq_false_iff.mpr a1, Bool.false_and]
            rw [z] at q0
            exact q0
end
/-! ### places_of, is_entry -/
theorem cut_mid {xs : List V} {i j : Nat} (h : j ≤ xs.length) (hi : i ≤ j) : cutV xs (some (i : Int)) (some (j : Int)) = (xs.drop i).take (j - i) := by
  unfold cutV
  rw [HT.sIx_nat, HT.sIx_nat, Nat.min_eq_left h, Nat.min_eq_left (Nat.le_trans hi h)]
theorem no_whole {n i j : Nat} (h : i ≤ n) (hi : 0 < i) : ¬ (HT.sIx n 0 (some (i : Int)) = 0 ∧ HT.sIx n n (some (j : Int)) = n) := by
  rw [HT.sIx_nat, Nat.min_eq_left h]
  omega
section
variable {P : Program} {w : World} {K : PySem.W.Frag} {mg : Str → Option Value} {base : Heap}
theorem bl_of {a b : Str} {k : Bool} (h : decide (V.str a = V.str b) = k) : V.bl (decide (V.str a = V.str b)) = V.bl k := congrArg V.bl h
theorem ok_placesOf {f : Addr} {fd : FuncData} (F : Fun K "places_of" "places_of" sPlacesOf f fd) : FnOk P w K mg base CX0 1 f fd ["entry"] spPlaces := by
  refine F.ok scPlacesOf (fun vs H Q E h => ?_) (fun cdv A outer s H vs Q E hr h => ?_)
  · obtain ⟨a, e, rfl, _⟩ := h
    rfl
  · obtain ⟨a, e, rfl, ha, q⟩ := h
    have nd := scPlacesOf.nd
    refine ⟨_, pss_cons (ps_set (i := 1) nd rfl (Or.inl rfl) (pe_ix ix_tup (pv 0) pe_int (fun _ _ => rfl)))
      (pss_cons (ps_if (pt_cmpR op_eq (pv 1) pe_str (nomark _)) (pss_one (ps_ret (pe_slice sl_tup (pv 0) (po_some pe_int) (po_some pe_int)))) pss_nil)
      (pss_cons (ps_if (PW.pt (pw_or (pt_cmpR op_eq (pv 1) pe_str (nomark _)) (pw_or1 (PW.pt (pw_and (pt_cmpR op_eq (pv 1) pe_str (nomark _)) (pw_and1 (pt_cmpR op_ne (pe_ix ix_tup (pv 0) pe_int (fun _ _ => rfl)) pe_str (nomark _)))))))) (pss_one (ps_ret (pe_slice sl_tup (pv 0) (po_some pe_int) (po_some pe_int)))) pss_nil)
      (pss_one (ps_ret (pe_slice sl_tup (pv 0) (po_some pe_int) (po_some pe_int)))))), ?_⟩
    refine ⟨_, rfl, a, _, 0, _, rfl, rfl, SqT.of ha, at0 e, ?_⟩
    have c1 : decide (V.str "come" = V.str "swap") = false := by decide +kernel
    have c2 : decide (V.str "go" = V.str "swap") = false := by decide +kernel
    have c3 : decide (V.str "move" = V.str "swap") = false := by decide +kernel
    have c4 : decide (V.str "some" = V.str "swap") = false := by decide +kernel
    have c6 : decide (V.str "count" = V.str "swap") = false := by decide +kernel
    have c7 : decide (V.str "look" = V.str "swap") = false := by decide +kernel
    have m1 : decide (V.str "come" = V.str "move") = false := by decide +kernel
    have m2 : decide (V.str "go" = V.str "move") = false := by decide +kernel
    have m4 : decide (V.str "some" = V.str "move") = false := by decide +kernel
    have m6 : decide (V.str "count" = V.str "move") = false := by decide +kernel
    have m7 : decide (V.str "look" = V.str "move") = false := by decide +kernel
    have s1 : decide (V.str "come" = V.str "some") = false := by decide +kernel
    have s2 : decide (V.str "go" = V.str "some") = false := by decide +kernel
    have s6 : decide (V.str "count" = V.str "some") = false := by decide +kernel
    have s7 : decide (V.str "look" = V.str "some") = false := by decide +kernel
    cases e with
    | come nme mo g pl many price =>
      refine ⟨_, rfl, rfl, false, bl_of c1, iteF ⟨_, rfl, rfl, false, bl_of m1, iteF ⟨_, rfl, rfl, false, bl_of s1, iteF ?_⟩⟩⟩
      exact ⟨_, rfl, 4, rfl, 5, rfl, a, _, rfl, SqT.of ha, no_whole (i := 4) (j := 5) (by show 4 ≤ 7; decide) (by decide), fun p np => q p _ (same_new np) (by rw [upd_same]; rfl)⟩
    | go nme mo g pl many =>
      refine ⟨_, rfl, rfl, false, bl_of c2, iteF ⟨_, rfl, rfl, false, bl_of m2, iteF ⟨_, rfl, rfl, false, bl_of s2, iteF ?_⟩⟩⟩
      exact ⟨_, rfl, 4, rfl, 5, rfl, a, _, rfl, SqT.of ha, no_whole (i := 4) (j := 5) (by show 4 ≤ 6; decide) (by decide), fun p np => q p _ (same_new np) (by rw [upd_same]; rfl)⟩
    | move nme mo g one other many =>
      refine ⟨_, rfl, rfl, false, bl_of c3, iteF ⟨_, rfl, rfl, true, bl_of (decide_eq_true rfl), iteT ?_⟩⟩
      exact ⟨_, rfl, 4, rfl, 6, rfl, a, _, rfl, SqT.of ha, no_whole (i := 4) (j := 6) (by show 4 ≤ 7; decide) (by decide), fun p np => q p _ (same_new np) (by rw [upd_same]; rfl)⟩
    | some_ nme mo g one other =>
      refine ⟨_, rfl, rfl, false, bl_of c4, iteF ⟨_, rfl, rfl, false, bl_of m4, iteF ⟨_, rfl, rfl, true, bl_of (decide_eq_true rfl), iteT ?_⟩⟩⟩
      refine ⟨_, rfl, a, _, 5, .str other, rfl, rfl, SqT.of ha, atI_nat (j := 5) rfl, rfl, !decide (V.str other = V.str ""), rfl, ?_⟩
      by_cases z : other = ""
      · rw [decide_eq_true (congrArg V.str z)]
        refine iteF ⟨_, rfl, 4, rfl, 5, rfl, a, _, rfl, SqT.of ha, no_whole (i := 4) (j := 5) (by show 4 ≤ 6; decide) (by decide), fun p np => q p _ (same_new np) ?_⟩
        rw [upd_same]
        show some (HO.tup [V.str one]) = some (HO.tup ((if other = "" then [one] else [one, other]).map V.str))
        rw [if_pos z]
        rfl
      · rw [decide_eq_false fun h => z (V.str.inj h)]
        refine iteT ⟨_, rfl, 4, rfl, 6, rfl, a, _, rfl, SqT.of ha, no_whole (i := 4) (j := 6) (by show 4 ≤ 6; decide) (by decide), fun p np => q p _ (same_new np) ?_⟩
        rw [upd_same]
        show some (HO.tup [V.str one, V.str other]) = some (HO.tup ((if other = "" then [one] else [one, other]).map V.str))
        rw [if_neg z]
        rfl
    | swap nme mo one other =>
      refine ⟨_, rfl, rfl, true, bl_of (decide_eq_true rfl), iteT ?_⟩
      exact ⟨_, rfl, 3, rfl, 5, rfl, a, _, rfl, SqT.of ha, no_whole (i := 3) (j := 5) (by show 3 ≤ 5; decide) (by decide), fun p np => q p _ (same_new np) (by rw [upd_same]; rfl)⟩
    | count nme mo g pl many hand =>
      refine ⟨_, rfl, rfl, false, bl_of c6, iteF ⟨_, rfl, rfl, false, bl_of m6, iteF ⟨_, rfl, rfl, false, bl_of s6, iteF ?_⟩⟩⟩
      exact ⟨_, rfl, 4, rfl, 5, rfl, a, _, rfl, SqT.of ha, no_whole (i := 4) (j := 5) (by show 4 ≤ 7; decide) (by decide), fun p np => q p _ (same_new np) (by rw [upd_same]; rfl)⟩
    | look nme mo g pl =>
      refine ⟨_, rfl, rfl, false, bl_of c7, iteF ⟨_, rfl, rfl, false, bl_of m7, iteF ⟨_, rfl, rfl, false, bl_of s7, iteF ?_⟩⟩⟩
      exact ⟨_, rfl, 4, rfl, 5, rfl, a, _, rfl, SqT.of ha, no_whole (i := 4) (j := 5) (by show 4 ≤ 5; decide) (by decide), fun p np => q p _ (same_new np) (by rw [upd_same]; rfl)⟩
theorem once_nodup : ∀ {xs : List Str}, xs.Nodup → once xs = xs := by
  intro xs
  have key : ∀ (l acc : List Str), (acc ++ l).Nodup → l.foldl (fun acc x => if acc.contains x = true then acc else acc ++ [x]) acc = acc ++ l := by
    intro l
    induction l with
    | nil => intro acc _; rw [List.append_nil]; rfl
    | cons x r ih =>
      intro acc h
      have nx : ¬ acc.contains x = true := fun z => by
        have hx : x ∈ acc := by simpa using z
        rw [List.nodup_append] at h
        exact h.2.2 x hx x List.mem_cons_self rfl
      rw [List.foldl_cons, if_neg nx]
      have e : acc ++ x :: r = (acc ++ [x]) ++ r := by rw [List.append_assoc]; rfl
      rw [e] at h ⊢
      exact ih _ h
  intro h
  exact key xs [] h
abbrev isN : List Str := ["thing", "sorts", "places", "part", "sort"]
theorem scIs : FnScope isN ["thing"] (defScope sIsEntry) := ⟨rfl, rfl, rfl, by decide +kernel, rfl, by decide +kernel, by decide +kernel⟩
theorem vals_cut (e : Ent) : cutV e.vals (some 1) none = e.parts := by
  have h : cutV e.vals (some ((1 : Nat) : Int)) none = e.parts := by
    unfold cutV
    rw [HT.sIx_nat, HT.sIx_none]
    have l : 1 ≤ e.vals.length := by show 1 ≤ _ + 1; omega
    rw [Nat.min_eq_left l]
    show (e.parts).take (e.parts.length + 1 - 1) = e.parts
    rw [Nat.add_sub_cancel]
    exact List.take_length
  exact h
theorem places_le (e : Ent) : e.places.length ≤ 2 := by
  cases e with
  | some_ n m g o t =>
    by_cases z : t = ""
    · rw [show Ent.places (.some_ n m g o t) = [o] from if_pos z]
      exact Nat.le_succ 1
    · rw [show Ent.places (.some_ n m g o t) = [o, t] from if_neg z]
      exact Nat.le_refl 2
  | move _ _ _ _ _ _ => exact Nat.le_refl 2
  | swap _ _ _ _ => exact Nat.le_refl 2
  | come _ _ _ _ _ _ => exact Nat.le_succ 1
  | go _ _ _ _ _ => exact Nat.le_succ 1
  | count _ _ _ _ _ _ => exact Nat.le_succ 1
  | look _ _ _ _ => exact Nat.le_succ 1
theorem ok_isEntry {f cE T1 T2 aF fF fP : Addr} {dF dP : FuncData} {oc kV doc pm ct : Value} {od an : Option Addr} {osl : Array (Option Value)} {es : Array DictEntry} {nE : Nat}
    (lk : K.lookup f = some ⟨oc, od, .func (PySem.W.fnOf "is_entry" "is_entry" (defArgs sIsEntry) (defBody sIsEntry) (defScope sIsEntry) .none kV doc pm an (.ref cE) ct), osl⟩) (cdI : PySem.W.codeIn K (.ref cE) "is_entry" = true)
    (TB : GxR.TabB base mg cE T2) (ne : T1 ≠ T2) (FI : DefT P w K mg base "fits" 2 fF dF ["part", "sort"] (spFits T1)) (PO : DefT P w K mg base "places_of" 1 fP dP ["entry"] spPlaces)
    (mi : mg "isinstance" = none) (mt : mg "tuple" = none) (ml : mg "len" = none) (mst : mg "str" = none) (ma : mg "all" = none) (mz : mg "zip" = none) (ms : mg "set" = none) (mF : mg "FORMS" = some (.ref aF)) (D : KDict K w aF es nE)
    (hF : ∀ e : Ent, ∃ aS, KDct K w aF e.word (.ref aS) ∧ ∀ H, SqT K H aS (e.sorts.map V.str)) :
    FnOk P w K mg base CX0 4 f (PySem.W.fnOf "is_entry" "is_entry" (defArgs sIsEntry) (defBody sIsEntry) (defScope sIsEntry) .none kV doc pm an (.ref cE) ct) ["thing"] (spIsEntry T1 T2) := by
  refine fn_of lk cdI scIs (fun vs H Q E h => ?_) (fun A outer s H vs Q E hr h => ?_)
  · obtain ⟨a, e, rfl, _⟩ := h
    rfl
  · obtain ⟨a, e, rfl, ha, fine, t1, t2, q⟩ := h
    have nd := scIs.nd
    have hr1 : Room 1 _ := hr.mono (by decide)
    refine ⟨_, pss_cons (ps_if (PW.pt (pw_or (pt_not (pt_val (pe_callB call_isi (by rfl) mi (by decide +kernel) (pa_cons (pv 0) (pa_cons (pe_bltn (v := .ty "tuple") (u := .type "tuple") (by rfl) mt (by decide +kernel) rfl) pa_nil)))))
          (pw_or1 (pt_cmpR op_eq (pe_callB call_len_seq (by rfl) ml PySem.boot_len (pa_cons (pv 0) pa_nil)) pe_int (nomark _))))) (pss_one (ps_ret pe_bl)) pss_nil)
      (pss_cons (ps_if (PW.pt (pw_or (pt_not (pt_val (pe_callB call_isi (by rfl) mi (by decide +kernel) (pa_cons (pe_ix ix_tup (pv 0) pe_int (fun _ _ => rfl)) (pa_cons (pe_bltn (v := .ty "str") (u := .type "str") (by rfl) mst (by decide +kernel) rfl) pa_nil)))))
          (pw_or1 (pt_cmpR (op_notIn_kd D) (pe_ix ix_tup (pv 0) pe_int (fun _ _ => rfl)) (pe_glob (v := .ref aF) rfl mF rfl) (by rfl))))) (pss_one (ps_ret pe_bl)) pss_nil)
      (pss_cons (ps_set (i := 1) nd rfl (Or.inl rfl) (pe_ix ix_kdict (pe_glob (v := .ref aF) rfl mF rfl) (pe_ix ix_tup (pv 0) pe_int (fun _ _ => rfl)) (fun _ _ => rfl)))
      (pss_cons (ps_if (pt_cmpR op_ne (pe_callB call_len_seq (by rfl) ml PySem.boot_len (pa_cons (pv 0) pa_nil)) (pe_op op_add (pe_callB call_len_seq (by rfl) ml PySem.boot_len (pa_cons (pv 1) pa_nil)) pe_int) (nomark _)) (pss_one (ps_ret pe_bl)) pss_nil)
      (pss_cons (ps_if (pt_not (pt_val (pe_allG (T := T2) (c := cE) (k := 2) (own := [("part", 3), ("sort", 4)]) (g := gTup K 2 (gCons (gName 3) (gCons (gName 4) gNil))) (tt := tYes) (te := tCall (spFits T1) [] E0 (tCons (tVar 3) (tCons (tVar 4) tNil)))
          hr (by rfl) ma rfl nd TB rfl ⟨blkOk_by (N := isN) (sc := defScope sIsEntry) (by decide +kernel), rfl, by decide +kernel, rfl⟩
          (RZ.pi_zipA (by rfl) mz (pa_cons (pe_slice sl_tup (pv 0) (po_some pe_int) po_none) (pa_cons (pv 1) pa_nil)))
          (fun _ _ _ _ _ _ => pg_tup (by rfl) (pgs_cons (pg_name (i := 3) nd rfl (Or.inl rfl)) (pgs_cons (pg_name (i := 4) nd rfl (Or.inl rfl)) pgs_nil)))
          (fun _ _ _ _ _ _ _ => pts_nil) (fun _ _ _ _ _ _ hr' => pe_call FI.ok hr' (by rfl) FI.g FI.kp FI.b .nil pass0 (pa_cons (pv 3) (pa_cons (pv 4) pa_nil)))))) (pss_one (ps_ret pe_bl)) pss_nil)
      (pss_cons (ps_set (i := 2) nd rfl (Or.inl rfl) (pe_call PO.ok hr1 (by rfl) PO.g PO.kp PO.b .nil pass0 (pa_cons (pv 0) pa_nil)))
      (pss_one (ps_ret (pe_cmpR op_eq (pe_lenSetX rfl (by rfl) ml (by rfl) ms (pv 2)) (pe_callB call_len_seq (by rfl) ml PySem.boot_len (pa_cons (pv 2) pa_nil)) (nomark _))))))))), ?_⟩
    obtain ⟨aS, kd, sq⟩ := hF e
    -- a tuple, not empty
    refine ⟨_, rfl, _, _, _, _, true, rfl, .ty "tuple", .base (.tup ha), kit_ty (by decide +kernel), _, rfl, iteF ?_⟩
    refine ⟨_, rfl, a, _, rfl, .inr (SqT.of ha), rfl, false, congrArg V.bl (decide_eq_false fun z => ?_), iteF ?_⟩
    · have z' : ((e.vals.length : Nat) : Int) = 0 := V.int.inj z
      have : e.vals.length = e.parts.length + 1 := rfl
      omega
    -- a word of the forms
    refine ⟨_, rfl, a, _, 0, _, rfl, rfl, SqT.of ha, at0 e, _, _, _, _, true, rfl, .ty "str", .base (.str e.word), kit_ty (by decide +kernel), _, rfl, iteF ?_⟩
    obtain ⟨es', n', u, hl, hlit, hns, ru⟩ := id kd
    refine ⟨_, rfl, a, _, 0, _, rfl, rfl, SqT.of ha, at0 e, e.word, some u, rfl, rfl, hns, _, rfl, iteF ?_⟩
    -- the sorts
    refine ⟨_, rfl, a, _, 0, _, rfl, rfl, SqT.of ha, at0 e, aF, e.word, _, rfl, rfl, kd, ?_⟩
    refine ⟨_, rfl, a, _, rfl, .inr (SqT.of ha), _, rfl, aS, _, rfl, .inr (sq H), _, 1, rfl, rfl, rfl, false, ?_, iteF ?_⟩
    · refine congrArg V.bl ?_
      have l1 : (e.vals.length : Int) = ((e.sorts.map V.str).length : Int) + 1 := by
        have : e.vals.length = e.parts.length + 1 := rfl
        rw [this, e.len_parts, List.length_map]
        rfl
      rw [l1, decide_eq_true rfl]
      rfl
    -- all fit
    refine ⟨_, rfl, 1, rfl, a, _, rfl, SqT.of ha, ?_, fun pp npp => ?_⟩
    · rintro ⟨z, _⟩
      rw [show HT.sIx e.vals.length 0 (some 1) = min 1 e.vals.length from HT.sIx_nat _ _ 1] at z
      have : e.vals.length = e.parts.length + 1 := rfl
      omega
    have sp := @same_new _ _ (.tup (cutV e.vals (some 1) none)) npp
    refine ⟨_, rfl, pp, aS, cutV e.vals (some 1) none, e.sorts.map V.str, rfl, .inr ⟨SqT.of upd_same, sq _, tabg_same sp t2, fun H2 tb2 => ?_⟩⟩
    have hpp : (upd H pp (.tup (cutV e.vals (some 1) none))) pp = some (.tup e.parts) := by rw [upd_same, vals_cut]
    have b0 : TB2 T1 T2 H H2 := (TB2.same t1 t2 sp).tr (.two ne (tabg_same sp t1) tb2)
    have b1 : TB2 T1 T2 (upd H pp (.tup (cutV e.vals (some 1) none))) H2 := .two ne (tabg_same sp t1) tb2
    have hp2 : H2 pp = some (.tup e.parts) := b1.keep (tabg_same sp t1) (tabg_same sp t2) hpp (by intro ps z; cases z)
    refine ⟨fun i m H' => m = e.parts.length - i ∧ i ≤ e.parts.length ∧ H' pp = some (.tup e.parts) ∧ TB2 T1 T2 H H', ⟨_, rfl, Nat.zero_le _, hp2, b0⟩, ?_⟩
    rintro i m H3 ⟨rfl, hi, hp3, b3⟩
    by_cases lt : i < e.parts.length
    · refine .inr ⟨⟨e.parts, e.sorts.map V.str, e.parts[i], .str (e.sorts[i]'(by rw [← e.len_parts]; exact lt)), SqT.of hp3, sq _, List.getElem?_eq_getElem lt, ?_⟩, fun v H4 y => ?_⟩
      · rw [List.getElem?_map, List.getElem?_eq_getElem (by rw [← e.len_parts]; exact lt)]
        rfl
      · obtain ⟨TT, x', y', rfl, nT, rfl, f1, f2⟩ := y
        have g1 := f1 e.parts (SqT.of hp3)
        have g2 := f2 (e.sorts.map V.str) (sq _)
        rw [List.getElem?_map] at g2
        obtain ⟨srt, hsrt, rfl⟩ := Option.map_eq_some_iff.mp g2
        obtain ⟨prt, fit⟩ := fine.fit i x' srt g1 hsrt
        have s4 := @same_new _ _ (.tup [x', V.str srt]) nT
        have b4 : TB2 T1 T2 H (upd H3 TT (.tup [x', V.str srt])) := b3.tr (.same b3.2.1 b3.2.2 s4)
        refine ⟨TT, _, rfl, SqT.of upd_same, rfl, _, _, rfl, _, _, rfl, rfl, rfl, yesT ?_⟩
        refine ⟨_, rfl, _, rfl, x', srt, rfl, prt, e.sorts_in srt (List.mem_of_getElem? hsrt), b4.2.1, fun H5 tb5 => ?_⟩
        have b5 : TB2 T1 T2 H H5 := b4.tr (.one ne b4.2.2 tb5)
        have b45 : TB2 T1 T2 (upd H3 TT (.tup [x', V.str srt])) H5 := .one ne b4.2.2 tb5
        rw [fit]
        exact ⟨true, rfl, iteT ⟨_, by omega, rfl, lt, b45.keep b4.2.1 b4.2.2 (s4 _ _ hp3) (by intro ps z; cases z), b5⟩⟩
    · have ei : i = e.parts.length := by omega
      refine .inl ⟨⟨e.parts, e.sorts.map V.str, SqT.of hp3, sq _, .inl (by omega)⟩, ?_⟩
      refine ⟨true, rfl, iteF ?_⟩
      -- unlike places
      have ha3 : H3 a = some (.tup e.vals) := b3.keep t1 t2 ha (by intro ps z; cases z)
      refine ⟨_, rfl, a, e, rfl, ha3, fun tp H4 s4 ht => ?_⟩
      refine ⟨_, rfl, tp, e.places, rfl, SqT.of ht, Nat.le_trans (places_le e) (by decide), _, rfl, tp, _, rfl, .inr (SqT.of ht), rfl, ?_⟩
      rw [once_nodup fine.apart, List.length_map, decide_eq_true rfl]
      exact q H4 (b3.tr (.same b3.2.1 b3.2.2 s4))
end
/-! ### what is drawn is fine -/
theorem name_len {y : Str} (h : nameB y = true) : 1 ≤ y.length ∧ y.length ≤ 8 := by
  unfold nameB at h
  rw [Bool.and_eq_true, Bool.and_eq_true, decide_eq_true_eq, decide_eq_true_eq] at h
  exact h.1
theorem name_ne {y : Str} (h : nameB y = true) : y ≠ "" := fun z => by
  have := (name_len h).1
  rw [z] at this
  exact absurd this (by decide +kernel)
theorem kmn : ¬ ("moment" : Str) = "name" := by decide +kernel
theorem kme : ¬ ("moment" : Str) = "end" := by decide +kernel
theorem kyn : ¬ ("many" : Str) = "name" := by decide +kernel
theorem kye : ¬ ("many" : Str) = "end" := by decide +kernel
theorem kym : ¬ ("many" : Str) = "moment" := by decide +kernel
theorem kcn : ¬ ("counted" : Str) = "name" := by decide +kernel
theorem kce : ¬ ("counted" : Str) = "end" := by decide +kernel
theorem kcm : ¬ ("counted" : Str) = "moment" := by decide +kernel
theorem kcy : ¬ ("counted" : Str) = "many" := by decide +kernel
theorem kpn : ¬ ("price" : Str) = "name" := by decide +kernel
theorem kpe : ¬ ("price" : Str) = "end" := by decide +kernel
theorem kpm : ¬ ("price" : Str) = "moment" := by decide +kernel
theorem kpy : ¬ ("price" : Str) = "many" := by decide +kernel
theorem ken : ¬ ("end" : Str) = "name" := by decide +kernel
theorem fit_name {y : Str} (h : nameB y = true) : Part (.str y) ∧ fitB (.str y) "name" = true := by
  refine ⟨.inl ⟨y, rfl, by have := (name_len h).2; omega⟩, ?_⟩
  unfold fitB
  rw [if_pos rfl]
  exact h
theorem fit_end {y : Str} (h : y = "" ∨ nameB y = true) : Part (.str y) ∧ fitB (.str y) "end" = true := by
  have e : fitB (.str y) "end" = (decide (V.str y = .str "") || nameB y) := by
    unfold fitB
    rw [if_neg ken, if_pos rfl]
    rfl
  rcases h with rfl | h
  · exact ⟨.inl ⟨_, rfl, Nat.zero_le _⟩, by rw [e, decide_eq_true rfl]; rfl⟩
  · exact ⟨.inl ⟨y, rfl, by have := (name_len h).2; omega⟩, by rw [e, h, Bool.or_true]⟩
theorem fit_moment {m : Int} (h0 : 0 ≤ m) (h1 : m ≤ 9999) : Part (.int m) ∧ fitB (.int m) "moment" = true := by
  refine ⟨.inr ⟨m, rfl⟩, ?_⟩
  unfold fitB inB bnd
  rw [if_neg kmn, if_neg kme, if_pos rfl]
  simp [h0, h1]
theorem fit_many {m : Int} (h0 : 1 ≤ m) (h1 : m ≤ 1000000000) : Part (.int m) ∧ fitB (.int m) "many" = true := by
  refine ⟨.inr ⟨m, rfl⟩, ?_⟩
  unfold fitB inB bnd
  rw [if_neg kyn, if_neg kye, if_neg kym, if_pos rfl]
  simp [h0, h1]
theorem fit_counted {m : Int} (h0 : 0 ≤ m) (h1 : m ≤ 1000000000) : Part (.int m) ∧ fitB (.int m) "counted" = true := by
  refine ⟨.inr ⟨m, rfl⟩, ?_⟩
  unfold fitB inB bnd
  rw [if_neg kcn, if_neg kce, if_neg kcm, if_neg kcy]
  simp [h0, h1]
theorem fit_price {m : Int} (h0 : 0 ≤ m) (h1 : m ≤ 1000000000) : Part (.int m) ∧ fitB (.int m) "price" = true := by
  refine ⟨.inr ⟨m, rfl⟩, ?_⟩
  unfold fitB inB bnd
  rw [if_neg kpn, if_neg kpe, if_neg kpm, if_neg kpy]
  simp [h0, h1]
theorem nd1 (x : Str) : [x].Nodup := List.nodup_cons.mpr ⟨fun z => (nomatch z), List.nodup_nil⟩
theorem zip_at {α β : Type} {xs : List α} {ys : List β} {i : Nat} {x : α} {y : β} (h1 : xs[i]? = some x) (h2 : ys[i]? = some y) : (x, y) ∈ xs.zip ys :=
  List.mem_of_getElem? (List.getElem?_zip_eq_some.mpr ⟨h1, h2⟩)
theorem fine_of {PL GL HL : List Str} {e : Ent} (h : e.From PL GL HL) (nd : PL.Nodup) (np : ∀ y ∈ PL, nameB y = true) (ng : ∀ y ∈ GL, nameB y = true) (nh : ∀ y ∈ HL, nameB y = true) (nn : nameB e.name = true) (m0 : 0 ≤ e.moment) (m1 : e.moment ≤ 9999) :
    e.Fine ∧ ∀ y ∈ e.places, nameB y = true := by
  have two : ∀ {o t : Str}, o ≠ t → [o, t].Nodup := fun h => List.nodup_cons.mpr ⟨fun z => h (List.mem_singleton.mp z), nd1 _⟩
  cases e with
  | come n m g p k r =>
    obtain ⟨h1, h2, h3, h4, h5, h6⟩ := h
    refine ⟨⟨fun i v x hv hx => ?_, nd1 _⟩, fun y hy => by rw [List.mem_singleton.mp hy]; exact np p h2⟩
    have hz := zip_at hv hx
    simp only [Ent.parts, Ent.sorts, Ent.rest, List.zip_cons_cons, List.zip_nil_left, List.mem_cons, List.not_mem_nil, or_false, Prod.mk.injEq] at hz
    rcases hz with ⟨rfl, rfl⟩ | ⟨rfl, rfl⟩ | ⟨rfl, rfl⟩ | ⟨rfl, rfl⟩ | ⟨rfl, rfl⟩ | ⟨rfl, rfl⟩
    · exact fit_name nn
    · exact fit_moment m0 m1
    · exact fit_name (ng g h1)
    · exact fit_name (np p h2)
    · exact fit_many h3 h4
    · exact fit_price h5 h6
  | go n m g p k =>
    obtain ⟨h1, h2, h3, h4⟩ := h
    refine ⟨⟨fun i v x hv hx => ?_, nd1 _⟩, fun y hy => by rw [List.mem_singleton.mp hy]; exact np p h2⟩
    have hz := zip_at hv hx
    simp only [Ent.parts, Ent.sorts, Ent.rest, List.zip_cons_cons, List.zip_nil_left, List.mem_cons, List.not_mem_nil, or_false, Prod.mk.injEq] at hz
    rcases hz with ⟨rfl, rfl⟩ | ⟨rfl, rfl⟩ | ⟨rfl, rfl⟩ | ⟨rfl, rfl⟩ | ⟨rfl, rfl⟩
    · exact fit_name nn
    · exact fit_moment m0 m1
    · exact fit_name (ng g h1)
    · exact fit_name (np p h2)
    · exact fit_many h3 h4
  | move n m g o t k =>
    obtain ⟨h1, h2, h3, h4, h5, h6⟩ := h
    refine ⟨⟨fun i v x hv hx => ?_, two (h4 nd)⟩, fun y hy => ?_⟩
    · have hz := zip_at hv hx
      simp only [Ent.parts, Ent.sorts, Ent.rest, List.zip_cons_cons, List.zip_nil_left, List.mem_cons, List.not_mem_nil, or_false, Prod.mk.injEq] at hz
      rcases hz with ⟨rfl, rfl⟩ | ⟨rfl, rfl⟩ | ⟨rfl, rfl⟩ | ⟨rfl, rfl⟩ | ⟨rfl, rfl⟩ | ⟨rfl, rfl⟩
      · exact fit_name nn
      · exact fit_moment m0 m1
      · exact fit_name (ng g h1)
      · exact fit_name (np o h2)
      · exact fit_name (np t h3)
      · exact fit_many h5 h6
    · simp only [Ent.places, List.mem_cons, List.not_mem_nil, or_false] at hy
      rcases hy with rfl | rfl
      · exact np _ h2
      · exact np _ h3
  | some_ n m g o t =>
    obtain ⟨h1, h2, h3⟩ := h
    refine ⟨⟨fun i v x hv hx => ?_, ?_⟩, fun y hy => ?_⟩
    · have hz := zip_at hv hx
      simp only [Ent.parts, Ent.sorts, Ent.rest, List.zip_cons_cons, List.zip_nil_left, List.mem_cons, List.not_mem_nil, or_false, Prod.mk.injEq] at hz
      rcases hz with ⟨rfl, rfl⟩ | ⟨rfl, rfl⟩ | ⟨rfl, rfl⟩ | ⟨rfl, rfl⟩ | ⟨rfl, rfl⟩
      · exact fit_name nn
      · exact fit_moment m0 m1
      · exact fit_name (ng g h1)
      · exact fit_name (np o h2)
      · exact fit_end (h3.imp id fun z => np t z.1)
    · show (if t = "" then [o] else [o, t]).Nodup
      by_cases z : t = ""
      · rw [if_pos z]; exact nd1 _
      · rw [if_neg z]; exact two ((h3.resolve_left z).2 nd)
    · have hy' : y ∈ (if t = "" then [o] else [o, t]) := hy
      by_cases z : t = ""
      · rw [if_pos z] at hy'
        rw [List.mem_singleton.mp hy']
        exact np o h2
      · rw [if_neg z] at hy'
        simp only [List.mem_cons, List.not_mem_nil, or_false] at hy'
        rcases hy' with rfl | rfl
        · exact np _ h2
        · exact np _ (h3.resolve_left z).1
  | swap n m o t =>
    obtain ⟨h1, h2, h3⟩ := h
    refine ⟨⟨fun i v x hv hx => ?_, two (h3 nd)⟩, fun y hy => ?_⟩
    · have hz := zip_at hv hx
      simp only [Ent.parts, Ent.sorts, Ent.rest, List.zip_cons_cons, List.zip_nil_left, List.mem_cons, List.not_mem_nil, or_false, Prod.mk.injEq] at hz
      rcases hz with ⟨rfl, rfl⟩ | ⟨rfl, rfl⟩ | ⟨rfl, rfl⟩ | ⟨rfl, rfl⟩
      · exact fit_name nn
      · exact fit_moment m0 m1
      · exact fit_name (np o h1)
      · exact fit_name (np t h2)
    · simp only [Ent.places, List.mem_cons, List.not_mem_nil, or_false] at hy
      rcases hy with rfl | rfl
      · exact np _ h1
      · exact np _ h2
  | count n m g p k hd =>
    obtain ⟨h1, h2, h3, h4, h5⟩ := h
    refine ⟨⟨fun i v x hv hx => ?_, nd1 _⟩, fun y hy => by rw [List.mem_singleton.mp hy]; exact np p h2⟩
    have hz := zip_at hv hx
    simp only [Ent.parts, Ent.sorts, Ent.rest, List.zip_cons_cons, List.zip_nil_left, List.mem_cons, List.not_mem_nil, or_false, Prod.mk.injEq] at hz
    rcases hz with ⟨rfl, rfl⟩ | ⟨rfl, rfl⟩ | ⟨rfl, rfl⟩ | ⟨rfl, rfl⟩ | ⟨rfl, rfl⟩ | ⟨rfl, rfl⟩
    · exact fit_name nn
    · exact fit_moment m0 m1
    · exact fit_name (ng g h1)
    · exact fit_name (np p h2)
    · exact fit_counted h3 h4
    · exact fit_name (nh hd h5)
  | look n m g p =>
    obtain ⟨h1, h2⟩ := h
    refine ⟨⟨fun i v x hv hx => ?_, nd1 _⟩, fun y hy => by rw [List.mem_singleton.mp hy]; exact np p h2⟩
    have hz := zip_at hv hx
    simp only [Ent.parts, Ent.sorts, Ent.rest, List.zip_cons_cons, List.zip_nil_left, List.mem_cons, List.not_mem_nil, or_false, Prod.mk.injEq] at hz
    rcases hz with ⟨rfl, rfl⟩ | ⟨rfl, rfl⟩ | ⟨rfl, rfl⟩ | ⟨rfl, rfl⟩
    · exact fit_name nn
    · exact fit_moment m0 m1
    · exact fit_name (ng g h1)
    · exact fit_name (np p h2)
theorem inV_iff {x : Str} {ys : List Str} : inV (.str x) (ys.map V.str) = decide (x ∈ ys) := by
  unfold inV
  rw [List.any_map]
  by_cases h : x ∈ ys
  · rw [decide_eq_true h]
    exact List.any_eq_true.mpr ⟨x, h, by show (x == x) = true; simp⟩
  · rw [decide_eq_false h, List.any_eq_false]
    intro y hy z
    have z' : (y == x) = true := z
    exact h (eq_of_beq z' ▸ hy)
theorem all_flat (ys : List Str) : (ys.map V.str).all flatV = true := by
  rw [List.all_map]
  exact List.all_eq_true.mpr fun y _ => rfl
theorem scal_good (e : Ent) (g : Str) : scal e.goodV (.str g) = true := by cases e <;> rfl
/-! ### houses -/
def TK (H H' : Hp) : Prop := ∀ a xs, H a = some (.tup xs) → H' a = some (.tup xs)
theorem TK.of {H H' : Hp} (s : Same H H') : TK H H' := fun a xs e => s a _ e
theorem TK.tr {H H1 H2 : Hp} (a : TK H H1) (b : TK H1 H2) : TK H H2 := fun c xs e => b c xs (a c xs e)
theorem TK.but {H H' : Hp} {p c : Addr} {n : Nat} (pen : PenAt H p c n) (b : But p H H') : TK H H' := fun a xs e => by
  obtain ⟨kvs, ns', a', x', g1, _⟩ := pen.ex
  exact b a _ e (ne_of e g1 (by intro z; cases z))
theorem TK.upd {H : Hp} {l : Addr} {o : HO} (n : ∀ xs, H l ≠ some (.tup xs)) : TK H (upd H l o) := fun a xs e => by
  by_cases z : a = l
  · rw [z] at e
    exact absurd e (n xs)
  · exact (upd_ne z).trans e
/-- each address holds its entry -/
inductive EntsAt (H : Hp) : List Addr → List Ent → Prop
  | nil : EntsAt H [] []
  | cons {a : Addr} {e : Ent} {as : List Addr} {es : List Ent} : H a = some (.tup e.vals) → EntsAt H as es → EntsAt H (a :: as) (e :: es)
theorem EntsAt.on {H H' : Hp} (k : TK H H') {as : List Addr} {es : List Ent} (h : EntsAt H as es) : EntsAt H' as es := by
  induction h with
  | nil => exact .nil
  | cons a _ ih => exact .cons (k _ _ a) ih
theorem EntsAt.len {H : Hp} {as : List Addr} {es : List Ent} (h : EntsAt H as es) : as.length = es.length := by
  induction h with
  | nil => rfl
  | cons _ _ ih => simp [ih]
theorem EntsAt.snoc {H : Hp} {a : Addr} {e : Ent} {as : List Addr} {es : List Ent} (h : EntsAt H as es) (q : H a = some (.tup e.vals)) : EntsAt H (as ++ [a]) (es ++ [e]) := by
  induction h with
  | nil => exact .cons q .nil
  | cons a _ ih => exact .cons a ih
theorem EntsAt.get {H : Hp} {as : List Addr} {es : List Ent} (h : EntsAt H as es) : ∀ {i : Nat} {a : Addr}, as[i]? = some a → ∃ e, es[i]? = some e ∧ H a = some (.tup e.vals) := by
  induction h with
  | nil => intro i a q; cases q
  | @cons a0 e0 as es q _ ih =>
    intro i a z
    cases i with
    | zero => exact ⟨e0, rfl, by rw [← Option.some.inj z]; exact q⟩
    | succ n => exact ih (i := n) z
structure HouseAt (H : Hp) (h : Addr) (P G : List Str) (es : List Ent) : Prop where
  ex : ∃ (hp hg he : Addr) (tps : List Addr), H h = some (.tup [.ref hp, .ref hg, .ref he]) ∧ H hp = some (.tup (P.map V.str)) ∧ H hg = some (.tup (G.map V.str)) ∧ H he = some (.tup (tps.map V.ref)) ∧ EntsAt H tps es
theorem HouseAt.on {H H' : Hp} (k : TK H H') {h : Addr} {P G : List Str} {es : List Ent} (x : HouseAt H h P G es) : HouseAt H' h P G es := by
  obtain ⟨hp, hg, he, tps, h1, h2, h3, h4, h5⟩ := x.ex
  exact ⟨hp, hg, he, tps, k _ _ h1, k _ _ h2, k _ _ h3, k _ _ h4, h5.on k⟩
/-- what holds of a house that a law makes -/
structure Good (P G : List Str) (es : List Ent) (m : Nat) : Prop where
  nd : P.Nodup
  ne : P ≠ []
  le : P.length ≤ 6
  nm : ∀ y ∈ P, nameB y = true
  ge : G ≠ []
  gl : G.length ≤ 3
  gn : ∀ y ∈ G, nameB y = true
  gd : G.Nodup
  many : es.length = m
  ents : ∀ e ∈ es, nameB e.name = true ∧ 0 ≤ e.moment ∧ e.moment ≤ 9999 ∧ ∃ HL : List Str, (∀ y ∈ HL, nameB y = true) ∧ e.From P G HL
theorem From.perm {e : Ent} {P P' G G' HL : List Str} (h : e.From P G HL) (p : P'.Perm P) (g : G'.Perm G) : e.From P' G' HL := by
  have nd : P'.Nodup → P.Nodup := fun z => p.nodup_iff.mp z
  cases e with
  | come n m gg pl k r => exact ⟨g.mem_iff.mpr h.1, p.mem_iff.mpr h.2.1, h.2.2⟩
  | go n m gg pl k => exact ⟨g.mem_iff.mpr h.1, p.mem_iff.mpr h.2.1, h.2.2⟩
  | move n m gg o t k => exact ⟨g.mem_iff.mpr h.1, p.mem_iff.mpr h.2.1, p.mem_iff.mpr h.2.2.1, fun z => h.2.2.2.1 (nd z), h.2.2.2.2⟩
  | some_ n m gg o t => exact ⟨g.mem_iff.mpr h.1, p.mem_iff.mpr h.2.1, h.2.2.imp id fun z => ⟨p.mem_iff.mpr z.1, fun q => z.2 (nd q)⟩⟩
  | swap n m o t => exact ⟨p.mem_iff.mpr h.1, p.mem_iff.mpr h.2.1, fun z => h.2.2 (nd z)⟩
  | count n m gg pl k hd => exact ⟨g.mem_iff.mpr h.1, p.mem_iff.mpr h.2.1, h.2.2⟩
  | look n m gg pl => exact ⟨g.mem_iff.mpr h.1, p.mem_iff.mpr h.2⟩
/-! the house as data -/
def dV : V → PyData
  | .str x => .str x
  | .int i => .int i
  | _ => .none
def entD (e : Ent) : PyData := .tuple (e.vals.map dV)
def houseD (P G : List Str) (es : List Ent) : PyData := .tuple [.tuple (P.map .str), .tuple (G.map .str), .tuple (es.map entD)]
theorem dp_strs {K : PySem.W.Frag} {H : Hp} : ∀ ys : List Str, DpAll K H (ys.map V.str) (ys.map PyData.str)
  | [] => .nil
  | y :: r => .cons (.str y) (dp_strs r)
theorem dp_ent {K : PySem.W.Frag} {H : Hp} {a : Addr} {e : Ent} (h : H a = some (.tup e.vals)) : Dp K H (.ref a) (entD e) := by
  refine .tup (SqT.of h) ?_
  cases e <;> (repeat' (first | exact .nil | refine .cons (.str _) ?_ | refine .cons (.int _) ?_))
theorem dp_ents {K : PySem.W.Frag} {H : Hp} {as : List Addr} {es : List Ent} (h : EntsAt H as es) : DpAll K H (as.map V.ref) (es.map entD) := by
  induction h with
  | nil => exact .nil
  | cons a _ ih => exact .cons (dp_ent a) ih
theorem HouseAt.dp {K : PySem.W.Frag} {H : Hp} {h : Addr} {P G : List Str} {es : List Ent} (x : HouseAt H h P G es) : Dp K H (.ref h) (houseD P G es) := by
  obtain ⟨hp, hg, he, tps, h1, h2, h3, h4, h5⟩ := x.ex
  exact .tup (SqT.of h1) (.cons (.tup (SqT.of h2) (dp_strs P)) (.cons (.tup (SqT.of h3) (dp_strs G)) (.cons (.tup (SqT.of h4) (dp_ents h5)) .nil)))
/-! its text isn't long -/
structure Short (d : PyData) (n k : Nat) : Prop where
  sh : d.showable = true
  nd : d.hasDict = false
  ls : d.leavesShort 13 = true
  bk : d.bulk ≤ n
  dp : d.depth ≤ k
theorem short_str {y : Str} (h : nameB y = true ∨ y = "" ∨ y ∈ words7) : Short (.str y) 8 0 := by
  have lo : y.cps.toList.all (fun c => decide (c < 16 ^ 8)) = true ∧ y.cps.size ≤ 8 := by
    rcases h with h | rfl | h
    · unfold nameB at h
      rw [Bool.and_eq_true, Bool.and_eq_true] at h
      have l8 : y.length ≤ 8 := of_decide_eq_true h.1.2
      refine ⟨List.all_eq_true.mpr fun c hc => decide_eq_true ?_, l8⟩
      have q : ∀ c ∈ abc.cps.toList, c < 16 ^ 8 := by decide +kernel
      exact q c (of_decide_eq_true (List.all_eq_true.mp h.2 c hc))
    · exact ⟨rfl, Nat.zero_le _⟩
    · simp only [words7, List.mem_cons, List.not_mem_nil, or_false] at h
      rcases h with rfl | rfl | rfl | rfl | rfl | rfl | rfl <;> exact ⟨by decide +kernel, by decide +kernel⟩
  exact ⟨rfl, rfl, lo.1, lo.2, Nat.zero_le _⟩
theorem short_int {i : Int} (h0 : 0 ≤ i) (h1 : i ≤ 1000000000) : Short (.int i) 8 0 := by
  have e : (PyData.shown (.int i)).length ≤ 13 := Nat.le_trans (toString_length_le h0 (k := 10) (by decide) (by omega)) (by decide)
  refine ⟨?_, rfl, decide_eq_true e, Nat.zero_le _, Nat.zero_le _⟩
  show decide (i.natAbs.log2 < 1920) = true
  refine decide_eq_true ?_
  by_cases z : i.natAbs = 0
  · rw [z]
    decide
  · exact Nat.lt_trans ((Nat.log2_lt z).mpr (show i.natAbs < 2 ^ 30 by omega)) (by decide)
theorem short_all {n k : Nat} : ∀ {ds : List PyData}, (∀ d ∈ ds, Short d n k) → PyData.showableAll ds = true ∧ PyData.hasDictAll ds = false ∧ PyData.leavesShortAll 13 ds = true ∧ PyData.bulkAll ds ≤ ds.length * (n + 1) ∧ PyData.depthAll ds ≤ k
  | [], _ => ⟨rfl, rfl, rfl, Nat.le_of_eq (by simp [PyData.bulkAll]), Nat.zero_le _⟩
  | d :: ds, h => by
    have h1 := h d List.mem_cons_self
    obtain ⟨a1, a2, a3, a4, a5⟩ := short_all fun x hx => h x (List.mem_cons_of_mem _ hx)
    refine ⟨?_, ?_, ?_, ?_, ?_⟩
    · rw [PyData.showableAll, h1.sh, a1]
      rfl
    · rw [PyData.hasDictAll, h1.nd, a2]
      rfl
    · rw [PyData.leavesShortAll, h1.ls, a3]
      rfl
    · rw [PyData.bulkAll, List.length_cons, Nat.succ_mul]
      have := h1.bk
      omega
    · rw [PyData.depthAll]
      exact Nat.max_le.mpr ⟨h1.dp, a5⟩
theorem short_tup {n k m : Nat} {ds : List PyData} (h : ∀ d ∈ ds, Short d n k) (l : ds.length * (n + 1) ≤ m) : Short (.tuple ds) m (k + 1) := by
  obtain ⟨a1, a2, a3, a4, a5⟩ := short_all h
  refine ⟨?_, ?_, ?_, ?_, ?_⟩
  · rw [PyData.showable]; exact a1
  · rw [PyData.hasDict]; exact a2
  · rw [PyData.leavesShort]; exact a3
  · rw [PyData.bulk]; omega
  · rw [PyData.depth]; omega
theorem Short.mono {d : PyData} {n k n' k' : Nat} (h : Short d n k) (hn : n ≤ n') (hk : k ≤ k') : Short d n' k' := ⟨h.sh, h.nd, h.ls, Nat.le_trans h.bk hn, Nat.le_trans h.dp hk⟩
theorem Short.fits {d : PyData} {n k : Nat} (h : Short d n k) (hn : n ≤ 100000) : d.shown.length ≤ sizeLine := by
  have q := PyData.shown_le_bulk 13 (by decide) d h.ls
  have := h.bk
  rw [sizeLine_eq]
  omega
theorem short_names {ys : List Str} (h : ∀ y ∈ ys, nameB y = true) (l : ys.length ≤ 31) : Short (.tuple (ys.map .str)) 300 1 := by
  refine short_tup (n := 8) (k := 0) (fun d hd => ?_) (by rw [List.length_map]; omega)
  obtain ⟨y, hy, rfl⟩ := List.mem_map.mp hd
  exact short_str (.inl (h y hy))
theorem short_ent {e : Ent} {P G HL : List Str} (nn : nameB e.name = true) (m0 : 0 ≤ e.moment) (m1 : e.moment ≤ 9999) (hP : ∀ y ∈ P, nameB y = true) (hG : ∀ y ∈ G, nameB y = true) (hH : ∀ y ∈ HL, nameB y = true) (h : e.From P G HL) : Short (entD e) 70 1 := by
  have w : ∀ {x : Str}, x ∈ words7 → Short (.str x) 8 0 := fun hx => short_str (.inr (.inr hx))
  have n : ∀ {x : Str}, nameB x = true → Short (.str x) 8 0 := fun hx => short_str (.inl hx)
  have mo : Short (.int e.moment) 8 0 := short_int m0 (by omega)
  refine short_tup (n := 8) (k := 0) (fun d hd => ?_) (by rw [List.length_map]; cases e <;> simp [Ent.vals, Ent.rest])
  obtain ⟨v, hv, rfl⟩ := List.mem_map.mp hd
  cases e with
  | come nm m g pl k r =>
    obtain ⟨h1, h2, h3, h4, h5, h6⟩ := h
    simp only [Ent.vals, Ent.rest, List.mem_cons, List.not_mem_nil, or_false] at hv
    rcases hv with rfl | rfl | rfl | rfl | rfl | rfl | rfl
    · exact w (Ent.word_in _)
    · exact n nn
    · exact mo
    · exact n (hG _ h1)
    · exact n (hP _ h2)
    · exact short_int (by omega) h4
    · exact short_int h5 h6
  | go nm m g pl k =>
    obtain ⟨h1, h2, h3, h4⟩ := h
    simp only [Ent.vals, Ent.rest, List.mem_cons, List.not_mem_nil, or_false] at hv
    rcases hv with rfl | rfl | rfl | rfl | rfl | rfl
    · exact w (Ent.word_in _)
    · exact n nn
    · exact mo
    · exact n (hG _ h1)
    · exact n (hP _ h2)
    · exact short_int (by omega) h4
  | move nm m g o t k =>
    obtain ⟨h1, h2, h3, h4, h5, h6⟩ := h
    simp only [Ent.vals, Ent.rest, List.mem_cons, List.not_mem_nil, or_false] at hv
    rcases hv with rfl | rfl | rfl | rfl | rfl | rfl | rfl
    · exact w (Ent.word_in _)
    · exact n nn
    · exact mo
    · exact n (hG _ h1)
    · exact n (hP _ h2)
    · exact n (hP _ h3)
    · exact short_int (by omega) h6
  | some_ nm m g o t =>
    obtain ⟨h1, h2, h3⟩ := h
    simp only [Ent.vals, Ent.rest, List.mem_cons, List.not_mem_nil, or_false] at hv
    rcases hv with rfl | rfl | rfl | rfl | rfl | rfl
    · exact w (Ent.word_in _)
    · exact n nn
    · exact mo
    · exact n (hG _ h1)
    · exact n (hP _ h2)
    · rcases h3 with rfl | h3
      · exact short_str (.inr (.inl rfl))
      · exact n (hP _ h3.1)
  | swap nm m o t =>
    obtain ⟨h1, h2, h3⟩ := h
    simp only [Ent.vals, Ent.rest, List.mem_cons, List.not_mem_nil, or_false] at hv
    rcases hv with rfl | rfl | rfl | rfl | rfl
    · exact w (Ent.word_in _)
    · exact n nn
    · exact mo
    · exact n (hP _ h1)
    · exact n (hP _ h2)
  | count nm m g pl k hd =>
    obtain ⟨h1, h2, h3, h4, h5⟩ := h
    simp only [Ent.vals, Ent.rest, List.mem_cons, List.not_mem_nil, or_false] at hv
    rcases hv with rfl | rfl | rfl | rfl | rfl | rfl | rfl
    · exact w (Ent.word_in _)
    · exact n nn
    · exact mo
    · exact n (hG _ h1)
    · exact n (hP _ h2)
    · exact short_int h3 h4
    · exact n (hH _ h5)
  | look nm m g pl =>
    obtain ⟨h1, h2⟩ := h
    simp only [Ent.vals, Ent.rest, List.mem_cons, List.not_mem_nil, or_false] at hv
    rcases hv with rfl | rfl | rfl | rfl | rfl
    · exact w (Ent.word_in _)
    · exact n nn
    · exact mo
    · exact n (hG _ h1)
    · exact n (hP _ h2)
theorem Good.short {P G : List Str} {es : List Ent} {m : Nat} (g : Good P G es m) (hm : m ≤ 31) : Short (houseD P G es) 10000 3 := by
  refine short_tup (n := 3000) (k := 2) (fun d hd => ?_) (by show 3 * 3001 ≤ 10000; decide)
  simp only [List.mem_cons, List.not_mem_nil, or_false] at hd
  rcases hd with rfl | rfl | rfl
  · exact (short_names g.nm (Nat.le_trans g.le (by decide))).mono (by decide) (by decide)
  · exact (short_names g.gn (Nat.le_trans g.gl (by decide))).mono (by decide) (by decide)
  · refine short_tup (n := 70) (k := 1) (fun d hd => ?_) (by rw [List.length_map, g.many]; omega)
    obtain ⟨e, he, rfl⟩ := List.mem_map.mp hd
    obtain ⟨e1, e2, e3, HL, e4, e5⟩ := g.ents e he
    exact short_ent e1 e2 e3 g.nm g.gn e4 e5
/-! ### along_tracks -/
/-- nothing but the tables has changed -/
def TabsG (Ts : List Addr) (H : Hp) : Prop := ∀ T ∈ Ts, GxR.TabG H T
structure TB1 (Ts : List Addr) (H H' : Hp) : Prop where
  tg : TabsG Ts H'
  kp : ∀ a o, H a = some o → (∀ ps, o ≠ .tbl ps) → H' a = some o
  free : ∀ a, H' a = none → H a = none
  oth : ∀ a o, H a = some o → a ∉ Ts → H' a = some o
theorem tabg_sm {H H' : Hp} {T : Addr} (sm : Same H H') (t : GxR.TabG H T) : GxR.TabG H' T := by
  obtain ⟨ps, e, ok⟩ := t
  exact ⟨ps, sm _ _ e, ok⟩
theorem tabs_sm {H H' : Hp} {Ts : List Addr} (sm : Same H H') (t : TabsG Ts H) : TabsG Ts H' := fun T hT => tabg_sm sm (t T hT)
theorem TB1.same {Ts : List Addr} {H H' : Hp} (t : TabsG Ts H) (sm : Same H H') : TB1 Ts H H' := ⟨tabs_sm sm t, fun a o e _ => sm a o e, fun a n => sm.free n, fun a o e _ => sm a o e⟩
theorem TB1.tr {Ts : List Addr} {H H1 H2 : Hp} (a : TB1 Ts H H1) (b : TB1 Ts H1 H2) : TB1 Ts H H2 := ⟨b.1, fun c o e n => b.2 c o (a.2 c o e n) n, fun c n => a.free c (b.free c n), fun c o e n => b.oth c o (a.oth c o e n) n⟩
theorem TB1.tab {Ts : List Addr} {T : Addr} {H H' : Hp} (t : GxR.Tabbed T H H') (g : TabsG Ts H) (hT : T ∈ Ts) : TB1 Ts H H' := by
  refine ⟨fun T' hT' => ?_, fun a o e n => ?_, fun a n => ?_, fun a o e n => (t.2 a fun z => n (z ▸ hT)).trans e⟩
  · by_cases z : T' = T
    · rw [z]
      exact t.1
    · obtain ⟨ps, e, ok⟩ := g T' hT'
      exact ⟨ps, (t.2 T' z).trans e, ok⟩
  · have na : a ≠ T := fun z => by
      obtain ⟨ps, e', _⟩ := g T hT
      rw [z, e'] at e
      exact n ps (Option.some.inj e).symm
    rw [t.2 a na]
    exact e
  · by_cases z : a = T
    · obtain ⟨ps, e, _⟩ := t.1
      rw [z, e] at n
      cases n
    · rw [← t.2 a z]
      exact n
theorem TB1.tk {Ts : List Addr} {H H' : Hp} (t : TB1 Ts H H') : TK H H' := fun a xs e => t.2 a _ e fun ps z => nomatch z
theorem TB1.lst {Ts : List Addr} {H H' : Hp} (t : TB1 Ts H H') {a : Addr} {xs : List V} (e : H a = some (.lst xs)) : H' a = some (.lst xs) := t.2 a _ e fun ps z => nomatch z
theorem TB1.dct {Ts : List Addr} {H H' : Hp} (t : TB1 Ts H H') {a : Addr} {kvs : List (Key × V)} (e : H a = some (.dK kvs)) : H' a = some (.dK kvs) := t.2 a _ e fun ps z => nomatch z
theorem tabs_upd {H : Hp} {Ts : List Addr} {l : Addr} {xs : List V} {o : HO} (t : TabsG Ts H) (e : H l = some (.lst xs)) : TabsG Ts (upd H l o) := fun T hT => by
  obtain ⟨ps, e1, ok⟩ := t T hT
  exact ⟨ps, (upd_ne (ne_of e1 e (by intro z; cases z))).trans e1, ok⟩
/-- a list that came since is written -/
theorem TB1.put {Ts : List Addr} {H H' : Hp} {l : Addr} {xs : List V} {o : HO} (t : TB1 Ts H H') (n : H l = none) (e : H' l = some (.lst xs)) : TB1 Ts H (upd H' l o) :=
  ⟨tabs_upd t.1 e, fun a u eu na => (upd_ne (ne_of_none eu n)).trans (t.2 a u eu na), fun a na => by
    by_cases z : a = l
    · rw [z]
      exact n
    · rw [upd_ne z] at na
      exact t.free a na, fun a u eu na => (upd_ne (ne_of_none eu n)).trans (t.oth a u eu na)⟩
/-! ### sorted(..) of what gives texts -/
def leS (a b : Str) : Prop := a.cps.toList ≤ b.cps.toList
theorem leS_of {a b : Str} (h : ltCps b.cps.toList a.cps.toList = false) : leS a b := by
  rw [ltCps_eq] at h
  exact List.not_lt.mp (of_decide_eq_false h)
theorem str_ext {a b : Str} (h : a.cps.toList = b.cps.toList) : a = b := by
  cases a with
  | mk x => cases b with
    | mk y =>
      have : x = y := Array.toList_inj.mp h
      rw [this]
theorem leS_trans {a b c : Str} (h1 : leS a b) (h2 : leS b c) : leS a c := List.le_trans h1 h2
theorem leS_anti {a b : Str} (h1 : leS a b) (h2 : leS b a) : a = b := str_ext (List.le_antisymm h1 h2)
theorem rising_pw : ∀ (p : Str) (l : List Str), risingS p l = true → (p :: l).Pairwise leS
  | p, [], _ => List.pairwise_singleton _ _
  | p, x :: r, h => by
    have h' : (!ltCps x.cps.toList p.cps.toList && risingS x r) = true := h
    rw [Bool.and_eq_true] at h'
    have le : leS p x := leS_of (by simpa using h'.1)
    have ih := rising_pw x r h'.2
    refine List.pairwise_cons.mpr ⟨fun y hy => ?_, ih⟩
    rcases List.mem_cons.mp hy with rfl | hy
    · exact le
    · exact leS_trans le (List.rel_of_pairwise_cons ih hy)
theorem sorted_pw {l : List Str} (h : sortedS l = true) : l.Pairwise leS := by
  cases l with
  | nil => exact .nil
  | cons x r => exact rising_pw x r h
/-- two sorted lists of the same texts are one -/
theorem sorted_one {l r : List Str} (p : l.Perm r) (h1 : sortedS l = true) (h2 : sortedS r = true) : l = r :=
  List.Perm.eq_of_pairwise (fun a b _ _ x y => leS_anti x y) (sorted_pw h1) (sorted_pw h2) p
theorem sorted_by {prog : Program} {w : World} {A : Around} {E : Value → Shared → Prop} {s : Shared} {x : Value} {Q : Value → Shared → Prop}
    (h : wpAny (model prog w) A.in1 (collect x) (fun vs s1 => ∃ ss, StrsAre vs ss ∧ vs.length < 64 ∧ ∀ (out : Array Value) (ss' : List Str) (h' : Heap) (ep : Nat), StrsAre out.toList ss' → ss'.Perm ss → sortedS ss' = true →
      (∀ b o, s1.heap.get? b = some o → h'.get? b = some o) → h'.get? s1.heap.objs.size = some (seqObj "list" out ep) → Q (.ref s1.heap.objs.size) { s1 with heap := h' }) E s) :
    wpAny (model prog w) A (call (.builtin "sorted") [x]) Q E s := by
  refine Calls.call_function_entry kind_sorted plain_sorted entry_sorted (args_sorted1 _) ?_
  unfold Builtin.«sorted»
  refine wpAny_bind (m := checkCount "sorted" 1 1 _) (wpAny_pure (wpAny_bind (wpAny_mono h (fun vs s1 ⟨ss, hS, h64, hq⟩ => ?_) fun _ _ e => e)))
  have hoL : (s1.heap.push (seqObj "list" vs.toArray 0)).get? s1.heap.objs.size = some (seqObj "list" vs.toArray 0) := Heap.get?_push_size _ rfl
  refine wpAny_bind (wpAny_newList (wpAny_bind (wpAny_holding (wpAny_call_entry slot_list_sort ⟨_, hoL, rfl⟩ entry_list_sort (list_sort_treeK strKind_oneLt hoL hS.keysOf (fun v1 v2 rest e => keyKind_strs (by rw [← e]; exact hS)) h64 fun st' hp hs => ⟨_, rfl, ?_⟩) (args_list_sort _)))))
  obtain ⟨ss', h1, h2, h3⟩ := sorted_out_str hS hp hs
  obtain ⟨ep, he⟩ := sortedHeap_at (out := (arrOf st').map (·.2)) hoL
  refine wpAny_pure ⟨_, rfl, hq _ ss' _ ep h1 h2 h3 (fun b o e => ?_) he⟩
  have lt := Heap.lt_size e
  rw [sortedHeap_old (Nat.ne_of_lt lt) (by rw [Heap.size_push]; exact Nat.lt_succ_of_lt lt)]
  exact Heap.get?_push_of_some _ e
/-- of a tuple of texts -/
theorem cr_sortedTS {X : Cx} : CallR X (.builtin "sorted") (fun vs H Q => ∃ (a : Addr) (xs : List Str), vs = [.ref a] ∧ SqT X.K H a (xs.map V.str) ∧ xs.length < 64 ∧
    ∀ (ys : List Str) (p : Addr), ys.Perm xs → sortedS ys = true → H p = none → Q (.ref p) (upd H p (.lst (ys.map V.str)))) := by
  rintro pins s σ H vs us Q I r ⟨a, xs, rfl, hs, h64, q⟩
  rw [Vals.ref1 r]
  obtain ⟨its, rv, ⟨o, e1, e2, n, e3⟩, hz⟩ := I.tuple hs
  have l0 := rv.length
  rw [List.length_map] at l0
  refine sorted_by (wpAny_collect_seq a (.inr rfl) e1 e2 e3 (fun h1 k1 => ⟨xs, ?_, ?_, fun out ys h' ep g1 g2 g3 k2 g4 => ?_⟩) (by rw [List.size_toArray, ← rv.length]; exact hz))
  · exact rv.strs
  · show its.length < 64
    rw [← l0]
    exact h64
  · have I1 := I.kept (t' := s.toks) k1
    have hlen : (ys.map V.str).length ≤ sizeLine := by rw [List.length_map, g2.length_eq]; exact small64 h64
    exact ⟨.ref h1.objs.size, upd H h1.objs.size (.lst (ys.map V.str)), I1.laid (t' := s.toks) k2 (Nat.le_refl _) ⟨hlen, out.toList, ep, vals_of_strs g1, by rw [g4]⟩, rfl, q ys _ g2 g3 (I1.hok.fresh (Nat.le_refl _))⟩
/-! ### x in d.values(), texts -/
section
variable {prog : Program} {w : World} {A : Around} {E : Value → Shared → Prop} {s : Shared}
theorem plain_ci : plainId "proto.contains_iter" = true := by decide +kernel
theorem entry_ci : entryFor table "proto.contains_iter" = some Builtin.«proto.contains_iter» := entryFor_of_tree (by kernel_rfl)
theorem nocont_vals : typeLookup (.type "dict_values") "__contains__" = pure none := by rw [typeLookup_type, builtinLookup_eq_fast]; kernel_rfl
theorem ci_loop {it d : Addr} {ep : Nat} {vs : List (Key × Value)} {ys : List Str} {z : Str} {t : Tok} (hA : A.handled = none) (hv : ∀ (i : Nat) (p : Key × Value), vs[i]? = some p → ∃ y u, ys[i]? = some y ∧ p.2 = .str y u) (hl : ys.length = vs.length) (hdi : d ≠ it) {R : Result → Shared → Prop} :
    ∀ (n i : Nat) (s : Shared), i + n = vs.length → s.heap.IsValIter it d i vs.length ep → s.heap.DictAt (mixKind prog w) d vs ep → (∀ h', Heap.ExtBut it s.heap h' → R (.ok (.ret (.bool (decide (z ∈ ys.drop i))))) { s with heap := h' }) →
      codeAny (model prog w) A (.builtin "proto.contains_iter" ⟨[.ref it, .str z t], []⟩) R s
  | 0, i, s, hn, hit, hd, hR => by
    refine codeAny_builtin entry_ci ?_
    rw [Around.under_plainId plain_ci]
    unfold Builtin.«proto.contains_iter»
    refine wpAny_bind (wpAny_pyNext_values_end hA hit hd (List.getElem?_eq_none (by omega)) fun h' eb => ?_)
    refine wpAny_bind (wpAny_rule (wpAny_pure ?_))
    have e : ys.drop i = [] := List.drop_eq_nil_of_le (by omega)
    have q := hR h' eb
    rw [e] at q
    exact q
  | n + 1, i, s, hn, hit, hd, hR => by
    refine codeAny_builtin entry_ci ?_
    rw [Around.under_plainId plain_ci]
    unfold Builtin.«proto.contains_iter»
    obtain ⟨p, hp⟩ : ∃ p, vs[i]? = some p := ⟨_, List.getElem?_eq_getElem (by omega)⟩
    obtain ⟨y, u, hy, ev⟩ := hv i p hp
    have ed : ys.drop i = y :: ys.drop (i + 1) := by
      rw [List.drop_eq_getElem_cons (by omega)]
      rw [List.getElem?_eq_getElem (by omega)] at hy
      rw [Option.some.inj hy]
    refine wpAny_bind (wpAny_pyNext_values_item hit hd (k := p.1) (v := p.2) hp fun h' hit' sb => ?_)
    rw [ev]
    refine wpAny_bind ((mixKind prog w).eqBool (a := Sum.inr y) (b := Sum.inr z) (kV_is (k := Sum.inr y) ⟨u, rfl⟩) (kV_is (k := Sum.inr z) ⟨t, rfl⟩) ?_)
    by_cases e : y = z
    · rw [if_pos (by simp [e])]
      refine wpAny_bind (wpAny_rule (wpAny_pure ?_))
      have q := hR h' fun b o hb eo => (sb.2 b hb).trans eo
      rw [ed, decide_eq_true (by rw [e]; exact List.mem_cons_self)] at q
      exact q
    · rw [if_neg (by simp [e])]
      refine wpAny_pure ⟨plainId_quiet plain_ci _, ci_loop hA hv hl hdi n (i + 1) { s with heap := h' } (by omega) hit' (let ⟨o, es, ho, r⟩ := hd; ⟨o, es, (sb.2 d hdi).trans ho, r⟩) fun h2 eb2 => ?_⟩
      have q := hR h2 (fun b o hb eo => eb2 b o hb ((sb.2 b hb).trans eo))
      rw [ed] at q
      have e2 : decide (z ∈ y :: ys.drop (i + 1)) = decide (z ∈ ys.drop (i + 1)) := by
        have : ¬ z = y := fun h => e h.symm
        simp [this]
      rw [e2] at q
      exact q
end
def valsO (v d : Addr) : HO := .ext fun h => h.get? v = some { cls := .type "dict_values", data := .fields #[.ref d] }
/-- d.values(), as a value -/
def tVals (td : TE) : TE := fun σ H Q => td σ H fun x H1 => ∃ (d : Addr) (kvs : List (Key × V)), x = .ref d ∧ H1 d = some (.dK kvs) ∧ ∀ v, H1 v = none → Q (.ref v) (upd H1 v (valsO v d))
theorem pe_vals {X : Cx} {e : Expr} {td : TE} {apos cpos : Pos} (he : PE X e td) (hbase : attributeBase e "values" X.env (eval e X.env) = eval e X.env := by rfl) (hline : (apos.endLine == cpos.line) = true := by rfl) :
    PE X (.Call (.Attribute e "values" apos) [] [] cpos) (tVals td) := by
  refine ⟨fun pins s σ H Q I h => ?_⟩
  refine wpAny_Call_method (T := "dict") (id := "dict.values") hbase rfl hline F.plainAttrs_dict F.slot_dict_values F.type_dict_values (thn (he.run pins s σ H _ I h) ?_)
  rintro u s1 ⟨x, H1, I1, rx, d, kvs, rfl, hd, q⟩
  obtain rfl : u = Value.ref d := rx
  obtain ⟨_, dS, vs, rel, dd⟩ := dk_of I1.hok hd
  refine ⟨dd.typeIs, dd.mapOf.noDict, ?_⟩
  show wpAny _ _ (callWith cpos (.builtin "dict.values") [.ref d] [] []) _ X.xe s1
  refine method_meetsIn F.slot_dict_values F.entry_dict_values rfl (PySem.evalArgs_none ⟨rfl, dd.typeIs, F.args_dict_values_1 _, _, meets_dict_values (mixKind X.prog X.w) d dS, ⟨vs, dd⟩, ?_⟩)
  refine ⟨.ref s1.heap.objs.size, _, I1.laid (t' := s1.toks) (a := s1.heap.objs.size) (o := valsO s1.heap.objs.size d) (fun b ob q => Heap.get?_push_of_some _ q) (Nat.le_refl _) ?_, rfl, q _ (I1.hok.fresh (Nat.le_refl _))⟩
  have e : (s1.heap.push { cls := .type "dict_values", data := .fields #[.ref d] }).get? s1.heap.objs.size = some { cls := .type "dict_values", data := .fields #[.ref d] } := Heap.get?_push_size _ rfl
  exact ⟨e, ⟨_, e⟩, fun h1 h2 p k => k _ p⟩
def rInVals : R2 := fun x y H Q => ∃ (z : Str) (v d : Addr) (kvs : List (Key × V)) (ys : List Str), x = .str z ∧ y = .ref v ∧ H v = some (valsO v d) ∧ H d = some (.dK kvs) ∧ kvs.map (·.2) = ys.map V.str ∧ Q (.bl (decide (z ∈ ys))) H
theorem op_inVals {X : Cx} (hc : X.calm = true) : OpR X (compareOp .In) rInVals := by
  rintro pins s σ H x y vx vy Q I rx ry ⟨z, v, d, kvs, ys, rfl, rfl, hv, hd, hy, q⟩
  obtain ⟨t, rfl⟩ : ∃ t, vx = Value.str z t := rx
  obtain rfl : vy = Value.ref v := ry
  obtain ⟨ev, _, _⟩ := I.hok v _ hv
  obtain ⟨_, dS, vs, rel, o, es, ep, dd⟩ := dk_of I.hok hd
  have dA : s.heap.DictAt (mixKind X.prog X.w) d vs ep := ⟨o, es, dd⟩
  have tv : s.TypeIs (.ref v) "dict_values" := ⟨_, ev, rfl⟩
  have lv : kvs.length = vs.length := Paired.length rel
  have ly : ys.length = vs.length := by
    have := congrArg List.length hy
    rw [List.length_map, List.length_map] at this
    omega
  show wpAny _ _ (contains (.ref v) (.str z t) >>= fun b => pure (Value.bool b)) _ _ s
  refine wpAny_bind ?_
  unfold contains
  refine wpAny_holding ?_
  show wpAny _ _ (specialOf (.ref v) "__contains__" >>= _) _ _ s
  refine wpAny_bind (wpAny_specialOf tv nocont_vals ?_)
  show wpAny _ _ (if ((none : Option Value) == some Value.none) = true then _ else _) _ _ s
  rw [if_neg (by decide)]
  refine wpAny_bind (wpAny_callSpecialUnlessNone?_none tv nocont_vals ?_)
  refine wpAny_bind (wpAny_rule ?_)
  refine wpAny_bind (wpAny_tryCatch (wpAny_pyIter_values (d := d) (knd := mixKind X.prog X.w) ⟨_, ev, rfl, rfl⟩ dA ?_))
  have nvi : d ≠ s.heap.objs.size := Nat.ne_of_lt (Heap.lt_size dd.1)
  refine wpAny_bind (wpAny_runValue (ci_loop (ys := ys) (I.ok.hd hc) ?_ ly nvi vs.length 0 _ (by omega) ⟨_, Heap.get?_push_size _ rfl, rfl, rfl⟩ ?_ fun h' eb => ?_))
  · intro i p hp
    have hi : i < vs.length := (List.getElem?_eq_some_iff.mp hp).1
    obtain ⟨⟨k, v'⟩, hk⟩ : ∃ e, kvs[i]? = some e := ⟨_, List.getElem?_eq_getElem (by omega)⟩
    obtain ⟨u, hu, ru⟩ := kv_get rel hk
    obtain ⟨y, hy'⟩ : ∃ y, ys[i]? = some y := ⟨_, List.getElem?_eq_getElem (by omega)⟩
    have e1 : (kvs.map (·.2))[i]? = some v' := by rw [List.getElem?_map, hk]; rfl
    rw [hy, List.getElem?_map, hy'] at e1
    obtain rfl : V.str y = v' := Option.some.inj e1
    obtain ⟨t2, rfl⟩ := ru
    rw [hp] at hu
    exact ⟨y, t2, hy', by rw [Option.some.inj hu]⟩
  · exact ⟨o, es, Heap.get?_push_of_some _ dd.1, dd.2⟩
  · refine wpAny_pure (wpAny_pure ⟨.bl _, H, I.kept (t' := s.toks) (fun b ob e => eb b ob (Nat.ne_of_lt (Heap.lt_size e)) (Heap.get?_push_of_some _ e)), rfl, ?_⟩)
    rw [List.drop_zero]
    exact q
/-! ### d.setdefault, list(d.values()), walks over lists and tuples -/
namespace Sdf
section
variable {prog : Program} {w : World} {K : Type} [DecidableEq K] {knd : KeyKind prog w K} {A : Around} {E : Value → Shared → Prop} {s : Shared}
theorem sdf_pairs {d : Addr} {kvs : List (K × Value)} {k : K} {key dflt : Value} {Q : Value → Shared → Prop} (hkey : knd.is k key = true) (hm : s.heap.DictOf knd d kvs) (hsz : kvs.length ≤ sizeLine)
    (hthere : ∀ v, valueAt kvs k = some v → Q v { s with toks := s.toks + 1 })
    (hnew : valueAt kvs k = none → ∀ h', h'.DictOf knd d (stored kvs k dflt) → Heap.SameBut d s.heap h' → Q dflt { s with heap := h', toks := s.toks + 1 }) :
    wpAny (model prog w) A (dictSetDefault d key dflt) Q E s := by
  have hm0 := hm.mapOf
  obtain ⟨o, es, ep, ho, hc, hd, hk, hp, hn⟩ := hm
  have hes : es.size ≤ sizeLine := by
    have e1 := hp.length
    have e2 : es.toList.length = es.size := by simp
    omega
  have hf : ∀ x, findBy knd.is es x = valueAt kvs x := fun x => by
    rw [← hp.find x]
    obtain ⟨l⟩ := es
    simp [findBy]
  unfold dictSetDefault
  try with_reducible refine wpAny_holding ?_
  refine wpAny_bind (knd.pyHash hkey ?_)
  refine wpAny_bind (wpAny_dictFind_of (s := { s with toks := s.toks + 1 }) hkey ho hd hk ?_)
  have hidx : (es.findIdx? fun e => knd.is k e.key) = kvs.findIdx? fun kv => decide (kv.1 = k) := by
    rw [← hp.findIdx k]; obtain ⟨l⟩ := es; simp
  cases hi : es.findIdx? fun e => knd.is k e.key with
  | some i =>
    have hfk : valueAt kvs k = (es[i]?).map (·.val) := by rw [← hf k, findBy_of_findIdx?, hi]
    refine wpAny_bind (wpAny_dictEntries (s := { s with toks := s.toks + 1 }) ho hd ?_)
    cases he : es[i]? with
    | none =>
      exfalso
      have := Array.findIdx?_eq_some_iff_findIdx_eq.mp hi
      have hlt : i < es.size := this.1
      rw [Array.getElem?_eq_getElem hlt] at he
      exact nomatch he
    | some e =>
      rw [he] at hfk
      exact wpAny_bind (wpAny_rule (wpAny_pure (hthere e.val hfk)))
  | none =>
    have hfk : valueAt kvs k = none := by rw [← hf k, findBy_of_findIdx?, hi]
    have hnot : k ∉ kvs.map (·.1) := not_mem_of_findIdx_none (hidx ▸ hi)
    have hany : ¬ (kvs.any fun kv => decide (kv.1 = k)) = true := by
      rw [List.any_eq_true]; rintro ⟨kv, hkv, he⟩
      exact hnot (List.mem_map.mpr ⟨kv, hkv, of_decide_eq_true he⟩)
    refine wpAny_bind (wpAny_rule (wpAny_bind (wpAny_updateDictKeys (hz := hes) (s := { s with toks := s.toks + 1 }) ho hd (wpAny_pure (hnew hfk _ ⟨_, _, ep + 1, Heap.get?_update_self _ ho (Obj.isFreed_of_dict (Obj.data_mapDictKeys hd _)),
      hc.mapDictKeys _, Obj.data_mapDictKeys hd _, hk.push hkey _, ?_, ?_⟩ (Heap.SameBut.update ..))))))
    · rw [stored, if_neg hany]
      have := hp.append hkey (knd.hash k) dflt
      obtain ⟨l⟩ := es
      simpa using this
    · rw [stored, if_neg hany, List.map_append, List.nodup_append]
      refine ⟨hn, by simp, ?_⟩
      intro a ha b hb
      simp only [List.map_cons, List.map_nil, List.mem_singleton] at hb
      subst hb
      exact fun e => hnot (e ▸ ha)
theorem meets_sdf (knd : KeyKind prog w K) {k : K} {key : Value} (d : Addr) (hkey : knd.is k key = true) (hd : (d == sysModules) = false) (dflt : Value) :
    MeetsIn prog w (Builtin.«dict.setdefault» ⟨[.ref d, key, dflt], []⟩) (fun _ R s => ∃ kvs, s.heap.DictOf knd d kvs ∧ kvs.length ≤ sizeLine ∧
      (∀ v, valueAt kvs k = some v → R (.ok (.ret v)) { s with toks := s.toks + 1 }) ∧
      (valueAt kvs k = none → ∀ h', h'.DictOf knd d (stored kvs k dflt) → Heap.SameBut d s.heap h' → R (.ok (.ret dflt)) { s with heap := h', toks := s.toks + 1 })) :=
  .of_wp fun A R s ⟨kvs, hm, hz, h1, h2⟩ => by
    unfold Builtin.«dict.setdefault»
    refine wpAny_bind ?_
    unfold Builtin.Dict.keyAndDefault
    refine wpAny_bind (wpAny_notOrdered_dict hm.typeIs ?_)
    show wpAny _ _ (pure (d, key, some dflt)) _ _ s
    refine wpAny_pure ?_
    show wpAny _ _ (if (d == sysModules) = true then _ else (dictSetDefault d key dflt >>= _)) _ _ s
    rw [if_neg (by rw [hd]; exact Bool.false_ne_true)]
    exact wpAny_bind (sdf_pairs hkey hm hz (fun v hv => wpAny_pure ⟨v, rfl, h1 v hv⟩) fun hn h' hm' hs' => wpAny_pure ⟨dflt, rfl, h2 hn h' hm' hs'⟩)
end
section
variable {X : Cx} {pins : List (Addr × Obj)} {σ : L2.St} {H : Hp} {s : Shared} {a : Addr} {A : Around} {E : Value → Shared → Prop}
theorem d_sdf {kvs : List (Key × V)} {k : Key} {z : V} {u r : Value} {Q : Value → Shared → Prop} (I : Inv X pins σ H s) (e : H a = some (.dK kvs)) (lt : kvs.length < sizeLine) (ry : RelV (kV k) u) (rz : RelV z r)
    (h1 : ∀ v w' s', valV kvs k = some v → Inv X pins σ H s' → RelV v w' → Q w' s') (h2 : ∀ s', valV kvs k = none → Inv X pins σ (upd H a (.dK (putK kvs k z))) s' → Q r s') :
    wpAny (model X.prog X.w) A (call (.builtin "dict.setdefault") [.ref a, u, r]) Q E s := by
  obtain ⟨zz, hd, vs, rel, dd⟩ := dk_of I.hok e
  have hz : vs.length ≤ sizeLine := by rw [← rel.length]; exact zz
  refine call_meetsIn PySem.F.slot_dict_setdefault dd.typeIs PySem.F.entry_dict_setdefault (PySem.F.args_dict_setdefault_3 _ _ _) (meets_sdf (mixKind X.prog X.w) a (kV_is ry) hd r) ⟨vs, dd, hz, fun w' hw => ?_, fun hn h' dd' hs => ?_⟩
  · have q := rel.val k
    rw [hw] at q
    cases ev : valV kvs k with
    | none =>
      rw [ev] at q
      exact absurd q (fun z => by cases z)
    | some v =>
      rw [ev] at q
      exact h1 v w' _ ev (I.tok _) q
  · have ev : valV kvs k = none := by
      have q := rel.val k
      rw [hn] at q
      cases ev : valV kvs k with
      | none => rfl
      | some v =>
        rw [ev] at q
        exact absurd q (fun z => by cases z)
    have he : ∃ q, h'.get? a = some q := let ⟨q, _, _, hq, _⟩ := dd'; ⟨q, hq⟩
    have hl : (putK kvs k z).length ≤ sizeLine := by have := length_putK kvs k z; omega
    exact h2 _ ev (d_write I (by rw [e]; exact True.intro) hs he (dk_new hl hd (rel.put k rz) dd'))
end
end Sdf
/-- d.setdefault(k, x) -/
def tSdf (td ty tx : TE) : TE := fun σ H Q => td σ H fun x H1 => ∃ a, x = .ref a ∧ IsD H1 a ∧ ty σ H1 fun y H2 => tx σ H2 fun z H3 => ∃ kvs k, H3 a = some (.dK kvs) ∧ y = kV k ∧ kvs.length < sizeLine ∧
  (∀ v, valV kvs k = some v → Q v H3) ∧ (valV kvs k = none → Q z (upd H3 a (.dK (putK kvs k z))))
theorem pe_sdf {X : Cx} {o e f : Expr} {apos cpos : Pos} {td ty tx : TE} (ho : PE X o td) (he : PE X e ty) (hf : PE X f tx) (m : M2 X o "setdefault" apos e f cpos) : PE X (.Call (.Attribute o "setdefault" apos) [e, f] [] cpos) (tSdf td ty tx) := by
  refine ⟨fun pins s σ H Q I h => ?_⟩
  refine wpAny_Call_method m.base m.few m.line PySem.F.plainAttrs_dict PySem.F.slot_dict_setdefault PySem.F.type_dict_setdefault (thn (ho.run pins s σ H _ I h) fun u s1 ⟨x, H1, I1, rx, a, ex, d, q1⟩ => ?_)
  subst ex
  obtain rfl : u = Value.ref a := rx
  obtain ⟨t1, t2, _⟩ := isD_at I1 d
  refine ⟨t1, t2, ?_⟩
  rw [m.trees]
  refine Calls.callWith_builtin rfl (Calls.evalArgs_plain (Calls.spliced_cons (thn (he.run pins s1 σ H1 _ I1 q1) fun iv s2 ⟨y, H2, I2, ry, q2⟩ =>
    Calls.spliced_cons (thn (hf.run pins s2 σ H2 _ I2 q2) fun fv s3 ⟨z, H3, I3, rz, kvs, k, hd, ey, lt, qa, qb⟩ => Calls.spliced_nil ?_))))
  subst ey
  exact Sdf.d_sdf I3 hd lt ry rz (fun v w' s4 ev I4 rw' => ⟨_, H3, I4, rw', qa v ev⟩) fun s4 ev I4 => ⟨_, _, I4, rz, qb ev⟩
/-- list(d.values()) -/
theorem call_listVals {X : Cx} (hc : X.calm = true) : CallR X (.type "list") (fun xs H Q => ∃ (v d : Addr) (kvs : List (Key × V)), xs = [.ref v] ∧ H v = some (valsO v d) ∧ H d = some (.dK kvs) ∧ ∀ q, H q = none → Q (.ref q) (upd H q (.lst (kvs.map (·.2))))) := by
  rintro pins s σ H xs us Q I r ⟨v, d, kvs, rfl, hv, hd, q⟩
  obtain ⟨u, eu, rx⟩ := vals1 r
  subst eu
  obtain rfl : u = Value.ref v := rx
  obtain ⟨ev, _, _⟩ := I.hok v _ hv
  obtain ⟨z, lo, vs, rk, hdd⟩ := (show ObjOk X.prog X.w H s.heap d (.dK kvs) from I.hok d _ hd)
  obtain ⟨ep, hat⟩ := hdd.dictAt
  have hl : kvs.length = vs.length := Paired.length rk
  refine PySem.W.kdl_call (PySem.W.kdl_values (knd := mixKind X.prog X.w) (kvs := vs) (ep := ep)) (I.ok.hd hc) ⟨⟨_, ev, rfl, rfl⟩, hat⟩ (by rw [← hl]; exact z) fun h' tk acc' c' hkeep hS hacc => ?_
  refine ⟨.ref s.heap.objs.size, upd H s.heap.objs.size (.lst (kvs.map (·.2))), I.laid hkeep (Nat.le_refl _) (show ObjOk X.prog X.w _ _ _ (.lst (kvs.map (·.2))) from ⟨?_, acc'.toList, c', ?_, ?_⟩), rfl, q _ (I.hok.fresh (Nat.le_refl _))⟩
  · rw [List.length_map]; exact z
  · have el : acc'.toList.length = acc'.size := by simp
    refine vals_of_at (by rw [List.length_map, el, hacc.1, hl]) fun j x w h1 h2 => ?_
    obtain ⟨k, hky⟩ := hacc.2 j w (by rw [← Array.getElem?_toList]; exact h2)
    obtain ⟨y, hy, ry⟩ := KV.at' rk hky
    rw [List.getElem?_map, hy] at h1
    rw [← Option.some.inj h1]
    exact ry
  · rw [Array.toArray_toList]; exact hS
/-! a list or a tuple -/
def LT (H : Hp) (a : Addr) (xs : List V) : Prop := H a = some (.lst xs) ∨ H a = some (.tup xs)
theorem LT.by {H H' : Hp} {a : Addr} {xs : List V} (h : LT H a xs) (k : ∀ o, H a = some o → (∀ ps, o ≠ .tbl ps) → H' a = some o) : LT H' a xs := h.imp (fun e => k _ e fun _ z => nomatch z) fun e => k _ e fun _ z => nomatch z
theorem LT.on {H H' : Hp} {a : Addr} {xs : List V} (h : LT H a xs) (s : Same H H') : LT H' a xs := h.imp (fun e => s _ _ e) fun e => s _ _ e
abbrev iSeq (K : PySem.W.Frag) (tl : TE) : TI := fun σ H R => iList K tl σ H R ∨ iTup K tl σ H R
theorem pi_seq {X : Cx} {tg l : Expr} {tl : TE} (hl : PE X l tl) : PI X tg l (iSeq X.K tl) := ⟨fun pins s σ H R I h => h.elim ((pi_list hl).run pins s σ H R I) ((pi_tup hl).run pins s σ H R I)⟩
structure Over (J : It) (xs : List V) (At : Hp → Prop) : Prop where
  go : ∀ i H x, At H → xs[i]? = some x → J.go i H
  yld : ∀ i H y H', At H → J.yld i H y H' → H' = H ∧ xs[i]? = some y
  stop : ∀ i H, At H → xs.length ≤ i → J.stop i H
theorem over_l {K : PySem.W.Frag} {a : Addr} {xs : List V} : Over (Itl K a) xs (fun H => SqL K H a xs) :=
  ⟨fun i H x h e => ⟨xs, x, h, e⟩, fun i H y H' h z => ⟨z.1, z.2 xs h⟩, fun i H h e => ⟨xs, h, e⟩⟩
theorem over_t {K : PySem.W.Frag} {a : Addr} {xs : List V} : Over (Itt K a) xs (fun H => SqT K H a xs) :=
  ⟨fun i H x h e => ⟨xs, x, h, e⟩, fun i H y H' h z => ⟨z.1, z.2 xs h⟩, fun i H h e => ⟨xs, h, e⟩⟩
/-- all(.. for x in xs), its iterator being there -/
theorem all_over {J : It} {At : Hp → Prop} {T : Addr} {xs : List V} {g : TG} {tt : TT} {te : TE} {vs : List Nat} {σ : L2.St} {H : Hp} {Q : VK} (o : Over J xs At) (W : Nat → Hp → Prop) (tg : GxR.TabG H T) (h0 : ∀ H2, GxR.Tabbed T H H2 → W 0 H2) (hl : ∀ i H', i ≤ xs.length → W i H' → At H')
    (step : ∀ i x H' (Go : Hp → Prop), xs[i]? = some x → W i H' → (∀ H4, W (i + 1) H4 → Go H4) → g x (wipe σ vs) H' fun σ2 H2 => wipe σ2 vs = wipe σ vs ∧ tt σ2 H2 fun b H3 => if b = true then te σ2 H3 fun y H4 => ∃ k, y = .bl k ∧ (if k = true then Go H4 else Q (.bl false) H4) else Go H3)
    (done : ∀ H', W xs.length H' → Q (.bl true) H') :
    GxR.TabG H T ∧ ∀ H2, GxR.Tabbed T H H2 → ∃ W : Nat → Nat → Hp → Prop, (∃ m, W 0 m H2) ∧
      GTurns J g tt te vs σ W (fun i m y H' => ∃ k, y = .bl k ∧ (if k = true then ∃ m', m' < m ∧ W (i + 1) m' H' else Q (.bl false) H')) (fun H' => Q (.bl true) H') := by
  refine ⟨tg, fun H2 tb => ⟨fun i m H' => m = xs.length - i ∧ i ≤ xs.length ∧ W i H', ⟨_, rfl, Nat.zero_le _, h0 H2 tb⟩, ?_⟩⟩
  rintro i m H3 ⟨rfl, hi, w3⟩
  by_cases lt : i < xs.length
  · refine .inr ⟨o.go i H3 xs[i] (hl i H3 hi w3) (List.getElem?_eq_getElem lt), fun x H' y => ?_⟩
    obtain ⟨rfl, hx⟩ := o.yld i H3 x H' (hl i H3 hi w3) y
    exact step i x _ (fun H' => ∃ m', m' < xs.length - i ∧ m' = xs.length - (i + 1) ∧ i + 1 ≤ xs.length ∧ W (i + 1) H') hx w3 fun H4 w4 => ⟨_, by omega, rfl, lt, w4⟩
  · have ei : i = xs.length := by omega
    exact .inl ⟨o.stop i H3 (hl i H3 hi w3) (by omega), done H3 (ei ▸ w3)⟩
theorem all_seq {K : PySem.W.Frag} {T l : Addr} {xs : List V} {g : TG} {tt : TT} {te : TE} {vs : List Nat} {σ : L2.St} {H : Hp} {Q : VK} {k : Nat} (h : LT H l xs) (hv : σ[k]? = some (some (.ref l))) (W : Nat → Hp → Prop) (tg : GxR.TabG H T) (h0 : ∀ H2, GxR.Tabbed T H H2 → W 0 H2) (hl : ∀ i H', i ≤ xs.length → W i H' → ∀ o, H l = some o → (∀ ps, o ≠ .tbl ps) → H' l = some o)
    (step : ∀ i x H' (Go : Hp → Prop), xs[i]? = some x → W i H' → (∀ H4, W (i + 1) H4 → Go H4) → g x (wipe σ vs) H' fun σ2 H2 => wipe σ2 vs = wipe σ vs ∧ tt σ2 H2 fun b H3 => if b = true then te σ2 H3 fun y H4 => ∃ k, y = .bl k ∧ (if k = true then Go H4 else Q (.bl false) H4) else Go H3)
    (done : ∀ H', W xs.length H' → Q (.bl true) H') : tAllG T (iSeq K (tVar k)) g tt te vs σ H Q := by
  rcases h with h | h
  · exact .inl ⟨_, hv, l, rfl, ⟨_, SqL.of h⟩, all_over over_l W tg h0 (fun i H' hi w => SqL.of (hl i H' hi w _ h fun _ z => nomatch z)) step done⟩
  · exact .inr ⟨_, hv, l, rfl, ⟨_, SqT.of h⟩, all_over over_t W tg h0 (fun i H' hi w => SqT.of (hl i H' hi w _ h fun _ z => nomatch z)) step done⟩
theorem for_seq {K : PySem.W.Frag} {l : Addr} {xs : List V} {g : TG} {tb : TS} {D : Ends} {σ : L2.St} {H : Hp} {k : Nat} (h : LT H l xs) (hv : σ[k]? = some (some (.ref l))) (Pv : Nat → L2.St → Hp → Prop) (h0 : Pv 0 σ H) (hl : ∀ i σ H', i ≤ xs.length → Pv i σ H' → ∀ o, H l = some o → (∀ ps, o ≠ .tbl ps) → H' l = some o)
    (hs : ∀ i x σ H, xs[i]? = some x → Pv i σ H → g x σ H fun σ2 H2 => tb { D with nx := Pv (i + 1), ct := Pv (i + 1), bk := D.nx } σ2 H2) (hd : ∀ σ H, Pv xs.length σ H → D.nx σ H) : tFor (iSeq K (tVar k)) g tb D σ H := by
  rcases h with h | h
  · exact .inl ⟨_, hv, l, rfl, ⟨_, SqL.of h⟩, for_list Pv h0 (fun i σ' H' hi w => SqL.of (hl i σ' H' hi w _ h fun _ z => nomatch z)) hs hd⟩
  · exact .inr ⟨_, hv, l, rfl, ⟨_, SqT.of h⟩, for_tup Pv h0 (fun i σ' H' hi w => SqT.of (hl i σ' H' hi w _ h fun _ z => nomatch z)) hs hd⟩
/-! ### is_entry_of -/
theorem TB1.of2 {Ts : List Addr} {T1 T2 : Addr} {H H' : Hp} (g : TabsG Ts H) (i1 : T1 ∈ Ts) (i2 : T2 ∈ Ts) (b : TB2 T1 T2 H H') : TB1 Ts H H' := by
  have n1 : ∀ {a o}, H a = some o → (∀ ps, o ≠ .tbl ps) → a ≠ T1 ∧ a ≠ T2 := fun {a o} e n => by
    obtain ⟨p1, e1, _⟩ := g T1 i1
    obtain ⟨p2, e2, _⟩ := g T2 i2
    exact ⟨ne_of e e1 (n p1), ne_of e e2 (n p2)⟩
  refine ⟨fun T hT => ?_, fun a o e n => b.1 a o e (n1 e n).1 (n1 e n).2, fun a n => ?_, fun a o e n => b.1 a o e (fun z => n (z ▸ i1)) fun z => n (z ▸ i2)⟩
  · by_cases z1 : T = T1
    · rw [z1]; exact b.2.1
    · by_cases z2 : T = T2
      · rw [z2]; exact b.2.2
      · obtain ⟨ps, e, ok⟩ := g T hT
        exact ⟨ps, b.1 T _ e z1 z2, ok⟩
  · cases e : H a with
    | none => rfl
    | some o =>
      by_cases z1 : a = T1
      · obtain ⟨ps, e1, _⟩ := b.2.1
        rw [z1, e1] at n
        cases n
      · by_cases z2 : a = T2
        · obtain ⟨ps, e1, _⟩ := b.2.2
          rw [z2, e1] at n
          cases n
        · rw [b.1 a o e z1 z2] at n
          cases n
theorem take_sn {α : Type} {l : List α} {i : Nat} {x : α} (h : l[i]? = some x) : l.take (i + 1) = l.take i ++ [x] := by
  rw [List.take_add_one, h]
  rfl
def goodOk (e : Ent) (G : List Str) : Bool := match e.goodV with | .str g => decide (g ∈ G) | _ => true
def ofB (e : Ent) (P G : List Str) : Bool := goodOk e G && e.places.all fun y => decide (y ∈ P)
def spIsEntryOf (Ts : List Addr) : Sp := fun vs H Q _ => ∃ (a pl gl : Addr) (e : Ent) (P G : List Str), vs = [.ref a, .ref pl, .ref gl] ∧ H a = some (.tup e.vals) ∧ e.Fine ∧ H pl = some (.tup (P.map V.str)) ∧ H gl = some (.tup (G.map V.str)) ∧ TabsG Ts H ∧
  ∀ H', TB1 Ts H H' → Q (.bl (ofB e P G)) H'
theorem goodV_cases (e : Ent) : e.goodV = .non ∨ ∃ g, e.goodV = .str g := by cases e <;> first | exact .inl rfl | exact .inr ⟨_, rfl⟩
section
variable {P : Program} {w : World} {K : PySem.W.Frag} {mg : Str → Option Value} {base : Heap}
end
/-! ### sep.join(..) of a generator expression whose parts are texts -/
theorem gx_over {J : It} {At : Hp → Prop} {T : Addr} {xs : List V} {g : TG} {tt : TT} {te : TE} {vs : List Nat} {σ : L2.St} {H : Hp} {Fin : List V → Hp → Prop} (o : Over J xs At) (W : Nat → List V → Hp → Prop) (tg : GxR.TabG H T) (h0 : ∀ H2, GxR.Tabbed T H H2 → W 0 [] H2) (hl : ∀ i ys H', i ≤ xs.length → W i ys H' → At H')
    (step : ∀ i x ys H' (Go : List V → Hp → Prop), xs[i]? = some x → W i ys H' → (∀ ys4 H4, W (i + 1) ys4 H4 → Go ys4 H4) → g x (wipe σ vs) H' fun σ2 H2 => wipe σ2 vs = wipe σ vs ∧ tt σ2 H2 fun b H3 => if b = true then te σ2 H3 fun y H4 => ys.length < sizeLine ∧ Go (ys ++ [y]) H4 else Go ys H3)
    (done : ∀ ys H', W xs.length ys H' → Fin ys H') :
    GxR.TabG H T ∧ ∀ H2, GxR.Tabbed T H H2 → ∃ W : Nat → Nat → List V → Hp → Prop, (∃ m, W 0 m [] H2) ∧ GTurnsL J g tt te vs σ W (outL W) Fin := by
  refine ⟨tg, fun H2 tb => ⟨fun i m ys H' => m = xs.length - i ∧ i ≤ xs.length ∧ W i ys H', ⟨_, rfl, Nat.zero_le _, h0 H2 tb⟩, ?_⟩⟩
  rintro i m ys H3 ⟨rfl, hi, w3⟩
  by_cases lt : i < xs.length
  · refine .inr ⟨o.go i H3 xs[i] (hl i ys H3 hi w3) (List.getElem?_eq_getElem lt), fun x H' y => ?_⟩
    obtain ⟨rfl, hx⟩ := o.yld i H3 x H' (hl i ys H3 hi w3) y
    exact step i x ys _ (fun ys' H' => ∃ m', m' < xs.length - i ∧ m' = xs.length - (i + 1) ∧ i + 1 ≤ xs.length ∧ W (i + 1) ys' H') hx w3 fun ys4 H4 w4 => ⟨_, by omega, rfl, lt, w4⟩
  · have ei : i = xs.length := by omega
    exact .inl ⟨o.stop i H3 (hl i ys H3 hi w3) (by omega), done ys H3 (ei ▸ w3)⟩
section
open PySem PySem.SeqAt PySem.W PyProof.Rows
theorem str_oneArg {M : Model} {A : Around} {E : Value → Shared → Prop} {s : Shared} {m : String} {sep : Str} {t : Tok} {v : Value} {Q : Value × Str × Value → Shared → Prop} (h : Q (.str sep t, sep, v) s) : wpAny M A (Builtin.Str.strOneArg m ⟨[.str sep t, v], []⟩) Q E s := by
  unfold Builtin.Str.strOneArg selfAndOne
  wp_walk
  exact h
theorem join_loop {M : Model} {B : Around} {E : Value → Shared → Prop} {f : Value × Nat → Array Str → Sem (ForInStep (Array Str))} (hf : ∀ (y : Str) (tk : Tok) (i : Nat) (b : Array Str), f (.str y tk, i) b = pure (.yield (b.push y))) {Q : Array Str → Shared → Prop} {s : Shared} :
    ∀ {its : List Value} {xs : List Str} (k : Nat) (b : Array Str), StrsAre its xs → Q (b ++ xs.toArray) s → wpAny M B (forIn (its.zipIdx k) b f) Q E s := by
  intro its
  induction its with
  | nil =>
    intro xs k b h q
    cases h
    rw [Array.append_empty] at q
    exact wpAny_pure q
  | cons v vs ih =>
    intro xs k b h q
    cases h with
    | @cons y tk _ ys r =>
      rw [List.zipIdx_cons, List.forIn_cons, hf]
      refine wpAny_bind (wpAny_pure ?_)
      refine ih (k + 1) (b.push y) r ?_
      have e : b.push y ++ ys.toArray = b ++ (y :: ys).toArray := by
        apply Array.ext'
        simp
      rw [e]
      exact q
theorem ret_str {M : Model} {B : Around} {E : Value → Shared → Prop} {Q : PySem.Fin → Shared → Prop} {x : Str} {s : Shared} (hl : x.length ≤ sizeLine) (h : ∀ t', Q (PySem.Fin.done (Flow.ret (.str x t'))) { s with toks := s.toks + 1 }) : wpAny M B (retStr x) Q E s := by
  unfold retStr mkStr
  rw [if_neg (Nat.not_lt.mpr hl)]
  wp_walk
  exact h _
theorem gx_join {X : Cx} {pins : List (Addr × Obj)} {σ : L2.St} {IG : Pins → Hp → Shared → Prop} {tn : Nat → Heap → Prop} {fp : List Addr} {W : Nat → Nat → List V → Hp → Prop} {Fin : List V → Hp → Prop} {a : Addr} {gn : Nat}
    {A : Around} {Q : Value → Shared → Prop} {E : Value → Shared → Prop} {m : Nat} {H : Hp} {s : Shared} {sep : Str} {t : Tok} (ig : IGokL X pins σ a gn tn IG) (hA : A.handled = none) (hd : A.depth < recursionLimit)
    (G : GStartL X A.in1.in1 IG tn fp W (outL W) Fin gn m H s)
    (hF : ∀ ys (its : List Value) H' (s' : Shared), Vals ys its → Fin ys H' → Inv X pins σ H' s' → ∃ xs : List Str, StrsAre its xs ∧ (xs.map (·.length)).sum + xs.length * sep.length ≤ 16777216 ∧ ∀ (t' k : Nat), Q (.str (Txt.join sep xs) t') { s' with toks := k }) :
    wpAny (model X.prog X.w) A (call (.builtin "str.join") [.str sep t, .ref a]) Q E s := by
  refine wpAny_call_entry F.slot_str_join rfl F.entry_str_join ?_ (F.args_str_join_2 _ _)
  have g0 := ig.isgen G.1
  have ty : s.TypeIs (.ref a) "generator" := Heap.IsGen.typeIs g0
  unfold Builtin.«str.join»
  refine wpAny_bind (str_oneArg ?_)
  refine wpAny_bind (wpAny_typeOf ty ?_)
  rw [if_neg (by decide)]
  refine wpAny_bind (wpAny_tryCatch (wpAny_pyIter_gen g0 ?_))
  refine wpAny_bind (gx_collect (B := A.in1) ig hA hd G fun ys acc H' s' hv fin I' => ?_)
  obtain ⟨xs, sx, hz, q⟩ := hF ys acc.toList H' s' hv fin I'
  generalize acc.toList = its at sx hv
  have ok : Builtin.Str.tooLong (Array.foldl (fun x1 x2 => x1 + x2.length + sep.length) 0 xs.toArray) = false := by
    have := joinOk_of hz
    unfold JoinOk at this
    simpa using this
  have hl : (Builtin.Str.glued sep xs).length ≤ sizeLine := by
    rw [StrLaws.glued_eq_join]
    have := StrLaws.join_length_le sep xs
    rw [sizeLine_eq]
    omega
  have tail : ∀ {B : Around}, wpAny (model X.prog X.w) B (if Builtin.Str.tooLong (Array.foldl (fun x1 x2 => x1 + x2.length + sep.length) 0 xs.toArray) = true then (unsupported "str.join:memory" : Sem Unit) >>= fun _ => retStr (Builtin.Str.glued sep xs.toArray.toList) else retStr (Builtin.Str.glued sep xs.toArray.toList)) (fun fin s' => ∃ v, fin = PySem.Fin.done (Flow.ret v) ∧ Q v s') E s' := by
    intro B
    rw [ok, if_neg (by decide)]
    exact ret_str hl fun t' => ⟨_, rfl, q _ _⟩
  cases sx with
  | nil => exact wpAny_bind (join_loop (fun y tk i b => rfl) 0 #[] .nil tail)
  | @cons y tk vs ys r =>
    cases r with
    | nil =>
      show wpAny _ _ (if Builtin.Str.isExactStr (.str y tk) = true then rule "str.join.same-object" >>= fun _ => ret (.str y tk) else _) _ _ _
      rw [if_pos (show Builtin.Str.isExactStr (.str y tk) = true from rfl)]
      exact wpAny_bind (wpAny_rule (wpAny_pure ⟨_, rfl, q tk s'.toks⟩))
    | @cons y2 tk2 vs2 ys2 r2 => 
      exact wpAny_bind (join_loop (xs := y :: y2 :: ys2) (fun y tk i b => rfl) 0 #[] (.cons y tk (.cons y2 tk2 r2)) (by rw [Array.empty_append]; exact tail))
def finJ (sep : Str) (Q : VK) : List V → Hp → Prop := fun ys H' => ys.length ≤ sizeLine ∧ ∃ xs : List Str, ys = xs.map V.str ∧ (xs.map (·.length)).sum + xs.length * sep.length ≤ 16777216 ∧ Q (.str (Txt.join sep xs)) H'
def tJoinX (T : Addr) (to : TE) (wi : TI) (g : TG) (tt : TT) (te : TE) (vs : List Nat) : TE := fun σ H Q => to σ H fun v H0 => ∃ sep : Str, v = .str sep ∧ wi σ H0 fun J H1 => GxR.TabG H1 T ∧ ∀ H2, GxR.Tabbed T H1 H2 → ∃ W : Nat → Nat → List V → Hp → Prop, (∃ m, W 0 m [] H2) ∧
  GTurnsL J g tt te vs σ W (outL W) (finJ sep Q)
theorem strs_areJ : ∀ {xs : List Str} {its : List Value}, Vals (xs.map V.str) its → StrsAre its xs
  | [], _, .nil => .nil
  | x :: xs, _, @Paired.cons _ _ _ _ u _ _ r rr => by
    obtain ⟨t, rfl⟩ : ∃ t, u = .str x t := r
    exact .cons x t (strs_areJ rr)
variable {X : Cx}
theorem pe_joinX {c T : Addr} {o elt tg iter : Expr} {ifs : List Expr} {scope : Scope} {own : List (Str × Nat)} {gpos apos cpos : Pos} {to : TE} {wi : TI} {g : TG} {tt : TT} {te : TE} {k : Nat}
    (hr : Room (k + 1) X.A) (ho : PE X o to) (hc : X.calm = true) (hN : X.N.Nodup) (TB : GxR.TabB X.base X.mg c T) (hcode : X.env.code = .ref c) (ok : GOk X.N X.env.scope scope own) (hi : PI X tg iter wi)
    (hg : ∀ (A' : Around) (s3 : Shared) (H3 : Hp) (C : Addr) (code : Value) (fp : List Addr), PG (gxc X A' s3 H3 (genE X scope C code) fp) tg g)
    (ht : ∀ (A' : Around) (s3 : Shared) (H3 : Hp) (C : Addr) (code : Value) (fp : List Addr), Room k A' → PTs (gxc X A' s3 H3 (genE X scope C code) fp) ifs tt)
    (he : ∀ (A' : Around) (s3 : Shared) (H3 : Hp) (C : Addr) (code : Value) (fp : List Addr), Room k A' → PE (gxc X A' s3 H3 (genE X scope C code) fp) elt te)
    (hs : ∀ v, genFold iter X.env v = pure v := by intro _; rfl)
    (hbase : attributeBase o (Str.ofString "join") X.env (eval o X.env) = eval o X.env := by rfl)
    (hfew : ((((backTo cpos (starEach [.GeneratorExp elt [⟨tg, iter, ifs, 0⟩] scope gpos] X.env)).all fun x => !x.1) && (backToKw cpos (keywordEach [] X.env)).all fun x => x.1.isSome) &&
      decide (([Expr.GeneratorExp elt [⟨tg, iter, ifs, 0⟩] scope gpos].length + ([] : List Keyword).length + if ([] : List Keyword).isEmpty = true then 0 else 1) < 30)) = true := by rfl)
    (hline : (apos.endLine == cpos.line) = true := by rfl)
    (hst : starEach [.GeneratorExp elt [⟨tg, iter, ifs, 0⟩] scope gpos] X.env = (false, eval (.GeneratorExp elt [⟨tg, iter, ifs, 0⟩] scope gpos) X.env) :: starEach [] X.env := by rfl)
    (hb0 : ((backTo cpos (starEach [] X.env)).any fun x => x.1) = false := by rfl) :
    PE X (.Call (.Attribute o "join" apos) [.GeneratorExp elt [⟨tg, iter, ifs, 0⟩] scope gpos] [] cpos) (tJoinX T to wi g tt te (own.map (·.2))) := by
  refine ⟨fun pins s σ H Q I h => wpAny_Call_method hbase hfew hline F.plainAttrs_str F.slot_str_join F.type_str_join (thn (ho.run pins s σ H _ I h) fun u s1 ⟨x, H1, I1, rx, sep, ex, q1⟩ => ?_)⟩
  subst ex
  obtain ⟨t, rfl⟩ : ∃ t, u = .str sep t := rx
  refine ⟨rfl, (fun a z => nomatch z), ?_⟩
  rw [hst]
  have hA := I1.ok.hd hc
  have hf := I1.ok.frames
  refine Calls.callWith_builtin hb0 (Calls.evalArgs_plain (Calls.spliced_cons (gx_mkL (Outf := outL) (Fin := finJ sep Q)
    X.A.in1.in1 hA hf (Nat.le_refl _) (by show X.A.units + 1 + 1 ≤ _; omega) hr hc hN TB hcode ok hi hg ht he hs I1 q1 ?_)))
  intro IG tn fp W a gn m H2 s5 ig G
  refine Calls.spliced_nil (gx_join ig hA (Nat.lt_of_le_of_lt (by omega : X.A.depth ≤ X.A.depth + 3 * (k + 1) + 5) hr.dp) G fun ys its H' s' rv fin I' => ?_)
  obtain ⟨hz, xs, rfl, l16, q⟩ := fin
  exact ⟨xs, strs_areJ rv, l16, fun t' k => ⟨V.str (Txt.join sep xs), H', I'.kept (t' := k) (fun _ _ e => e), ⟨t', rfl⟩, q⟩⟩
end
/-! ### a, *b, c = a list -/
section
variable {X : Cx}
theorem pgs_star {e : Expr} {p : Pos} {es : List Expr} {t : TG} {u : TGs} (h1 : PG X e t) (h2 : PGs X es u)
    (hs : (assignEach (.Starred e p :: es) X.env).map (·.2) = assign e X.env :: (assignEach es X.env).map (·.2) := by rfl) : PGs X (.Starred e p :: es) (gCons t u) := by
  refine ⟨fun pins s σ H vs us Q I r h => ?_⟩
  obtain ⟨v, vr, e1, h⟩ := h
  subst e1
  cases r with
  | cons r rr =>
    rw [hs]
    refine assignInOrder_cons (thn (h1.run pins s σ H _ _ _ I r h) fun _ s1 ⟨σ1, H1, I1, q1⟩ => ?_)
    exact h2.run pins s1 σ1 H1 _ _ Q I1 rr q1
theorem star_items {prog : Program} {w : World} {A : Around} {E : Value → Shared → Prop} {s : Shared} {l : Addr} {items : Array Value} {n i : Nat} {Q : List Value → Shared → Prop} (hl : s.heap.IsList l items) (hh : A.handled = none) (hi : i < n) (hn : n ≤ items.size + 1) (hz : items.size ≤ 16384)
    (h : ∀ (h2 : Heap) (tk : Nat), (∀ b o, s.heap.get? b = some o → h2.get? b = some o) → Q (items.toList.take i ++ [.ref h2.objs.size] ++ (items.toList.drop i).drop (items.size + 1 - n)) { s with heap := h2.push { cls := .type "list", data := .seq ((items.toList.drop i).take (items.size + 1 - n)).toArray }, toks := tk }) :
    wpAny (model prog w) A (unpackItems (.ref l) n (some i)) Q E s := by
  have hlt : l ≠ s.heap.objs.size := by obtain ⟨o, ho, _⟩ := hl; exact Nat.ne_of_lt (Heap.lt_size ho)
  unfold unpackItems
  refine wpAny_bind ?_
  unfold notIterableAtAll
  refine wpAny_bind (wpAny_specialOf hl.typeIs PySem.F.slot_list_iter.lookup ?_)
  refine wpAny_pure ?_
  simp only [Bool.false_eq_true, if_false]
  refine wpAny_bind (wpAny_holding (wpAny_pyIter_list hl ?_))
  refine wpAny_bind (wpAny_holding (PySem.W.kun_draw hlt i 0 _ _ ⟨_, Heap.get?_push_size _ rfl, rfl, rfl⟩ (hl.push _) (by omega) fun h₁ hit₁ hs₁ => ?_))
  have hl₁ : h₁.IsList l items := (hl.push _).extBut hs₁.extBut hlt
  rw [Nat.zero_add] at hit₁
  have hit₁' := hit₁
  obtain ⟨oi, hoi, _⟩ := hit₁'
  have hl₁' := hl₁
  obtain ⟨ol, hol, _⟩ := hl₁'
  rw [List.drop_zero]
  have hfl : (items.toList.take i).length = i := by rw [List.length_take, Array.length_toList]; omega
  rw [if_neg (show ¬ ((items.toList.take i).length < i) by rw [hfl]; omega)]
  refine wpAny_bind (wpAny_holding (PySem.W.kun_collect (s := { s with heap := h₁ }) (T := "list_iterator") (.inr (.inr (.inl rfl))) (Walks.list (A := A.in1) hh s.heap.objs.size l hlt items) (fun j u st => st.1.typeIs) (k := i) (by omega) ⟨hit₁, hl₁⟩ (Heap.lt_size hoi) (Heap.lt_size hol) (fun h₂ tk hk => ?_) (by rw [sizeLine_eq]; omega)))
  have hrl : (items.toList.drop i).length = items.size - i := by rw [List.length_drop, Array.length_toList]
  have hmid : (items.toList.drop i).length - (n - 1 - i) = items.size + 1 - n := by rw [hrl]; omega
  show wpAny _ _ (if (items.toList.drop i).length < n - 1 - i then _ else _) _ _ _
  rw [if_neg (by rw [hrl]; omega)]
  show wpAny _ _ (newList ((items.toList.drop i).take ((items.toList.drop i).length - (n - 1 - i))) >>= fun d => pure (items.toList.take i ++ [d] ++ (items.toList.drop i).drop ((items.toList.drop i).length - (n - 1 - i)))) _ _ _
  rw [hmid]
  have he : ∀ b o, s.heap.get? b = some o → h₂.get? b = some o := fun b o e => hk b o (Nat.ne_of_lt (Heap.lt_size e)) (hs₁.extBut b o (Nat.ne_of_lt (Heap.lt_size e)) (Heap.get?_push_of_some _ e))
  exact wpAny_bind (wpAny_newList (s := { s with heap := h₂, toks := tk }) (wpAny_pure (h h₂ tk he)) (by rw [List.length_take, hrl, sizeLine_eq]; omega))
def gStar (K : PySem.W.Frag) (n i : Nat) (t : TGs) : TG := fun v σ H Q => ∃ a xs, v = .ref a ∧ SqL K H a xs ∧ n ≤ xs.length + 1 ∧ xs.length ≤ 16384 ∧
  ∀ D, H D = none → t (xs.take i ++ [.ref D] ++ (xs.drop i).drop (xs.length + 1 - n)) σ (upd H D (.lst ((xs.drop i).take (xs.length + 1 - n)))) Q
theorem Vals.takeD {vs : List V} {us : List Value} : ∀ (i : Nat), Vals vs us → Vals (vs.take i) (us.take i) ∧ Vals (vs.drop i) (us.drop i)
  | 0, h => ⟨.nil, h⟩
  | i + 1, .nil => ⟨.nil, .nil⟩
  | i + 1, .cons a r => ⟨.cons a (Vals.takeD i r).1, (Vals.takeD i r).2⟩
theorem pg_star {es : List Expr} {k : Nat} {t : TGs} {n i : Nat} {pos : Pos} (hc : X.calm = true) (h : PGs X es t) (hi : i < n)
    (hn : (assignEach es X.env).length = n := by rfl) (hst : (assignEach es X.env).findIdx? (·.1) = some i := by rfl) : PG X (.Tuple es k pos) (gStar X.K n i t) := by
  refine ⟨fun pins s σ H v u Q I r hw => ?_⟩
  obtain ⟨a, xs, e1, hq, hl, hz, hw⟩ := hw
  subst e1
  cases r
  obtain ⟨its, rv, pl, _⟩ := I.list hq
  have le : its.length = xs.length := rv.length.symm
  rw [assign_Tuple]
  refine wpAny_bind (wpAny_standAt ?_)
  unfold unpack
  rw [hn, hst]
  refine wpAny_bind (wpAny_holding (star_items (items := its.toArray) pl.isList (I.ok.hd hc) hi (by rw [List.size_toArray, le]; exact hl) (by rw [List.size_toArray, le]; exact hz) fun h2 tk kp => ?_))
  have ls : its.toArray.size = xs.length := by rw [List.size_toArray, le]
  rw [ls, show its.toArray.toList = its from rfl]
  have I1 : Inv X pins σ H { s with heap := h2, toks := tk } := I.kept kp
  have hf : H h2.objs.size = none := I1.hok.fresh (Nat.le_refl _)
  have v1 := Vals.takeD i rv
  have v2 := Vals.takeD (xs.length + 1 - n) v1.2
  have I2 := I1.laid (t' := tk) (a := h2.objs.size) (o := .lst ((xs.drop i).take (xs.length + 1 - n))) (h' := h2.push { cls := .type "list", data := .seq ((its.drop i).take (xs.length + 1 - n)).toArray }) (fun b u e => Heap.get?_push_of_some _ e) (Nat.le_refl _)
    ⟨by rw [sizeLine_eq, List.length_take, List.length_drop]; omega, _, 0, v2.1, Heap.get?_push_size _ rfl⟩
  have vD : Vals [V.ref h2.objs.size] [Value.ref h2.objs.size] := .cons rfl .nil
  exact h.run pins _ σ _ _ _ Q I2 ((v1.1.append vD).append v2.2) (hw _ hf)
end
/-! ### zip of a list and a tuple -/
section
variable {prog : Program} {w : World} {A : Around} {E : Value → Shared → Prop} {s : Shared}
/-- the five objects of a zip over the list at l1 and the tuple at l2, one behind the other -/
abbrev mixA (h : Heap) (l1 : Addr) : Heap := h.push { cls := .type "list_iterator", data := .fields #[.ref l1, .int 0 0] }
abbrev mixB (h : Heap) (l1 l2 : Addr) : Heap := (mixA h l1).push { cls := .type "tuple_iterator", data := .fields #[.ref l2, .int 0 0] }
abbrev mixC (h : Heap) (l1 l2 : Addr) : Heap := (mixB h l1 l2).push { cls := .type "tuple", data := .seq #[.ref h.objs.size, .ref (mixA h l1).objs.size] }
abbrev mixD (h : Heap) (l1 l2 : Addr) : Heap := (mixC h l1 l2).push { cls := .type "tuple", data := .seq #[.none, .none] }
abbrev mixZ (h : Heap) (l1 l2 : Addr) : Heap := (mixD h l1 l2).push { cls := .type "zip", data := .fields #[.none, .bool false, .bool false, .ref (mixB h l1 l2).objs.size, .ref (mixC h l1 l2).objs.size] }
theorem mix_new (l1 l2 : Addr) (xs ys : Array Value) :
    Meets (Builtin.«zip.__new__» ⟨[.type "zip", .ref l1, .ref l2], []⟩) (fun _ R s => s.heap.IsList l1 xs ∧ s.heap.IsTuple l2 ys ∧ R (.ok (.ret (.ref (mixD s.heap l1 l2).objs.size))) { s with heap := mixZ s.heap l1 l2 }) :=
  .of_wp fun prog w A R s h => by
    obtain ⟨hp, g, d, tk, os⟩ := s
    obtain ⟨hl1, hl2, h⟩ := h
    have hsub := sub_zip
    have q1 : Heap.IsList (Shared.heap ⟨hp, g, d, tk, os⟩) l1 xs := hl1
    have q2 : Heap.IsTuple (Shared.heap ⟨mixA hp l1, g, d, tk, os⟩) l2 ys := Heap.IsTuple.push hl2 _
    wp_walk using wpAny_pyIter_list q1, wpAny_pyIter_tuple q2
    exact ⟨_, rfl, h⟩
theorem call_mix {l1 l2 : Addr} {xs ys : Array Value} {Q : Value → Shared → Prop} (hl1 : s.heap.IsList l1 xs) (hl2 : s.heap.IsTuple l2 ys)
    (h : ∀ h', IsZip h' (s.heap.objs.size + 4) (s.heap.objs.size + 2) (s.heap.objs.size + 3) .none → IsPair h' (s.heap.objs.size + 2) (.ref s.heap.objs.size) (.ref (s.heap.objs.size + 1)) →
      IsPair h' (s.heap.objs.size + 3) .none .none → h'.IsListIter s.heap.objs.size l1 0 → h'.IsTupleIter (s.heap.objs.size + 1) l2 0 →
      (∀ c o, s.heap.get? c = some o → h'.get? c = some o) → Q (.ref (s.heap.objs.size + 4)) { s with heap := h' }) :
    wpAny (model prog w) A (call (.type "zip") [.ref l1, .ref l2]) Q E s := by
  refine callType_new F.called_zip (by decide) (F.typeCall_zip_2 _ _) (F.newCall_zip_2 _ _) (fun obj => F.args_object_init_3 obj _ _) F.entry_zip_new (mix_new l1 l2 xs ys) ⟨hl1, hl2, ?_⟩
  have n1 : (mixA s.heap l1).objs.size = s.heap.objs.size + 1 := Heap.size_push ..
  have n2 : (mixB s.heap l1 l2).objs.size = s.heap.objs.size + 2 := by rw [Heap.size_push, n1]
  have n3 : (mixC s.heap l1 l2).objs.size = s.heap.objs.size + 3 := by rw [Heap.size_push, n2]
  have n4 : (mixD s.heap l1 l2).objs.size = s.heap.objs.size + 4 := by rw [Heap.size_push, n3]
  have up1 : ∀ {c o}, (mixA s.heap l1).get? c = some o → (mixZ s.heap l1 l2).get? c = some o := fun e => Heap.get?_push_of_some _ (Heap.get?_push_of_some _ (Heap.get?_push_of_some _ (Heap.get?_push_of_some _ e)))
  have up2 : ∀ {c o}, (mixB s.heap l1 l2).get? c = some o → (mixZ s.heap l1 l2).get? c = some o := fun e => Heap.get?_push_of_some _ (Heap.get?_push_of_some _ (Heap.get?_push_of_some _ e))
  have g1 := up1 (Heap.get?_push_size s.heap rfl)
  have g2 := up2 (Heap.get?_push_size (mixA s.heap l1) rfl)
  have g3 : (mixZ s.heap l1 l2).get? (mixB s.heap l1 l2).objs.size = some _ := Heap.get?_push_of_some _ (Heap.get?_push_of_some _ (Heap.get?_push_size _ rfl))
  have g4 : (mixZ s.heap l1 l2).get? (mixC s.heap l1 l2).objs.size = some _ := Heap.get?_push_of_some _ (Heap.get?_push_size _ rfl)
  have g5 : (mixZ s.heap l1 l2).get? (mixD s.heap l1 l2).objs.size = some _ := Heap.get?_push_size _ rfl
  show _ ∧ _
  rw [n2, n3, n4] at g5
  rw [n1, n2] at g3
  rw [n3] at g4
  rw [n1] at g2
  rw [n4]
  exact ⟨⟨_, g5, rfl⟩, h _ g5 g3 g4 ⟨_, g1, rfl, rfl⟩ ⟨_, g2, rfl, rfl⟩ fun c o x => up1 (Heap.get?_push_of_some _ x)⟩
end
/-- the list at a and the tuple at b as they stand at each turn -/
def ItzLT (K : PySem.W.Frag) (a b : Addr) : It where
  go := fun i H => ∃ (xs ys : List V) (x y : V), SqL K H a xs ∧ SqT K H b ys ∧ xs[i]? = some x ∧ ys[i]? = some y
  yld := fun i H v H' => ∃ T x y, v = .ref T ∧ H T = none ∧ H' = upd H T (.tup [x, y]) ∧ (∀ xs, SqL K H a xs → xs[i]? = some x) ∧ ∀ ys, SqT K H b ys → ys[i]? = some y
  stop := fun i H => ∃ xs ys : List V, SqL K H a xs ∧ SqT K H b ys ∧ xs.length = ys.length ∧ i = xs.length
theorem turn_zipLT {P : Program} {w : World} {K : PySem.W.Frag} {elts : List Expr} {kk : Nat} {tpos : Pos} {a b z TI TO i1 i2 : Addr} (D : ZipApart z TI TO i1 i2 a b) :
    Turn P w K (.Tuple elts kk tpos) (ItzLT K a b) [z, TI, TO, i1, i2] z (fun i h => IsZip h z TI TO .none ∧ IsPair h TI (.ref i1) (.ref i2) ∧ (∃ x y, IsPair h TO x y) ∧ h.IsListIter i1 a i ∧ h.IsTupleIter i2 b i) where
  mem := by simp
  obj := fun i h st c hc => by
    obtain ⟨hz, hTI, ⟨x, y, hTO⟩, ⟨o1, e1, _, d1⟩, ⟨o2, e2, _, d2⟩⟩ := st
    simp only [List.mem_cons, List.not_mem_nil, or_false] at hc
    rcases hc with rfl | rfl | rfl | rfl | rfl
    · exact ⟨_, hz, fun v q => nomatch q⟩
    · exact ⟨_, hTI, fun v q => nomatch q⟩
    · exact ⟨_, hTO, fun v q => nomatch q⟩
    · exact ⟨o1, e1, fun v q => by rw [d1] at q; cases q⟩
    · exact ⟨o2, e2, fun v q => by rw [d2] at q; cases q⟩
  keep := fun i h h' st k => by
    obtain ⟨hz, hTI, ⟨x, y, hTO⟩, h1, h2⟩ := st
    exact ⟨k z (by simp) _ hz, k TI (by simp) _ hTI, ⟨x, y, k TO (by simp) _ hTO⟩, h1.at fun o q => k i1 (by simp) o q, h2.at fun o q => k i2 (by simp) o q⟩
  item := by
    intro X hP hw hK hc i pins s σ H E I hf st hg
    subst hP hw hK
    obtain ⟨hz, hTI, ⟨x0, y0, hTO⟩, h1, h2⟩ := st
    obtain ⟨xs, ys, x, y, hqx, hqy, hx, hy⟩ := hg
    obtain ⟨its, rv, p, _⟩ := I.list hqx
    obtain ⟨its2, rv2, p2, _⟩ := I.tuple hqy
    obtain ⟨u, hu, ru⟩ := rv.get hx
    obtain ⟨u2, hu2, ru2⟩ := rv2.get hy
    have hzl : z < s.heap.objs.size := Heap.lt_size hz
    have lt1 : i < its.toArray.size := by
      have := (List.getElem?_eq_some_iff.mp hu).1
      simpa using this
    have lt2 : i < its2.toArray.size := by
      have := (List.getElem?_eq_some_iff.mp hu2).1
      simpa using this
    refine wpAny_pyNext_zipD2_item (A := X.A) (fp1 := [i1, a]) (fp2 := [i2, b]) ⟨D.TIz, D.TOz, D.TITO, D.TIi1, by simp, ?_, ?_, D.TIi2, by simp, ?_, ?_, ?_, ?_⟩ (Draws.list (A := X.A.in1) (I.ok.hd hc) i1 a D.l1i1 its.toArray) (Draws.tuple (A := X.A.in1) (I.ok.hd hc) i2 b D.l2i2 its2.toArray) hz hTI hTO ⟨h1, p.isList⟩ ⟨h2, p2⟩ lt1 lt2 fun x1 x2 h' tk g1 g2 z' TO' st1' st2' hT hsz hk => ?_
    · simp [D.i1z.symm, D.l1z.symm]
    · simp [D.TOi1, D.l1TO.symm]
    · simp [D.i2z.symm, D.l2z.symm]
    · simp [D.TOi2, D.l2TO.symm]
    · simp [D.i12, D.l2i1.symm]
    · simp [D.i12.symm, D.l1i2.symm]
    obtain rfl : x1 = u := by
      have : its[i]? = some x1 := by simpa using g1
      exact Option.some.inj (this.symm.trans hu)
    obtain rfl : x2 = u2 := by
      have : its2[i]? = some x2 := by simpa using g2
      exact Option.some.inj (this.symm.trans hu2)
    refine ⟨_, rfl, wpAny_letOwnedTupleGo_zip (s := { s with heap := h', toks := tk }) z' fun h'' z'' sb => ?_⟩
    have hT2 : h''.get? s.heap.objs.size = some { cls := .type "tuple", data := .seq #[x1, x2] } := (sb.2 _ (Nat.ne_of_gt hzl)).trans hT
    have new : ObjOk X.prog X.w (upd H s.heap.objs.size (.tup [x, y])) h'' s.heap.objs.size (.tup [x, y]) := ⟨by show 2 ≤ sizeLine; decide, [x1, x2], .cons ru (.cons ru2 .nil), ⟨_, hT2, rfl, _, rfl⟩⟩
    have nm : ∀ {c : Addr}, c ∉ [z, TI, TO, i1, i2] → c ≠ z ∧ c ≠ TO ∧ c ≠ i1 ∧ c ≠ i2 := fun hb => by
      simp only [List.mem_cons, List.not_mem_nil, or_false, not_or] at hb
      exact ⟨hb.1, hb.2.2.1, hb.2.2.2.1, hb.2.2.2.2⟩
    have I1 : Inv X pins σ (upd H s.heap.objs.size (.tup [x, y])) { s with heap := h'', toks := tk } :=
      I.turnedNew (t' := tk) (ch := [z, TI, TO, i1, i2]) (fun c o hb q => let m := nm hb; (sb.2 c m.1).trans (hk c o m.1 m.2.1 m.2.2.1 m.2.2.2 q)) hf (Nat.le_refl _) new
    refine ⟨.ref s.heap.objs.size, _, I1, rfl, ⟨_, x, y, rfl, I.hok.fresh (Nat.le_refl _), rfl, fun l hl => by rw [I.list_inj hl hqx]; exact hx, fun l hl => by rw [I.tuple_inj hl hqy]; exact hy⟩, ⟨z'', ?_, ⟨x1, x2, ?_⟩, ?_, ?_⟩, fun c hcm => ?_⟩
    · exact (sb.2 _ D.TIz).trans (hk _ _ D.TIz D.TITO D.TIi1 D.TIi2 hTI)
    · exact (sb.2 _ D.TOz).trans TO'
    · exact st1'.1.at fun o q => (sb.2 _ D.i1z).trans q
    · exact st2'.1.at fun o q => (sb.2 _ D.i2z).trans q
    · have hlt : c < s.heap.objs.size := by
        simp only [List.mem_cons, List.not_mem_nil, or_false] at hcm
        rcases hcm with rfl | rfl | rfl | rfl | rfl
        · exact hzl
        · exact Heap.lt_size hTI
        · exact Heap.lt_size hTO
        · obtain ⟨_, e1, _⟩ := h1; exact Heap.lt_size e1
        · obtain ⟨_, e2, _⟩ := h2; exact Heap.lt_size e2
      rw [upd_ne (Nat.ne_of_lt hlt)]
      exact (hf c hcm).1
  done := by
    intro X hP hw hK hc i pins s σ H E I hf st hg
    subst hP hw hK
    obtain ⟨hz, hTI, ⟨x0, y0, hTO⟩, h1, h2⟩ := st
    obtain ⟨xs, ys, hqx, hqy, ll, rfl⟩ := hg
    obtain ⟨its, rv, p, _⟩ := I.list hqx
    obtain ⟨its2, rv2, p2, _⟩ := I.tuple hqy
    have l1 : xs.length = its.toArray.size := by rw [rv.length]; simp
    have l2 : xs.length = its2.toArray.size := by rw [ll, rv2.length]; simp
    refine wpAny_pyNext_zipD2_end (A := X.A) (fp1 := [i1, a]) (fp2 := [i2, b]) ⟨D.TIz, D.TOz, D.TITO, D.TIi1, by simp, ?_, ?_, D.TIi2, by simp, ?_, ?_, ?_, ?_⟩ (Draws.list (A := X.A.in1) (I.ok.hd hc) i1 a D.l1i1 its.toArray) (Draws.tuple (A := X.A.in1) (I.ok.hd hc) i2 b D.l2i2 its2.toArray) hz hTI hTO ⟨h1, p.isList⟩ ⟨h2, p2⟩ (Nat.le_of_eq l1) (Nat.le_of_eq l2) (.inl l1) fun h' tk hk => ⟨rfl, I.turnedL (t' := tk) (ch := [z, TI, TO, i1, i2]) (fun c o hb q => ?_) hf⟩
    · simp [D.i1z.symm, D.l1z.symm]
    · simp [D.TOi1, D.l1TO.symm]
    · simp [D.i2z.symm, D.l2z.symm]
    · simp [D.TOi2, D.l2TO.symm]
    · simp [D.i12, D.l2i1.symm]
    · simp [D.i12.symm, D.l1i2.symm]
    simp only [List.mem_cons, List.not_mem_nil, or_false, not_or] at hb
    exact hk c o hb.1 hb.2.2.1 hb.2.2.2.1 hb.2.2.2.2 q
  self := fun A i s Q E st h => wpAny_pyIter_zip st.1 h
def iZipLT (K : PySem.W.Frag) (ta : TA) : TI := fun σ H R => ta σ H fun vs H1 => ∃ a b xs ys, vs = [.ref a, .ref b] ∧ SqL K H1 a xs ∧ SqT K H1 b ys ∧ R (ItzLT K a b) H1
theorem pi_zipLT {X : Cx} {e e2 : Expr} {ta : TA} {p pos tpos : Pos} {elts : List Expr} {kk : Nat} (hg : Gl X "zip") (hm : X.mg "zip" = none) (ha : PA X [e, e2] ta)
    (hs : starEach [e, e2] X.env = (false, eval e X.env) :: starEach [e2] X.env := by rfl) (hpl : (backTo pos (starEach [e2] X.env)).any (·.1) = false := by rfl) :
    PI X (.Tuple elts kk tpos) (.Call (.Name "zip" p) [e, e2] [] pos) (iZipLT X.K ta) := by
  refine ⟨fun pins s σ H R I h => Call_ (ld_blt I hg hm PyProof.Rows.boot_zip (PyProof.Rows.callWith_type1 (thn (ha.run pos pins s σ H _ I h) fun us s1 ⟨vs, H1, I1, r1, q1⟩ => ?_) hs hpl))⟩
  obtain ⟨a, b, xs, ys, rfl, hqx, hqy, q⟩ := q1
  obtain ⟨u1, u2, eu, ra, rb⟩ := vals2 r1
  subst eu
  obtain rfl : u1 = Value.ref a := ra
  obtain rfl : u2 = Value.ref b := rb
  obtain ⟨its, rv, p1, _⟩ := I1.list hqx
  obtain ⟨its2, rv2, p2, _⟩ := I1.tuple hqy
  have hl2 : b < s1.heap.objs.size := by obtain ⟨o2, ho2, _⟩ := id p2; exact Heap.lt_size ho2
  refine call_mix p1.isList p2 fun h' hz hTI hTO h1 h2 hk => wpAny_pyIter_zip hz ?_
  refine ⟨s1.heap.objs.size + 4, [s1.heap.objs.size + 4, s1.heap.objs.size + 2, s1.heap.objs.size + 3, s1.heap.objs.size, s1.heap.objs.size + 1], _, _, H1, rfl, I1.kept (t' := s1.toks) hk, turn_zipLT (PySem.W.ktu_apart s1.heap.objs.size a b p1.lt hl2), ⟨hz, hTI, ⟨_, _, hTO⟩, h1, h2⟩, fun c hcm => ?_, q⟩
  have hle : s1.heap.objs.size ≤ c := by
    simp only [List.mem_cons, List.not_mem_nil, or_false] at hcm
    rcases hcm with rfl | rfl | rfl | rfl | rfl <;> omega
  exact I1.fpOk hle (I1.hok.fresh hle)
/-! ### D.get(k, x), D a dict of the module with text keys -/
def KLook (K : PySem.W.Frag) (w : World) (a : Addr) (x : Str) (r : Option Value) : Prop :=
  ∃ es n, K.lookup a = some ⟨.type "dict", none, .dict es n, #[]⟩ ∧ PySem.W.KeysLit w.params es.toList ∧ PySem.W.nsIn K a x = some r
def tKGet2 (K : PySem.W.Frag) (w : World) (td ty tx : TE) : TE := fun σ H Q => td σ H fun x H1 => ∃ p, x = .ref p ∧ (p == sysModules) = false ∧ (∃ z r, KLook K w p z r) ∧ ty σ H1 fun y H2 => ∃ z, y = .str z ∧ tx σ H2 fun d H3 =>
  ∃ r, KLook K w p z r ∧ match r with | some u => ∃ v, RelV v u ∧ Q v H3 | none => Q d H3
section
variable {X : Cx}
theorem pe_kget2 {o e f : Expr} {apos cpos : Pos} {td ty tx : TE} (ho : PE X o td) (he : PE X e ty) (hf : PE X f tx) (m : M2 X o "get" apos e f cpos) : PE X (.Call (.Attribute o "get" apos) [e, f] [] cpos) (tKGet2 X.K X.w td ty tx) := by
  refine ⟨fun pins s σ H Q I h => ?_⟩
  refine wpAny_Call_method m.base m.few m.line PySem.F.plainAttrs_dict PySem.F.slot_dict_get PySem.F.type_dict_get (thn (ho.run pins s σ H _ I h) fun u s1 ⟨x, H1, I1, rx, p, ex, sm, ⟨z0, r0, es0, n0, hl0, hk0, e0⟩, q1⟩ => ?_)
  subst ex
  obtain rfl : u = Value.ref p := rx
  have hm0 := PySem.W.mapOf_K (prog := X.prog) (w := X.w) I1.kIn hl0 hk0
  refine ⟨hm0.typeIs, fun a ea => ?_, ?_⟩
  · cases ea
    have hp : s1.heap.get? p = some ⟨.type "dict", none, .dict es0 n0, #[]⟩ := I1.kIn _ _ hl0
    exact ⟨_, hp, rfl⟩
  rw [m.trees]
  refine Calls.callWith_builtin rfl (Calls.evalArgs_plain (Calls.spliced_cons (thn (he.run pins s1 σ H1 _ I1 q1) fun iv s2 ⟨y, H2, I2, ry, z, ey, q2⟩ =>
    Calls.spliced_cons (thn (hf.run pins s2 σ H2 _ I2 q2) fun fv s3 ⟨d, H3, I3, rd, r, ⟨es, n, hl, hk, ee⟩, q3⟩ => Calls.spliced_nil ?_))))
  subst ey
  obtain ⟨t, rfl⟩ : ∃ t, iv = .str z t := ry
  have hm := PySem.W.mapOf_K (prog := X.prog) (w := X.w) I3.kIn hl hk
  refine call_meetsIn PySem.F.slot_dict_get hm.typeIs PySem.F.entry_dict_get (PySem.F.args_dict_get_3 _ _ _) (meets_dict_get_default (PySem.strKind X.prog X.w) p (strKind_is X.prog X.w z t) sm fv) ⟨_, hm, ?_⟩
  rw [PySem.W.find_K hl ee]
  cases r with
  | none => exact ⟨d, H3, I3.tok _, rd, q3⟩
  | some u =>
    obtain ⟨v, rv, q⟩ := q3
    exact ⟨v, H3, I3.tok _, rv, q⟩
end
/-! ### texts of entries and houses -/
abbrev numT (n : Int) : Str := Str.ofString (toString n)
theorem num_digits {n : Int} (h0 : 0 ≤ n) : NumText.AllDigits (numT n).cps.toList := by
  obtain ⟨m, rfl⟩ := Int.eq_ofNat_of_zero_le h0
  intro c hc
  rw [PySem.W.KIN.signs_num] at hc
  obtain ⟨ch, hch, rfl⟩ := List.mem_map.mp hc
  exact PyProof.Rows.digit_range (Nat.isDigit_of_mem_toDigits (by decide) (by decide) hch)
theorem num_len {n : Int} (h0 : 0 ≤ n) (h1 : n ≤ 1000000000) : 1 ≤ (numT n).length ∧ (numT n).length ≤ 13 := by
  refine ⟨?_, Nat.le_trans (toString_length_le h0 (k := 10) (by decide) (by omega)) (by decide)⟩
  obtain ⟨m, rfl⟩ := Int.eq_ofNat_of_zero_le h0
  have e : (numT (m : Int)).length = (numT (m : Int)).cps.toList.length := by simp [Str.length]
  rw [e, PySem.W.KIN.signs_num, List.length_map]
  exact PySem.toDigits_len_ge 10 m
theorem head_zero (m : Nat) : ∀ r, Nat.toDigits 10 m = '0' :: r → m = 0 := by
  induction m using Nat.strongRecOn with
  | _ m ih =>
    intro r h
    by_cases lt : m < 10
    · rw [Nat.toDigits_of_lt_base lt] at h
      have e : Nat.digitChar m = '0' := (List.cons.inj h).1
      have all : ∀ d : Nat, d < 10 → Nat.digitChar d = '0' → d = 0 := by decide
      exact all m lt e
    · have hm : m % 10 < 10 := Nat.mod_lt m (by decide)
      have t : Nat.toDigits 10 (m / 10) ++ Nat.toDigits 10 (m % 10) = Nat.toDigits 10 (10 * (m / 10) + m % 10) := Nat.toDigits_append_toDigits (by decide) (by omega) hm
      rw [Nat.div_add_mod] at t
      rw [← t] at h
      have ge := PySem.toDigits_len_ge 10 (m / 10)
      cases e : Nat.toDigits 10 (m / 10) with
      | nil => rw [e] at ge; exact absurd ge (by decide)
      | cons a r' =>
        rw [e] at h
        have ea : a = '0' := (List.cons.inj h).1
        have := ih (m / 10) (by omega) r' (by rw [e, ea])
        omega
/-- a number's text begins with 0 where it is 0 alone -/
theorem num_zero {n : Int} (h0 : 0 ≤ n) (h : Txt.startswith (numT n) "0" = true) : numT n = "0" := by
  obtain ⟨m, rfl⟩ := Int.eq_ofNat_of_zero_le h0
  have hs : (numT (m : Int)).cps.toList = (Nat.toDigits 10 m).map Char.toNat := PySem.W.KIN.signs_num m
  have ge := PySem.toDigits_len_ge 10 m
  cases e : Nat.toDigits 10 m with
  | nil => rw [e] at ge; exact absurd ge (by decide)
  | cons a r =>
    have d := Nat.isDigit_of_mem_toDigits (b := 10) (n := m) (c := a) (by decide) (by decide) (by rw [e]; exact List.mem_cons_self)
    have ha : a = '0' := by
      unfold Txt.startswith at h
      rw [Bool.and_eq_true] at h
      have h2 := h.2
      unfold Builtin.Str.subAt at h2
      have h3 : (numT (m : Int)).cps.extract 0 (0 + ("0" : Str).length) = ("0" : Str).cps := by simpa using h2
      have h4 := congrArg Array.toList h3
      have l1 : ("0" : Str).length = 1 := by decide +kernel
      have l2 : ("0" : Str).cps.toList = [48] := by decide +kernel
      rw [Array.toList_extract, hs, e, l1, l2] at h4
      have h5 : [a.toNat] = [48] := by simpa using h4
      have h6 : a.toNat = ('0' : Char).toNat := (List.cons.inj h5).1
      exact Char.ext (UInt32.toNat_inj.mp h6)
    rw [ha] at e
    have z := head_zero m r e
    rw [z]
    decide +kernel
/-- neither a blank nor a line end in it, signs below 256 -/
structure Cln (y : Str) : Prop where
  k : ∀ c ∈ y.cps.toList, c < 256 ∧ c ≠ 32 ∧ c ≠ 10
theorem cln_name {y : Str} (h : nameB y = true) : Cln y := by
  refine ⟨fun c hc => ?_⟩
  unfold nameB at h
  rw [Bool.and_eq_true] at h
  have := List.all_eq_true.mp h.2 c hc
  unfold signB at this
  have hm : c ∈ abc.cps.toList := of_decide_eq_true this
  have all : ∀ c ∈ abc.cps.toList, c < 256 ∧ c ≠ 32 ∧ c ≠ 10 := by decide +kernel
  exact all c hm
theorem cln_num {n : Int} (h0 : 0 ≤ n) : Cln (numT n) := ⟨fun c hc => by
  have := num_digits h0 c hc
  omega⟩
theorem cln_words : ∀ y ∈ words7, Cln y := fun y hy => ⟨fun c hc => by
  have all : ∀ y ∈ words7, ∀ c ∈ y.cps.toList, c < 256 ∧ c ≠ 32 ∧ c ≠ 10 := by decide +kernel
  exact all y hy c hc⟩
theorem cln_dash : Cln "-" := ⟨by decide +kernel⟩
/-- a part of an entry as it is written -/
def partT : V → Str
  | .str y => if y = "" then "-" else y
  | .int i => numT i
  | _ => ""
/-- parts that can be written -/
def PartOk (v : V) : Prop := (∃ y : Str, v = .str y ∧ (y = "" ∨ nameB y = true ∨ y ∈ words7)) ∨ ∃ i : Int, v = .int i ∧ 0 ≤ i ∧ i ≤ 1000000000
theorem word_short {y : Str} (h : y ∈ words7) : 1 ≤ y.length ∧ y.length ≤ 8 := by
  have all : ∀ y ∈ words7, 1 ≤ y.length ∧ y.length ≤ 8 := by decide +kernel
  exact all y h
theorem part_cln {v : V} (h : PartOk v) : Cln (partT v) ∧ (partT v).length ≤ 13 := by
  rcases h with ⟨y, rfl, rfl | h | h⟩ | ⟨i, rfl, h0, h1⟩
  · exact ⟨cln_dash, by decide +kernel⟩
  · have ne : y ≠ "" := name_ne h
    show Cln (if y = "" then "-" else y) ∧ (if y = "" then ("-" : Str) else y).length ≤ 13
    rw [if_neg ne]
    exact ⟨cln_name h, Nat.le_trans (name_len h).2 (by decide)⟩
  · have ne : y ≠ "" := fun z => by rw [z] at h; revert h; decide +kernel
    show Cln (if y = "" then "-" else y) ∧ (if y = "" then ("-" : Str) else y).length ≤ 13
    rw [if_neg ne]
    exact ⟨cln_words y h, Nat.le_trans (word_short h).2 (by decide)⟩
  · exact ⟨cln_num h0, (num_len h0 h1).2⟩
theorem join_len (sep : Str) (xs : List Str) : (Txt.join sep xs).length ≤ (xs.map (·.length)).sum + xs.length * sep.length := by
  rw [TL.join_eq]
  exact StrLaws.join_length_le sep xs
theorem sum_le {xs : List Str} {B : Nat} (h : ∀ y ∈ xs, y.length ≤ B) : (xs.map (·.length)).sum ≤ xs.length * B := by
  induction xs with
  | nil => exact Nat.zero_le _
  | cons a r ih =>
    have := ih fun y hy => h y (List.mem_cons_of_mem _ hy)
    have := h a List.mem_cons_self
    simp only [List.map_cons, List.sum_cons, List.length_cons, Nat.add_mul, Nat.one_mul]
    omega
theorem split_blank {xs : List Str} (ne : xs ≠ []) (h : ∀ y ∈ xs, Cln y) : Txt.split (Txt.join " " xs) " " = xs :=
  TL.split_join (y := " ") (s := 32) (S := []) (by decide +kernel) (by decide +kernel) ne fun p hp z => ((h p hp).k 32 z).2.1 rfl
theorem mem_joinL {c : Nat} : ∀ {sep : List Nat} {ps : List (List Nat)}, c ∈ TL.joinL sep ps → c ∈ sep ∨ ∃ p ∈ ps, c ∈ p := by
  intro sep ps
  induction ps with
  | nil => intro h; exact (nomatch h)
  | cons a r ih =>
    intro h
    cases r with
    | nil => exact .inr ⟨a, List.mem_cons_self, h⟩
    | cons b r =>
      have h' : c ∈ a ++ (sep ++ TL.joinL sep (b :: r)) := h
      rcases List.mem_append.mp h' with q | q
      · exact .inr ⟨a, List.mem_cons_self, q⟩
      · rcases List.mem_append.mp q with q | q
        · exact .inl q
        · rcases ih q with q | ⟨p, hp, q⟩
          · exact .inl q
          · exact .inr ⟨p, List.mem_cons_of_mem _ hp, q⟩
/-- no line end in a line -/
theorem line_cln {xs : List Str} (h : ∀ y ∈ xs, Cln y) : 10 ∉ TL.tl (Txt.join " " xs) := by
  intro z
  rw [TL.join_eq, TL.tl_join] at z
  rcases mem_joinL z with q | ⟨p, hp, q⟩
  · revert q; decide +kernel
  · obtain ⟨y, hy, rfl⟩ := List.mem_map.mp hp
    exact ((h y hy).k 10 q).2.2 rfl
theorem split_lines {xs : List Str} (ne : xs ≠ []) (h : ∀ y ∈ xs, 10 ∉ TL.tl y) : Txt.split (Txt.join "\n" xs) "\n" = xs :=
  TL.split_join (y := "\n") (s := 10) (S := []) (by decide +kernel) (by decide +kernel) ne h
/-! texts put together piece by piece -/
def app (a b : Str) : Str := a ++ b
theorem join_fold (sep a : Str) (r : List Str) : Txt.join sep (a :: r) = r.foldl (fun acc p => acc ++ sep ++ p) a := by
  have gen : ∀ (r : List Str) (x : Str), (⟨r.foldl (fun acc p => acc ++ sep.cps ++ p.cps) x.cps⟩ : Str) = r.foldl (fun acc p => acc ++ sep ++ p) x := by
    intro r
    induction r with
    | nil => intro x; rfl
    | cons b r ih => intro x; exact ih (x ++ sep ++ b)
  exact gen r a
theorem fold_pre (sep pre a : Str) : ∀ r : List Str, r.foldl (fun acc p => acc ++ sep ++ p) (pre ++ a) = pre ++ r.foldl (fun acc p => acc ++ sep ++ p) a := by
  intro r
  induction r generalizing a with
  | nil => rfl
  | cons b r ih =>
    show r.foldl _ (pre ++ a ++ sep ++ b) = _
    have e : pre ++ a ++ sep ++ b = pre ++ (a ++ sep ++ b) := by
      apply str_ext
      show TL.tl _ = TL.tl _
      simp only [TL.tl_append, List.append_assoc]
    rw [e]
    exact ih _
theorem app_assoc (a b c : Str) : a ++ b ++ c = a ++ (b ++ c) := by
  apply str_ext
  show TL.tl _ = TL.tl _
  simp only [TL.tl_append, List.append_assoc]
def entT (e : Ent) : Str := Txt.join " " (e.vals.map partT)
def linesT (P G : List Str) (es : List Ent) : List Str := Txt.join " " ("places" :: P) :: Txt.join " " ("goods" :: G) :: es.map entT
def houseT (P G : List Str) (es : List Ent) : Str := Txt.join "\n" (linesT P G es)
theorem call_str_sn {X : Cx} : CallR X (.type "str") (fun xs H Q => ∃ v, xs = [v] ∧ ((∃ a, v = .str a ∧ Q (.str a) H) ∨ ∃ i, v = .int i ∧ i.natAbs.log2 < 1920 ∧ Q (.str (toString i)) H)) := by
  rintro pins s σ H vs us Q I r ⟨v, rfl, ⟨a, rfl, q⟩ | ⟨i, rfl, h, q⟩⟩
  · exact SkE.call_str_str pins s σ H _ us Q I r ⟨a, rfl, q⟩
  · exact call_str_int pins s σ H _ us Q I r ⟨i, rfl, h, q⟩
/-! ### parts of tuples, tuples one behind the other -/
theorem cut_head {xs : List V} {k : Nat} : cutV xs none (some (k : Int)) = xs.take k := by
  unfold cutV
  rw [HT.sIx_nat]
  show (xs.drop 0).take (min k xs.length - 0) = _
  rw [List.drop_zero, Nat.sub_zero, ← List.take_eq_take_min]
theorem cut_tail {xs : List V} {k : Nat} : cutV xs (some (k : Int)) none = xs.drop k := by
  unfold cutV
  rw [HT.sIx_nat, HT.sIx_none]
  by_cases h : k ≤ xs.length
  · rw [Nat.min_eq_left h, List.take_of_length_le (by rw [List.length_drop]; exact Nat.le_refl _)]
  · rw [Nat.min_eq_right (by omega), List.drop_of_length_le (by omega), List.drop_of_length_le (by omega), List.take_nil]
/-- a part of a tuple, made or the same -/
def rSlS : V → Option Int → Option Int → Hp → VK → Prop := fun x lo hi H Q => ∃ (a : Addr) (xs : List V), x = .ref a ∧ H a = some (.tup xs) ∧ ∀ (b : Addr) (H' : Hp), Same H H' → H' b = some (.tup (cutV xs lo hi)) → Q (.ref b) H'
theorem sl_S {X : Cx} : SlR X rSlS := by
  rintro pins s σ H x v vl vu lo hi sl Q I rx hs pl pu ⟨a, xs, rfl, ha, q⟩
  refine sl_tupA pins s σ H _ v vl vu _ _ sl Q I rx hs pl pu ⟨a, xs, rfl, SqT.of ha, fun z => q a H (fun _ _ e => e) ?_, fun _ p np => q p _ (same_new np) upd_same⟩
  rw [ha]
  unfold cutV
  rw [z.1, z.2, List.drop_zero, Nat.sub_zero, List.take_length]
/-- tuples one behind the other -/
theorem op_catS {X : Cx} : OpR X (binaryOp .Add) (fun x y H Q => ∃ (a b : Addr) (xs ys : List V), x = .ref a ∧ y = .ref b ∧ H a = some (.tup xs) ∧ H b = some (.tup ys) ∧ xs ≠ [] ∧ xs.length + ys.length ≤ sizeLine ∧
    ∀ (t : Addr) (H' : Hp), Same H H' → H' t = some (.tup (xs ++ ys)) → Q (.ref t) H') := by
  rintro pins s σ H x y v u Q I rx ry ⟨a, b, xs, ys, rfl, rfl, ha, hb, ne, hz, q⟩
  refine op_catT pins s σ H _ _ v u Q I rx ry ⟨a, b, xs, ys, rfl, rfl, SqT.of ha, SqT.of hb, ne, hz, fun z => q a H (fun _ _ e => e) ?_, fun _ p np => q p _ (same_new np) upd_same⟩
  rw [ha, z, List.append_nil]
theorem vals_len_e (e : Ent) : 5 ≤ e.vals.length ∧ e.vals.length ≤ 7 := by cases e <;> simp [Ent.vals, Ent.rest]
/-! ### entries and houses written -/
def spEntryText (Ts : List Addr) : Sp := fun vs H Q _ => ∃ (a : Addr) (xs : List V), vs = [.ref a] ∧ H a = some (.tup xs) ∧ (∀ v ∈ xs, PartOk v) ∧ xs.length ≤ 10 ∧ TabsG Ts H ∧ ∀ H', TB1 Ts H H' → Q (.str (Txt.join " " (xs.map partT))) H'
def words2 : List Str := ["places", "goods"]
theorem words2_ok : ∀ z ∈ words2, z.length ≤ 8 ∧ Cln z := fun z hz => by
  have all : ∀ z ∈ words2, z.length ≤ 8 ∧ ∀ c ∈ z.cps.toList, c < 256 ∧ c ≠ 32 ∧ c ≠ 10 := by decide +kernel
  exact ⟨(all z hz).1, ⟨(all z hz).2⟩⟩
theorem part_scal {v : V} (h : PartOk v) (y : Str) : scal v (.str y) = true := by
  rcases h with ⟨z, rfl, _⟩ | ⟨i, rfl, _⟩ <;> rfl
theorem int_small {i : Int} (h0 : 0 ≤ i) (h1 : i ≤ 1000000000) : i.natAbs.log2 < 1920 := by
  by_cases z : i.natAbs = 0
  · rw [z]; decide
  · exact Nat.lt_trans ((Nat.log2_lt z).mpr (show i.natAbs < 2 ^ 30 by omega)) (by decide)
theorem ent_parts {e : Ent} {P G : List Str} {HL : List Str} (nn : nameB e.name = true) (m0 : 0 ≤ e.moment) (m1 : e.moment ≤ 9999) (hP : ∀ y ∈ P, nameB y = true) (hG : ∀ y ∈ G, nameB y = true) (hH : ∀ y ∈ HL, nameB y = true) (h : e.From P G HL) : ∀ v ∈ e.vals, PartOk v := by
  have w : PartOk (.str e.word) := .inl ⟨_, rfl, .inr (.inr (Ent.word_in e))⟩
  have n : ∀ {y : Str}, nameB y = true → PartOk (.str y) := fun h => .inl ⟨_, rfl, .inr (.inl h)⟩
  have k : ∀ {i : Int}, 0 ≤ i → i ≤ 1000000000 → PartOk (.int i) := fun a b => .inr ⟨_, rfl, a, b⟩
  have mo : PartOk (.int e.moment) := k m0 (by omega)
  intro v hv
  rcases List.mem_cons.mp hv with rfl | hv
  · exact w
  rcases List.mem_cons.mp hv with rfl | hv
  · exact n nn
  rcases List.mem_cons.mp hv with rfl | hv
  · exact mo
  cases e with
  | come nm m g pl a r =>
    obtain ⟨h1, h2, h3, h4, h5, h6⟩ := h
    simp only [Ent.rest, List.mem_cons, List.not_mem_nil, or_false] at hv
    rcases hv with rfl | rfl | rfl | rfl
    · exact n (hG _ h1)
    · exact n (hP _ h2)
    · exact k (by omega) h4
    · exact k h5 h6
  | go nm m g pl a =>
    obtain ⟨h1, h2, h3, h4⟩ := h
    simp only [Ent.rest, List.mem_cons, List.not_mem_nil, or_false] at hv
    rcases hv with rfl | rfl | rfl
    · exact n (hG _ h1)
    · exact n (hP _ h2)
    · exact k (by omega) h4
  | move nm m g o t a =>
    obtain ⟨h1, h2, h3, _, h4, h5⟩ := h
    simp only [Ent.rest, List.mem_cons, List.not_mem_nil, or_false] at hv
    rcases hv with rfl | rfl | rfl | rfl
    · exact n (hG _ h1)
    · exact n (hP _ h2)
    · exact n (hP _ h3)
    · exact k (by omega) h5
  | some_ nm m g o t =>
    obtain ⟨h1, h2, h3⟩ := h
    simp only [Ent.rest, List.mem_cons, List.not_mem_nil, or_false] at hv
    rcases hv with rfl | rfl | rfl
    · exact n (hG _ h1)
    · exact n (hP _ h2)
    · exact .inl ⟨_, rfl, h3.imp id fun q => .inl (hP _ q.1)⟩
  | swap nm m o t =>
    obtain ⟨h1, h2, _⟩ := h
    simp only [Ent.rest, List.mem_cons, List.not_mem_nil, or_false] at hv
    rcases hv with rfl | rfl
    · exact n (hP _ h1)
    · exact n (hP _ h2)
  | count nm m g pl a hd =>
    obtain ⟨h1, h2, h3, h4, h5⟩ := h
    simp only [Ent.rest, List.mem_cons, List.not_mem_nil, or_false] at hv
    rcases hv with rfl | rfl | rfl | rfl
    · exact n (hG _ h1)
    · exact n (hP _ h2)
    · exact k h3 h4
    · exact n (hH _ h5)
  | look nm m g pl =>
    simp only [Ent.rest, List.mem_cons, List.not_mem_nil, or_false] at hv
    rcases hv with rfl | rfl
    · exact n (hG _ h.1)
    · exact n (hP _ h.2)
theorem vals_len10 (e : Ent) : e.vals.length ≤ 7 := by cases e <;> (show _ ≤ 7; simp [Ent.vals, Ent.rest])
theorem Good.parts {P G : List Str} {es : List Ent} {m : Nat} (g : Good P G es m) : ∀ e ∈ es, ∀ v ∈ e.vals, PartOk v := fun e he => by
  obtain ⟨h1, h2, h3, HL, h4, h5⟩ := g.ents e he
  exact ent_parts h1 h2 h3 g.nm g.gn h4 h5
theorem parts_small {xs : List V} (h : ∀ v ∈ xs, PartOk v) (l : xs.length ≤ 10) : ((xs.map partT).map (·.length)).sum ≤ 130 := by
  have := sum_le (xs := xs.map partT) (B := 13) fun y hy => by
    obtain ⟨v, hv, rfl⟩ := List.mem_map.mp hy
    exact (part_cln (h v hv)).2
  rw [List.length_map] at this
  omega
/-- texts hung on one behind the other, a separator ahead of each -/
def glue (sep pre : Str) (xs : List Str) : Str := xs.foldl (fun acc p => acc ++ sep ++ p) pre
theorem glue_snoc (sep pre : Str) (xs : List Str) (y : Str) : glue sep pre (xs ++ [y]) = glue sep pre xs ++ sep ++ y := by
  unfold glue
  rw [List.foldl_append]
  rfl
theorem app_len (a b : Str) : (a ++ b).length = a.length + b.length := by
  show (a.cps ++ b.cps).size = a.cps.size + b.cps.size
  rw [Array.size_append]
theorem glue_len (sep pre : Str) (xs : List Str) : (glue sep pre xs).length = pre.length + (xs.map (·.length)).sum + xs.length * sep.length := by
  induction xs generalizing pre with
  | nil => simp [glue]
  | cons a r ih =>
    show (glue sep (pre ++ sep ++ a) r).length = _
    rw [ih, app_len, app_len]
    simp only [List.map_cons, List.sum_cons, List.length_cons, Nat.add_mul, Nat.one_mul]
    omega
theorem join_glue (sep a : Str) (r : List Str) : Txt.join sep (a :: r) = glue sep a r := join_fold sep a r
theorem glue_pre (sep pre a : Str) (r : List Str) : glue sep (pre ++ a) r = pre ++ glue sep a r := fold_pre sep pre a r
theorem glue_ent (e : Ent) : entT e = glue " " e.word ((e.vals.drop 1).map partT) := by
  have ne : e.word ≠ "" := fun z => by
    have := word_short (Ent.word_in e)
    rw [z] at this
    revert this
    decide +kernel
  have h : e.vals.map partT = e.word :: (e.vals.drop 1).map partT := by
    show partT (.str e.word) :: _ = _
    have : partT (.str e.word) = e.word := if_neg ne
    rw [this]
    rfl
  unfold entT
  rw [h, join_glue]
theorem glue_house (P G : List Str) (es : List Ent) : houseT P G es = glue "\n" (glue " " (glue " " "places" P ++ "\ngoods") G) (es.map entT) := by
  unfold houseT linesT
  rw [join_glue]
  show glue "\n" (Txt.join " " ("places" :: P) ++ "\n" ++ Txt.join " " ("goods" :: G)) (es.map entT) = _
  rw [join_glue, join_glue]
  have e : glue " " "places" P ++ "\ngoods" = (glue " " "places" P ++ "\n") ++ "goods" := by
    rw [app_assoc]
    have : ("\ngoods" : Str) = ("\n" : Str) ++ ("goods" : Str) := by decide +kernel
    rw [this]
  rw [e, glue_pre " " _ "goods" G]
theorem ent_len {e : Ent} (h : ∀ v ∈ e.vals, PartOk v) : (entT e).length ≤ 200 := by
  have z := join_len " " (e.vals.map partT)
  have l := vals_len10 e
  have p := parts_small h (by omega)
  have bl : ((" " : Str)).length = 1 := by decide +kernel
  rw [bl, List.length_map] at z
  show (Txt.join " " (e.vals.map partT)).length ≤ 200
  omega
section
variable {P : Program} {w : World} {K : PySem.W.Frag} {mg : Str → Option Value} {base : Heap}
abbrev sEntryTextN : List Str := ["entry", "part"]
theorem sc_sEntryText : FnScope sEntryTextN ["entry"] (defScope sEntryText) := ⟨rfl, rfl, rfl, by decide +kernel, rfl, by decide +kernel, by decide +kernel⟩
theorem ok_entryText {f cA T : Addr} {Ts : List Addr} {oc kV doc pm ct : Value} {od an : Option Addr} {osl : Array (Option Value)}
    (lk : K.lookup f = some ⟨oc, od, .func (PySem.W.fnOf "entry_text" "entry_text" (defArgs sEntryText) (defBody sEntryText) (defScope sEntryText) .none kV doc pm an (.ref cA) ct), osl⟩) (cdI : PySem.W.codeIn K (.ref cA) "entry_text" = true)
    (TB : GxR.TabB base mg cA T) (i1 : T ∈ Ts) (mO : ∃ t, mg "OUTSIDE" = some (.str "-" t)) (mT_str : mg "str" = none) :
    FnOk P w K mg base CX0 2 f (PySem.W.fnOf "entry_text" "entry_text" (defArgs sEntryText) (defBody sEntryText) (defScope sEntryText) .none kV doc pm an (.ref cA) ct) ["entry"] (spEntryText Ts) := by
  refine fn_of lk cdI sc_sEntryText (fun vs H Q E h => ?_) (fun A outer s H vs Q E hr h => ?_)
  · obtain ⟨a, xs, rfl, _⟩ := h
    rfl
  · obtain ⟨a, xs, rfl, ha, ok, l10, tg, q⟩ := h
    obtain ⟨tO, mO⟩ := mO
    have nd := sc_sEntryText.nd
    refine ⟨_, pss_one (ps_ret (pe_joinX (T := T) (c := cA) (k := 0) (own := [("part", 1)]) (g := gName 1) (tt := tYes) (hr.mono (by decide)) pe_str rfl nd TB rfl ⟨blkOk_by (N := sEntryTextN) (sc := defScope sEntryText) (by decide +kernel), rfl, by decide +kernel, rfl⟩ (pi_tup (pv 0)) (fun _ _ _ _ _ _ => (pg_name (i := 1) nd rfl (Or.inl rfl))) (fun _ _ _ _ _ _ hr' => pts_nil) (fun _ _ _ _ _ _ hr' => (pe_ifExp (pt_cmpR op_eq (pv 1) pe_str (nomark _)) (pe_glob (v := .str "-") rfl mO ⟨_, rfl⟩) (pe_callTy call_str_sn (by rfl) mT_str (by decide +kernel) (pa_cons (pv 1) pa_nil)))))), ?_⟩
    refine ⟨_, rfl, _, rfl, a, rfl, ⟨_, SqT.of ha⟩, ?_⟩
    refine gx_over (over_t (K := K) (a := a) (xs := xs)) (fun i ys H' => TB1 Ts H H' ∧ ys = ((xs.take i).map partT).map V.str) (tg T i1) (fun H2 tb => ⟨.tab tb tg i1, rfl⟩) (fun i ys H' _ z => SqT.of (z.1.tk _ _ ha)) ?_ ?_
    · rintro i x ys H' Go hx ⟨b, rfl⟩ go
      have hv := ok x (List.mem_of_getElem? hx)
      have e : ((xs.take (i + 1)).map partT).map V.str = ((xs.take i).map partT).map V.str ++ [V.str (partT x)] := by
        rw [take_sn hx, List.map_append, List.map_append]
        rfl
      have lt : (((xs.take i).map partT).map V.str).length < sizeLine := by
        rw [List.length_map, List.length_map]
        exact small1000 (by rw [List.length_take]; omega)
      refine ⟨rfl, yesT ⟨_, rfl, part_scal hv "", _, rfl, ?_⟩⟩
      rcases hv with ⟨y, rfl, _⟩ | ⟨n, rfl, h0, h1⟩
      · by_cases z : y = ""
        · rw [decide_eq_true (congrArg V.str z)]
          refine iteT ⟨lt, go _ _ ⟨b, ?_⟩⟩
          rw [e]
          show _ = _ ++ [V.str (if y = "" then "-" else y)]
          rw [if_pos z]
        · rw [decide_eq_false fun q => z (V.str.inj q)]
          refine iteF ⟨_, rfl, _, rfl, .inl ⟨y, rfl, lt, go _ _ ⟨b, ?_⟩⟩⟩
          rw [e]
          show _ = _ ++ [V.str (if y = "" then "-" else y)]
          rw [if_neg z]
      · rw [decide_eq_false fun q => nomatch q]
        refine iteF ⟨_, rfl, _, rfl, .inr ⟨n, rfl, int_small h0 h1, lt, go _ _ ⟨b, ?_⟩⟩⟩
        rw [e]
        rfl
    · rintro ys H' ⟨b, rfl⟩
      rw [List.take_length]
      have sm := parts_small ok l10
      have bl : ((" " : Str)).length = 1 := by decide +kernel
      exact ⟨by rw [List.length_map, List.length_map]; exact Nat.le_of_lt (small1000 (by omega)), xs.map partT, rfl, by rw [List.length_map, bl]; omega, q H' b⟩
abbrev sLineN : List Str := ["_law_entry_here", "_law_found", "_law_part"]
theorem sc_sLine : FnScope sLineN ["_law_entry_here"] (defScope sLine) := ⟨rfl, rfl, rfl, by decide +kernel, rfl, by decide +kernel, by decide +kernel⟩
def spLine : Sp := fun vs H Q _ => ∃ (a : Addr) (e : Ent), vs = [.ref a] ∧ H a = some (.tup e.vals) ∧ (∀ v ∈ e.vals, PartOk v) ∧ ∀ H', Same H H' → Q (.str (entT e)) H'
theorem ok_line {f : Addr} {fd : FuncData} (F : Fun K "_law_line" "_law_line" sLine f fd) (mT_str : mg "str" = none) : FnOk P w K mg base CX0 1 f fd ["_law_entry_here"] spLine := by
  refine F.ok sc_sLine (fun vs H Q E h => ?_) (fun cdv A outer s H vs Q E hr h => ?_)
  · obtain ⟨a, e, rfl, _⟩ := h
    rfl
  · obtain ⟨a, e, rfl, ha, ok, q⟩ := h
    have nd := sc_sLine.nd
    refine ⟨_, pss_cons (ps_set (i := 1) nd rfl (Or.inl rfl) (pe_ix ix_tup (pv 0) pe_int (fun _ _ => rfl)))
      (pss_cons (ps_for PassesOwn.never rfl (pi_tup (pe_slice sl_S (pv 0) (po_some pe_int) po_none)) (pg_name (i := 2) nd rfl (Or.inl rfl))
        (pss_one (ps_if (pt_cmpR op_eq (pv 2) pe_str (nomark _)) (pss_one (ps_set (i := 1) nd rfl (Or.inl rfl) (pe_op op_add_str (pv 1) pe_str))) (pss_one (ps_set (i := 1) nd rfl (Or.inl rfl) (pe_op op_add_str (pe_op op_add_str (pv 1) pe_str) (pe_callTy call_str_sn (by rfl) mT_str (by decide +kernel) (pa_cons (pv 2) pa_nil))))))))
      (pss_one (ps_ret (pv 1)))), ?_⟩
    refine ⟨_, rfl, a, _, 0, _, rfl, rfl, SqT.of ha, at0 e, ?_⟩
    refine ⟨_, rfl, 1, rfl, a, _, rfl, ha, fun b H1 s1 hb => ⟨b, rfl, ⟨_, SqT.of hb⟩, ?_⟩⟩
    have hb' : H1 b = some (.tup (e.vals.drop 1)) := by rw [hb, ← cut_tail (k := 1)]; rfl
    have ok1 : ∀ v ∈ e.vals.drop 1, PartOk v := fun v hv => ok v (List.mem_of_mem_drop hv)
    have l7 := vals_len10 e
    have l6 : (e.vals.drop 1).length ≤ 6 := by rw [List.length_drop]; omega
    have bl : ((" " : Str)).length = 1 := by decide +kernel
    have ws := word_short (Ent.word_in e)
    refine for_tup (K := K) (a := b) (xs := e.vals.drop 1) (fun i σ H' => ∃ y2, σ = [some (.ref a), some (.str (glue " " e.word (((e.vals.drop 1).take i).map partT))), y2] ∧ H' = H1) ⟨_, rfl, rfl⟩ (fun i σ H' _ z => by obtain ⟨_, _, rfl⟩ := z; exact SqT.of hb') ?_ ?_
    · rintro i x σ H' hx ⟨y2, rfl, rfl⟩
      have hv := ok1 x (List.mem_of_getElem? hx)
      have nx : glue " " e.word (((e.vals.drop 1).take (i + 1)).map partT) = glue " " e.word (((e.vals.drop 1).take i).map partT) ++ " " ++ partT x := by
        rw [take_sn hx, List.map_append]
        exact glue_snoc _ _ _ _
      have gl : (glue " " e.word (((e.vals.drop 1).take i).map partT)).length ≤ 200 := by
        rw [glue_len, bl]
        have := parts_small (xs := (e.vals.drop 1).take i) (fun v hv => ok1 v (List.mem_of_mem_take hv)) (by rw [List.length_take]; omega)
        rw [List.length_map, List.length_take]
        omega
      have fit : ∀ {n : Nat}, n ≤ 300 → n ≤ sizeLine := fun h => Nat.le_of_lt (small1000 (by omega))
      have pl := (part_cln hv).2
      refine ⟨_, rfl, part_scal hv "", _, rfl, ?_⟩
      rcases hv with ⟨y, rfl, _⟩ | ⟨n, rfl, h0, h1⟩
      · by_cases z : y = ""
        · rw [decide_eq_true (congrArg V.str z)]
          have pe : partT (.str y) = "-" := if_pos z
          have e2 : glue " " e.word (((e.vals.drop 1).take i).map partT) ++ " -" = glue " " e.word (((e.vals.drop 1).take (i + 1)).map partT) := by
            rw [nx, pe, app_assoc]
            have : (" -" : Str) = (" " : Str) ++ ("-" : Str) := by decide +kernel
            rw [this]
          refine iteT ⟨_, rfl, _, _, rfl, rfl, fit (by have : ((" -" : Str)).length = 2 := by decide +kernel
                                                       omega), some (.str y), ?_, rfl⟩
          rw [← e2]
          rfl
        · rw [decide_eq_false fun q => z (V.str.inj q)]
          have pe : partT (.str y) = y := if_neg z
          rw [pe] at pl nx
          refine iteF ⟨_, rfl, _, _, rfl, rfl, fit (by rw [bl]; omega), _, rfl, _, rfl, .inl ⟨y, rfl, _, _, rfl, rfl, fit (by rw [app_len, bl]; omega), some (.str y), ?_, rfl⟩⟩
          rw [nx]
          rfl
      · rw [decide_eq_false fun q => nomatch q]
        have pl' : (Str.ofString (toString n)).length ≤ 13 := pl
        refine iteF ⟨_, rfl, _, _, rfl, rfl, fit (by rw [bl]; omega), _, rfl, _, rfl, .inr ⟨n, rfl, int_small h0 h1, _, _, rfl, rfl, fit (by rw [app_len, bl]; omega), some (.int n), ?_, rfl⟩⟩
        rw [nx]
        rfl
    · rintro σ H' ⟨y2, rfl, rfl⟩
      refine ⟨_, rfl, ?_⟩
      rw [List.take_length, ← glue_ent]
      exact q _ s1
end
/-! ### numbers read -/
abbrev figs : Str := "0123456789"
def figB (c : Nat) : Bool := decide (c ∈ figs.cps.toList)
theorem figB_iff (c : Nat) : figB c = true ↔ 48 ≤ c ∧ c ≤ 57 := by
  have e : figs.cps.toList = [48, 49, 50, 51, 52, 53, 54, 55, 56, 57] := by decide +kernel
  unfold figB
  rw [decide_eq_true_iff, e]
  simp only [List.mem_cons, List.not_mem_nil, or_false]
  omega
def numOk (x : Str) : Bool := decide ((1 : Int) ≤ (x.length : Int)) && decide ((x.length : Int) ≤ 60) && x.cps.toList.all figB && !(Txt.startswith x "0" && !decide (x = "0"))
def numV (x : Str) : V := if numOk x = true then .int (NumText.digitsVal x.cps.toList : Nat) else .non
theorem numV_int {n : Int} (h0 : 0 ≤ n) (h1 : n ≤ 1000000000) : numV (numT n) = .int n := by
  have l := num_len h0 h1
  have d := num_digits h0
  have ok : numOk (numT n) = true := by
    unfold numOk
    rw [decide_eq_true (show (1 : Int) ≤ ((numT n).length : Int) by omega), decide_eq_true (show ((numT n).length : Int) ≤ 60 by omega), List.all_eq_true.mpr fun c hc => (figB_iff c).mpr (d c hc)]
    cases e : Txt.startswith (numT n) "0" with
    | false => rfl
    | true =>
      rw [num_zero h0 e]
      decide +kernel
  unfold numV
  rw [if_pos ok]
  obtain ⟨m, rfl⟩ := Int.eq_ofNat_of_zero_le h0
  rw [PySem.W.KIN.signs_num, PySem.W.KIN.val_back]
def spNumber (T : Addr) : Sp := fun vs H Q _ => ∃ x : Str, vs = [.str x] ∧ x.length ≤ sizeLine ∧ GxR.TabG H T ∧ ∀ H', GxR.Tabbed T H H' → Q (numV x) H'
section
variable {P : Program} {w : World} {K : PySem.W.Frag} {mg : Str → Option Value} {base : Heap}
theorem sc_sNumberOf : FnScope ["word"] ["word"] (defScope sNumberOf) := ⟨rfl, rfl, rfl, by decide +kernel, rfl, by decide +kernel, by decide +kernel⟩
theorem ok_numberOf {f c T : Addr} {oc kV doc pm ct : Value} {od an : Option Addr} {osl : Array (Option Value)}
    (lk : K.lookup f = some ⟨oc, od, .func (PySem.W.fnOf "number_of" "number_of" (defArgs sNumberOf) (defBody sNumberOf) (defScope sNumberOf) .none kV doc pm an (.ref c) ct), osl⟩) (cdI : PySem.W.codeIn K (.ref c) "number_of" = true)
    (TB : GxR.TabB base mg c T) (ml : mg "len" = none) (ma : mg "all" = none) (mi : mg "int" = none) (mF : ∃ t, mg "FIGURES" = some (.str figs t)) (mN : ∃ t, mg "MOST_FIGURES" = some (.int 60 t)) :
    FnOk P w K mg base CX0 1 f (PySem.W.fnOf "number_of" "number_of" (defArgs sNumberOf) (defBody sNumberOf) (defScope sNumberOf) .none kV doc pm an (.ref c) ct) ["word"] (spNumber T) := by
  refine fn_of lk cdI sc_sNumberOf (fun vs H Q E h => ?_) (fun A outer s H vs Q E hr h => ?_)
  · obtain ⟨x, rfl, _⟩ := h
    rfl
  · obtain ⟨x, rfl, hz, tg, q⟩ := h
    obtain ⟨tF, mF⟩ := mF
    obtain ⟨tN, mN⟩ := mN
    have nd := sc_sNumberOf.nd
    refine ⟨_, pss_cons (ps_if (PW.pt (pw_or (pt_not (pt_chain op_le op_le pe_int (pe_callB call_len_str (by rfl) ml PySem.boot_len (pa_cons (pv 0) pa_nil)) (pe_glob (v := .int 60) rfl mN ⟨_, rfl⟩)))
          (pw_or1 (pt_not (pt_val (pe_allT (T := T) (c := c) (pb := figB) hr (by rfl) ma TB rfl ⟨rfl, rfl, by decide +kernel, rfl, rfl, by intro y hy e; simp only [List.mem_cons, List.not_mem_nil, or_false] at hy; rcases hy with rfl | rfl | rfl <;> cases e⟩ (pv 0) ?_ (fun _ => rfl))))))) (pss_one (ps_ret pe_non)) pss_nil)
      (pss_cons (ps_if (PW.pt (pw_and (pt_val (pe_m1 F.slot_str_startswith F.type_str_startswith mt_startswith (pv 0) pe_str)) (pw_and1 (pt_cmpR op_ne (pv 0) pe_str (nomark _))))) (pss_one (ps_ret pe_non)) pss_nil)
      (pss_one (ps_ret (pe_callTy call_int_str (by rfl) mi (by decide +kernel) (pa_cons (pv 0) pa_nil))))), ?_⟩
    · intro pins s1 σ H1 a J
      refine ⟨fun ce A' E' i v s2 m2 e1 e2 e3 hA hP hn hm hk => ⟨?_, fun _ => ?_⟩⟩
      · simp only [List.forIn_nil]
        exact wpAny_pure ⟨rfl, GxR.keeps_refl _⟩
      · obtain ⟨cc, u, hc, rfl⟩ := hP
        refine wpAny_Compare1 ?_
        refine wpAny_Name (wpAny_loadName_local (by rw [e1]) (show ce.scope.names.lookup _ = some .local by rw [e1]; rfl) hn hm ?_) (by decide)
        refine Calls.Name_function_global (by rw [e1]) (show ce.scope.names.lookup _ = some .globalImplicit by rw [e1]; rfl) ?_
        have G : s2.heap.Ns mainGlobals mg := by
          obtain ⟨oo, es, ep, go, r⟩ := J.mod.glob
          exact ⟨oo, es, ep, hk _ _ TB.gP (J.bk _ _ go), r⟩
        refine Calls.loadGlobal_global (by rw [e2]; exact G) mF ?_
        exact PyProof.Rows.in_str ⟨⟨cc, hc, congrArg Value.bool (PySem.StrLaws.found_one figs cc)⟩, GxR.keeps_refl _⟩
    · have no : numOk x = false → numV x = .non := fun z => by unfold numV; rw [z]; rfl
      have fail : numOk x = false → Q .non H := fun z => by
        have e := q H ⟨tg, fun _ _ => rfl⟩
        rw [no z] at e
        exact e
      refine ⟨_, rfl, x, rfl, hz, 1, _, rfl, rfl, _, rfl, ?_⟩
      by_cases e1 : (1 : Int) ≤ (x.length : Int)
      · rw [decide_eq_true e1]
        refine iteT ⟨_, 60, rfl, rfl, _, rfl, ?_⟩
        by_cases e2 : (x.length : Int) ≤ 60
        · rw [decide_eq_true e2]
          refine iteF ?_
          refine ⟨_, rfl, tg, x, rfl, fun H2 tb => ?_⟩
          have e3 := q H2 tb
          have fin : numOk x = true → x.cps.toList.all figB = true → tRet (tCB (fun xs H Q => ∃ a n, xs = [V.str a] ∧ intText? a = some n ∧ a.length ≤ 640 ∧ Q (V.int n) H) (tCons (tVar 0) tNil)) { nx := fun x H' => Q V.non H', rt := Q } (L2.start ["word"] [V.str x]) H2 := fun ok ds => by
            have dg : NumText.AllDigits x.cps.toList := fun c hc => (figB_iff c).mp (List.all_eq_true.mp ds c hc)
            have ne : x.cps.toList ≠ [] := fun z => by
              have : x.length = x.cps.toList.length := by simp [Str.length]
              rw [z] at this
              rw [this] at e1
              exact absurd e1 (by decide)
            have e7 : numV x = .int (NumText.digitsVal x.cps.toList : Nat) := by unfold numV; rw [if_pos ok]
            rw [e7] at e3
            exact ⟨_, rfl, x, _, rfl, intText_digits dg ne (by omega), by omega, e3⟩
          cases e4 : x.cps.toList.all figB with
          | false =>
            rw [no (by unfold numOk; rw [e4, Bool.and_false]; rfl)] at e3
            exact ⟨_, rfl, iteT e3⟩
          | true =>
            refine ⟨_, rfl, iteF ?_⟩
            refine ⟨_, rfl, ⟨_, rfl⟩, x, _, rfl, rfl, _, rfl, ?_⟩
            cases e5 : Txt.startswith x "0" with
            | true =>
              by_cases e6 : x = "0"
              · have ok : numOk x = true := by unfold numOk; rw [decide_eq_true e1, decide_eq_true e2, e4, e5, decide_eq_true e6]; rfl
                refine iteT ⟨_, rfl, rfl, _, rfl, ?_⟩
                rw [decide_eq_true (congrArg V.str e6)]
                exact iteF (fin ok e4)
              · have ok : numOk x = false := by unfold numOk; rw [e5, decide_eq_false e6, show (!(true && !false)) = false from rfl, Bool.and_false]
                rw [no ok] at e3
                refine iteT ⟨_, rfl, rfl, _, rfl, ?_⟩
                rw [decide_eq_false fun z => e6 (V.str.inj z)]
                exact iteT e3
            | false =>
              have ok : numOk x = true := by unfold numOk; rw [decide_eq_true e1, decide_eq_true e2, e4, e5]; rfl
              exact iteF (iteF (fin ok e4))
        · rw [decide_eq_false e2]
          refine iteT ?_
          exact fail (by unfold numOk; rw [decide_eq_false e2, Bool.and_false]; rfl)
      · rw [decide_eq_false e1]
        refine iteF ⟨_, rfl, iteT ?_⟩
        exact fail (by unfold numOk; rw [decide_eq_false e1]; rfl)
end
/-! ### entries told by their parts -/
def snB : V → Bool
  | .int _ => true
  | .str _ => true
  | _ => false
theorem vals_sn (e : Ent) : ∀ v ∈ e.vals, (∃ i, v = .int i) ∨ ∃ s, v = .str s := by
  have h : e.vals.all snB = true := by cases e <;> rfl
  intro v hv
  have := List.all_eq_true.mp h v hv
  cases v with
  | int i => exact .inl ⟨i, rfl⟩
  | str s => exact .inr ⟨s, rfl⟩
  | _ => exact nomatch this
theorem wno {a b : String} (h : (Str.ofString a == Str.ofString b) = false) : ¬ (Str.ofString a = Str.ofString b) := fun e => by rw [e] at h; exact absurd (beq_self_eq_true (Str.ofString b)) (by rw [h]; exact fun z => nomatch z)
theorem vals_inj {e f : Ent} (h : e.vals = f.vals) : e = f := by
  have w2 : ∀ x ∈ words7, ∀ y ∈ words7, V.str x = V.str y → x = y := fun x _ y _ z => V.str.inj z
  have hw : e.word = f.word := by
    have := (List.cons.inj h).1
    exact V.str.inj this
  cases e <;> cases f <;> first
    | (simpa [Ent.vals, Ent.rest, Ent.name, Ent.moment, Ent.word] using h)
    | (exact absurd hw (wno (by decide +kernel)))
/-! ### is_entry, asked of anything -/
/-- a thing of the usual kinds -/
inductive Thg (H : Hp) : V → Prop where
  | str (z : Str) (h : z.length ≤ 1000) : Thg H (.str z)
  | int (i : Int) : Thg H (.int i)
  | bl (b : Bool) : Thg H (.bl b)
  | non : Thg H .non
  | lst {a : Addr} {xs : List V} (h : H a = some (.lst xs)) : Thg H (.ref a)
  | tup {a : Addr} {xs : List V} (h : H a = some (.tup xs)) : Thg H (.ref a)
  | dct {a : Addr} {kvs : List (Key × V)} (h : H a = some (.dK kvs)) : Thg H (.ref a)
theorem Thg.on {H H' : Hp} {v : V} (k : ∀ a o, v = .ref a → H a = some o → (∀ ps, o ≠ .tbl ps) → H' a = some o) (t : Thg H v) : Thg H' v := by
  cases t with
  | str z h => exact .str z h
  | int i => exact .int i
  | bl b => exact .bl b
  | non => exact .non
  | lst h => exact .lst (k _ _ rfl h fun ps z => nomatch z)
  | tup h => exact .tup (k _ _ rfl h fun ps z => nomatch z)
  | dct h => exact .dct (k _ _ rfl h fun ps z => nomatch z)
theorem Thg.of_part {H : Hp} {v : V} (p : Part v) : Thg H v := by
  rcases p with ⟨z, rfl, h⟩ | ⟨i, rfl⟩
  · exact .str z h
  · exact .int i
/-- the built-in kind of a thing -/
theorem Thg.ty {K : PySem.W.Frag} {H : Hp} {v : V} (t : Thg H v) : ∃ n : String, TyX K H v (.type n) ∧ n ∈ ["str", "int", "bool", "NoneType", "list", "tuple", "dict"] ∧ (n = "str" ↔ ∃ z, v = .str z) ∧ (n = "tuple" ↔ ∃ a xs, v = .ref a ∧ H a = some (.tup xs)) := by
  have no : ∀ {p q : Prop}, ¬ p → ¬ q → (p ↔ q) := fun a b => ⟨fun x => absurd x a, fun x => absurd x b⟩
  cases t with
  | str z h => exact ⟨"str", .base (.str z), by decide, ⟨fun _ => ⟨z, rfl⟩, fun _ => rfl⟩, no (by decide) (fun ⟨_, _, e, _⟩ => nomatch e)⟩
  | int i => exact ⟨"int", .base (.int i), by decide, no (by decide) (fun ⟨_, e⟩ => nomatch e), no (by decide) (fun ⟨_, _, e, _⟩ => nomatch e)⟩
  | bl b => exact ⟨"bool", .base (.bl b), by decide, no (by decide) (fun ⟨_, e⟩ => nomatch e), no (by decide) (fun ⟨_, _, e, _⟩ => nomatch e)⟩
  | non => exact ⟨"NoneType", .base .non, by decide, no (by decide) (fun ⟨_, e⟩ => nomatch e), no (by decide) (fun ⟨_, _, e, _⟩ => nomatch e)⟩
  | lst h => exact ⟨"list", .base (.lst h), by decide, no (by decide) (fun ⟨_, e⟩ => nomatch e), no (by decide) (fun ⟨_, _, e, h2⟩ => by cases e; rw [h] at h2; exact nomatch h2)⟩
  | tup h => exact ⟨"tuple", .base (.tup h), by decide, no (by decide) (fun ⟨_, e⟩ => nomatch e), ⟨fun _ => ⟨_, _, rfl, h⟩, fun _ => rfl⟩⟩
  | dct h => exact ⟨"dict", .base (.dK h), by decide, no (by decide) (fun ⟨_, e⟩ => nomatch e), no (by decide) (fun ⟨_, _, e, h2⟩ => by cases e; rw [h] at h2; exact nomatch h2)⟩
theorem kit_str {n : String} (m : n ∈ ["str", "int", "bool", "NoneType", "list", "tuple", "dict"]) : kitB n "str" = some (decide (n = "str")) := by
  simp only [List.mem_cons, List.not_mem_nil, or_false] at m
  rcases m with rfl | rfl | rfl | rfl | rfl | rfl | rfl <;> decide +kernel
theorem kit_tup {n : String} (m : n ∈ ["str", "int", "bool", "NoneType", "list", "tuple", "dict"]) : kitB n "tuple" = some (decide (n = "tuple")) := by
  simp only [List.mem_cons, List.not_mem_nil, or_false] at m
  rcases m with rfl | rfl | rfl | rfl | rfl | rfl | rfl <;> decide +kernel
namespace EqE
open PySem PySem.Spec in
theorem no_str (t : Str) (u : Tok) (l : Addr) (es : Array DictEntry) (n : Nat) (od : Option Addr) (sl : Array (Option Value)) :
    Meets (Builtin.«str.__eq__» ⟨[.str t u, .ref l], []⟩) (fun _ R z => z.heap.get? l = some ⟨.type "dict", od, .dict es n, sl⟩ ∧ R (.ok (.ret .notImplemented)) z) := by
  refine .of_wp fun prog w A R z h => ?_
  obtain ⟨hp, g, d, tk, os⟩ := z
  obtain ⟨hl, h⟩ := h
  wp_walk using wpAny_loadPart' hl, wpAny_load hl
  exact ⟨_, rfl, h⟩
theorem no_dict (t : Str) (u : Tok) (l : Addr) (es : Array DictEntry) (n : Nat) (od : Option Addr) (sl : Array (Option Value)) :
    Meets (Builtin.«dict.__eq__» ⟨[.ref l, .str t u], []⟩) (fun _ R z => z.heap.get? l = some ⟨.type "dict", od, .dict es n, sl⟩ ∧ R (.ok (.ret .notImplemented)) z) := by
  refine .of_wp fun prog w A R z h => ?_
  obtain ⟨hp, g, d, tk, os⟩ := z
  obtain ⟨hl, h⟩ := h
  have f1 := F.sub_str_dict
  wp_walk using wpAny_loadPart' hl, wpAny_load hl
  exact ⟨_, rfl, h⟩
theorem dict_txt {prog : Program} {w : World} {A : Around} {E : Value → Shared → Prop} {z : Shared} {Q : Value → Shared → Prop} {t : Str} {u : Tok} {l : Addr} {es : Array DictEntry} {n : Nat} {od : Option Addr} {sl : Array (Option Value)} (ho : z.heap.get? l = some ⟨.type "dict", od, .dict es n, sl⟩) (hu : A.units < cLine) (h : Q (.bool false) z) :
    wpAny (model prog w) A (compareOp .Eq (.ref l) (.str t u)) Q E z :=
  SeqAt.rc_eq_decline_or (k := false) ⟨_, ho, rfl⟩ (typeIs_str z t u) (by decide) F.sub_str_dict F.slot_dict_eq F.slot_str_eq_refl
    (fun _ hq => call_meets F.slot_dict_eq ⟨_, ho, rfl⟩ F.entry_dict_eq (F.args_dict_eq_2 _ _) (no_dict t u l es n od sl) ⟨ho, hq⟩)
    (fun _ hq => call_meets F.slot_str_eq_refl (typeIs_str z t u) F.entry_str_eq (F.args_str_eq_2 _ _) (no_str t u l es n od sl) ⟨ho, hq⟩)
    (fun _ hq => wpAny_of_eq (rfl : isSame (.ref l) (.str t u) = pure false) hq) (.inr hu) h
def rEqE : R2 := fun x y G W => ∃ s, y = V.str s ∧ Thg G x ∧ W (V.bl (decide (x = V.str s))) G
theorem op_eqE {X : Cx} (hu : X.A.units + 64 < cLine) : OpR X (compareOp .Eq) rEqE := by
  rintro pins z τ G x y v u W I rx ry ⟨s, rfl, th, q⟩
  obtain ⟨t, rfl⟩ : ∃ t, u = Value.str s t := ry
  cases th with
  | str z' h => exact op_eq pins z τ G (V.str z') (V.str s) v _ W I rx ⟨t, rfl⟩ ⟨rfl, q⟩
  | int i => exact op_eq pins z τ G (V.int i) (V.str s) v _ W I rx ⟨t, rfl⟩ ⟨rfl, q⟩
  | bl i => exact op_eq pins z τ G (V.bl i) (V.str s) v _ W I rx ⟨t, rfl⟩ ⟨rfl, q⟩
  | non => exact op_eq pins z τ G V.non (V.str s) v _ W I rx ⟨t, rfl⟩ ⟨rfl, q⟩
  | @lst a xs h =>
    obtain rfl : v = Value.ref a := rx
    rw [decide_eq_false fun q => nomatch q] at q
    obtain ⟨its, rv, pl, hz⟩ := I.list (SqL.of h)
    exact SeqAt.RcAt.list_str s t pl.isList (by omega) _ _ _ _ ⟨.bl false, G, I, rfl, q⟩
  | @tup a xs h =>
    obtain rfl : v = Value.ref a := rx
    rw [decide_eq_false fun q => nomatch q] at q
    obtain ⟨its, rv, pl, hz⟩ := I.tuple (SqT.of h)
    exact SeqAt.RcAt.tuple_str s t pl (by omega) _ _ _ _ ⟨.bl false, G, I, rfl, q⟩
  | @dct a kvs h =>
    obtain rfl : v = Value.ref a := rx
    rw [decide_eq_false fun q => nomatch q] at q
    obtain ⟨_, _, vs, _, o, es, ep, h1, h2, h3, _⟩ := (show ObjOk X.prog X.w G z.heap a (.dK kvs) from I.hok a _ h)
    obtain ⟨oc, od, dt, sl⟩ := o
    have z1 := h2.1
    dsimp only at z1 h3
    subst z1 h3
    exact dict_txt h1 (by omega) ⟨.bl false, G, I, rfl, q⟩
end EqE
/-- the words of the forms alone are keys -/
theorem forms_only {K : PySem.W.Frag} {a : Addr} {es : Array DictEntry} {n : Nat} (h : K.lookup a = some ⟨.type "dict", none, .dict es n, #[]⟩) (k : (es.toList.all fun e => match e.key with | .str s _ => words7.any fun y => s == y | _ => false) = true) (z : Str) (nz : z ∉ words7) : PySem.W.nsIn K a z = some none := by
  have all := List.all_eq_true.mp k
  have ks : ∀ e ∈ es.toList, ∃ s t, e.key = .str s t ∧ s ∈ words7 := fun e he => by
    have := all e he
    cases ek : e.key with
    | str s t =>
      rw [ek] at this
      obtain ⟨y, hy, e2⟩ := List.any_eq_true.mp this
      exact ⟨s, t, rfl, by rw [eq_of_beq e2]; exact hy⟩
    | _ => rw [ek] at this; exact nomatch this
  unfold PySem.W.nsIn
  rw [h]
  dsimp only
  have f1 : es.toList.find? (fun e => e.key.isStr z) = none := by
    rw [List.find?_eq_none]
    intro e he q
    obtain ⟨s, t, ek, hs⟩ := ks e he
    rw [ek] at q
    have q2 : (s == z) = true := q
    exact nz (by rw [← eq_of_beq q2]; exact hs)
  rw [f1]
  have f2 : es.toList.any (fun e => e.refKey) = false := by
    rw [List.any_eq_false]
    intro e he q
    obtain ⟨s, t, ek, hs⟩ := ks e he
    unfold DictEntry.refKey at q
    rw [ek] at q
    exact Bool.false_ne_true q
  dsimp only
  rw [f2]
  rfl
def spWholeA : Sp := fun vs H Q _ => ∃ v : V, vs = [v] ∧ Thg H v ∧ Q (.bl (match v with | .int _ => true | _ => false)) H
def spFitsA (T1 : Addr) : Sp := fun vs H Q _ => ∃ (v : V) (x : Str), vs = [v, .str x] ∧ Thg H v ∧ x ∈ sorts6 ∧ GxR.TabG H T1 ∧ ∀ H', GxR.Tabbed T1 H H' → Q (.bl (fitB v x)) H'
/-- the parts of an entry -/
def IsE (xs : List V) : Prop := ∃ e : Ent, e.Fine ∧ xs = e.vals
/-- what is an entry, and what is none -/
def spIsEntryA (T1 T2 : Addr) : Sp := fun vs H Q _ => ∃ v : V, vs = [v] ∧ GxR.TabG H T1 ∧ GxR.TabG H T2 ∧
  ((Thg H v ∧ (∀ a xs, v = .ref a → H a ≠ some (.tup xs)) ∧ ∀ H', TB2 T1 T2 H H' → Q (.bl false) H') ∨
   ∃ (a : Addr) (xs : List V), v = .ref a ∧ H a = some (.tup xs) ∧ xs.length ≤ 1000 ∧ (∀ x ∈ xs, Thg H x) ∧ (IsE xs → ∀ H', TB2 T1 T2 H H' → Q (.bl true) H') ∧ (¬ IsE xs → ∀ H', TB2 T1 T2 H H' → Q (.bl false) H'))
theorem vals_len (e : Ent) : e.vals.length = e.sorts.length + 1 := by cases e <;> rfl
theorem sorts_word {e f : Ent} (h : e.word = f.word) : e.sorts = f.sorts := by
  cases e <;> cases f <;> first
    | rfl
    | (exact absurd h (wno (by decide +kernel)))
theorem word_of {z : Str} (h : z ∈ words7) : ∃ e : Ent, e.word = z := by
  simp only [words7, List.mem_cons, List.not_mem_nil, or_false] at h
  rcases h with rfl | rfl | rfl | rfl | rfl | rfl | rfl
  · exact ⟨.come "" 0 "" "" 0 0, rfl⟩
  · exact ⟨.go "" 0 "" "" 0, rfl⟩
  · exact ⟨.move "" 0 "" "" "" 0, rfl⟩
  · exact ⟨.some_ "" 0 "" "" "", rfl⟩
  · exact ⟨.swap "" 0 "" "", rfl⟩
  · exact ⟨.count "" 0 "" "" 0 "", rfl⟩
  · exact ⟨.look "" 0 "" "", rfl⟩
theorem fit_str {v : V} {x : Str} (h : fitB v x = true) (hx : x = "name" ∨ x = "end") : ∃ s, v = .str s := by
  rcases hx with rfl | rfl
  · unfold fitB at h
    rw [if_pos rfl] at h
    cases v with
    | str s => exact ⟨s, rfl⟩
    | _ => exact nomatch h
  · unfold fitB at h
    rw [if_neg ken, if_pos rfl] at h
    cases v with
    | str s => exact ⟨s, rfl⟩
    | int i => simp [nmV] at h
    | bl i => simp [nmV] at h
    | non => simp [nmV] at h
    | ref i => simp [nmV] at h
    | _ => simp [nmV] at h
theorem fit_int {v : V} {x : Str} (h : fitB v x = true) (hx : x ∈ sorts4) : ∃ i, v = .int i := by
  have n1 : x ≠ "name" ∧ x ≠ "end" := by
    simp only [sorts4, List.mem_cons, List.not_mem_nil, or_false] at hx
    rcases hx with rfl | rfl | rfl | rfl
    · exact ⟨kmn, kme⟩
    · exact ⟨kyn, kye⟩
    · exact ⟨kcn, kce⟩
    · exact ⟨kpn, kpe⟩
  unfold fitB at h
  rw [if_neg n1.1, if_neg n1.2] at h
  cases v with
  | int i => exact ⟨i, rfl⟩
  | _ => exact nomatch h
theorem fit_part {H : Hp} {v : V} {x : Str} (t : Thg H v) (h : fitB v x = true) (hx : x ∈ sorts6) : Part v := by
  have : (∃ s, v = .str s) ∨ ∃ i, v = .int i := by
    simp only [sorts6, List.mem_cons, List.not_mem_nil, or_false] at hx
    rcases hx with rfl | rfl | rfl | rfl | rfl | rfl
    · exact .inl (fit_str h (.inl rfl))
    · exact .inl (fit_str h (.inr rfl))
    · exact .inr (fit_int h (by simp [sorts4]))
    · exact .inr (fit_int h (by simp [sorts4]))
    · exact .inr (fit_int h (by simp [sorts4]))
    · exact .inr (fit_int h (by simp [sorts4]))
  rcases this with ⟨s, rfl⟩ | ⟨i, rfl⟩
  · cases t with
    | str _ h => exact .inl ⟨s, rfl, h⟩
  · exact .inr ⟨i, rfl⟩
/-- parts that fit are those of an entry -/
theorem ent_of {f : Ent} {ps : List V} (l : ps.length = f.sorts.length) (h : ∀ (i : Nat) (v : V) (x : Str), ps[i]? = some v → f.sorts[i]? = some x → fitB v x = true) : ∃ e : Ent, e.word = f.word ∧ e.parts = ps := by
  have s : ∀ (i : Nat) (x : Str), f.sorts[i]? = some x → x = "name" ∨ x = "end" → ∃ s, ps[i]? = some (.str s) := fun i x hx k => by
    have lt : i < ps.length := by rw [l]; exact (List.getElem?_eq_some_iff.mp hx).1
    obtain ⟨s, e⟩ := fit_str (h i _ x (List.getElem?_eq_getElem lt) hx) k
    exact ⟨s, by rw [List.getElem?_eq_getElem lt, e]⟩
  have n : ∀ (i : Nat) (x : Str), f.sorts[i]? = some x → x ∈ sorts4 → ∃ j, ps[i]? = some (.int j) := fun i x hx k => by
    have lt : i < ps.length := by rw [l]; exact (List.getElem?_eq_some_iff.mp hx).1
    obtain ⟨s, e⟩ := fit_int (h i _ x (List.getElem?_eq_getElem lt) hx) k
    exact ⟨s, by rw [List.getElem?_eq_getElem lt, e]⟩
  have m4 : ("moment" : Str) ∈ sorts4 ∧ ("many" : Str) ∈ sorts4 ∧ ("counted" : Str) ∈ sorts4 ∧ ("price" : Str) ∈ sorts4 := by simp [sorts4]
  cases f with
  | come =>
    match ps, l with
    | [p0, p1, p2, p3, p4, p5], _ =>
      obtain ⟨a0, e0⟩ := s 0 _ rfl (.inl rfl); obtain ⟨a1, e1⟩ := n 1 _ rfl m4.1; obtain ⟨a2, e2⟩ := s 2 _ rfl (.inl rfl); obtain ⟨a3, e3⟩ := s 3 _ rfl (.inl rfl); obtain ⟨a4, e4⟩ := n 4 _ rfl m4.2.1; obtain ⟨a5, e5⟩ := n 5 _ rfl m4.2.2.2
      cases e0; cases e1; cases e2; cases e3; cases e4; cases e5
      exact ⟨.come a0 a1 a2 a3 a4 a5, rfl, rfl⟩
  | go =>
    match ps, l with
    | [p0, p1, p2, p3, p4], _ =>
      obtain ⟨a0, e0⟩ := s 0 _ rfl (.inl rfl); obtain ⟨a1, e1⟩ := n 1 _ rfl m4.1; obtain ⟨a2, e2⟩ := s 2 _ rfl (.inl rfl); obtain ⟨a3, e3⟩ := s 3 _ rfl (.inl rfl); obtain ⟨a4, e4⟩ := n 4 _ rfl m4.2.1
      cases e0; cases e1; cases e2; cases e3; cases e4
      exact ⟨.go a0 a1 a2 a3 a4, rfl, rfl⟩
  | move =>
    match ps, l with
    | [p0, p1, p2, p3, p4, p5], _ =>
      obtain ⟨a0, e0⟩ := s 0 _ rfl (.inl rfl); obtain ⟨a1, e1⟩ := n 1 _ rfl m4.1; obtain ⟨a2, e2⟩ := s 2 _ rfl (.inl rfl); obtain ⟨a3, e3⟩ := s 3 _ rfl (.inl rfl); obtain ⟨a4, e4⟩ := s 4 _ rfl (.inl rfl); obtain ⟨a5, e5⟩ := n 5 _ rfl m4.2.1
      cases e0; cases e1; cases e2; cases e3; cases e4; cases e5
      exact ⟨.move a0 a1 a2 a3 a4 a5, rfl, rfl⟩
  | some_ =>
    match ps, l with
    | [p0, p1, p2, p3, p4], _ =>
      obtain ⟨a0, e0⟩ := s 0 _ rfl (.inl rfl); obtain ⟨a1, e1⟩ := n 1 _ rfl m4.1; obtain ⟨a2, e2⟩ := s 2 _ rfl (.inl rfl); obtain ⟨a3, e3⟩ := s 3 _ rfl (.inl rfl); obtain ⟨a4, e4⟩ := s 4 _ rfl (.inr rfl)
      cases e0; cases e1; cases e2; cases e3; cases e4
      exact ⟨.some_ a0 a1 a2 a3 a4, rfl, rfl⟩
  | swap =>
    match ps, l with
    | [p0, p1, p2, p3], _ =>
      obtain ⟨a0, e0⟩ := s 0 _ rfl (.inl rfl); obtain ⟨a1, e1⟩ := n 1 _ rfl m4.1; obtain ⟨a2, e2⟩ := s 2 _ rfl (.inl rfl); obtain ⟨a3, e3⟩ := s 3 _ rfl (.inl rfl)
      cases e0; cases e1; cases e2; cases e3
      exact ⟨.swap a0 a1 a2 a3, rfl, rfl⟩
  | count =>
    match ps, l with
    | [p0, p1, p2, p3, p4, p5], _ =>
      obtain ⟨a0, e0⟩ := s 0 _ rfl (.inl rfl); obtain ⟨a1, e1⟩ := n 1 _ rfl m4.1; obtain ⟨a2, e2⟩ := s 2 _ rfl (.inl rfl); obtain ⟨a3, e3⟩ := s 3 _ rfl (.inl rfl); obtain ⟨a4, e4⟩ := n 4 _ rfl m4.2.2.1; obtain ⟨a5, e5⟩ := s 5 _ rfl (.inl rfl)
      cases e0; cases e1; cases e2; cases e3; cases e4; cases e5
      exact ⟨.count a0 a1 a2 a3 a4 a5, rfl, rfl⟩
  | look =>
    match ps, l with
    | [p0, p1, p2, p3], _ =>
      obtain ⟨a0, e0⟩ := s 0 _ rfl (.inl rfl); obtain ⟨a1, e1⟩ := n 1 _ rfl m4.1; obtain ⟨a2, e2⟩ := s 2 _ rfl (.inl rfl); obtain ⟨a3, e3⟩ := s 3 _ rfl (.inl rfl)
      cases e0; cases e1; cases e2; cases e3
      exact ⟨.look a0 a1 a2 a3, rfl, rfl⟩
theorem once_len_nd {e : Ent} (h : ¬ e.places.Nodup) : (once e.places).length ≠ e.places.length := by
  have two : ∀ o t : Str, ¬ [o, t].Nodup → (once [o, t]).length ≠ 2 := fun o t h => by
    have e : o = t := Classical.byContradiction fun z => h (List.nodup_cons.mpr ⟨fun q => z (List.mem_singleton.mp q), nd1 _⟩)
    subst e
    have : once [o, o] = [o] := by
      show (if ([o] : List Str).contains o = true then [o] else [o] ++ [o]) = [o]
      rw [if_pos (by simp)]
    rw [this]
    exact fun z => by cases z
  cases e with
  | some_ n m g o t =>
    by_cases z : t = ""
    · rw [show Ent.places (.some_ n m g o t) = [o] from if_pos z] at h
      exact absurd (nd1 _) h
    · rw [show Ent.places (.some_ n m g o t) = [o, t] from if_neg z] at h ⊢
      exact two o t h
  | move n m g o t k => exact two o t h
  | swap n m o t => exact two o t h
  | come => exact absurd (nd1 _) h
  | go => exact absurd (nd1 _) h
  | count => exact absurd (nd1 _) h
  | look => exact absurd (nd1 _) h
section
variable {P : Program} {w : World} {K : PySem.W.Frag} {mg : Str → Option Value} {base : Heap}
theorem ok_wholeA {f : Addr} {fd : FuncData} (F : Fun K "is_whole" "is_whole" sWhole f fd) (mi : mg "isinstance" = none) (m1 : mg "int" = none) (m2 : mg "bool" = none) : FnOk P w K mg base CX0 1 f fd ["thing"] spWholeA := by
  refine F.ok scWhole (fun vs H Q E h => ?_) (fun cdv A outer s H vs Q E hr h => ?_)
  · obtain ⟨v, rfl, _⟩ := h
    rfl
  · obtain ⟨v, rfl, pt, q⟩ := h
    refine ⟨_, pss_one (ps_ret (pe_and (pe_callB call_isi (by rfl) mi (by decide +kernel) (pa_cons (pv 0) (pa_cons (pe_bltn (v := .ty "int") (u := .type "int") (by rfl) m1 (by decide +kernel) rfl) pa_nil)))
      (pe_one (pe_not (pe_callB call_isi (by rfl) mi (by decide +kernel) (pa_cons (pv 0) (pa_cons (pe_bltn (v := .ty "bool") (u := .type "bool") (by rfl) m2 (by decide +kernel) rfl) pa_nil))))))), ?_⟩
    cases pt with
    | str z h => exact ⟨_, rfl, _, _, _, _, false, rfl, .ty "int", .base (.str z), kit_ty (by decide +kernel), _, rfl, iteF q⟩
    | int i => exact ⟨_, rfl, _, _, _, _, true, rfl, .ty "int", .base (.int i), kit_ty (by decide +kernel), _, rfl, iteT ⟨_, rfl, _, _, _, _, false, rfl, .ty "bool", .base (.int i), kit_ty (by decide +kernel), _, rfl, q⟩⟩
    | bl b => exact ⟨_, rfl, _, _, _, _, true, rfl, .ty "int", .base (.bl b), kit_ty (by decide +kernel), _, rfl, iteT ⟨_, rfl, _, _, _, _, true, rfl, .ty "bool", .base (.bl b), kit_ty (by decide +kernel), _, rfl, q⟩⟩
    | non => exact ⟨_, rfl, _, _, _, _, false, rfl, .ty "int", .base .non, kit_ty (by decide +kernel), _, rfl, iteF q⟩
    | lst h => exact ⟨_, rfl, _, _, _, _, false, rfl, .ty "int", .base (.lst h), kit_ty (by decide +kernel), _, rfl, iteF q⟩
    | tup h => exact ⟨_, rfl, _, _, _, _, false, rfl, .ty "int", .base (.tup h), kit_ty (by decide +kernel), _, rfl, iteF q⟩
    | dct h => exact ⟨_, rfl, _, _, _, _, false, rfl, .ty "int", .base (.dK h), kit_ty (by decide +kernel), _, rfl, iteF q⟩
theorem ok_fitsA {f fN fW aB T1 : Addr} {fd dN dW : FuncData} (F : Fun K "fits" "fits" sFits f fd) (N : DefT P w K mg base "is_name" 1 fN dN ["thing"] (spName K T1)) (W : DefT P w K mg base "is_whole" 1 fW dW ["thing"] spWholeA)
    (mB : mg "BOUNDS" = some (.ref aB)) (hB : ∀ x ∈ sorts4, ∃ aT, KDct K w aB x (.ref aT) ∧ ∀ H, SqT K H aT [.int (bnd x).1, .int (bnd x).2]) : FnOk P w K mg base CX0 2 f fd ["part", "sort"] (spFitsA T1) := by
  refine F.ok scFits (fun vs H Q E h => ?_) (fun cdv A outer s H vs Q E hr h => ?_)
  · obtain ⟨v, x, rfl, _⟩ := h
    rfl
  · obtain ⟨v, x, rfl, pt, hx, tg, q⟩ := h
    have nd := scFits.nd
    have hu64 := hr.units
    refine ⟨_, pss_cons (ps_if (pt_cmpR op_eq (pv 1) pe_str (nomark _)) (pss_one (ps_ret (pe_call N.ok hr (by rfl) N.g N.kp N.b .nil pass0 (pa_cons (pv 0) pa_nil)))) pss_nil)
      (pss_cons (ps_if (pt_cmpR op_eq (pv 1) pe_str (nomark _)) (pss_one (ps_ret (pe_or (pe_cmpR (EqE.op_eqE hu64) (pv 0) pe_str (nomark _)) (pe_one (pe_call N.ok hr (by rfl) N.g N.kp N.b .nil pass0 (pa_cons (pv 0) pa_nil)))))) pss_nil)
      (pss_cons (ps_asg (pe_ix ix_kdict (pe_glob (v := .ref aB) rfl mB rfl) (pv 1) (fun _ _ => rfl)) (pg_tup (by rfl) (pgs_cons (pg_name (i := 2) nd rfl (Or.inl rfl)) (pgs_cons (pg_name (i := 3) nd rfl (Or.inl rfl)) pgs_nil))))
      (pss_one (ps_ret (pe_and (pe_call W.ok hr (by rfl) W.g W.kp W.b .nil pass0 (pa_cons (pv 0) pa_nil)) (pe_one (pe_chain op_le op_le (pv 2) (pv 0) (pv 3)))))))), ?_⟩
    have same0 : GxR.Tabbed T1 H H := ⟨tg, fun _ _ => rfl⟩
    -- is_name of the part
    have nm : ∀ (Q1 : VK), (∀ H2, GxR.Tabbed T1 H H2 → Q1 (.bl (nmV v)) H2) → spName K T1 ([v] ++ []) H Q1 E0 := fun Q1 h1 => by
      obtain ⟨n, ty, m, st, _⟩ := pt.ty (K := K)
      by_cases z : n = "str"
      · obtain ⟨s, rfl⟩ := st.mp z
        cases pt with
        | str _ lz => exact ⟨_, rfl, tg, .inl ⟨s, rfl, small_sz lz, h1⟩⟩
      · have e : nmV v = false := by
          cases v with
          | str s => exact absurd (st.mpr ⟨s, rfl⟩) z
          | _ => rfl
        rw [e] at h1
        exact ⟨_, rfl, tg, .inr ⟨n, ty, by rw [kit_str m, decide_eq_false z], h1 H same0⟩⟩
    refine ⟨_, rfl, rfl, _, rfl, ite2 (fun e => ?_) (fun e => ?_)⟩
    · have e' : x = "name" := V.str.inj (of_decide_eq_true e)
      refine ⟨_, rfl, nm _ fun H2 tb => ?_⟩
      have z := q H2 tb
      unfold fitB at z
      rw [if_pos e'] at z
      exact z
    · have e1 : ¬ x = "name" := fun h => e (decide_eq_true (congrArg V.str h))
      refine ⟨_, rfl, rfl, _, rfl, ite2 (fun e => ?_) (fun e => ?_)⟩
      · have e' : x = "end" := V.str.inj (of_decide_eq_true e)
        have fe : fitB v x = (decide (v = .str "") || nmV v) := by
          unfold fitB
          rw [if_neg e1, if_pos e']
        rw [fe] at q
        refine ⟨_, rfl, _, rfl, pt, decide (v = .str ""), rfl, ?_⟩
        cases hd : decide (v = V.str "") with
        | true =>
          rw [hd] at q
          exact iteT (q H same0)
        | false =>
          rw [hd] at q
          exact iteF ⟨_, rfl, nm _ fun H2 tb => q H2 tb⟩
      · have e2 : ¬ x = "end" := fun h => e (decide_eq_true (congrArg V.str h))
        have x4 : x ∈ sorts4 := by
          simp only [sorts6, sorts4, List.mem_cons, List.not_mem_nil, or_false] at hx ⊢
          rcases hx with h | h | h | h | h | h
          · exact absurd h e1
          · exact absurd h e2
          · exact .inl h
          · exact .inr (.inl h)
          · exact .inr (.inr (.inl h))
          · exact .inr (.inr (.inr h))
        obtain ⟨aT, kd, sq⟩ := hB x x4
        have fe : fitB v x = inB x v := by
          unfold fitB
          rw [if_neg e1, if_neg e2]
        rw [fe] at q
        have q0 := q H same0
        refine ⟨_, rfl, aB, x, _, rfl, rfl, kd, aT, _, rfl, sq H, rfl, _, _, rfl, _, _, rfl, rfl, _, rfl, v, rfl, pt, ?_⟩
        cases v with
        | int i =>
          refine ⟨_, rfl, iteT ⟨_, rfl, _, rfl, (bnd x).1, i, rfl, rfl, _, rfl, ite2 (fun a1 => ?_) (fun a1 => ?_)⟩⟩
          · refine ⟨_, rfl, i, (bnd x).2, rfl, rfl, ?_⟩
            have z : inB x (.int i) = decide (i ≤ (bnd x).2) := by
              show (decide ((bnd x).1 ≤ i) && decide (i ≤ (bnd x).2)) = _
              rw [a1, Bool.true_and]
            rw [z] at q0
            exact q0
          · have z : inB x (.int i) = false := by
              show (decide ((bnd x).1 ≤ i) && decide (i ≤ (bnd x).2)) = _
              rw [Bool.eq_false_iff.mpr a1, Bool.false_and]
            rw [z] at q0
            exact q0
        | _ => exact ⟨_, rfl, iteF q0⟩
theorem ok_isEntryA {f cE T1 T2 aF fF fP : Addr} {dF dP : FuncData} {oc kV doc pm ct : Value} {od an : Option Addr} {osl : Array (Option Value)} {es : Array DictEntry} {nE : Nat}
    (lk : K.lookup f = some ⟨oc, od, .func (PySem.W.fnOf "is_entry" "is_entry" (defArgs sIsEntry) (defBody sIsEntry) (defScope sIsEntry) .none kV doc pm an (.ref cE) ct), osl⟩) (cdI : PySem.W.codeIn K (.ref cE) "is_entry" = true)
    (TB : GxR.TabB base mg cE T2) (ne : T1 ≠ T2) (FI : DefT P w K mg base "fits" 2 fF dF ["part", "sort"] (spFitsA T1)) (PO : DefT P w K mg base "places_of" 1 fP dP ["entry"] spPlaces)
    (mi : mg "isinstance" = none) (mt : mg "tuple" = none) (ml : mg "len" = none) (mst : mg "str" = none) (ma : mg "all" = none) (mz : mg "zip" = none) (ms : mg "set" = none) (mF : mg "FORMS" = some (.ref aF)) (D : KDict K w aF es nE)
    (hF : ∀ e : Ent, ∃ aS, KDct K w aF e.word (.ref aS) ∧ ∀ H, SqT K H aS (e.sorts.map V.str)) (hO : ∀ z : Str, z ∉ words7 → PySem.W.nsIn K aF z = some none) :
    FnOk P w K mg base CX0 4 f (PySem.W.fnOf "is_entry" "is_entry" (defArgs sIsEntry) (defBody sIsEntry) (defScope sIsEntry) .none kV doc pm an (.ref cE) ct) ["thing"] (spIsEntryA T1 T2) := by
  refine fn_of lk cdI scIs (fun vs H Q E h => ?_) (fun A outer s H vs Q E hr h => ?_)
  · obtain ⟨v, rfl, _⟩ := h
    rfl
  · obtain ⟨v, rfl, t1, t2, h⟩ := h
    have nd := scIs.nd
    have hr1 : Room 1 _ := hr.mono (by decide)
    refine ⟨_, pss_cons (ps_if (PW.pt (pw_or (pt_not (pt_val (pe_callB call_isi (by rfl) mi (by decide +kernel) (pa_cons (pv 0) (pa_cons (pe_bltn (v := .ty "tuple") (u := .type "tuple") (by rfl) mt (by decide +kernel) rfl) pa_nil)))))
          (pw_or1 (pt_cmpR op_eq (pe_callB call_len_seq (by rfl) ml PySem.boot_len (pa_cons (pv 0) pa_nil)) pe_int (nomark _))))) (pss_one (ps_ret pe_bl)) pss_nil)
      (pss_cons (ps_if (PW.pt (pw_or (pt_not (pt_val (pe_callB call_isi (by rfl) mi (by decide +kernel) (pa_cons (pe_ix ix_tup (pv 0) pe_int (fun _ _ => rfl)) (pa_cons (pe_bltn (v := .ty "str") (u := .type "str") (by rfl) mst (by decide +kernel) rfl) pa_nil)))))
          (pw_or1 (pt_cmpR (op_notIn_kd D) (pe_ix ix_tup (pv 0) pe_int (fun _ _ => rfl)) (pe_glob (v := .ref aF) rfl mF rfl) (by rfl))))) (pss_one (ps_ret pe_bl)) pss_nil)
      (pss_cons (ps_set (i := 1) nd rfl (Or.inl rfl) (pe_ix ix_kdict (pe_glob (v := .ref aF) rfl mF rfl) (pe_ix ix_tup (pv 0) pe_int (fun _ _ => rfl)) (fun _ _ => rfl)))
      (pss_cons (ps_if (pt_cmpR op_ne (pe_callB call_len_seq (by rfl) ml PySem.boot_len (pa_cons (pv 0) pa_nil)) (pe_op op_add (pe_callB call_len_seq (by rfl) ml PySem.boot_len (pa_cons (pv 1) pa_nil)) pe_int) (nomark _)) (pss_one (ps_ret pe_bl)) pss_nil)
      (pss_cons (ps_if (pt_not (pt_val (pe_allG (T := T2) (c := cE) (k := 2) (own := [("part", 3), ("sort", 4)]) (g := gTup K 2 (gCons (gName 3) (gCons (gName 4) gNil))) (tt := tYes) (te := tCall (spFitsA T1) [] E0 (tCons (tVar 3) (tCons (tVar 4) tNil)))
          hr (by rfl) ma rfl nd TB rfl ⟨blkOk_by (N := isN) (sc := defScope sIsEntry) (by decide +kernel), rfl, by decide +kernel, rfl⟩
          (RZ.pi_zipA (by rfl) mz (pa_cons (pe_slice sl_tup (pv 0) (po_some pe_int) po_none) (pa_cons (pv 1) pa_nil)))
          (fun _ _ _ _ _ _ => pg_tup (by rfl) (pgs_cons (pg_name (i := 3) nd rfl (Or.inl rfl)) (pgs_cons (pg_name (i := 4) nd rfl (Or.inl rfl)) pgs_nil)))
          (fun _ _ _ _ _ _ _ => pts_nil) (fun _ _ _ _ _ _ hr' => pe_call FI.ok hr' (by rfl) FI.g FI.kp FI.b .nil pass0 (pa_cons (pv 3) (pa_cons (pv 4) pa_nil)))))) (pss_one (ps_ret pe_bl)) pss_nil)
      (pss_cons (ps_set (i := 2) nd rfl (Or.inl rfl) (pe_call PO.ok hr1 (by rfl) PO.g PO.kp PO.b .nil pass0 (pa_cons (pv 0) pa_nil)))
      (pss_one (ps_ret (pe_cmpR op_eq (pe_lenSetX rfl (by rfl) ml (by rfl) ms (pv 2)) (pe_callB call_len_seq (by rfl) ml PySem.boot_len (pa_cons (pv 2) pa_nil)) (nomark _))))))))), ?_⟩
    have tb0 : TB2 T1 T2 H H := TB2.same t1 t2 fun _ _ e => e
    rcases h with ⟨th, nt, q⟩ | ⟨a, xs, rfl, ha, lx, hT, qT, qF⟩
    · obtain ⟨n, ty, m, _, tt⟩ := th.ty (K := K)
      have nn : n ≠ "tuple" := fun z => by
        obtain ⟨a, xs, e, h2⟩ := tt.mp z
        exact nt a xs e h2
      exact ⟨_, rfl, _, _, _, _, false, rfl, .ty "tuple", ty, kit_ty (by rw [kit_tup m, decide_eq_false nn]), _, rfl, iteT (q H tb0)⟩
    -- a tuple
    refine ⟨_, rfl, _, _, _, _, true, rfl, .ty "tuple", .base (.tup ha), kit_ty (by decide +kernel), _, rfl, iteF ?_⟩
    match xs, ha, lx, hT, qT, qF with
    | [], ha, lx, hT, qT, qF =>
      refine ⟨_, rfl, a, _, rfl, .inr (SqT.of ha), rfl, true, rfl, iteT (qF ?_ H tb0)⟩
      rintro ⟨e, _, h⟩
      exact nomatch h
    | x0 :: ps, ha, lx, hT, qT, qF =>
    refine ⟨_, rfl, a, _, rfl, .inr (SqT.of ha), rfl, false, congrArg V.bl (decide_eq_false fun z => ?_), iteF ?_⟩
    · have z' : (((x0 :: ps).length : Nat) : Int) = 0 := V.int.inj z
      rw [List.length_cons] at z'
      omega
    have at0x : atI (x0 :: ps) 0 = some x0 := atI_nat (j := 0) rfl
    obtain ⟨n0, ty0, m0, st0, _⟩ := (hT x0 List.mem_cons_self).ty (K := K)
    by_cases zs : n0 = "str"
    rotate_left
    · refine ⟨_, rfl, a, _, 0, _, rfl, rfl, SqT.of ha, at0x, _, _, _, _, false, rfl, .ty "str", ty0, kit_ty (by rw [kit_str m0, decide_eq_false zs]), _, rfl, iteT (qF ?_ H tb0)⟩
      rintro ⟨e, _, h⟩
      exact zs (st0.mpr ⟨e.word, (List.cons.inj h).1⟩)
    obtain ⟨z, rfl⟩ := st0.mp zs
    refine ⟨_, rfl, a, _, 0, _, rfl, rfl, SqT.of ha, at0x, _, _, _, _, true, rfl, .ty "str", ty0, kit_ty (by rw [kit_str m0, decide_eq_true zs]), _, rfl, iteF ?_⟩
    by_cases zw : z ∈ words7
    rotate_left
    · refine ⟨_, rfl, a, _, 0, _, rfl, rfl, SqT.of ha, at0x, z, none, rfl, rfl, hO z zw, _, rfl, iteT (qF ?_ H tb0)⟩
      rintro ⟨e, _, h⟩
      have : z = e.word := V.str.inj (List.cons.inj h).1
      exact zw (this ▸ e.word_in)
    obtain ⟨f0, rfl⟩ := word_of zw
    obtain ⟨aS, kd, sq⟩ := hF f0
    obtain ⟨es', n', u, hl, hlit, hns, ru⟩ := id kd
    refine ⟨_, rfl, a, _, 0, _, rfl, rfl, SqT.of ha, at0x, f0.word, some u, rfl, rfl, hns, _, rfl, iteF ?_⟩
    refine ⟨_, rfl, a, _, 0, _, rfl, rfl, SqT.of ha, at0x, aF, f0.word, _, rfl, rfl, kd, ?_⟩
    by_cases ll : ps.length = f0.sorts.length
    rotate_left
    · refine ⟨_, rfl, a, _, rfl, .inr (SqT.of ha), _, rfl, aS, _, rfl, .inr (sq H), _, 1, rfl, rfl, rfl, true, ?_, iteT (qF ?_ H tb0)⟩
      · refine congrArg V.bl ?_
        have l1 : ¬ ((((V.str f0.word) :: ps).length : Nat) : Int) = ((f0.sorts.map V.str).length : Int) + 1 := by
          rw [List.length_cons, List.length_map]
          omega
        rw [decide_eq_false fun q => l1 (V.int.inj q)]
        rfl
      · rintro ⟨e, _, h⟩
        have w0 : e.word = f0.word := V.str.inj (List.cons.inj h).1.symm
        have := congrArg List.length h
        rw [vals_len, sorts_word w0, List.length_cons] at this
        omega
    refine ⟨_, rfl, a, _, rfl, .inr (SqT.of ha), _, rfl, aS, _, rfl, .inr (sq H), _, 1, rfl, rfl, rfl, false, ?_, iteF ?_⟩
    · refine congrArg V.bl ?_
      have l1 : ((((V.str f0.word) :: ps).length : Nat) : Int) = ((f0.sorts.map V.str).length : Int) + 1 := by
        rw [List.length_cons, List.length_map, ll]
        rfl
      rw [l1, decide_eq_true rfl]
      rfl
    -- all fit
    have cut : cutV ((V.str f0.word) :: ps) (some 1) none = ps := by
      have h : cutV ((V.str f0.word) :: ps) (some ((1 : Nat) : Int)) none = ps := by
        unfold cutV
        rw [HT.sIx_nat, HT.sIx_none, Nat.min_eq_left (by rw [List.length_cons]; omega)]
        show ps.take (ps.length + 1 - 1) = ps
        rw [Nat.add_sub_cancel]
        exact List.take_length
      exact h
    refine ⟨_, rfl, 1, rfl, a, _, rfl, SqT.of ha, ?_, fun pp npp => ?_⟩
    · rintro ⟨z, _⟩
      rw [show HT.sIx ((V.str f0.word) :: ps).length 0 (some 1) = min 1 ((V.str f0.word) :: ps).length from HT.sIx_nat _ _ 1, List.length_cons] at z
      omega
    rw [cut]
    have sp := @same_new _ _ (.tup ps) npp
    have hpp := @upd_same H pp (.tup ps)
    generalize upd H pp (.tup ps) = H1 at sp hpp ⊢
    refine ⟨_, rfl, pp, aS, ps, f0.sorts.map V.str, rfl, .inr ⟨SqT.of hpp, sq _, tabg_same sp t2, fun H2 tb2 => ?_⟩⟩
    have b0 : TB2 T1 T2 H H2 := (TB2.same t1 t2 sp).tr (.two ne (tabg_same sp t1) tb2)
    have b1 : TB2 T1 T2 H1 H2 := .two ne (tabg_same sp t1) tb2
    have hp2 : H2 pp = some (.tup ps) := b1.keep (tabg_same sp t1) (tabg_same sp t2) hpp (by intro ps z; cases z)
    refine ⟨fun i m H' => m = ps.length - i ∧ i ≤ ps.length ∧ H' pp = some (.tup ps) ∧ TB2 T1 T2 H H' ∧ ∀ (j : Nat) (v : V) (x : Str), j < i → ps[j]? = some v → f0.sorts[j]? = some x → fitB v x = true, ⟨_, rfl, Nat.zero_le _, hp2, b0, fun j v x hj => absurd hj (Nat.not_lt_zero _)⟩, ?_⟩
    rintro i m H3 ⟨rfl, hi, hp3, b3, hfit⟩
    by_cases lt : i < ps.length
    · refine .inr ⟨⟨ps, f0.sorts.map V.str, ps[i], .str (f0.sorts[i]'(by rw [← ll]; exact lt)), SqT.of hp3, sq _, List.getElem?_eq_getElem lt, ?_⟩, fun v H4 y => ?_⟩
      · rw [List.getElem?_map, List.getElem?_eq_getElem (by rw [← ll]; exact lt)]
        rfl
      · obtain ⟨TT, x', y', rfl, nT, rfl, f1, f2⟩ := y
        have g1 := f1 ps (SqT.of hp3)
        have g2 := f2 (f0.sorts.map V.str) (sq _)
        rw [List.getElem?_map] at g2
        obtain ⟨srt, hsrt, rfl⟩ := Option.map_eq_some_iff.mp g2
        have s4 := @same_new _ _ (.tup [x', V.str srt]) nT
        have b4 : TB2 T1 T2 H (upd H3 TT (.tup [x', V.str srt])) := b3.tr (.same b3.2.1 b3.2.2 s4)
        have hx' : Thg (upd H3 TT (.tup [x', V.str srt])) x' := (hT x' (List.mem_cons_of_mem _ (List.mem_of_getElem? g1))).on fun a' o' _ e' n' => b4.keep t1 t2 e' n'
        refine ⟨TT, _, rfl, SqT.of upd_same, rfl, _, _, rfl, _, _, rfl, rfl, rfl, yesT ?_⟩
        refine ⟨_, rfl, _, rfl, x', srt, rfl, hx', f0.sorts_in srt (List.mem_of_getElem? hsrt), b4.2.1, fun H5 tb5 => ?_⟩
        have b5 : TB2 T1 T2 H H5 := b4.tr (.one ne b4.2.2 tb5)
        have b45 : TB2 T1 T2 (upd H3 TT (.tup [x', V.str srt])) H5 := .one ne b4.2.2 tb5
        cases fit : fitB x' srt with
        | true =>
          refine ⟨true, rfl, iteT ⟨_, by omega, rfl, lt, b45.keep b4.2.1 b4.2.2 (s4 _ _ hp3) (by intro ps z; cases z), b5, fun j v x hj hv hx => ?_⟩⟩
          by_cases ej : j = i
          · subst ej
            rw [g1] at hv
            rw [hsrt] at hx
            rw [← Option.some.inj hv, ← Option.some.inj hx]
            exact fit
          · exact hfit j v x (by omega) hv hx
        | false =>
          refine ⟨false, rfl, iteF ⟨false, rfl, iteT (qF ?_ H5 b5)⟩⟩
          rintro ⟨e, fine, h⟩
          have w0 : e.word = f0.word := V.str.inj (List.cons.inj h).1.symm
          have hps : ps = e.parts := (List.cons.inj h).2
          rw [hps] at g1
          have := (fine.fit i x' srt g1 (by rw [sorts_word w0]; exact hsrt)).2
          rw [fit] at this
          exact nomatch this
    · have ei : i = ps.length := by omega
      subst ei
      obtain ⟨e, we, rfl⟩ := ent_of ll fun j v x hv hx => hfit j v x (List.getElem?_eq_some_iff.mp hv).1 hv hx
      have ev : e.vals = (V.str f0.word) :: e.parts := by
        rw [← we]
        rfl
      refine .inl ⟨⟨e.parts, f0.sorts.map V.str, SqT.of hp3, sq _, .inl (Nat.le_refl _)⟩, ?_⟩
      refine ⟨true, rfl, iteF ?_⟩
      -- unlike places
      rw [← ev] at ha qT qF
      have ha3 : H3 a = some (.tup e.vals) := b3.keep t1 t2 ha (by intro ps z; cases z)
      refine ⟨_, rfl, a, e, rfl, ha3, fun tp H4 s4 ht => ?_⟩
      have b4 := b3.tr (.same b3.2.1 b3.2.2 s4)
      refine ⟨_, rfl, tp, e.places, rfl, SqT.of ht, Nat.le_trans (places_le e) (by decide), _, rfl, tp, _, rfl, .inr (SqT.of ht), rfl, ?_⟩
      by_cases ndp : e.places.Nodup
      · rw [once_nodup ndp, List.length_map, decide_eq_true rfl]
        refine qT ⟨e, ⟨fun j v x hv hx => ?_, ndp⟩, rfl⟩ H4 b4
        have hx2 : f0.sorts[j]? = some x := by rw [← sorts_word we]; exact hx
        have ft := hfit j v x (List.getElem?_eq_some_iff.mp hv).1 hv hx2
        exact ⟨fit_part (hT v (List.mem_cons_of_mem _ (List.mem_of_getElem? hv))) ft (f0.sorts_in x (List.mem_of_getElem? hx2)), ft⟩
      · rw [List.length_map, decide_eq_false fun q => once_len_nd ndp (by have := V.int.inj q; omega)]
        refine qF ?_ H4 b4
        rintro ⟨e', fine, h⟩
        rw [vals_inj h] at ndp
        exact ndp fine.apart
end
/-- of entries the old promise holds -/
theorem isE_old {T1 T2 : Addr} {vs : List V} {H : Hp} {Q : VK} {E : XK} (h : spIsEntry T1 T2 vs H Q E) : spIsEntryA T1 T2 vs H Q E := by
  obtain ⟨a, e, rfl, ha, fine, t1, t2, q⟩ := h
  refine ⟨_, rfl, t1, t2, .inr ⟨a, e.vals, rfl, ha, ?_, fun x hx => ?_, fun _ => q, fun n => absurd ⟨e, fine, rfl⟩ n⟩⟩
  · cases e <;> exact Nat.le_of_ble_eq_true rfl
  · rcases List.mem_cons.mp hx with rfl | hx
    · exact .str _ ((by decide +kernel : ∀ w ∈ words7, w.length ≤ 1000) _ e.word_in)
    · obtain ⟨i, hi⟩ := List.mem_iff_getElem?.mp hx
      have lt := (List.getElem?_eq_some_iff.mp hi).1
      exact .of_part (fine.fit i x _ hi (List.getElem?_eq_getElem (by rw [← e.len_parts]; exact lt))).1
/-! ### what is an entry, part by part -/
def fitsA : List V → List Str → Bool
  | v :: vs, x :: xs => fitB v x && fitsA vs xs
  | _, _ => true
theorem fitsA_of : ∀ (ps : List V) (ss : List Str), (∀ (i : Nat) (v : V) (x : Str), ps[i]? = some v → ss[i]? = some x → fitB v x = true) → fitsA ps ss = true
  | [], _, _ => by unfold fitsA; rfl
  | _ :: _, [], _ => by unfold fitsA; rfl
  | v :: vs, x :: xs, h => by
    show (fitB v x && fitsA vs xs) = true
    rw [h 0 v x rfl rfl, fitsA_of vs xs fun i v x h1 h2 => h (i + 1) v x h1 h2]
    rfl
theorem of_fitsA : ∀ (ps : List V) (ss : List Str), fitsA ps ss = true → ∀ (i : Nat) (v : V) (x : Str), ps[i]? = some v → ss[i]? = some x → fitB v x = true
  | [], _, _, _, _, _, h1, _ => by rw [List.getElem?_nil] at h1; exact nomatch h1
  | _ :: _, [], _, _, _, _, _, h2 => by rw [List.getElem?_nil] at h2; exact nomatch h2
  | v :: vs, x :: xs, h, 0, _, _, h1, h2 => by
    cases h1
    cases h2
    exact (Bool.and_eq_true_iff.mp (show (fitB v x && fitsA vs xs) = true from h)).1
  | v :: vs, x :: xs, h, i + 1, v', x', h1, h2 => of_fitsA vs xs (Bool.and_eq_true_iff.mp (show (fitB v x && fitsA vs xs) = true from h)).2 i v' x' h1 h2
theorem isE_len {f : Ent} {ps : List V} (h : IsE (.str f.word :: ps)) : ps.length = f.sorts.length := by
  obtain ⟨e, _, q⟩ := h
  have w0 : e.word = f.word := V.str.inj (List.cons.inj q).1.symm
  rw [(List.cons.inj q).2, ← sorts_word w0]
  exact e.len_parts
theorem isE_fits {f : Ent} {ps : List V} (h : IsE (.str f.word :: ps)) : fitsA ps f.sorts = true := by
  obtain ⟨e, fi, q⟩ := h
  have w0 : e.word = f.word := V.str.inj (List.cons.inj q).1.symm
  rw [(List.cons.inj q).2, ← sorts_word w0]
  exact fitsA_of _ _ fun i v x h1 h2 => (fi.fit i v x h1 h2).2
theorem isE_mk {H : Hp} {f : Ent} {ps : List V} (hT : ∀ v ∈ ps, Thg H v) (l : ps.length = f.sorts.length) (h : fitsA ps f.sorts = true) (ap : ∀ e : Ent, e.word = f.word → e.parts = ps → e.places.Nodup) : IsE (.str f.word :: ps) := by
  have ft := of_fitsA _ _ h
  obtain ⟨e, we, rfl⟩ := ent_of l ft
  refine ⟨e, ⟨fun j v x hv hx => ?_, ap e we rfl⟩, ?_⟩
  · have hx2 : f.sorts[j]? = some x := by rw [← sorts_word we]; exact hx
    have q := ft j v x hv hx2
    exact ⟨fit_part (hT v (List.mem_of_getElem? hv)) q (f.sorts_in x (List.mem_of_getElem? hx2)), q⟩
  · rw [← we]
    rfl
theorem fit_n {v : V} : fitB v "name" = nmV v := if_pos rfl
theorem fit_e {v : V} : fitB v "end" = (decide (v = .str "") || nmV v) := by
  unfold fitB
  rw [if_neg ken, if_pos rfl]
/-- a number between -/
def whB (lo hi : Int) : V → Bool
  | .int i => decide (lo ≤ i) && decide (i ≤ hi)
  | _ => false
theorem fit_mo {v : V} : fitB v "moment" = whB 0 9999 v := by
  unfold fitB
  rw [if_neg kmn, if_neg kme]
  cases v <;> simp [inB, whB, bnd]
theorem fit_ma {v : V} : fitB v "many" = whB 1 1000000000 v := by
  unfold fitB
  rw [if_neg kyn, if_neg kye]
  cases v <;> simp [inB, whB, bnd, kym]
theorem fit_co {v : V} : fitB v "counted" = whB 0 1000000000 v := by
  unfold fitB
  rw [if_neg kcn, if_neg kce]
  cases v <;> simp [inB, whB, bnd, kcm, kcy]
theorem fit_pr {v : V} : fitB v "price" = whB 0 1000000000 v := by
  unfold fitB
  rw [if_neg kpn, if_neg kpe]
  cases v <;> simp [inB, whB, bnd, kpm, kpy]
theorem isE_word {x0 : V} {ps : List V} (h : IsE (x0 :: ps)) : ∃ f : Ent, x0 = .str f.word := by
  obtain ⟨e, _, q⟩ := h
  exact ⟨e, (List.cons.inj q).1⟩
theorem isE_heads {x0 p0 p1 p2 p3 : V} {rest : List V} (h : IsE (x0 :: p0 :: p1 :: p2 :: p3 :: rest)) : nmV p0 = true ∧ whB 0 9999 p1 = true ∧ nmV p2 = true ∧ nmV p3 = true := by
  obtain ⟨f, rfl⟩ := isE_word h
  have ft := of_fitsA _ _ (isE_fits h)
  have s0 : f.sorts[0]? = some ("name" : Str) := by cases f <;> rfl
  have s1 : f.sorts[1]? = some ("moment" : Str) := by cases f <;> rfl
  have s2 : f.sorts[2]? = some ("name" : Str) := by cases f <;> rfl
  have s3 : f.sorts[3]? = some ("name" : Str) := by cases f <;> rfl
  exact ⟨by rw [← fit_n]; exact ft 0 p0 _ rfl s0, by rw [← fit_mo]; exact ft 1 p1 _ rfl s1, by rw [← fit_n]; exact ft 2 p2 _ rfl s2, by rw [← fit_n]; exact ft 3 p3 _ rfl s3⟩
theorem isE_five {xs : List V} (h : IsE xs) : 5 ≤ xs.length := by
  obtain ⟨e, _, rfl⟩ := h
  cases e <;> exact Nat.le_of_ble_eq_true rfl
theorem nm_str {v : V} (h : nmV v = true) : ∃ z, v = .str z ∧ nameB z = true := by
  cases v with
  | str z => exact ⟨z, rfl, h⟩
  | _ => exact nomatch h
/-- the ends of a move or of a some -/
def endsB (w y4 : Str) (v : V) : Bool := if w = "some" ∧ v = .str "" then true else nmV v && !decide (v = .str y4)
section
variable {H : Hp} {p0 p1 p2 p3 : V} {rest : List V} (h0 : nmV p0 = true) (h1 : whB 0 9999 p1 = true) (h2 : nmV p2 = true) (h3 : nmV p3 = true) (hT : ∀ v ∈ p0 :: p1 :: p2 :: p3 :: rest, Thg H v)
include h0 h1 h2 h3 hT
theorem isE_swap : IsE (.str "swap" :: p0 :: p1 :: p2 :: p3 :: rest) ↔ rest = [] ∧ p2 ≠ p3 := by
  constructor
  · intro h
    have l := isE_len (f := .swap "" 0 "" "") h
    have r : rest = [] := List.eq_nil_of_length_eq_zero (by simp only [List.length_cons, Ent.sorts, List.length_nil] at l; omega)
    subst r
    refine ⟨rfl, fun z => ?_⟩
    obtain ⟨e, fi, q⟩ := h
    subst z
    have w0 : e.word = "swap" := V.str.inj (List.cons.inj q).1.symm
    cases e with
    | swap n m o t =>
      have q2 := (List.cons.inj q).2
      simp only [Ent.vals, Ent.rest, Ent.name, Ent.moment, List.cons.injEq] at q2
      have : o = t := V.str.inj (q2.2.2.1.symm.trans q2.2.2.2.1)
      subst this
      exact (List.nodup_cons.mp fi.apart).1 (List.mem_singleton.mpr rfl)
    | _ => exact absurd w0 (wno (by decide +kernel))
  · rintro ⟨rfl, ne⟩
    refine isE_mk (f := .swap "" 0 "" "") hT rfl ?_ fun e we ep => ?_
    · show (fitB p0 "name" && (fitB p1 "moment" && (fitB p2 "name" && (fitB p3 "name" && true)))) = true
      rw [fit_n, fit_mo, fit_n, fit_n, h0, h1, h2, h3]
      rfl
    · cases e with
      | swap n m o t =>
        simp only [Ent.parts, Ent.rest, List.cons.injEq] at ep
        refine List.nodup_cons.mpr ⟨fun z => ne ?_, nd1 t⟩
        rw [← ep.2.2.1, ← ep.2.2.2.1, List.mem_singleton.mp z]
      | _ => exact absurd we (wno (by decide +kernel))
theorem isE_look : IsE (.str "look" :: p0 :: p1 :: p2 :: p3 :: rest) ↔ rest = [] := by
  constructor
  · intro h
    have l := isE_len (f := .look "" 0 "" "") h
    exact List.eq_nil_of_length_eq_zero (by simp only [List.length_cons, Ent.sorts, List.length_nil] at l; omega)
  · rintro rfl
    refine isE_mk (f := .look "" 0 "" "") hT rfl ?_ fun e we ep => ?_
    · show (fitB p0 "name" && (fitB p1 "moment" && (fitB p2 "name" && (fitB p3 "name" && true)))) = true
      rw [fit_n, fit_mo, fit_n, fit_n, h0, h1, h2, h3]
      rfl
    · cases e with
      | look n m g p => exact nd1 p
      | _ => exact absurd we (wno (by decide +kernel))
theorem isE_come : IsE (.str "come" :: p0 :: p1 :: p2 :: p3 :: rest) ↔ ∃ x y, rest = [x, y] ∧ whB 1 1000000000 x = true ∧ whB 0 1000000000 y = true := by
  constructor
  · intro h
    have l := isE_len (f := .come "" 0 "" "" 0 0) h
    match rest, l with
    | [x, y], _ =>
      have q := isE_fits (f := .come "" 0 "" "" 0 0) h
      have q' : (fitB p0 "name" && (fitB p1 "moment" && (fitB p2 "name" && (fitB p3 "name" && (fitB x "many" && (fitB y "price" && true)))))) = true := q
      rw [fit_n, fit_mo, fit_n, fit_n, h0, h1, h2, h3, fit_ma, fit_pr] at q'
      simp only [Bool.true_and, Bool.and_true, Bool.and_eq_true] at q'
      exact ⟨x, y, rfl, q'⟩
  · rintro ⟨x, y, rfl, hx, hy⟩
    refine isE_mk (f := .come "" 0 "" "" 0 0) hT rfl ?_ fun e we ep => ?_
    · show (fitB p0 "name" && (fitB p1 "moment" && (fitB p2 "name" && (fitB p3 "name" && (fitB x "many" && (fitB y "price" && true)))))) = true
      rw [fit_n, fit_mo, fit_n, fit_n, h0, h1, h2, h3, fit_ma, fit_pr, hx, hy]
      rfl
    · cases e with
      | come n m g p k r => exact nd1 p
      | _ => exact absurd we (wno (by decide +kernel))
theorem isE_go : IsE (.str "go" :: p0 :: p1 :: p2 :: p3 :: rest) ↔ ∃ x, rest = [x] ∧ whB 1 1000000000 x = true := by
  constructor
  · intro h
    have l := isE_len (f := .go "" 0 "" "" 0) h
    match rest, l with
    | [x], _ =>
      have q := isE_fits (f := .go "" 0 "" "" 0) h
      have q' : (fitB p0 "name" && (fitB p1 "moment" && (fitB p2 "name" && (fitB p3 "name" && (fitB x "many" && true))))) = true := q
      rw [fit_n, fit_mo, fit_n, fit_n, h0, h1, h2, h3, fit_ma] at q'
      simp only [Bool.true_and, Bool.and_true] at q'
      exact ⟨x, rfl, q'⟩
  · rintro ⟨x, rfl, hx⟩
    refine isE_mk (f := .go "" 0 "" "" 0) hT rfl ?_ fun e we ep => ?_
    · show (fitB p0 "name" && (fitB p1 "moment" && (fitB p2 "name" && (fitB p3 "name" && (fitB x "many" && true))))) = true
      rw [fit_n, fit_mo, fit_n, fit_n, h0, h1, h2, h3, fit_ma, hx]
      rfl
    · cases e with
      | go n m g p k => exact nd1 p
      | _ => exact absurd we (wno (by decide +kernel))
theorem isE_count : IsE (.str "count" :: p0 :: p1 :: p2 :: p3 :: rest) ↔ ∃ x y, rest = [x, y] ∧ whB 0 1000000000 x = true ∧ nmV y = true := by
  constructor
  · intro h
    have l := isE_len (f := .count "" 0 "" "" 0 "") h
    match rest, l with
    | [x, y], _ =>
      have q := isE_fits (f := .count "" 0 "" "" 0 "") h
      have q' : (fitB p0 "name" && (fitB p1 "moment" && (fitB p2 "name" && (fitB p3 "name" && (fitB x "counted" && (fitB y "name" && true)))))) = true := q
      rw [fit_n, fit_mo, fit_n, fit_n, h0, h1, h2, h3, fit_co, fit_n] at q'
      simp only [Bool.true_and, Bool.and_true, Bool.and_eq_true] at q'
      exact ⟨x, y, rfl, q'⟩
  · rintro ⟨x, y, rfl, hx, hy⟩
    refine isE_mk (f := .count "" 0 "" "" 0 "") hT rfl ?_ fun e we ep => ?_
    · show (fitB p0 "name" && (fitB p1 "moment" && (fitB p2 "name" && (fitB p3 "name" && (fitB x "counted" && (fitB y "name" && true)))))) = true
      rw [fit_n, fit_mo, fit_n, fit_n, h0, h1, h2, h3, fit_co, fit_n, hx, hy]
      rfl
    · cases e with
      | count n m g p k r => exact nd1 p
      | _ => exact absurd we (wno (by decide +kernel))
theorem isE_move {y3 : Str} (hp : p3 = .str y3) : IsE (.str "move" :: p0 :: p1 :: p2 :: p3 :: rest) ↔ ∃ x y, rest = [x, y] ∧ endsB "move" y3 x = true ∧ whB 1 1000000000 y = true := by
  have eb : ∀ x, endsB "move" y3 x = (nmV x && !decide (x = .str y3)) := fun x => if_neg fun z => absurd z.1 (wno (by decide +kernel))
  subst hp
  constructor
  · intro h
    have l := isE_len (f := .move "" 0 "" "" "" 0) h
    match rest, l with
    | [x, y], _ =>
      have q := isE_fits (f := .move "" 0 "" "" "" 0) h
      have q' : (fitB p0 "name" && (fitB p1 "moment" && (fitB p2 "name" && (fitB (.str y3) "name" && (fitB x "name" && (fitB y "many" && true)))))) = true := q
      rw [fit_n, fit_mo, fit_n, fit_n, fit_n, h0, h1, h2, h3, fit_ma] at q'
      simp only [Bool.true_and, Bool.and_true, Bool.and_eq_true] at q'
      refine ⟨x, y, rfl, ?_, q'.2⟩
      rw [eb, q'.1]
      refine (Bool.true_and _).trans ?_
      rw [Bool.not_eq_true']
      refine decide_eq_false fun z => ?_
      subst z
      obtain ⟨e, fi, q⟩ := h
      have w0 : e.word = "move" := V.str.inj (List.cons.inj q).1.symm
      cases e with
      | move n m g o t k =>
        have q2 := (List.cons.inj q).2
        simp only [Ent.vals, Ent.rest, Ent.name, Ent.moment, List.cons.injEq] at q2
        have : o = t := V.str.inj (q2.2.2.2.1.symm.trans q2.2.2.2.2.1)
        subst this
        exact (List.nodup_cons.mp fi.apart).1 (List.mem_singleton.mpr rfl)
      | _ => exact absurd w0 (wno (by decide +kernel))
  · rintro ⟨x, y, rfl, hx, hy⟩
    rw [eb] at hx
    obtain ⟨hx1, hx2⟩ := Bool.and_eq_true_iff.mp hx
    refine isE_mk (f := .move "" 0 "" "" "" 0) hT rfl ?_ fun e we ep => ?_
    · show (fitB p0 "name" && (fitB p1 "moment" && (fitB p2 "name" && (fitB (.str y3) "name" && (fitB x "name" && (fitB y "many" && true)))))) = true
      rw [fit_n, fit_mo, fit_n, fit_n, fit_n, h0, h1, h2, h3, fit_ma, hx1, hy]
      rfl
    · cases e with
      | move n m g o t k =>
        simp only [Ent.parts, Ent.rest, List.cons.injEq] at ep
        refine List.nodup_cons.mpr ⟨fun z => ?_, nd1 t⟩
        rw [Bool.not_eq_true'] at hx2
        refine of_decide_eq_false hx2 ?_
        rw [← ep.2.2.2.2.1, ← ep.2.2.2.1, List.mem_singleton.mp z]
      | _ => exact absurd we (wno (by decide +kernel))
theorem isE_some {y3 : Str} (hp : p3 = .str y3) : IsE (.str "some" :: p0 :: p1 :: p2 :: p3 :: rest) ↔ ∃ x, rest = [x] ∧ endsB "some" y3 x = true := by
  have ne3 : y3 ≠ "" := name_ne (by rw [hp] at h3; exact h3)
  subst hp
  constructor
  · intro h
    have l := isE_len (f := .some_ "" 0 "" "" "") h
    match rest, l with
    | [x], _ =>
      have q := isE_fits (f := .some_ "" 0 "" "" "") h
      have q' : (fitB p0 "name" && (fitB p1 "moment" && (fitB p2 "name" && (fitB (.str y3) "name" && (fitB x "end" && true))))) = true := q
      rw [fit_n, fit_mo, fit_n, fit_n, h0, h1, h2, h3, fit_e] at q'
      simp only [Bool.true_and, Bool.and_true] at q'
      refine ⟨x, rfl, ?_⟩
      unfold endsB
      by_cases z : x = .str ""
      · rw [if_pos ⟨rfl, z⟩]
      · rw [if_neg fun y => z y.2]
        rw [decide_eq_false z, Bool.false_or] at q'
        rw [q']
        refine (Bool.true_and _).trans ?_
        rw [Bool.not_eq_true']
        refine decide_eq_false fun z2 => ?_
        subst z2
        obtain ⟨e, fi, q⟩ := h
        have w0 : e.word = "some" := V.str.inj (List.cons.inj q).1.symm
        cases e with
        | some_ n m g o t =>
          have q2 := (List.cons.inj q).2
          simp only [Ent.vals, Ent.rest, Ent.name, Ent.moment, List.cons.injEq] at q2
          have e1 : y3 = o := V.str.inj q2.2.2.2.1
          have e2 : y3 = t := V.str.inj q2.2.2.2.2.1
          have := fi.apart
          rw [show Ent.places (.some_ n m g o t) = [o, t] from if_neg (by rw [← e2]; exact ne3), ← e1, ← e2] at this
          exact (List.nodup_cons.mp this).1 (List.mem_singleton.mpr rfl)
        | _ => exact absurd w0 (wno (by decide +kernel))
  · rintro ⟨x, rfl, hx⟩
    unfold endsB at hx
    have fx : fitB x "end" = true := by
      rw [fit_e]
      by_cases z : x = .str ""
      · rw [decide_eq_true z]
        rfl
      · rw [if_neg fun y => z y.2] at hx
        rw [(Bool.and_eq_true_iff.mp hx).1, Bool.or_true]
    refine isE_mk (f := .some_ "" 0 "" "" "") hT rfl ?_ fun e we ep => ?_
    · show (fitB p0 "name" && (fitB p1 "moment" && (fitB p2 "name" && (fitB (.str y3) "name" && (fitB x "end" && true))))) = true
      rw [fit_n, fit_mo, fit_n, fit_n, h0, h1, h2, h3, fx]
      rfl
    · cases e with
      | some_ n m g o t =>
        simp only [Ent.parts, Ent.rest, List.cons.injEq] at ep
        show (if t = "" then [o] else [o, t]).Nodup
        by_cases z : t = ""
        · rw [if_pos z]
          exact nd1 o
        · rw [if_neg z]
          have xz : x ≠ .str "" := fun q => z (V.str.inj (ep.2.2.2.2.1.trans q))
          rw [if_neg fun y => xz y.2] at hx
          have hx2 := (Bool.and_eq_true_iff.mp hx).2
          rw [Bool.not_eq_true'] at hx2
          refine List.nodup_cons.mpr ⟨fun y => of_decide_eq_false hx2 ?_, nd1 t⟩
          rw [← ep.2.2.2.2.1, ← ep.2.2.2.1, List.mem_singleton.mp y]
      | _ => exact absurd we (wno (by decide +kernel))
end
/-! ### the law's own names and entries -/
def spOwn3 : Sp := fun vs H Q _ => ∃ v : V, vs = [v] ∧ Thg H v ∧ (∀ z, v = .str z → PyData.strOk z = true) ∧ ∀ H', Same H H' → Q (.bl (nmV v)) H'
def spLWhole : Sp := fun vs H Q _ => ∃ (v : V) (lo hi : Int), vs = [v, .int lo, .int hi] ∧ Thg H v ∧ Q (.bl (whB lo hi v)) H
def spEnds : Sp := fun vs H Q _ => ∃ (a : Addr) (xs : List V) (z y4 : Str) (v : V), vs = [.ref a] ∧ H a = some (.tup xs) ∧ xs[0]? = some (.str z) ∧ xs[4]? = some (.str y4) ∧ xs[5]? = some v ∧ Thg H v ∧ (∀ z, v = .str z → PyData.strOk z = true) ∧ ∀ H', Same H H' → Q (.bl (endsB z y4 v)) H'
def Okv (v : V) : Prop := ∀ z, v = .str z → PyData.strOk z = true
def spLIsE : Sp := fun vs H Q _ => ∃ v : V, vs = [v] ∧ ((Thg H v ∧ (∀ a xs, v = .ref a → H a ≠ some (.tup xs)) ∧ ∀ H', Same H H' → Q (.bl false) H') ∨
  ∃ (a : Addr) (xs : List V), v = .ref a ∧ H a = some (.tup xs) ∧ xs.length ≤ 1000 ∧ (∀ x ∈ xs, Thg H x ∧ Okv x) ∧ ∀ b, (b = true ↔ IsE xs) → ∀ H', Same H H' → Q (.bl b) H')
/-- texts of single signs that are no letters -/
def badS (l : List Nat) : List Str := (l.filter fun c => !decide (c ∈ abc.cps.toList)).map fun c => ⟨#[c]⟩
theorem lay_sign : ∀ {l : List Nat}, (∀ c ∈ l, c < 0x110000) → PyData.canLayAll0 ((badS l).map PyData.str) = true
  | [], _ => rfl
  | c :: r, h => by
    have ih := lay_sign (l := r) fun z hz => h z (List.mem_cons_of_mem _ hz)
    have ok : PyData.strOk ⟨#[c]⟩ = true := by
      unfold PyData.strOk
      rw [← Array.all_toList]
      show (([c] : List Nat).all fun c => decide (c < 0x110000)) = true
      rw [List.all_cons, decide_eq_true (h c List.mem_cons_self)]
      rfl
    unfold badS at ih ⊢
    rw [List.filter_cons]
    split
    · rw [List.map_cons, List.map_cons, PyData.canLayAll0, PyData.canLay0, ok, ih]
      rfl
    · exact ih
theorem deep_strs3 : ∀ ys : List Str, PyData.depthAll (ys.map PyData.str) = 0
  | [] => rfl
  | _ :: r => by simp [PyData.depthAll, PyData.depth, deep_strs3 r]
theorem dp_strs3 {K : PySem.W.Frag} {H : Hp} : ∀ ys : List Str, DpAll K H (ys.map V.str) (ys.map PyData.str)
  | [] => .nil
  | y :: r => .cons (.str y) (dp_strs3 r)
theorem eqv_nil (ys : List Str) : PyData.eqv (.list (ys.map PyData.str)) (.list []) = decide (ys = []) := by
  cases ys with
  | nil => simp [PyData.eqv, PyData.eqvAll]
  | cons y r => simp [PyData.eqv, PyData.eqvAll]
theorem badS_nil {l : List Nat} : decide (badS l = []) = l.all signB := by
  unfold badS
  rw [Bool.eq_iff_iff, decide_eq_true_eq, List.map_eq_nil_iff, List.filter_eq_nil_iff, List.all_eq_true]
  exact ⟨fun h c hc => by simpa [signB] using h c hc, fun h c hc => by simpa [signB] using h c hc⟩
section
variable {P : Program} {w : World} {K : PySem.W.Frag} {mg : Str → Option Value} {base : Heap}
abbrev sOwnN : List Str := ["_law_thing", "_law_sign"]
theorem sc_sOwn : FnScope sOwnN ["_law_thing"] (defScope sOwn) := ⟨rfl, rfl, rfl, by decide +kernel, rfl, by decide +kernel, by decide +kernel⟩
theorem ok_own3 {f : Addr} {fd : FuncData} (F : Fun K "_law_is_name" "_law_is_name" sOwn f fd) (mis : mg "isinstance" = none) (mT_str : mg "str" = none) (ml : mg "len" = none) : FnOk P w K mg base CX0 1 f fd ["_law_thing"] spOwn3 := by
  refine F.ok sc_sOwn (fun vs H Q E h => ?_) (fun cdv A outer s H vs Q E hr h => ?_)
  · obtain ⟨v, rfl, _⟩ := h
    rfl
  · obtain ⟨v, rfl, th, so, q⟩ := h
    have nd := sc_sOwn.nd
    refine ⟨_, pss_cons (ps_if (PW.pt (pw_or (pt_not (pt_val (pe_callB call_isi (by rfl) mis (by decide +kernel) (pa_cons (pv 0) (pa_cons (pe_bltn (v := .ty "str") (u := .type "str") (by rfl) mT_str (by decide +kernel) rfl) pa_nil))))) (pw_or (pt_cmpR op_eq (pe_callB call_len_str (by rfl) ml PySem.boot_len (pa_cons (pv 0) pa_nil)) pe_int (nomark _)) (pw_or1 (pt_cmpR op_gt (pe_callB call_len_str (by rfl) ml PySem.boot_len (pa_cons (pv 0) pa_nil)) pe_int (nomark _)))))) (pss_one (ps_ret pe_bl)) pss_nil)
      (pss_one (ps_ret (pe_cmpR (op_eqD hr.units) (pe_lc (own := [("_law_sign", 1)]) (g := gName 1) (tt := _) (te := tVar 1) rfl nd (pi_str (pv 0)) (blkOk_by (N := sOwnN) (sc := defScope sOwn) (by decide +kernel)) (fun _ _ _ _ _ => (pg_name (i := 1) nd rfl (Or.inl rfl))) (fun _ _ _ _ _ => (pts_one (pt_cmpR op_notIn_sign (pv 1) pe_str (by rfl)))) (fun _ _ _ _ _ => (pv 1))) (pe_lst pa_nil) (nomark _)))), ?_⟩
    obtain ⟨n, ty, m, st, _⟩ := th.ty (K := K)
    by_cases zs : n = "str"
    rotate_left
    · have e : nmV v = false := by
        cases v with
        | str z => exact absurd (st.mpr ⟨z, rfl⟩) zs
        | _ => rfl
      rw [e] at q
      exact ⟨_, rfl, _, _, _, _, false, rfl, .ty "str", ty, kit_ty (by rw [kit_str m, decide_eq_false zs]), _, rfl, iteT (q H fun _ _ h => h)⟩
    obtain ⟨z, rfl⟩ := st.mp zs
    have hz1 : z.length ≤ 1000 := by cases th with | str _ h => exact h
    have hz : z.length ≤ sizeLine := Nat.le_of_lt (small1000 hz1)
    have zo : ∀ c ∈ z.cps.toList, c < 0x110000 := by
      have h := so z rfl
      unfold PyData.strOk at h
      rw [← Array.all_toList, List.all_eq_true] at h
      exact fun c hc => of_decide_eq_true (h c hc)
    refine ⟨_, rfl, _, _, _, _, true, rfl, .ty "str", .base (.str z), kit_ty (by decide +kernel), _, rfl, iteF ?_⟩
    have q2 : ∀ H', Same H H' → Q (.bl (nameB z)) H' := q
    refine ⟨_, rfl, z, rfl, hz, rfl, _, rfl, ite2 (fun e1 => ?_) (fun e1 => ?_)⟩
    · have e2 : (z.length : Int) = 0 := V.int.inj (of_decide_eq_true e1)
      rw [nameB_short (by omega)] at q2
      exact q2 H fun _ _ h => h
    have e2 : ¬ (z.length : Int) = 0 := fun h => e1 (decide_eq_true (congrArg V.int h))
    refine ⟨_, rfl, z, rfl, hz, _, 8, rfl, rfl, _, rfl, ite2 (fun e3 => ?_) (fun e3 => ?_)⟩
    · have e4 : (8 : Int) < (z.length : Int) := of_decide_eq_true e3
      rw [nameB_long (by omega)] at q2
      exact q2 H fun _ _ h => h
    have e4 : ¬ (8 : Int) < (z.length : Int) := fun h => e3 (decide_eq_true h)
    rw [nameB_in (by omega) (by omega), ← badS_nil] at q2
    refine ⟨_, rfl, z, rfl, fun D nD => lc_it walk_str (fun i H' => Same H H' ∧ H' D = some (.lst ((badS (z.cps.toList.take i)).map V.str))) ⟨same_new nD, upd_same⟩ (fun _ _ _ _ => True.intro) ?_ ?_⟩
    · rintro i v H1 H2 hi ⟨s1, h1⟩ ⟨rfl, cc, hc, rfl⟩
      have hc' : z.cps.toList[i]? = some cc := by rw [Array.getElem?_toList]; exact hc
      have tk : badS (z.cps.toList.take (i + 1)) = badS (z.cps.toList.take i) ++ badS [cc] := by
        rw [List.take_add_one, hc']
        unfold badS
        rw [List.filter_append, List.map_append]
        rfl
      refine ⟨rfl, _, rfl, cc, abc, rfl, rfl, _, rfl, ?_⟩
      have lb : (badS (z.cps.toList.take i)).length ≤ 1000 := by
        unfold badS
        rw [List.length_map]
        refine Nat.le_trans (List.length_filter_le _ _) (Nat.le_trans (List.length_take_le _ _) (Nat.le_trans (Nat.le_of_lt hi) hz1))
      by_cases b : cc ∈ abc.cps.toList
      · rw [decide_eq_true b]
        refine iteF ⟨s1, ?_⟩
        rw [tk]
        have : badS [cc] = [] := by
          unfold badS
          rw [List.filter_cons, decide_eq_true b]
          rfl
        rw [this, List.append_nil]
        exact h1
      · rw [decide_eq_false b]
        refine iteT ⟨_, rfl, _, h1, ?_, ?_, ?_⟩
        · rw [List.length_map]
          exact Nat.lt_of_le_of_lt lb (by decide)
        · exact fun a o e => by
            rw [upd_ne (fun w => by rw [w] at e; rw [nD] at e; exact nomatch e)]
            exact s1 a o e
        · rw [tk]
          have : badS [cc] = [⟨#[cc]⟩] := by
            unfold badS
            rw [List.filter_cons, decide_eq_false b]
            rfl
          rw [this, List.map_append]
          exact upd_same
    · rintro H2 ⟨s2, h2⟩
      refine ⟨Nat.zero_le _, fun p np => ?_⟩
      have s3 : Same H2 (upd H2 p (.lst [])) := same_new np
      have h3 : (upd H2 p (.lst [])) p = some (.lst []) := upd_same
      have hD := s3 _ _ h2
      generalize upd H2 p (.lst []) = H3 at s3 h3 hD ⊢
      have full : z.cps.toList.take z.cps.size = z.cps.toList := List.take_of_length_le (Nat.le_of_eq (Array.length_toList ..))
      rw [full] at hD
      refine ⟨_, _, .lst (SqL.of hD) (dp_strs3 _), .lst (SqL.of h3) .nil, ?_, by decide +kernel, ?_⟩
      · simp [SeqAt.shaped, PyData.canLay0, PyData.depth, lay_sign zo, deep_strs3]
      · rw [eqv_nil]
        exact q2 H3 (s2.trans s3)
abbrev sLWholeN : List Str := ["_law_thing", "_law_least", "_law_most"]
theorem sc_sLWhole : FnScope sLWholeN ["_law_thing", "_law_least", "_law_most"] (defScope sLWhole) := ⟨rfl, rfl, rfl, by decide +kernel, rfl, by decide +kernel, by decide +kernel⟩
theorem ok_lwhole {f : Addr} {fd : FuncData} (F : Fun K "_law_whole" "_law_whole" sLWhole f fd) (mis : mg "isinstance" = none) (mT_int : mg "int" = none) (mT_bool : mg "bool" = none) : FnOk P w K mg base CX0 1 f fd ["_law_thing", "_law_least", "_law_most"] spLWhole := by
  refine F.ok sc_sLWhole (fun vs H Q E h => ?_) (fun cdv A outer s H vs Q E hr h => ?_)
  · obtain ⟨v, lo, hi, rfl, _⟩ := h
    rfl
  · obtain ⟨v, lo, hi, rfl, th, q⟩ := h
    have nd := sc_sLWhole.nd
    refine ⟨_, pss_one (ps_ret (pe_and (pe_callB call_isi (by rfl) mis (by decide +kernel) (pa_cons (pv 0) (pa_cons (pe_bltn (v := .ty "int") (u := .type "int") (by rfl) mT_int (by decide +kernel) rfl) pa_nil))) (pe_and (pe_not (pe_callB call_isi (by rfl) mis (by decide +kernel) (pa_cons (pv 0) (pa_cons (pe_bltn (v := .ty "bool") (u := .type "bool") (by rfl) mT_bool (by decide +kernel) rfl) pa_nil)))) (pe_one (pe_chain op_le op_le (pv 1) (pv 0) (pv 2)))))), ?_⟩
    cases th with
    | str z h => exact ⟨_, rfl, _, _, _, _, false, rfl, .ty "int", .base (.str z), kit_ty (by decide +kernel), _, rfl, iteF q⟩
    | int i =>
      refine ⟨_, rfl, _, _, _, _, true, rfl, .ty "int", .base (.int i), kit_ty (by decide +kernel), _, rfl, iteT ⟨_, rfl, _, _, _, _, false, rfl, .ty "bool", .base (.int i), kit_ty (by decide +kernel), _, rfl, _, rfl, iteT ?_⟩⟩
      have q0 : Q (.bl (decide (lo ≤ i) && decide (i ≤ hi))) H := q
      refine ⟨_, rfl, _, rfl, lo, i, rfl, rfl, _, rfl, ite2 (fun a1 => ?_) (fun a1 => ?_)⟩
      · rw [a1, Bool.true_and] at q0
        exact ⟨_, rfl, i, hi, rfl, rfl, q0⟩
      · rw [Bool.eq_false_iff.mpr a1, Bool.false_and] at q0
        exact q0
    | bl b => exact ⟨_, rfl, _, _, _, _, true, rfl, .ty "int", .base (.bl b), kit_ty (by decide +kernel), _, rfl, iteT ⟨_, rfl, _, _, _, _, true, rfl, .ty "bool", .base (.bl b), kit_ty (by decide +kernel), _, rfl, _, rfl, iteF q⟩⟩
    | non => exact ⟨_, rfl, _, _, _, _, false, rfl, .ty "int", .base .non, kit_ty (by decide +kernel), _, rfl, iteF q⟩
    | lst h => exact ⟨_, rfl, _, _, _, _, false, rfl, .ty "int", .base (.lst h), kit_ty (by decide +kernel), _, rfl, iteF q⟩
    | tup h => exact ⟨_, rfl, _, _, _, _, false, rfl, .ty "int", .base (.tup h), kit_ty (by decide +kernel), _, rfl, iteF q⟩
    | dct h => exact ⟨_, rfl, _, _, _, _, false, rfl, .ty "int", .base (.dK h), kit_ty (by decide +kernel), _, rfl, iteF q⟩
abbrev sEndsN : List Str := ["_law_thing"]
theorem sc_sEnds : FnScope sEndsN ["_law_thing"] (defScope sEnds) := ⟨rfl, rfl, rfl, by decide +kernel, rfl, by decide +kernel, by decide +kernel⟩
theorem ok_ends {f fN : Addr} {fd dN : FuncData} (F : Fun K "_law_ends" "_law_ends" sEnds f fd) (NM : DefT P w K mg base "_law_is_name" 1 fN dN ["_law_thing"] spOwn3) (mis : mg "isinstance" = none) (mT_str : mg "str" = none) : FnOk P w K mg base CX0 2 f fd ["_law_thing"] spEnds := by
  refine F.ok sc_sEnds (fun vs H Q E h => ?_) (fun cdv A outer s H vs Q E hr h => ?_)
  · obtain ⟨a, xs, z, y4, v, rfl, _⟩ := h
    rfl
  · obtain ⟨a, xs, z, y4, v, rfl, ha, x0, x4, x5, th, so, q⟩ := h
    have nd := sc_sEnds.nd
    refine ⟨_, pss_cons (ps_if (PW.pt (pw_and (pt_cmpR op_eq (pe_ix ix_tup (pv 0) pe_int (fun _ _ => rfl)) pe_str (nomark _)) (pw_and (pt_val (pe_callB call_isi (by rfl) mis (by decide +kernel) (pa_cons (pe_ix ix_tup (pv 0) pe_int (fun _ _ => rfl)) (pa_cons (pe_bltn (v := .ty "str") (u := .type "str") (by rfl) mT_str (by decide +kernel) rfl) pa_nil)))) (pw_and1 (pt_cmpR op_eq (pe_ix ix_tup (pv 0) pe_int (fun _ _ => rfl)) pe_str (nomark _)))))) (pss_one (ps_ret pe_bl)) pss_nil)
      (pss_one (ps_ret (pe_and (pe_call NM.ok hr (by rfl) NM.g NM.kp NM.b .nil pass0 (pa_cons (pe_ix ix_tup (pv 0) pe_int (fun _ _ => rfl)) pa_nil)) (pe_one (pe_cmpR op_ne (pe_ix ix_tup (pv 0) pe_int (fun _ _ => rfl)) (pe_ix ix_tup (pv 0) pe_int (fun _ _ => rfl)) (nomark _)))))), ?_⟩
    have sq : ∀ {H'}, Same H H' → SqT K H' a xs := fun s => SqT.of (s _ _ ha)
    have s0 : Same H H := fun _ _ h => h
    -- is it a name that differs
    have last : ¬ (z = "some" ∧ v = .str "") → ∀ H', Same H H' → ((nmV v = true → Q (.bl (!decide (v = .str y4))) H') ∧ (nmV v = false → Q (.bl false) H')) := fun n H' s' => by
      refine ⟨fun e => ?_, fun e => ?_⟩
      · have := q H' s'
        unfold endsB at this
        rw [if_neg n, e, Bool.true_and] at this
        exact this
      · have := q H' s'
        unfold endsB at this
        rw [if_neg n, e, Bool.false_and] at this
        exact this
    refine ⟨_, rfl, a, xs, 0, _, rfl, rfl, sq s0, atI_nat (j := 0) x0, rfl, _, rfl, ite2 (fun e1 => ?_) (fun e1 => ?_)⟩
    rotate_left
    · have k := last (fun y => e1 (decide_eq_true (congrArg V.str y.1)))
      refine ⟨_, rfl, a, xs, 5, _, rfl, rfl, sq s0, atI_nat (j := 5) x5, _, rfl, th, so, fun H' s' => ⟨_, rfl, ?_⟩⟩
      cases nv : nmV v with
      | false => exact iteF ((k H' s').2 nv)
      | true =>
        obtain ⟨y, vy, _⟩ := nm_str nv
        subst vy
        refine iteT ⟨_, rfl, a, xs, 4, _, rfl, rfl, sq s', atI_nat (j := 4) x4, _, rfl, a, xs, 5, _, rfl, rfl, sq s', atI_nat (j := 5) x5, rfl, ?_⟩
        have := (k H' s').1 nv
        rw [show decide (V.str y = V.str y4) = decide (V.str y4 = V.str y) from decide_eq_decide.mpr ⟨Eq.symm, Eq.symm⟩] at this
        exact this
    have ez : z = "some" := V.str.inj (of_decide_eq_true e1)
    obtain ⟨n, ty, m, st, _⟩ := th.ty (K := K)
    by_cases zs : n = "str"
    rotate_left
    · refine ⟨_, rfl, a, xs, 5, _, rfl, rfl, sq s0, atI_nat (j := 5) x5, _, _, _, _, false, rfl, .ty "str", ty, kit_ty (by rw [kit_str m, decide_eq_false zs]), _, rfl, iteF ?_⟩
      · have k := last (fun y => zs (st.mpr ⟨_, y.2⟩))
        refine ⟨_, rfl, a, xs, 5, _, rfl, rfl, sq s0, atI_nat (j := 5) x5, _, rfl, th, so, fun H' s' => ⟨_, rfl, ?_⟩⟩
        cases nv : nmV v with
        | false => exact iteF ((k H' s').2 nv)
        | true =>
          obtain ⟨y, vy, _⟩ := nm_str nv
          subst vy
          refine iteT ⟨_, rfl, a, xs, 4, _, rfl, rfl, sq s', atI_nat (j := 4) x4, _, rfl, a, xs, 5, _, rfl, rfl, sq s', atI_nat (j := 5) x5, rfl, ?_⟩
          have := (k H' s').1 nv
          rw [show decide (V.str y = V.str y4) = decide (V.str y4 = V.str y) from decide_eq_decide.mpr ⟨Eq.symm, Eq.symm⟩] at this
          exact this
    obtain ⟨y, rfl⟩ := st.mp zs
    refine ⟨_, rfl, a, xs, 5, _, rfl, rfl, sq s0, atI_nat (j := 5) x5, _, _, _, _, true, rfl, .ty "str", .base (.str y), kit_ty (by decide +kernel), _, rfl, iteT ?_⟩
    refine ⟨_, rfl, a, xs, 5, _, rfl, rfl, sq s0, atI_nat (j := 5) x5, rfl, _, rfl, ite2 (fun e2 => ?_) (fun e2 => ?_)⟩
    · have := q H s0
      unfold endsB at this
      rw [if_pos ⟨ez, of_decide_eq_true e2⟩] at this
      exact this
    · have k := last (fun y => e2 (decide_eq_true y.2))
      refine ⟨_, rfl, a, xs, 5, _, rfl, rfl, sq s0, atI_nat (j := 5) x5, _, rfl, th, so, fun H' s' => ⟨_, rfl, ?_⟩⟩
      cases nv : nmV (V.str y) with
      | false => exact iteF ((k H' s').2 nv)
      | true =>
        obtain ⟨y, vy, _⟩ := nm_str nv
        cases vy
        refine iteT ⟨_, rfl, a, xs, 4, _, rfl, rfl, sq s', atI_nat (j := 4) x4, _, rfl, a, xs, 5, _, rfl, rfl, sq s', atI_nat (j := 5) x5, rfl, ?_⟩
        have := (k H' s').1 nv
        rw [show decide (V.str y = V.str y4) = decide (V.str y4 = V.str y) from decide_eq_decide.mpr ⟨Eq.symm, Eq.symm⟩] at this
        exact this
end
section
variable {P : Program} {w : World} {K : PySem.W.Frag} {mg : Str → Option Value} {base : Heap}
theorem yyS {a : Str} : V.bl (decide (V.str a = V.str a)) = V.bl true := congrArg V.bl (decide_eq_true rfl)
theorem nnS {a b : Str} (h : a ≠ b) : V.bl (decide (V.str a = V.str b)) = V.bl false := congrArg V.bl (decide_eq_false fun z => h (V.str.inj z))
theorem cpow9 : CPow 10 9 := by show (0 : Int) ≤ 9 ∧ (9 : Int) ≤ 1000000 ∧ (10 : Int).natAbs < 2 ^ 64; decide
theorem e9 : (10 : Int) ^ (9 : Int).toNat = 1000000000 := by decide
abbrev sLIsEntryN : List Str := ["_law_thing", "_law_word"]
theorem sc_sLIsEntry : FnScope sLIsEntryN ["_law_thing"] (defScope sLIsEntry) := ⟨rfl, rfl, rfl, by decide +kernel, rfl, by decide +kernel, by decide +kernel⟩
set_option maxHeartbeats 2000000 in
theorem ok_lisE {f fN fW fE : Addr} {fd dN dW dE : FuncData} (F : Fun K "_law_is_entry" "_law_is_entry" sLIsEntry f fd) (NM : DefT P w K mg base "_law_is_name" 1 fN dN ["_law_thing"] spOwn3) (LW : DefT P w K mg base "_law_whole" 1 fW dW ["_law_thing", "_law_least", "_law_most"] spLWhole)
    (EN : DefT P w K mg base "_law_ends" 2 fE dE ["_law_thing"] spEnds) (mis : mg "isinstance" = none) (mT_tuple : mg "tuple" = none) (ml : mg "len" = none) (mT_str : mg "str" = none) : FnOk P w K mg base CX0 3 f fd ["_law_thing"] spLIsE := by
  refine F.ok sc_sLIsEntry (fun vs H Q E h => ?_) (fun cdv A outer s H vs Q E hr h => ?_)
  · obtain ⟨v, rfl, _⟩ := h
    rfl
  · obtain ⟨v, rfl, h⟩ := h
    have nd := sc_sLIsEntry.nd
    have hr1 : Room 1 _ := hr.mono (by decide)
    refine ⟨_, pss_cons (ps_if (PW.pt (pw_or (pt_not (pt_val (pe_callB call_isi (by rfl) mis (by decide +kernel) (pa_cons (pv 0) (pa_cons (pe_bltn (v := .ty "tuple") (u := .type "tuple") (by rfl) mT_tuple (by decide +kernel) rfl) pa_nil))))) (pw_or (pt_cmpR op_lt (pe_callB call_len_seq (by rfl) ml PySem.boot_len (pa_cons (pv 0) pa_nil)) pe_int (nomark _)) (pw_or1 (pt_not (pt_val (pe_callB call_isi (by rfl) mis (by decide +kernel) (pa_cons (pe_ix ix_tup (pv 0) pe_int (fun _ _ => rfl)) (pa_cons (pe_bltn (v := .ty "str") (u := .type "str") (by rfl) mT_str (by decide +kernel) rfl) pa_nil))))))))) (pss_one (ps_ret pe_bl)) pss_nil)
      (pss_cons (ps_if (PW.pt (pw_or (pt_not (pt_val (pe_call NM.ok hr1 (by rfl) NM.g NM.kp NM.b .nil pass0 (pa_cons (pe_ix ix_tup (pv 0) pe_int (fun _ _ => rfl)) pa_nil)))) (pw_or1 (pt_not (pt_val (pe_call LW.ok hr1 (by rfl) LW.g LW.kp LW.b .nil pass0 (pa_cons (pe_ix ix_tup (pv 0) pe_int (fun _ _ => rfl)) (pa_cons pe_int (pa_cons pe_int pa_nil))))))))) (pss_one (ps_ret pe_bl)) pss_nil)
      (pss_cons (ps_if (PW.pt (pw_or (pt_not (pt_val (pe_call NM.ok hr1 (by rfl) NM.g NM.kp NM.b .nil pass0 (pa_cons (pe_ix ix_tup (pv 0) pe_int (fun _ _ => rfl)) pa_nil)))) (pw_or1 (pt_not (pt_val (pe_call NM.ok hr1 (by rfl) NM.g NM.kp NM.b .nil pass0 (pa_cons (pe_ix ix_tup (pv 0) pe_int (fun _ _ => rfl)) pa_nil))))))) (pss_one (ps_ret pe_bl)) pss_nil)
      (pss_cons (ps_set (i := 1) nd rfl (Or.inl rfl) (pe_ix ix_tup (pv 0) pe_int (fun _ _ => rfl)))
      (pss_cons (ps_if (pt_cmpR op_eq (pv 1) pe_str (nomark _)) (pss_one (ps_ret (pe_and (pe_cmpR op_eq (pe_callB call_len_seq (by rfl) ml PySem.boot_len (pa_cons (pv 0) pa_nil)) pe_int (nomark _)) (pe_one (pe_cmpR op_ne (pe_ix ix_tup (pv 0) pe_int (fun _ _ => rfl)) (pe_ix ix_tup (pv 0) pe_int (fun _ _ => rfl)) (nomark _)))))) pss_nil)
      (pss_cons (ps_if (pt_cmpR op_eq (pv 1) pe_str (nomark _)) (pss_one (ps_ret (pe_cmpR op_eq (pe_callB call_len_seq (by rfl) ml PySem.boot_len (pa_cons (pv 0) pa_nil)) pe_int (nomark _)))) pss_nil)
      (pss_cons (ps_if (pt_cmpR op_eq (pv 1) pe_str (nomark _)) (pss_one (ps_ret (pe_and (pe_cmpR op_eq (pe_callB call_len_seq (by rfl) ml PySem.boot_len (pa_cons (pv 0) pa_nil)) pe_int (nomark _)) (pe_and (pe_call LW.ok hr1 (by rfl) LW.g LW.kp LW.b .nil pass0 (pa_cons (pe_ix ix_tup (pv 0) pe_int (fun _ _ => rfl)) (pa_cons pe_int (pa_cons (pe_op op_pow pe_int pe_int) pa_nil)))) (pe_one (pe_call LW.ok hr1 (by rfl) LW.g LW.kp LW.b .nil pass0 (pa_cons (pe_ix ix_tup (pv 0) pe_int (fun _ _ => rfl)) (pa_cons pe_int (pa_cons (pe_op op_pow pe_int pe_int) pa_nil))))))))) pss_nil)
      (pss_cons (ps_if (pt_cmpR op_eq (pv 1) pe_str (nomark _)) (pss_one (ps_ret (pe_and (pe_cmpR op_eq (pe_callB call_len_seq (by rfl) ml PySem.boot_len (pa_cons (pv 0) pa_nil)) pe_int (nomark _)) (pe_one (pe_call LW.ok hr1 (by rfl) LW.g LW.kp LW.b .nil pass0 (pa_cons (pe_ix ix_tup (pv 0) pe_int (fun _ _ => rfl)) (pa_cons pe_int (pa_cons (pe_op op_pow pe_int pe_int) pa_nil)))))))) pss_nil)
      (pss_cons (ps_if (pt_cmpR op_eq (pv 1) pe_str (nomark _)) (pss_one (ps_ret (pe_and (pe_cmpR op_eq (pe_callB call_len_seq (by rfl) ml PySem.boot_len (pa_cons (pv 0) pa_nil)) pe_int (nomark _)) (pe_and (pe_call EN.ok hr (by rfl) EN.g EN.kp EN.b .nil pass0 (pa_cons (pv 0) pa_nil)) (pe_one (pe_call LW.ok hr1 (by rfl) LW.g LW.kp LW.b .nil pass0 (pa_cons (pe_ix ix_tup (pv 0) pe_int (fun _ _ => rfl)) (pa_cons pe_int (pa_cons (pe_op op_pow pe_int pe_int) pa_nil))))))))) pss_nil)
      (pss_cons (ps_if (pt_cmpR op_eq (pv 1) pe_str (nomark _)) (pss_one (ps_ret (pe_and (pe_cmpR op_eq (pe_callB call_len_seq (by rfl) ml PySem.boot_len (pa_cons (pv 0) pa_nil)) pe_int (nomark _)) (pe_one (pe_call EN.ok hr (by rfl) EN.g EN.kp EN.b .nil pass0 (pa_cons (pv 0) pa_nil)))))) pss_nil)
      (pss_one (ps_ret (pe_and (pe_cmpR op_eq (pv 1) pe_str (nomark _)) (pe_and (pe_cmpR op_eq (pe_callB call_len_seq (by rfl) ml PySem.boot_len (pa_cons (pv 0) pa_nil)) pe_int (nomark _)) (pe_and (pe_call LW.ok hr1 (by rfl) LW.g LW.kp LW.b .nil pass0 (pa_cons (pe_ix ix_tup (pv 0) pe_int (fun _ _ => rfl)) (pa_cons pe_int (pa_cons (pe_op op_pow pe_int pe_int) pa_nil)))) (pe_one (pe_call NM.ok hr1 (by rfl) NM.g NM.kp NM.b .nil pass0 (pa_cons (pe_ix ix_tup (pv 0) pe_int (fun _ _ => rfl)) pa_nil))))))))))))))))), ?_⟩
    have s0 : Same H H := fun _ _ h => h
    rcases h with ⟨th, nt, q⟩ | ⟨a, xs, rfl, ha, lx, hT, q⟩
    · obtain ⟨n, ty, m, _, tt⟩ := th.ty (K := K)
      have nn : n ≠ "tuple" := fun z => by
        obtain ⟨a, xs, e, h2⟩ := tt.mp z
        exact nt a xs e h2
      exact ⟨_, rfl, _, _, _, _, false, rfl, .ty "tuple", ty, kit_ty (by rw [kit_tup m, decide_eq_false nn]), _, rfl, iteT (q H s0)⟩
    have fin : ∀ (b : Bool) (H' : Hp), Same H H' → (b = true ↔ IsE xs) → Q (.bl b) H' := fun b H' s' h => q b h H' s'
    clear q
    have no : ∀ (H' : Hp), Same H H' → ¬ IsE xs → Q (.bl false) H' := fun H' s' h => fin false H' s' ⟨(fun z => nomatch z), fun z => absurd z h⟩
    refine ⟨_, rfl, _, _, _, _, true, rfl, .ty "tuple", .base (.tup ha), kit_ty (by decide +kernel), _, rfl, iteF ?_⟩
    refine ⟨_, rfl, a, _, rfl, .inr (SqT.of ha), _, 5, rfl, rfl, _, rfl, ite2 (fun e1 => ?_) (fun e1 => ?_)⟩
    · have l5 := of_decide_eq_true e1
      exact no H s0 fun h => by have := isE_five h; omega
    have l5 : ¬ ((xs.length : Nat) : Int) < 5 := fun h => e1 (decide_eq_true h)
    match xs, ha, lx, hT, fin, no, l5 with
    | [], _, _, _, _, _, l5 => exact absurd (by simp only [List.length_cons, List.length_nil]; omega) l5
    | [_], _, _, _, _, _, l5 => exact absurd (by simp only [List.length_cons, List.length_nil]; omega) l5
    | [_, _], _, _, _, _, _, l5 => exact absurd (by simp only [List.length_cons, List.length_nil]; omega) l5
    | [_, _, _], _, _, _, _, _, l5 => exact absurd (by simp only [List.length_cons, List.length_nil]; omega) l5
    | [_, _, _, _], _, _, _, _, _, l5 => exact absurd (by simp only [List.length_cons, List.length_nil]; omega) l5
    | x0 :: p0 :: p1 :: p2 :: p3 :: rest, ha, lx, hT, fin, no, l5 =>
    have sq : ∀ {H'}, Same H H' → SqT K H' a (x0 :: p0 :: p1 :: p2 :: p3 :: rest) := fun s => SqT.of (s _ _ ha)
    have tg : ∀ {H' : Hp}, Same H H' → ∀ x ∈ x0 :: p0 :: p1 :: p2 :: p3 :: rest, Thg H' x := fun s x hx => (hT x hx).1.on fun a' o' _ e' _ => s _ _ e'
    have m0 : x0 ∈ x0 :: p0 :: p1 :: p2 :: p3 :: rest := List.mem_cons_self
    have m1 : p0 ∈ x0 :: p0 :: p1 :: p2 :: p3 :: rest := List.mem_cons_of_mem _ List.mem_cons_self
    have m2 : p1 ∈ x0 :: p0 :: p1 :: p2 :: p3 :: rest := List.mem_cons_of_mem _ (List.mem_cons_of_mem _ List.mem_cons_self)
    have m3 : p2 ∈ x0 :: p0 :: p1 :: p2 :: p3 :: rest := List.mem_cons_of_mem _ (List.mem_cons_of_mem _ (List.mem_cons_of_mem _ List.mem_cons_self))
    have m4 : p3 ∈ x0 :: p0 :: p1 :: p2 :: p3 :: rest := List.mem_cons_of_mem _ (List.mem_cons_of_mem _ (List.mem_cons_of_mem _ (List.mem_cons_of_mem _ List.mem_cons_self)))
    obtain ⟨n0, ty0, mm0, st0, _⟩ := (hT x0 m0).1.ty (K := K)
    by_cases zs : n0 = "str"
    rotate_left
    · refine ⟨_, rfl, a, _, 0, _, rfl, rfl, sq s0, atI_nat (j := 0) rfl, _, _, _, _, false, rfl, .ty "str", ty0, kit_ty (by rw [kit_str mm0, decide_eq_false zs]), _, rfl, iteT (no H s0 fun h => ?_)⟩
      obtain ⟨f, e⟩ := isE_word h
      exact zs (st0.mpr ⟨_, e⟩)
    obtain ⟨z, rfl⟩ := st0.mp zs
    refine ⟨_, rfl, a, _, 0, _, rfl, rfl, sq s0, atI_nat (j := 0) rfl, _, _, _, _, true, rfl, .ty "str", ty0, kit_ty (by rw [kit_str mm0, decide_eq_true zs]), _, rfl, iteF ?_⟩
    -- the name, the moment
    refine ⟨_, rfl, a, _, 1, _, rfl, rfl, sq s0, atI_nat (j := 1) rfl, _, rfl, (hT p0 m1).1, (hT p0 m1).2, fun H1 s1 => ⟨_, rfl, ?_⟩⟩
    cases h0 : nmV p0 with
    | false => exact iteT (no H1 s1 fun h => by rw [(isE_heads h).1] at h0; exact nomatch h0)
    | true =>
    refine iteF ⟨_, rfl, a, _, 2, _, rfl, rfl, sq s1, atI_nat (j := 2) rfl, _, 0, 9999, rfl, tg s1 p1 m2, _, rfl, ?_⟩
    cases h1 : whB 0 9999 p1 with
    | false => exact iteT (no H1 s1 fun h => by rw [(isE_heads h).2.1] at h1; exact nomatch h1)
    | true =>
    refine iteF ⟨_, rfl, a, _, 3, _, rfl, rfl, sq s1, atI_nat (j := 3) rfl, _, rfl, tg s1 p2 m3, (hT p2 m3).2, fun H2 s2 => ⟨_, rfl, ?_⟩⟩
    have s12 := s1.trans s2
    cases h2 : nmV p2 with
    | false => exact iteT (no H2 s12 fun h => by rw [(isE_heads h).2.2.1] at h2; exact nomatch h2)
    | true =>
    refine iteF ⟨_, rfl, a, _, 4, _, rfl, rfl, sq s12, atI_nat (j := 4) rfl, _, rfl, tg s12 p3 m4, (hT p3 m4).2, fun H3 s3 => ⟨_, rfl, ?_⟩⟩
    have s13 := s12.trans s3
    cases h3 : nmV p3 with
    | false => exact iteT (no H3 s13 fun h => by rw [(isE_heads h).2.2.2] at h3; exact nomatch h3)
    | true =>
    obtain ⟨y3, rfl, ny3⟩ := nm_str h3
    have hTT : ∀ v ∈ p0 :: p1 :: p2 :: V.str y3 :: rest, Thg H v := fun v hv => (hT v (List.mem_cons_of_mem _ hv)).1
    have lenR : ∀ {n : Nat}, decide (V.int ((((V.str z) :: p0 :: p1 :: p2 :: V.str y3 :: rest).length : Nat) : Int) = V.int ((n + 5 : Nat) : Int)) = true → rest.length = n := fun {n} h => by
      have := V.int.inj (of_decide_eq_true h)
      simp only [List.length_cons] at this
      omega
    refine iteF ⟨_, rfl, a, _, 0, _, rfl, rfl, sq s13, atI_nat (j := 0) rfl, ?_⟩
    by_cases w1 : z = "swap"
    · subst w1
      have key := isE_swap h0 h1 h2 h3 hTT
      refine ⟨_, rfl, rfl, true, yyS, iteT ⟨_, rfl, a, _, rfl, .inr (sq s13), rfl, _, rfl, ite2 (fun l => ?_) (fun l => ?_)⟩⟩
      · have r : rest = [] := List.eq_nil_of_length_eq_zero (lenR (n := 0) l)
        subst r
        obtain ⟨y2, rfl, _⟩ := nm_str h2
        refine ⟨_, rfl, a, _, 3, _, rfl, rfl, sq s13, atI_nat (j := 3) rfl, _, rfl, a, _, 4, _, rfl, rfl, sq s13, atI_nat (j := 4) rfl, rfl, fin _ H3 s13 ?_⟩
        rw [key]
        simp
      · exact no H3 s13 fun h => absurd (by rw [(key.mp h).1]; exact decide_eq_true rfl) l
    refine ⟨_, rfl, rfl, false, nnS w1, iteF ?_⟩
    by_cases w2 : z = "look"
    · subst w2
      have key := isE_look h0 h1 h2 h3 hTT
      refine ⟨_, rfl, rfl, true, yyS, iteT ⟨_, rfl, a, _, rfl, .inr (sq s13), rfl, fin _ H3 s13 ?_⟩⟩
      rw [key]
      exact ⟨fun h => List.eq_nil_of_length_eq_zero (lenR (n := 0) h), fun h => by rw [h]; exact decide_eq_true rfl⟩
    refine ⟨_, rfl, rfl, false, nnS w2, iteF ?_⟩
    have two : rest.length = 2 → ∃ x y, rest = [x, y] := fun h => by
      match rest, h with
      | [x, y], _ => exact ⟨x, y, rfl⟩
    have one : rest.length = 1 → ∃ x, rest = [x] := fun h => by
      match rest, h with
      | [x], _ => exact ⟨x, rfl⟩
    by_cases w3 : z = "come"
    · subst w3
      have key := isE_come h0 h1 h2 h3 hTT
      refine ⟨_, rfl, rfl, true, yyS, iteT ⟨_, rfl, a, _, rfl, .inr (sq s13), rfl, _, rfl, ite2 (fun l => ?_) (fun l => ?_)⟩⟩
      · obtain ⟨x, y, rfl⟩ := two (lenR (n := 2) l)
        refine ⟨_, rfl, a, _, 5, _, rfl, rfl, sq s13, atI_nat (j := 5) rfl, 10, 9, rfl, rfl, cpow9, _, 1, _, rfl, tg s13 x (by simp), _, rfl, ?_⟩
        cases hx : whB 1 (10 ^ (9 : Int).toNat) x with
        | false =>
          rw [e9] at hx
          refine iteF (no H3 s13 fun h => ?_)
          obtain ⟨x', y', e, k1, k2⟩ := key.mp h
          cases e
          rw [hx] at k1
          exact nomatch k1
        | true =>
          rw [e9] at hx
          refine iteT ⟨_, rfl, a, _, 6, _, rfl, rfl, sq s13, atI_nat (j := 6) rfl, 10, 9, rfl, rfl, cpow9, _, 0, _, rfl, tg s13 y (by simp), fin _ H3 s13 ?_⟩
          rw [key, e9]
          exact ⟨fun h => ⟨x, y, rfl, hx, h⟩, fun ⟨x', y', e, _, k2⟩ => by cases e; exact k2⟩
      · exact no H3 s13 fun h => absurd (by obtain ⟨x, y, e, _⟩ := key.mp h; rw [e]; exact decide_eq_true rfl) l
    refine ⟨_, rfl, rfl, false, nnS w3, iteF ?_⟩
    by_cases w4 : z = "go"
    · subst w4
      have key := isE_go h0 h1 h2 h3 hTT
      refine ⟨_, rfl, rfl, true, yyS, iteT ⟨_, rfl, a, _, rfl, .inr (sq s13), rfl, _, rfl, ite2 (fun l => ?_) (fun l => ?_)⟩⟩
      · obtain ⟨x, rfl⟩ := one (lenR (n := 1) l)
        refine ⟨_, rfl, a, _, 5, _, rfl, rfl, sq s13, atI_nat (j := 5) rfl, 10, 9, rfl, rfl, cpow9, _, 1, _, rfl, tg s13 x (by simp), fin _ H3 s13 ?_⟩
        rw [key, e9]
        exact ⟨fun h => ⟨x, rfl, h⟩, fun ⟨x', e, k2⟩ => by cases e; exact k2⟩
      · exact no H3 s13 fun h => absurd (by obtain ⟨x, e, _⟩ := key.mp h; rw [e]; exact decide_eq_true rfl) l
    refine ⟨_, rfl, rfl, false, nnS w4, iteF ?_⟩
    by_cases w5 : z = "move"
    · subst w5
      have key := isE_move h0 h1 h2 h3 hTT rfl
      refine ⟨_, rfl, rfl, true, yyS, iteT ⟨_, rfl, a, _, rfl, .inr (sq s13), rfl, _, rfl, ite2 (fun l => ?_) (fun l => ?_)⟩⟩
      · obtain ⟨x, y, rfl⟩ := two (lenR (n := 2) l)
        refine ⟨_, rfl, a, _, _, y3, x, rfl, s13 _ _ ha, rfl, rfl, rfl, tg s13 x (by simp), (hT x (by simp)).2, fun H4 s4 => ⟨_, rfl, ?_⟩⟩
        have s14 := s13.trans s4
        cases hx : endsB "move" y3 x with
        | false =>
          refine iteF (no H4 s14 fun h => ?_)
          obtain ⟨x', y', e, k1, k2⟩ := key.mp h
          cases e
          rw [hx] at k1
          exact nomatch k1
        | true =>
          refine iteT ⟨_, rfl, a, _, 6, _, rfl, rfl, sq s14, atI_nat (j := 6) rfl, 10, 9, rfl, rfl, cpow9, _, 1, _, rfl, tg s14 y (by simp), fin _ H4 s14 ?_⟩
          rw [key, e9]
          exact ⟨fun h => ⟨x, y, rfl, hx, h⟩, fun ⟨x', y', e, _, k2⟩ => by cases e; exact k2⟩
      · exact no H3 s13 fun h => absurd (by obtain ⟨x, y, e, _⟩ := key.mp h; rw [e]; exact decide_eq_true rfl) l
    refine ⟨_, rfl, rfl, false, nnS w5, iteF ?_⟩
    by_cases w6 : z = "some"
    · subst w6
      have key := isE_some h0 h1 h2 h3 hTT rfl
      refine ⟨_, rfl, rfl, true, yyS, iteT ⟨_, rfl, a, _, rfl, .inr (sq s13), rfl, _, rfl, ite2 (fun l => ?_) (fun l => ?_)⟩⟩
      · obtain ⟨x, rfl⟩ := one (lenR (n := 1) l)
        refine ⟨_, rfl, a, _, _, y3, x, rfl, s13 _ _ ha, rfl, rfl, rfl, tg s13 x (by simp), (hT x (by simp)).2, fun H4 s4 => fin _ H4 (s13.trans s4) ?_⟩
        rw [key]
        exact ⟨fun h => ⟨x, rfl, h⟩, fun ⟨x', e, k2⟩ => by cases e; exact k2⟩
      · exact no H3 s13 fun h => absurd (by obtain ⟨x, e, _⟩ := key.mp h; rw [e]; exact decide_eq_true rfl) l
    refine ⟨_, rfl, rfl, false, nnS w6, iteF ?_⟩
    by_cases w7 : z = "count"
    rotate_left
    · refine ⟨_, rfl, rfl, _, rfl, ite2 (fun e => absurd (V.str.inj (of_decide_eq_true e)) w7) (fun e => no H3 s13 fun h => ?_)⟩
      obtain ⟨f, ef⟩ := isE_word h
      have hw := f.word_in
      rw [← V.str.inj ef] at hw
      simp only [words7, List.mem_cons, List.not_mem_nil, or_false] at hw
      rcases hw with h | h | h | h | h | h | h
      · exact absurd h w3
      · exact absurd h w4
      · exact absurd h w5
      · exact absurd h w6
      · exact absurd h w1
      · exact absurd h w7
      · exact absurd h w2
    subst w7
    have key := isE_count h0 h1 h2 h3 hTT
    refine ⟨_, rfl, rfl, true, yyS, iteT ⟨_, rfl, a, _, rfl, .inr (sq s13), rfl, _, rfl, ite2 (fun l => ?_) (fun l => ?_)⟩⟩
    · obtain ⟨x, y, rfl⟩ := two (lenR (n := 2) l)
      refine ⟨_, rfl, a, _, 5, _, rfl, rfl, sq s13, atI_nat (j := 5) rfl, 10, 9, rfl, rfl, cpow9, _, 0, _, rfl, tg s13 x (by simp), _, rfl, ?_⟩
      cases hx : whB 0 (10 ^ (9 : Int).toNat) x with
      | false =>
        rw [e9] at hx
        refine iteF (no H3 s13 fun h => ?_)
        obtain ⟨x', y', e, k1, k2⟩ := key.mp h
        cases e
        rw [hx] at k1
        exact nomatch k1
      | true =>
        rw [e9] at hx
        refine iteT ⟨_, rfl, a, _, 6, _, rfl, rfl, sq s13, atI_nat (j := 6) rfl, _, rfl, tg s13 y (by simp), (hT y (by simp)).2, fun H4 s4 => fin _ H4 (s13.trans s4) ?_⟩
        rw [key]
        exact ⟨fun h => ⟨x, y, rfl, hx, h⟩, fun ⟨x', y', e, _, k2⟩ => by cases e; exact k2⟩
    · exact no H3 s13 fun h => absurd (by obtain ⟨x, y, e, _⟩ := key.mp h; rw [e]; exact decide_eq_true rfl) l
end
/-! ### entries read -/
theorem lc_zipLT {K : PySem.W.Frag} {a b : Addr} {xs ys : List V} {g : TG} {tt : TT} {te : TE} {vs : List Nat} {σ : L2.St} {H1 : Hp} {D : Addr} {Qd : Hp → Prop} (hlen : xs.length = ys.length) (Pv : Nat → Hp → Prop) (h0 : Pv 0 (upd H1 D (.lst []))) (hl : ∀ i H, i ≤ xs.length → Pv i H → SqL K H a xs ∧ SqT K H b ys)
    (hs : ∀ i x y T H, xs[i]? = some x → ys[i]? = some y → Pv i H → H T = none → g (.ref T) (wipe σ vs) (upd H T (.tup [x, y])) fun σ2 H2 => wipe σ2 vs = wipe σ vs ∧ tt σ2 H2 fun b H3 =>
      if b = true then te σ2 H3 fun y H4 => ∃ acc, H4 D = some (.lst acc) ∧ acc.length < sizeLine ∧ Pv (i + 1) (upd H4 D (.lst (acc ++ [y]))) else Pv (i + 1) H3) (hd : ∀ H, Pv xs.length H → Qd H) :
    ∃ W : Nat → Nat → Hp → Prop, (∃ m, W 0 m (upd H1 D (.lst []))) ∧ ∀ i m H, W i m H →
      ((ItzLT K a b).stop i H ∧ Qd H) ∨ ((ItzLT K a b).go i H ∧ ∃ Nx : Hp → Prop, (∀ H', Nx H' → ∃ m', m' < m ∧ W (i + 1) m' H') ∧ ∀ x H', (ItzLT K a b).yld i H x H' → g x (wipe σ vs) H' fun σ2 H2 => wipe σ2 vs = wipe σ vs ∧ tt σ2 H2 fun b H3 =>
        if b = true then te σ2 H3 fun y H4 => ∃ acc, H4 D = some (.lst acc) ∧ acc.length < sizeLine ∧ Nx (upd H4 D (.lst (acc ++ [y]))) else Nx H3) := by
  refine ⟨fun i m H => m = xs.length - i ∧ i ≤ xs.length ∧ Pv i H, ⟨_, rfl, Nat.zero_le _, h0⟩, ?_⟩
  rintro i m H ⟨rfl, hi, p⟩
  obtain ⟨qa, qb⟩ := hl i H hi p
  by_cases lt : i < xs.length
  · refine .inr ⟨⟨xs, ys, _, _, qa, qb, List.getElem?_eq_getElem lt, List.getElem?_eq_getElem (by omega)⟩, Pv (i + 1), fun H' p' => ⟨xs.length - (i + 1), by omega, rfl, lt, p'⟩, fun v H' y => ?_⟩
    obtain ⟨T, x', y', rfl, nT, rfl, f1, f2⟩ := y
    exact hs i x' y' T H (f1 xs qa) (f2 ys qb) p nT
  · have e : i = xs.length := by omega
    subst e
    exact .inl ⟨⟨xs, ys, qa, qb, hlen, rfl⟩, hd H p⟩
/-- a word read as a part of its sort -/
def partInV (x s : Str) : V := if s = "name" then .str x else if s ≠ "end" then numV x else if x = "-" then .str "" else if x = "" then .non else .str x
theorem partIn_back {v : V} {x : Str} (h : PartOk v) (hx : x ∈ sorts6) (f : fitB v x = true) : partInV (partT v) x = v := by
  have nn : ∀ {y : Str}, nmV (.str y) = true → y ≠ "" ∧ y ≠ "-" := fun {y} z => by
    have z' : nameB y = true := z
    refine ⟨name_ne z', fun e => ?_⟩
    rw [e] at z'
    revert z'
    decide +kernel
  have nmstr : nmV v = true → ∃ y, v = .str y := fun z => by
    rcases h with ⟨y, rfl, _⟩ | ⟨i, rfl, _⟩
    · exact ⟨y, rfl⟩
    · exact absurd z (by unfold nmV; simp)
  unfold fitB at f
  unfold partInV
  by_cases e1 : x = "name"
  · rw [if_pos e1] at f ⊢
    obtain ⟨y, rfl⟩ := nmstr f
    show V.str (if y = "" then "-" else y) = _
    rw [if_neg (nn f).1]
  · rw [if_neg e1] at f ⊢
    by_cases e2 : x = "end"
    · rw [if_pos e2] at f
      rw [if_neg (fun z => z e2)]
      rcases Bool.or_eq_true _ _ |>.mp f with z | z
      · rw [of_decide_eq_true z]
        rfl
      · obtain ⟨y, rfl⟩ := nmstr z
        have p : partT (.str y) = y := if_neg (nn z).1
        rw [p, if_neg (nn z).2, if_neg (nn z).1]
    · rw [if_neg e2] at f
      rw [if_pos e2]
      rcases h with ⟨y, rfl, _⟩ | ⟨i, rfl, h0, h1⟩
      · exact absurd f (by unfold inB; simp)
      · exact numV_int h0 h1
def spPartIn (T : Addr) : Sp := fun vs H Q _ => ∃ x s : Str, vs = [.str x, .str s] ∧ x.length ≤ sizeLine ∧ GxR.TabG H T ∧ ∀ H', GxR.Tabbed T H H' → Q (partInV x s) H'
section
variable {P : Program} {w : World} {K : PySem.W.Frag} {mg : Str → Option Value} {base : Heap}
abbrev sPartInN : List Str := ["word", "sort"]
theorem sc_sPartIn : FnScope sPartInN ["word", "sort"] (defScope sPartIn) := ⟨rfl, rfl, rfl, by decide +kernel, rfl, by decide +kernel, by decide +kernel⟩
theorem ok_partIn {f fN T : Addr} {fd dN : FuncData} (F : Fun K "part_in" "part_in" sPartIn f fd) (NO : DefT P w K mg base "number_of" 1 fN dN ["word"] (spNumber T)) (mO : ∃ t, mg "OUTSIDE" = some (.str "-" t)) : FnOk P w K mg base CX0 2 f fd ["word", "sort"] (spPartIn T) := by
  refine F.ok sc_sPartIn (fun vs H Q E h => ?_) (fun cdv A outer s H vs Q E hr h => ?_)
  · obtain ⟨x, s, rfl, _⟩ := h
    rfl
  · obtain ⟨x, s, rfl, hz, tg, q⟩ := h
    obtain ⟨tO, mO⟩ := mO
    have nd := sc_sPartIn.nd
    refine ⟨_, pss_cons (ps_if (pt_cmpR op_eq (pv 1) pe_str (nomark _)) (pss_one (ps_ret (pv 0))) pss_nil)
      (pss_cons (ps_if (pt_cmpR op_ne (pv 1) pe_str (nomark _)) (pss_one (ps_ret (pe_call NO.ok hr (by rfl) NO.g NO.kp NO.b .nil pass0 (pa_cons (pv 0) pa_nil)))) pss_nil)
      (pss_cons (ps_if (pt_cmpR op_eq (pv 0) (pe_glob (v := .str "-") rfl mO ⟨_, rfl⟩) (nomark _)) (pss_one (ps_ret pe_str)) pss_nil)
      (pss_one (ps_ret (pe_ifExp (pt_cmpR op_eq (pv 0) pe_str (nomark _)) pe_non (pv 0)))))), ?_⟩
    have q0 := q H ⟨tg, fun _ _ => rfl⟩
    refine ⟨_, rfl, rfl, _, rfl, ?_⟩
    unfold partInV at q q0
    by_cases e1 : s = "name"
    · rw [decide_eq_true (congrArg V.str e1)]
      rw [if_pos e1] at q0
      exact iteT ⟨_, rfl, q0⟩
    rw [decide_eq_false fun z => e1 (V.str.inj z)]
    rw [if_neg e1] at q q0
    refine iteF ⟨_, rfl, rfl, _, rfl, ?_⟩
    by_cases e2 : s = "end"
    · rw [decide_eq_true (congrArg V.str e2)]
      rw [if_neg (fun z => z e2)] at q q0
      refine iteF ⟨_, rfl, rfl, _, rfl, ?_⟩
      by_cases e3 : x = "-"
      · rw [decide_eq_true (congrArg V.str e3)]
        rw [if_pos e3] at q0
        exact iteT q0
      rw [decide_eq_false fun z => e3 (V.str.inj z)]
      rw [if_neg e3] at q0
      refine iteF ⟨_, rfl, rfl, _, rfl, ?_⟩
      by_cases e4 : x = ""
      · rw [decide_eq_true (congrArg V.str e4)]
        rw [if_pos e4] at q0
        exact iteT q0
      rw [decide_eq_false fun z => e4 (V.str.inj z)]
      rw [if_neg e4] at q0
      exact iteF ⟨_, rfl, q0⟩
    · rw [decide_eq_false fun z => e2 (V.str.inj z)]
      rw [if_pos e2] at q
      exact iteT ⟨_, rfl, x, rfl, hz, tg, q⟩
end
/-! ### texts of entries are told by their entries -/
theorem last_cases {α : Type} (xs : List α) : xs = [] ∨ ∃ us u, xs = us ++ [u] := by
  cases h : xs.reverse with
  | nil => exact .inl (List.reverse_eq_nil_iff.mp h)
  | cons u r =>
    refine .inr ⟨r.reverse, u, ?_⟩
    have := congrArg List.reverse h
    rw [List.reverse_reverse, List.reverse_cons] at this
    exact this
theorem toDigits_snoc {m d : Nat} (hm : 0 < m) (hd : d < 10) : Nat.toDigits 10 (10 * m + d) = Nat.toDigits 10 m ++ [Nat.digitChar d] := by
  have t := Nat.toDigits_append_toDigits (b := 10) (n := m) (d := d) (by decide) hm hd
  rw [← t, Nat.toDigits_of_lt_base hd]
theorem digit_char : ∀ c : Nat, 48 ≤ c → c ≤ 57 → (Nat.digitChar (c - 48)).toNat = c := by
  intro c h1 h2
  have all : ∀ d : Nat, d < 10 → (Nat.digitChar d).toNat = d + 48 := by decide
  rw [all (c - 48) (by omega)]
  omega
theorem digits_back : ∀ (cs : List Nat), NumText.AllDigits cs → ∀ a r, cs = a :: r → (a ≠ 48 ∨ r = []) → (Nat.toDigits 10 (NumText.digitsVal cs)).map Char.toNat = cs := by
  intro cs
  induction h : cs.length using Nat.strongRecOn generalizing cs with
  | _ n ih =>
    intro ad a r e z
    rcases last_cases cs with rfl | ⟨us, u, rfl⟩
    · exact absurd e (by simp)
    · have hu : 48 ≤ u ∧ u ≤ 57 := ad u (by simp)
      have val : NumText.digitsVal (us ++ [u]) = NumText.digitsVal us * 10 + (u - 48) := by
        unfold NumText.digitsVal
        rw [List.foldl_append]
        rfl
      cases us with
      | nil =>
        rw [val]
        show List.map Char.toNat (Nat.toDigits 10 (0 * 10 + (u - 48))) = [u]
        rw [Nat.zero_mul, Nat.zero_add, Nat.toDigits_of_lt_base (by omega : u - 48 < 10)]
        show [(Nat.digitChar (u - 48)).toNat] = [u]
        rw [digit_char u hu.1 hu.2]
      | cons b us =>
        have eb : b = a := (List.cons.inj e).1
        have ne : a ≠ 48 := by
          rcases z with z | z
          · exact z
          · rw [z] at e
            have := congrArg List.length e
            simp at this
        have adu : NumText.AllDigits (b :: us) := fun c hc => ad c (List.mem_append_left _ hc)
        have prev := ih (b :: us).length (by rw [← h]; simp) (b :: us) rfl adu b us rfl (.inl (eb ▸ ne))
        have pos : 0 < NumText.digitsVal (b :: us) := by
          cases e0 : NumText.digitsVal (b :: us) with
          | succ k => exact Nat.succ_pos k
          | zero =>
            rw [e0] at prev
            have : (Nat.toDigits 10 0).map Char.toNat = [48] := by decide
            rw [this] at prev
            have : b = 48 := (List.cons.inj prev).1.symm
            exact absurd (eb ▸ this) ne
        rw [val, Nat.mul_comm, toDigits_snoc pos (by omega), List.map_append, prev]
        show _ ++ [(Nat.digitChar (u - 48)).toNat] = _
        rw [digit_char u hu.1 hu.2]
theorem starts_zero {x : Str} {r : List Nat} (e : x.cps.toList = 48 :: r) : Txt.startswith x "0" = true := by
  have l1 : ("0" : Str).length = 1 := by decide +kernel
  have l2 : ("0" : Str).cps.toList = [48] := by decide +kernel
  have lx : x.length = x.cps.toList.length := by simp [Str.length]
  unfold Txt.startswith
  rw [Bool.and_eq_true]
  refine ⟨decide_eq_true (by rw [l1, lx, e]; simp), ?_⟩
  unfold Builtin.Str.subAt
  have : x.cps.extract 0 (0 + ("0" : Str).length) = ("0" : Str).cps := by
    apply Array.ext'
    rw [Array.toList_extract, e, l1, l2]
    rfl
  rw [this]
  exact beq_self_eq_true _
/-- a word that is a number is that number's text -/
theorem numT_back {x : Str} (h : numOk x = true) : numT ((NumText.digitsVal x.cps.toList : Nat) : Int) = x := by
  unfold numOk at h
  rw [Bool.and_eq_true, Bool.and_eq_true, Bool.and_eq_true] at h
  obtain ⟨⟨⟨h1, _⟩, h3⟩, h4⟩ := h
  have ad : NumText.AllDigits x.cps.toList := fun c hc => (figB_iff c).mp (List.all_eq_true.mp h3 c hc)
  have lx : x.length = x.cps.toList.length := by simp [Str.length]
  have h1 := of_decide_eq_true h1
  apply str_ext
  rw [PySem.W.KIN.signs_num]
  cases e : x.cps.toList with
  | nil => rw [lx, e] at h1; exact absurd h1 (by decide)
  | cons a r =>
    rw [← e]
    refine digits_back _ ad a r e ?_
    by_cases z : a = 48
    · right
      rw [z] at e
      have st := starts_zero e
      rw [st] at h4
      have x0 : x = "0" := by
        by_cases q : x = "0"
        · exact q
        · rw [decide_eq_false q] at h4
          exact absurd h4 (by decide)
      have l2 : ("0" : Str).cps.toList = [48] := by decide +kernel
      rw [x0, l2] at e
      exact (List.cons.inj e).2.symm
    · exact .inl z
theorem numV_back {x : Str} {i : Int} (h : numV x = .int i) : numT i = x ∧ 0 ≤ i := by
  unfold numV at h
  by_cases z : numOk x = true
  · rw [if_pos z] at h
    rw [← V.int.inj h]
    exact ⟨numT_back z, Int.natCast_nonneg _⟩
  · rw [if_neg z] at h
    exact V.noConfusion h
/-- what is read as a fitting part is written as that word -/
theorem partIn_word {x s : Str} (hs : s ∈ sorts6) (f : fitB (partInV x s) s = true) : partT (partInV x s) = x ∧ PartOk (partInV x s) := by
  unfold fitB at f
  unfold partInV at f ⊢
  have nme : ∀ {y : Str}, nmV (.str y) = true → partT (.str y) = y ∧ PartOk (.str y) := fun {y} z => ⟨if_neg (name_ne z), .inl ⟨y, rfl, .inr (.inl z)⟩⟩
  by_cases e1 : s = "name"
  · rw [if_pos e1] at f ⊢
    rw [if_pos e1] at f
    exact nme f
  · rw [if_neg e1] at f ⊢
    rw [if_neg e1] at f
    by_cases e2 : s = "end"
    · rw [if_pos e2] at f
      rw [if_neg (fun z => z e2)] at f ⊢
      by_cases e3 : x = "-"
      · rw [if_pos e3]
        exact ⟨by rw [e3]; rfl, .inl ⟨"", rfl, .inl rfl⟩⟩
      · rw [if_neg e3] at f ⊢
        by_cases e4 : x = ""
        · rw [if_pos e4] at f
          exact absurd f (by decide)
        · rw [if_neg e4] at f ⊢
          rcases Bool.or_eq_true _ _ |>.mp f with z | z
          · exact absurd (V.str.inj (of_decide_eq_true z)) e4
          · exact nme z
    · rw [if_neg e2] at f
      rw [if_pos e2] at f ⊢
      cases e : numV x with
      | int i =>
        have b := numV_back e
        rw [e] at f
        refine ⟨b.1, .inr ⟨i, rfl, b.2, ?_⟩⟩
        unfold inB at f
        have f' : (decide ((bnd s).1 ≤ i) && decide (i ≤ (bnd s).2)) = true := f
        rw [Bool.and_eq_true] at f'
        have le := of_decide_eq_true f'.2
        have : (bnd s).2 ≤ 1000000000 := by
          unfold bnd
          split
          · decide
          · split <;> decide
        omega
      | _ => rw [e] at f; exact absurd f (by unfold inB; simp)
/-! ### any text read as an entry -/
theorem fine_parts {e : Ent} (h : e.Fine) : ∀ v ∈ e.vals, PartOk v := by
  intro v hv
  rcases List.mem_cons.mp hv with rfl | hv
  · exact .inl ⟨_, rfl, .inr (.inr (Ent.word_in e))⟩
  obtain ⟨i, hi⟩ := List.mem_iff_getElem?.mp (show v ∈ e.parts from hv)
  have li := (List.getElem?_eq_some_iff.mp hi).1
  have ls : i < e.sorts.length := by rw [← e.len_parts]; exact li
  have hs : e.sorts[i]? = some e.sorts[i] := List.getElem?_eq_getElem ls
  obtain ⟨_, f⟩ := h.fit i v _ hi hs
  generalize e.sorts[i] = s at f
  unfold fitB at f
  have nm : nmV v = true → PartOk v := fun z => by
    cases v with
    | str y => exact .inl ⟨y, rfl, .inr (.inl z)⟩
    | _ => exact absurd z (by unfold nmV; simp)
  by_cases e1 : s = "name"
  · rw [if_pos e1] at f
    exact nm f
  · rw [if_neg e1] at f
    by_cases e2 : s = "end"
    · rw [if_pos e2] at f
      rcases Bool.or_eq_true _ _ |>.mp f with z | z
      · exact .inl ⟨"", of_decide_eq_true z, .inl rfl⟩
      · exact nm z
    · rw [if_neg e2] at f
      cases v with
      | int i =>
        have f' : (decide ((bnd s).1 ≤ i) && decide (i ≤ (bnd s).2)) = true := f
        rw [Bool.and_eq_true] at f'
        have lo := of_decide_eq_true f'.1
        have hi := of_decide_eq_true f'.2
        have b : 0 ≤ (bnd s).1 ∧ (bnd s).2 ≤ 1000000000 := by
          unfold bnd
          split
          · decide
          · split <;> decide
        exact .inr ⟨i, rfl, by omega, by omega⟩
      | _ => exact absurd f (by unfold inB; simp)
theorem words_ent {e : Ent} (h : e.Fine) : Txt.split (entT e) " " = e.vals.map partT :=
  split_blank (by unfold Ent.vals; simp) fun y hy => by
    obtain ⟨v, hv, rfl⟩ := List.mem_map.mp hy
    exact (part_cln (fine_parts h v hv)).1
theorem ent_of_words {e : Ent} {x : Str} (h : Txt.split x " " = e.vals.map partT) : x = entT e := by
  have j := StrLaws.join_split x " "
  rw [h, ← TL.join_eq] at j
  exact j.symm
theorem word_part (e : Ent) : partT (.str e.word) = e.word := if_neg fun z => by
  have := word_short (Ent.word_in e)
  rw [z] at this
  revert this
  decide +kernel
theorem head_word {e : Ent} {x w0 : Str} {ws : List Str} (h : e.Fine) (hx : x = entT e) (hw : Txt.split x " " = w0 :: ws) : w0 = e.word ∧ ws = e.parts.map partT := by
  rw [hx, words_ent h] at hw
  have : e.vals.map partT = e.word :: e.parts.map partT := by
    show partT (.str e.word) :: e.parts.map partT = _
    rw [word_part]
  rw [this] at hw
  have h2 := List.cons.inj hw
  exact ⟨h2.1.symm, h2.2.symm⟩
theorem mem_len {y : Str} : ∀ {xs : List Str} {sep : Str}, y ∈ xs → y.length ≤ (Str.join sep xs).length := by
  intro xs
  induction xs with
  | nil => intro sep h; exact nomatch h
  | cons a r ih =>
    intro sep h
    have e1 : (Str.join sep (a :: r)).length = (glue sep a r).length := by rw [← TL.join_eq, join_glue]
    rw [e1, glue_len]
    rcases List.mem_cons.mp h with rfl | h
    · omega
    · cases r with
      | nil => exact nomatch h
      | cons b r =>
        have := ih (sep := sep) h
        rw [← TL.join_eq, join_glue, glue_len] at this
        simp only [List.map_cons, List.sum_cons, List.length_cons, Nat.add_mul, Nat.one_mul] at this ⊢
        omega
theorem split_len {x sep y : Str} (h : y ∈ Txt.split x sep) : y.length ≤ x.length := by
  have := mem_len (sep := sep) h
  rw [StrLaws.join_split] at this
  exact this
/-- the parts that are read of words -/
def readV (ws ss : List Str) : List V := List.zipWith partInV ws ss
theorem readV_len {ws ss : List Str} (h : ws.length = ss.length) : (readV ws ss).length = ss.length := by
  unfold readV
  rw [List.length_zipWith, h, Nat.min_self]
theorem readV_get {ws ss : List Str} {i : Nat} {x s : Str} (h1 : ws[i]? = some x) (h2 : ss[i]? = some s) : (readV ws ss)[i]? = some (partInV x s) := by
  unfold readV
  rw [List.getElem?_zipWith, h1, h2]
/-- words that are read as an entry are the entry's words -/
theorem read_isE {f : Ent} {x : Str} {ws : List Str} (hw : Txt.split x " " = f.word :: ws) (l : ws.length = f.sorts.length) {e : Ent} (he : e.Fine) (hv : V.str f.word :: readV ws f.sorts = e.vals) : x = entT e := by
  refine ent_of_words ?_
  rw [hw]
  have h2 := List.cons.inj (show V.str f.word :: readV ws f.sorts = V.str e.word :: e.parts from hv)
  have ew : f.word = e.word := V.str.inj h2.1
  show _ = partT (.str e.word) :: e.parts.map partT
  rw [word_part, ew, ← h2.2]
  congr 1
  have es : f.sorts = e.sorts := sorts_word ew
  refine List.ext_getElem? fun i => ?_
  rw [List.getElem?_map]
  by_cases li : i < ws.length
  · have h1 : ws[i]? = some ws[i] := List.getElem?_eq_getElem li
    have h3 : f.sorts[i]? = some (f.sorts[i]'(by omega)) := List.getElem?_eq_getElem (by omega)
    rw [readV_get h1 h3, h1]
    have gp : e.parts[i]? = some (partInV ws[i] (f.sorts[i]'(by omega))) := by rw [← h2.2]; exact readV_get h1 h3
    obtain ⟨_, fit⟩ := he.fit i _ _ gp (by rw [← es]; exact h3)
    exact congrArg some (partIn_word (f.sorts_in _ (List.mem_of_getElem? h3)) fit).1.symm
  · rw [List.getElem?_eq_none (by omega), List.getElem?_eq_none (by rw [readV_len l]; omega)]
    rfl
theorem isE_read {f e : Ent} {ws : List Str} (he : e.Fine) (ew : f.word = e.word) (hws : ws = e.parts.map partT) : V.str f.word :: readV ws f.sorts = e.vals := by
  show _ = V.str e.word :: e.parts
  rw [ew]
  congr 1
  have es : f.sorts = e.sorts := sorts_word ew
  rw [es, hws]
  refine List.ext_getElem? fun i => ?_
  by_cases li : i < e.parts.length
  · have h1 : e.parts[i]? = some e.parts[i] := List.getElem?_eq_getElem li
    have h3 : e.sorts[i]? = some (e.sorts[i]'(by rw [← e.len_parts]; exact li)) := List.getElem?_eq_getElem _
    have h4 : (e.parts.map partT)[i]? = some (partT e.parts[i]) := by rw [List.getElem?_map, h1]; rfl
    rw [readV_get h4 h3, h1]
    obtain ⟨_, fit⟩ := he.fit i _ _ h1 h3
    have ok : PartOk e.parts[i] := fine_parts he _ (List.mem_cons_of_mem _ (List.getElem_mem li))
    exact congrArg some (partIn_back ok (e.sorts_in _ (List.mem_of_getElem? h3)) fit)
  · rw [List.getElem?_eq_none (by rw [readV_len (by rw [List.length_map, e.len_parts])]; rw [← e.len_parts]; omega), List.getElem?_eq_none (by omega)]
def spEntryInA (Ts : List Addr) : Sp := fun vs H Q _ => ∃ x : Str, vs = [.str x] ∧ x.length ≤ 900 ∧ TabsG Ts H ∧ (∀ e : Ent, e.Fine → x = entT e → ∀ (tp : Addr) (H' : Hp), TB1 Ts H H' → H tp = none → H' tp = some (.tup e.vals) → Q (.ref tp) H') ∧ ((∀ e : Ent, e.Fine → x ≠ entT e) → ∀ H', TB1 Ts H H' → Q .non H')
/-! ### entry_in of any text -/
section
variable {P : Program} {w : World} {K : PySem.W.Frag} {mg : Str → Option Value} {base : Heap}
theorem split_cons (x : Str) {sep : Str} (hs : 0 < sep.length) : ∃ w0 ws, Txt.split x sep = w0 :: ws := by
  cases h : Txt.split x sep with
  | cons a r => exact ⟨a, r, rfl⟩
  | nil =>
    exfalso
    have j := StrLaws.join_split x sep
    rw [h] at j
    have lx : x.length = 0 := by rw [← j]; rfl
    unfold Txt.split at h
    rw [if_pos (by rw [Bool.or_eq_true]; exact .inl (decide_eq_true (by omega)))] at h
    exact absurd h (by simp)
theorem thg_part {x s : Str} {H : Hp} (l : x.length ≤ 900) : Thg H (partInV x s) := by
  unfold partInV numV
  split
  · exact .str x (by omega)
  · split
    · split
      · exact .int _
      · exact .non
    · split
      · exact .str "" (by decide +kernel)
      · split
        · exact .non
        · exact .str x (by omega)
theorem kl_get {aF t0 : Addr} {w0 : Str} {H3 : Hp} {Qx : V → Hp → Prop} (hF : ∀ e : Ent, ∃ aS, KDct K w aF e.word (.ref aS) ∧ ∀ H, SqT K H aS (e.sorts.map V.str)) (hN : ∀ z : Str, z ∉ words7 → KLook K w aF z none) (h0 : H3 t0 = some (.tup []))
    (go : ∀ (b : Addr) (ss : List Str), (∀ H' : Hp, TK H3 H' → SqT K H' b (ss.map V.str)) → ((∃ f : Ent, f.word = w0 ∧ ss = f.sorts) ∨ (w0 ∉ words7 ∧ ss = [])) → Qx (.ref b) H3) :
    ∃ r, KLook K w aF w0 r ∧ match r with | some u => ∃ v, RelV v u ∧ Qx v H3 | none => Qx (.ref t0) H3 := by
  by_cases h : w0 ∈ words7
  · obtain ⟨f, rfl⟩ := word_of h
    obtain ⟨aS, ⟨es, n, u, hl, hk, hn, ru⟩, sq⟩ := hF f
    exact ⟨some u, ⟨es, n, hl, hk, hn⟩, .ref aS, ru, go aS f.sorts (fun H' _ => sq H') (.inl ⟨f, rfl, rfl⟩)⟩
  · exact ⟨none, hN w0 h, go t0 [] (fun H' k => SqT.of (k _ _ h0)) (.inr ⟨h, rfl⟩)⟩
abbrev sEntryInN : List Str := ["text", "words", "sorts", "parts", "word", "sort", "entry"]
theorem sc_sEntryIn : FnScope sEntryInN ["text"] (defScope sEntryIn) := ⟨rfl, rfl, rfl, by decide +kernel, rfl, by decide +kernel, by decide +kernel⟩
set_option maxHeartbeats 1000000 in
theorem ok_entryInA {f fP fI T T1 T2 aF : Addr} {Ts : List Addr} {fd dP dI : FuncData} (F : Fun K "entry_in" "entry_in" sEntryIn f fd) (PI : DefT P w K mg base "part_in" 2 fP dP ["word", "sort"] (spPartIn T)) (IE : DefT P w K mg base "is_entry" 4 fI dI ["thing"] (spIsEntryA T1 T2))
    (i0 : T ∈ Ts) (i1 : T1 ∈ Ts) (i2 : T2 ∈ Ts) (ml : mg "len" = none) (mz : mg "zip" = none) (mF : mg "FORMS" = some (.ref aF)) (smF : (aF == sysModules) = false) (hF : ∀ e : Ent, ∃ aS, KDct K w aF e.word (.ref aS) ∧ ∀ H, SqT K H aS (e.sorts.map V.str)) (hN : ∀ z : Str, z ∉ words7 → KLook K w aF z none) : FnOk P w K mg base CX0 5 f fd ["text"] (spEntryInA Ts) := by
  refine F.ok sc_sEntryIn (fun vs H Q E h => ?_) (fun cdv A outer s H vs Q E hr h => ?_)
  · obtain ⟨x, rfl, _⟩ := h
    rfl
  · obtain ⟨x, rfl, l9, tg, qy, qn⟩ := h
    have nd := sc_sEntryIn.nd
    have hr2 : Room 2 _ := hr.mono (by decide)
    refine ⟨_, pss_cons (ps_set (i := 1) nd rfl (Or.inl rfl) (pe_split (pv 0) pe_str))
      (pss_cons (ps_set (i := 2) nd rfl (Or.inl rfl) (pe_kget2 (pe_glob (v := .ref aF) (u := .ref aF) (by rfl) mF rfl) (pe_ix ix_list (pv 1) pe_int (fun _ _ => rfl)) (pe_tup pa_nil) ⟨rfl, rfl, rfl, rfl⟩))
      (pss_cons (ps_if (pt_cmpR op_ne (pe_callB call_len_seq (by rfl) ml PySem.boot_len (pa_cons (pv 1) pa_nil)) (pe_op op_add (pe_callB call_len_seq (by rfl) ml PySem.boot_len (pa_cons (pv 2) pa_nil)) pe_int) (nomark _)) (pss_one (ps_ret pe_non)) pss_nil)
      (pss_cons (ps_setLc (i := 3) (own := [("word", 4), ("sort", 5)]) (g := gTup K 2 (gCons (gName 4) (gCons (gName 5) gNil))) (tt := tYes) (te := tCall (spPartIn T) [] E0 (tCons (tVar 4) (tCons (tVar 5) tNil))) rfl nd rfl rfl (sw_true rfl rfl rfl (by decide +kernel)) (pi_zipLT (by rfl) mz (pa_cons (pe_slice sl_list (pv 1) (po_some pe_int) po_none) (pa_cons (pv 2) pa_nil))) (blkOk_by (N := sEntryInN) (sc := defScope sEntryIn) (by decide +kernel)) (fun _ _ _ _ _ => (pg_tup (by rfl) (pgs_cons (pg_name (i := 4) nd rfl (Or.inl rfl)) (pgs_cons (pg_name (i := 5) nd rfl (Or.inl rfl)) pgs_nil)))) (fun _ _ _ _ _ => pts_nil) (fun _ _ _ _ _ => (pe_call PI.ok hr2 (by rfl) PI.g PI.kp PI.b .nil pass0 (pa_cons (pv 4) (pa_cons (pv 5) pa_nil)))))
      (pss_cons (ps_set (i := 6) nd rfl (Or.inl rfl) (pe_tup (pa_cons (pe_ix ix_list (pv 1) pe_int (fun _ _ => rfl)) (StX.pa_star (pv 3) pa_nil))))
      (pss_one (ps_ret (pe_ifExp (pt_val (pe_call IE.ok hr (by rfl) IE.g IE.kp IE.b .nil pass0 (pa_cons (pv 6) pa_nil))) (pv 6) pe_non))))))), ?_⟩
    refine ⟨_, rfl, ⟨_, rfl⟩, _, _, rfl, rfl, (by decide +kernel), (by rw [sizeLine_eq]; omega), fun wl nwl => ?_⟩
    obtain ⟨w0, ws, hw⟩ := split_cons x (sep := " ") (by decide +kernel)
    have lw : ∀ y ∈ w0 :: ws, y.length ≤ 900 := fun y hy => Nat.le_trans (split_len (hw ▸ hy)) l9
    rw [hw]
    have s1 := @same_new _ _ (.lst ((w0 :: ws).map V.str)) nwl
    have h1 : (upd H wl (.lst ((w0 :: ws).map V.str))) wl = some (.lst ((w0 :: ws).map V.str)) := upd_same
    generalize upd H wl (.lst ((w0 :: ws).map V.str)) = H1 at s1 h1
    have a0 : atI ((w0 :: ws).map V.str) 0 = some (.str w0) := atI_nat (j := 0) rfl
    obtain ⟨r0, kl0⟩ : ∃ r, KLook K w aF w0 r := by
      by_cases h : w0 ∈ words7
      · obtain ⟨f, rfl⟩ := word_of h
        obtain ⟨aS, ⟨es, n, u, hl, hk, hn, ru⟩, sq⟩ := hF f
        exact ⟨some u, ⟨es, n, hl, hk, hn⟩⟩
      · exact ⟨none, hN w0 h⟩
    refine ⟨aF, rfl, smF, ⟨w0, r0, kl0⟩, _, rfl, wl, _, 0, _, rfl, rfl, SqL.of h1, a0, w0, rfl, (by show 0 ≤ sizeLine; decide), fun t0 nt0 => ?_⟩
    have s2 := @same_new _ _ (.tup []) nt0
    have ht0 : (upd H1 t0 (.tup [])) t0 = some (.tup []) := upd_same
    generalize upd H1 t0 (.tup []) = H2 at s2 ht0
    have h12 := s2 _ _ h1
    have s02 := s1.trans s2
    refine kl_get hF hN ht0 fun b ss sq cs => ?_
    -- what the text is
    have s6 : ∀ s ∈ ss, s ∈ sorts6 := by
      rcases cs with ⟨f, _, rfl⟩ | ⟨_, rfl⟩
      · exact f.sorts_in
      · exact fun s h => nomatch h
    have len_no : ws.length ≠ ss.length → ∀ e : Ent, e.Fine → x ≠ entT e := fun nl e he hx => by
      obtain ⟨ew, ep⟩ := head_word he hx hw
      rcases cs with ⟨f, fw, rfl⟩ | ⟨nw, rfl⟩
      · refine nl ?_
        rw [ep, List.length_map, e.len_parts, sorts_word (fw.trans ew)]
      · exact nw (ew ▸ Ent.word_in e)
    have yes : ws.length = ss.length → IsE (.str w0 :: readV ws ss) → ∃ e : Ent, e.Fine ∧ V.str w0 :: readV ws ss = e.vals ∧ x = entT e := fun l ⟨e, he, hv⟩ => by
      rcases cs with ⟨f, fw, rfl⟩ | ⟨nw, rfl⟩
      · subst fw
        exact ⟨e, he, hv, read_isE hw l he hv⟩
      · have h2 := List.cons.inj (show V.str w0 :: readV ws [] = V.str e.word :: e.parts from hv)
        exact absurd (V.str.inj h2.1 ▸ Ent.word_in e) nw
    have no : ¬ IsE (.str w0 :: readV ws ss) → ∀ e : Ent, e.Fine → x ≠ entT e := fun ni e he hx => by
      obtain ⟨ew, ep⟩ := head_word he hx hw
      rcases cs with ⟨f, fw, rfl⟩ | ⟨nw, rfl⟩
      · subst fw
        exact ni ⟨e, he, isE_read he ew ep⟩
      · exact nw (ew ▸ Ent.word_in e)
    have s900 : ∀ v ∈ readV ws ss, ∀ H' : Hp, Thg H' v := fun v hv H' => by
      obtain ⟨i, hi⟩ := List.mem_iff_getElem?.mp hv
      unfold readV at hi
      rw [List.getElem?_zipWith] at hi
      cases e1 : ws[i]? with
      | none => rw [e1] at hi; exact nomatch hi
      | some y =>
        cases e2 : ss[i]? with
        | none => rw [e1, e2] at hi; exact nomatch hi
        | some s =>
          rw [e1, e2] at hi
          rw [← Option.some.inj hi]
          exact thg_part (lw y (List.mem_cons_of_mem _ (List.mem_of_getElem? e1)))
    have l6 : ss.length ≤ 6 := by
      rcases cs with ⟨f, _, rfl⟩ | ⟨_, rfl⟩
      · have := vals_len10 f
        have : f.vals.length = f.sorts.length + 1 := vals_len f
        omega
      · exact Nat.zero_le _
    have b2 : TB1 Ts H H2 := .same tg s02
    by_cases l : ws.length = ss.length
    · refine ⟨_, rfl, wl, _, rfl, .inl (SqL.of h12), _, rfl, b, _, rfl, .inr (sq H2 fun _ _ e => e), _, 1, rfl, rfl, rfl, false, ?_, iteF ?_⟩
      · refine congrArg V.bl ?_
        have l1 : (((w0 :: ws).map V.str).length : Int) = ((ss.map V.str).length : Int) + 1 := by
          rw [List.length_map, List.length_map, List.length_cons, l]
          rfl
        rw [l1, decide_eq_true rfl]
        rfl
      refine ⟨_, rfl, 1, rfl, wl, _, rfl, SqL.of h12, fun wp nwp => ?_⟩
      have s3 := @same_new _ _ (.lst (cutV ((w0 :: ws).map V.str) (some 1) none)) nwp
      have h3 : (upd H2 wp (.lst (cutV ((w0 :: ws).map V.str) (some 1) none))) wp = some (.lst (ws.map V.str)) := by
        rw [upd_same, show cutV ((w0 :: ws).map V.str) (some 1) none = ((w0 :: ws).map V.str).drop 1 from cut_tail (k := 1)]
        rfl
      generalize upd H2 wp (.lst (cutV ((w0 :: ws).map V.str) (some 1) none)) = H3 at s3 h3
      have s03 := s02.trans s3
      have tg3 := tabs_sm s03 tg
      refine ⟨_, rfl, wp, b, _, _, rfl, SqL.of h3, sq H3 (TK.of s3), fun D nD => ?_⟩
      have s4 := @same_new _ _ (.lst []) nD
      refine lc_zipLT (K := K) (a := wp) (b := b) (xs := ws.map V.str) (ys := ss.map V.str) (by rw [List.length_map, List.length_map, l]) (fun j H' => TB1 Ts H3 H' ∧ H' D = some (.lst ((readV ws ss).take j))) ⟨.same tg3 s4, upd_same⟩ (fun j H' _ z => ⟨SqL.of (z.1.lst h3), sq H' ((TK.of s3).tr z.1.tk)⟩) ?_ ?_
      · rintro j x' y TT H5 hx hy ⟨b5, hD5⟩ nT
        rw [List.getElem?_map] at hx hy
        obtain ⟨y', hy', rfl⟩ := Option.map_eq_some_iff.mp hx
        obtain ⟨srt, hsrt, rfl⟩ := Option.map_eq_some_iff.mp hy
        have s6' := @same_new _ _ (.tup [V.str y', V.str srt]) nT
        have b6 : TB1 Ts H3 (upd H5 TT (.tup [V.str y', V.str srt])) := b5.tr (.same b5.1 s6')
        have hD6 := s6' _ _ hD5
        refine ⟨TT, _, rfl, SqT.of upd_same, rfl, _, _, rfl, _, _, rfl, rfl, rfl, yesT ?_⟩
        refine ⟨_, rfl, _, rfl, y', srt, rfl, small_sz (by have := lw y' (List.mem_cons_of_mem _ (List.mem_of_getElem? hy')); omega), b6.1 T i0, fun H7 tb7 => ?_⟩
        have b7 : TB1 Ts H3 H7 := b6.tr (.tab tb7 b6.1 i0)
        have hD7 : H7 D = some (.lst ((readV ws ss).take j)) := (TB1.tab tb7 b6.1 i0).lst hD6
        refine ⟨_, hD7, small1000 (by rw [List.length_take, readV_len l]; omega), b7.put nD hD7, ?_⟩
        rw [upd_same, take_sn (readV_get hy' hsrt)]
      · rintro H5 ⟨b5, hD5⟩
        rw [List.length_map, l, ← readV_len l, List.take_length] at hD5
        have h15 : H5 wl = some (.lst ((w0 :: ws).map V.str)) := b5.lst (s3 _ _ h12)
        refine ⟨_, rfl, wl, _, 0, _, rfl, rfl, SqL.of h15, a0, _, rfl, D, readV ws ss, rfl, .inr (SqL.of hD5), ?_⟩
        refine (show (V.str w0 :: (readV ws ss ++ [])).length ≤ sizeLine ∧ ∀ p, H5 p = none → _ from ?_)
        rw [List.append_nil]
        refine ⟨?_, fun tp ntp => ?_⟩
        · show ((readV ws ss).length + 1) ≤ sizeLine
          rw [readV_len l]
          exact Nat.le_of_lt (small1000 (by omega))
        have s6' := @same_new _ _ (.tup (V.str w0 :: readV ws ss)) ntp
        have htp : (upd H5 tp (.tup (V.str w0 :: readV ws ss))) tp = some (.tup (V.str w0 :: readV ws ss)) := upd_same
        generalize upd H5 tp (.tup (V.str w0 :: readV ws ss)) = H6 at s6' htp
        have b05 := (TB1.same tg s03).tr b5
        have b6 : TB1 Ts H H6 := b05.tr (.same b5.1 s6')
        refine ⟨_, rfl, .ref tp, rfl, b6.1 T1 i1, b6.1 T2 i2, .inr ⟨tp, _, rfl, htp, ?_, ?_, fun ie H7 tb7 => ?_, fun ni H7 tb7 => ?_⟩⟩
        · rw [List.length_cons, readV_len l]
          omega
        · intro v hv
          rcases List.mem_cons.mp hv with rfl | hv
          · exact .str w0 (by have := lw w0 List.mem_cons_self; omega)
          · exact s900 v hv H6
        · have b7 : TB1 Ts H6 H7 := .of2 b6.1 i1 i2 tb7
          obtain ⟨e, he, hv, hx⟩ := yes l ie
          exact ⟨true, rfl, iteT ⟨_, rfl, qy e he hx tp H7 (b6.tr b7) (b05.free _ ntp) (hv ▸ b7.tk _ _ htp)⟩⟩
        · have b7 : TB1 Ts H6 H7 := .of2 b6.1 i1 i2 tb7
          exact ⟨false, rfl, iteF (qn (no ni) H7 (b6.tr b7))⟩
    · refine ⟨_, rfl, wl, _, rfl, .inl (SqL.of h12), _, rfl, b, _, rfl, .inr (sq H2 fun _ _ e => e), _, 1, rfl, rfl, rfl, true, ?_, iteT (qn (len_no l) H2 b2)⟩
      refine congrArg V.bl ?_
      rw [decide_eq_false]
      · rfl
      · intro z
        have z' := V.int.inj z
        rw [List.length_map, List.length_map, List.length_cons] at z'
        exact l (by omega)
end
/-! ### xs == [], xs != [] -/
def rEqNil (K : PySem.W.Frag) (neg : Bool) : R2 := fun x y H Q => ∃ (a b : Addr) (xs : List V), x = .ref a ∧ y = .ref b ∧ SqL K H a xs ∧ SqL K H b [] ∧ Q (.bl (if neg then !xs.isEmpty else xs.isEmpty)) H
theorem op_eqNil {X : Cx} (hu : X.A.units < cLine) : OpR X (compareOp .Eq) (rEqNil X.K false) := by
  rintro pins s σ H x y v u Q I rx ry ⟨a, b, xs, rfl, rfl, ha, hb, q⟩
  cases rx
  cases ry
  obtain ⟨its, r1, p1, _⟩ := I.list ha
  obtain ⟨jts, r2, p2, _⟩ := I.list hb
  cases r2
  cases r1 with
  | nil => exact PySem.SeqAt.eq_listAt (e := fun _ => true) p1.isList p2.isList rfl hu (fun j h1 => absurd h1 (Nat.not_lt_zero _)) ⟨.bl _, H, I, rfl, q⟩
  | cons h t => exact PySem.SeqAt.eq_list_lengthsAt p1.isList p2.isList (by simp) hu ⟨.bl _, H, I, rfl, q⟩
theorem op_neNil {X : Cx} (hu : X.A.units < cLine) : OpR X (compareOp .NotEq) (rEqNil X.K true) := by
  rintro pins s σ H x y v u Q I rx ry ⟨a, b, xs, rfl, rfl, ha, hb, q⟩
  cases rx
  cases ry
  obtain ⟨its, r1, p1, _⟩ := I.list ha
  obtain ⟨jts, r2, p2, _⟩ := I.list hb
  cases r2
  cases r1 with
  | nil => exact PySem.SeqAt.RcNeAt.lists (e := fun _ => true) p1.isList p2.isList rfl hu (fun j h1 => absurd h1 (Nat.not_lt_zero _)) _ _ _ _ ⟨.bl _, H, I, rfl, q⟩
  | cons h t => exact PySem.SeqAt.RcNeAt.lists_lengths p1.isList p2.isList (by simp) hu _ _ _ _ ⟨.bl _, H, I, rfl, q⟩
/-! ### the law's own numbers -/
def lnum (x : Str) : Int := if numOk x = true then (NumText.digitsVal x.cps.toList : Nat) else -1
theorem un0 {a : Nat} (h : a + 64 < cLine) : a < cLine := by omega
def badF (l : List Nat) : List Str := (l.filter fun c => !decide (c ∈ figs.cps.toList)).map fun c => ⟨#[c]⟩
theorem badF_nil (l : List Nat) : (badF l).isEmpty = l.all figB := by
  unfold badF
  induction l with
  | nil => rfl
  | cons c r ih =>
    rw [List.filter_cons, List.all_cons]
    unfold figB at ih ⊢
    by_cases b : c ∈ figs.cps.toList
    · rw [decide_eq_true b]
      simpa using ih
    · rw [decide_eq_false b]
      rfl
def spLNumber : Sp := fun vs H Q _ => ∃ x : Str, vs = [.str x] ∧ x.length ≤ 1000 ∧ ∀ H', Same H H' → Q (.int (lnum x)) H'
theorem len_emp {x : Str} (h : x.length = 0) : x = "" := by
  apply str_ext
  have : x.length = x.cps.toList.length := by simp [Str.length]
  rw [this] at h
  rw [List.length_eq_zero_iff.mp h]
  decide +kernel
theorem zero_starts {x : Str} : Txt.startswith x "0" = true → ∃ r, x.cps.toList = 48 :: r := fun h => by
  unfold Txt.startswith at h
  rw [Bool.and_eq_true] at h
  have h2 := h.2
  unfold Builtin.Str.subAt at h2
  have h3 : x.cps.extract 0 (0 + ("0" : Str).length) = ("0" : Str).cps := by simpa using h2
  have l1 : ("0" : Str).length = 1 := by decide +kernel
  have l2 : ("0" : Str).cps.toList = [48] := by decide +kernel
  have h4 := congrArg Array.toList h3
  rw [Array.toList_extract, l1, l2] at h4
  cases e : x.cps.toList with
  | nil => rw [e] at h4; exact absurd h4 (by simp)
  | cons a r =>
    rw [e] at h4
    have h5 : [a] = [48] := by simpa using h4
    exact ⟨r, by rw [(List.cons.inj h5).1]⟩
section
variable {P : Program} {w : World} {K : PySem.W.Frag} {mg : Str → Option Value} {base : Heap}
abbrev sLNumberN : List Str := ["_law_word", "_law_sign"]
theorem sc_sLNumber : FnScope sLNumberN ["_law_word"] (defScope sLNumber) := ⟨rfl, rfl, rfl, by decide +kernel, rfl, by decide +kernel, by decide +kernel⟩
theorem ok_lnumber {f : Addr} {fd : FuncData} (F : Fun K "_law_number" "_law_number" sLNumber f fd) (ml : mg "len" = none) (mi : mg "int" = none) : FnOk P w K mg base CX0 1 f fd ["_law_word"] spLNumber := by
  refine F.ok sc_sLNumber (fun vs H Q E h => ?_) (fun cdv A outer s H vs Q E hr h => ?_)
  · obtain ⟨x, rfl, _⟩ := h
    rfl
  · obtain ⟨x, rfl, l1, q⟩ := h
    have nd := sc_sLNumber.nd
    refine ⟨_, pss_cons (ps_if (PW.pt (pw_or (pt_cmpR op_eq (pv 0) pe_str (nomark _)) (pw_or (pt_cmpR op_gt (pe_callB call_len_str (by rfl) ml PySem.boot_len (pa_cons (pv 0) pa_nil)) pe_int (nomark _)) (pw_or1 (pt_cmpR (op_neNil (un0 hr.units)) (pe_lc (own := [("_law_sign", 1)]) (g := gName 1) (tt := _) (te := tVar 1) rfl nd (pi_str (pv 0)) (blkOk_by (N := sLNumberN) (sc := defScope sLNumber) (by decide +kernel)) (fun _ _ _ _ _ => (pg_name (i := 1) nd rfl (Or.inl rfl))) (fun _ _ _ _ _ => (pts_one (pt_cmpR op_notIn_sign (pv 1) pe_str (by rfl)))) (fun _ _ _ _ _ => (pv 1))) (pe_lst pa_nil) (nomark _)))))) (pss_one (ps_ret (pe_un un_neg pe_int))) pss_nil)
      (pss_cons (ps_if (PW.pt (pw_and (pt_cmpR op_eq (pe_ix ix_str (pv 0) pe_int (fun _ _ => rfl)) pe_str (nomark _)) (pw_and1 (pt_cmpR op_ne (pv 0) pe_str (nomark _))))) (pss_one (ps_ret (pe_un un_neg pe_int))) pss_nil)
      (pss_one (ps_ret (pe_callTy call_int_str (by rfl) mi (by decide +kernel) (pa_cons (pv 0) pa_nil))))), ?_⟩
    have hz : x.length ≤ sizeLine := Nat.le_of_lt (small1000 l1)
    have fail : numOk x = false → ∀ H', Same H H' → Q (.int (-1)) H' := fun z H' sm => by
      have e := q H' sm
      unfold lnum at e
      rw [z] at e
      exact e
    refine ⟨_, rfl, rfl, _, rfl, ?_⟩
    by_cases e0 : x = ""
    · rw [decide_eq_true (congrArg V.str e0)]
      have nk : numOk x = false := by rw [e0]; decide +kernel
      exact iteT ⟨1, rfl, fail nk H fun _ _ e => e⟩
    rw [decide_eq_false fun z => e0 (V.str.inj z)]
    refine iteF ⟨_, rfl, x, rfl, hz, _, 60, rfl, rfl, _, rfl, ?_⟩
    by_cases e1 : (60 : Int) < (x.length : Int)
    · rw [decide_eq_true e1]
      have nk : numOk x = false := by
        unfold numOk
        rw [decide_eq_false (show ¬ (x.length : Int) ≤ 60 by omega), Bool.and_false]
        rfl
      exact iteT ⟨1, rfl, fail nk H fun _ _ e => e⟩
    rw [decide_eq_false e1]
    refine iteF ?_
    refine ⟨_, rfl, x, rfl, fun D nD => lc_it walk_str (fun i H' => Same H H' ∧ H' D = some (.lst ((badF (x.cps.toList.take i)).map V.str))) ⟨same_new nD, upd_same⟩ (fun _ _ _ _ => True.intro) ?_ ?_⟩
    · rintro i v H1 H2 hi ⟨s1, h1⟩ ⟨rfl, cc, hc, rfl⟩
      have hc' : x.cps.toList[i]? = some cc := by rw [Array.getElem?_toList]; exact hc
      have tk : badF (x.cps.toList.take (i + 1)) = badF (x.cps.toList.take i) ++ badF [cc] := by
        rw [List.take_add_one, hc']
        unfold badF
        rw [List.filter_append, List.map_append]
        rfl
      refine ⟨rfl, _, rfl, cc, figs, rfl, rfl, _, rfl, ?_⟩
      have lb : (badF (x.cps.toList.take i)).length ≤ 1000 := by
        unfold badF
        rw [List.length_map]
        refine Nat.le_trans (List.length_filter_le _ _) (Nat.le_trans (List.length_take_le _ _) (Nat.le_trans (Nat.le_of_lt hi) l1))
      by_cases b : cc ∈ figs.cps.toList
      · rw [decide_eq_true b]
        refine iteF ⟨s1, ?_⟩
        rw [tk]
        have : badF [cc] = [] := by
          unfold badF
          rw [List.filter_cons, decide_eq_true b]
          rfl
        rw [this, List.append_nil]
        exact h1
      · rw [decide_eq_false b]
        refine iteT ⟨_, rfl, _, h1, ?_, ?_, ?_⟩
        · rw [List.length_map]
          exact Nat.lt_of_le_of_lt lb (by decide)
        · exact fun a o e => by
            rw [upd_ne (fun w => by rw [w] at e; rw [nD] at e; exact nomatch e)]
            exact s1 a o e
        · rw [tk]
          have : badF [cc] = [⟨#[cc]⟩] := by
            unfold badF
            rw [List.filter_cons, decide_eq_false b]
            rfl
          rw [this, List.map_append]
          exact upd_same
    · rintro H2 ⟨s2, h2⟩
      refine ⟨Nat.zero_le _, fun p np => ?_⟩
      have s3 : Same H2 (upd H2 p (.lst [])) := same_new np
      have h3 : (upd H2 p (.lst [])) p = some (.lst []) := upd_same
      have hD := s3 _ _ h2
      generalize upd H2 p (.lst []) = H3 at s3 h3 hD ⊢
      have full : x.cps.toList.take x.cps.size = x.cps.toList := List.take_of_length_le (Nat.le_of_eq (Array.length_toList ..))
      rw [full] at hD
      have s03 := s2.trans s3
      refine ⟨D, p, _, rfl, rfl, SqL.of hD, SqL.of h3, ?_⟩
      have ie : ((badF x.cps.toList).map V.str).isEmpty = x.cps.toList.all figB := by
        rw [← badF_nil]
        cases badF x.cps.toList <;> rfl
      cases e4 : x.cps.toList.all figB with
      | false =>
        rw [e4] at ie
        have nk : numOk x = false := by
          unfold numOk
          rw [e4, Bool.and_false]
          rfl
        exact ⟨true, by rw [if_pos rfl, ie]; rfl, iteT ⟨1, rfl, fail nk _ s03⟩⟩
      | true =>
        rw [e4] at ie
        refine ⟨false, by rw [if_pos rfl, ie]; rfl, iteF ?_⟩
        have e2 : (1 : Int) ≤ (x.length : Int) := by
          by_cases z : x.length = 0
          · exact absurd (len_emp z) e0
          · omega
        have ad : NumText.AllDigits x.cps.toList := fun c hc => (figB_iff c).mp (List.all_eq_true.mp e4 c hc)
        have lx : x.length = x.cps.toList.length := by simp [Str.length]
        have hl : (x.length : Int) ≤ 60 := by omega
        have fin : numOk x = true → tRet (tCB (fun xs H Q => ∃ a n, xs = [V.str a] ∧ intText? a = some n ∧ a.length ≤ 640 ∧ Q (V.int n) H) (tCons (tVar 0) tNil)) { nx := fun x H' => Q V.non H', rt := Q } (L2.start sLNumberN [V.str x]) H3 := fun ok => by
          have e7 : lnum x = (NumText.digitsVal x.cps.toList : Nat) := by unfold lnum; rw [if_pos ok]
          have e3 := q H3 s03
          rw [e7] at e3
          exact ⟨_, rfl, x, _, rfl, intText_digits ad (fun z => by rw [lx, z] at e2; exact absurd e2 (by decide)) (by omega), by omega, e3⟩
        cases ex : x.cps.toList with
        | nil => rw [lx, ex] at e2; exact absurd e2 (by decide)
        | cons a r =>
          have at0' : atI x.cps.toList 0 = some a := by rw [ex]; exact atI_nat (j := 0) rfl
          have z48 : ("0" : Str) = ⟨#[48]⟩ := by decide +kernel
          refine ⟨_, rfl, x, 0, a, rfl, rfl, hz, at0', rfl, _, rfl, ?_⟩
          by_cases a48 : a = 48
          · subst a48
            have st := starts_zero ex
            rw [decide_eq_true (congrArg V.str z48.symm)]
            refine iteT ⟨_, rfl, rfl, _, rfl, ?_⟩
            by_cases e6 : x = "0"
            · rw [decide_eq_true (congrArg V.str e6)]
              refine iteF (fin ?_)
              rw [e6]
              decide +kernel
            · rw [decide_eq_false fun z => e6 (V.str.inj z)]
              have nk : numOk x = false := by
                unfold numOk
                rw [st, decide_eq_false e6, show (!(true && !false)) = false from rfl, Bool.and_false]
              exact iteT ⟨1, rfl, fail nk H3 s03⟩
          · have ne : ¬ (⟨#[a]⟩ : Str) = "0" := fun z => by
              rw [z48] at z
              have h5 : (#[a] : Array Nat) = #[48] := congrArg Str.cps z
              exact a48 (by simpa using h5)
            rw [decide_eq_false fun z => ne (V.str.inj z)]
            have ns : Txt.startswith x "0" = false := by
              cases e : Txt.startswith x "0" with
              | false => rfl
              | true =>
                obtain ⟨r', e'⟩ := zero_starts e
                rw [ex] at e'
                exact absurd (List.cons.inj e').1 a48
            refine iteF (iteF (fin ?_))
            unfold numOk
            rw [decide_eq_true e2, decide_eq_true hl, e4, ns]
            rfl
end
/-! ### d.update(e) -/
theorem mt_update {X : Cx} : MtR X "dict.update" (fun x vs H Q => ∃ (d o : Addr) (kvs more : List (Key × V)), x = .ref d ∧ vs = [.ref o] ∧ d ≠ o ∧ H d = some (.dK kvs) ∧ Rd H o (.dK more) ∧ kvs.length + more.length ≤ 1000 ∧ Q .non (upd H d (.dK (mergeK kvs more)))) := by
  intro pins s σ H x vs v us Q I rx rv h
  obtain ⟨d, o, kvs, more, rfl, rfl, ne, hd, ho, hz, q⟩ := h
  cases rx
  obtain ⟨u, rfl, r1⟩ := vals1 rv
  cases r1
  obtain ⟨zo, oS, vo, ro, dd⟩ := dk_rd I.hok ho
  obtain ⟨zd, dS, vd, rd, dd2⟩ := dk_of I.hok hd
  have e1 := rd.length
  have e2 := ro.length
  refine call_meetsIn PySem.F.slot_dict_update dd2.typeIs PySem.F.entry_dict_update (PySem.F.args_dict_update_2 _ _) (PySem.meets_dict_update (mixKind X.prog X.w) d o ne oS) ⟨vd, vo, dd2, dd, (by rw [← e1, ← e2, sizeLine_eq]; omega), fun h' d' _ hs => ?_⟩
  have hz2 : (mergeK kvs more).length ≤ sizeLine := by
    have := length_mergeK more kvs
    rw [sizeLine_eq]
    omega
  exact ⟨.non, _, d_write I (by rw [hd]; exact True.intro) hs (let ⟨q, _, _, hq, _⟩ := d'; ⟨q, hq⟩) (dk_new hz2 dS (ro.merge rd) d'), rfl, q⟩
/-! ### the law's own reading of an entry -/
def numsAt (z : Str) : List Int := if z = "come" then [2, 5, 6] else if z = "go" then [2, 5] else if z = "move" then [2, 6] else if z = "some" then [2] else if z = "swap" then [2] else if z = "count" then [2, 5] else [2]
def lenAt (z : Str) : Int := if z = "come" then 7 else if z = "go" then 6 else if z = "move" then 7 else if z = "some" then 6 else if z = "swap" then 5 else if z = "count" then 7 else 5
def partL (x s : Str) : V := if s = "name" then .str x else if s ≠ "end" then .int (lnum x) else if x = "-" then .str "" else .str x
def lawL (ws ss : List Str) : List V := List.zipWith partL ws ss
theorem part_same {x s : Str} (nx : x ≠ "") (h : fitB (partL x s) s = true ∨ fitB (partInV x s) s = true) : partL x s = partInV x s := by
  unfold partL partInV at *
  by_cases e1 : s = "name"
  · rw [if_pos e1, if_pos e1]
  rw [if_neg e1, if_neg e1]
  by_cases e2 : s = "end"
  · have n2 : ¬ (s ≠ "end") := fun z => z e2
    rw [if_neg n2, if_neg n2]
    by_cases e3 : x = "-"
    · rw [if_pos e3, if_pos e3]
    · rw [if_neg e3, if_neg e3, if_neg nx]
  · rw [if_pos e2, if_pos e2]
    rw [if_neg e1, if_neg e1, if_pos e2, if_pos e2] at h
    unfold lnum numV at h ⊢
    by_cases e3 : numOk x = true
    · rw [if_pos e3, if_pos e3]
    · rw [if_neg e3, if_neg e3] at h
      exfalso
      unfold fitB at h
      rw [if_neg e1, if_neg e2, if_neg e1, if_neg e2] at h
      rcases h with h | h
      · have f' : (decide ((bnd s).1 ≤ -1) && decide ((-1 : Int) ≤ (bnd s).2)) = true := h
        rw [Bool.and_eq_true] at f'
        have lo := of_decide_eq_true f'.1
        have b : 0 ≤ (bnd s).1 := by
          unfold bnd
          split
          · decide
          · split <;> decide
        omega
      · exact absurd h (by unfold inB; simp)
theorem lawL_len {ws ss : List Str} (h : ws.length = ss.length) : (lawL ws ss).length = ss.length := by
  unfold lawL
  rw [List.length_zipWith, h, Nat.min_self]
theorem lawL_get {ws ss : List Str} {i : Nat} {x s : Str} (h1 : ws[i]? = some x) (h2 : ss[i]? = some s) : (lawL ws ss)[i]? = some (partL x s) := by
  unfold lawL
  rw [List.getElem?_zipWith, h1, h2]
/-- the two readings are one where one of them is an entry -/
theorem law_same {f : Ent} {ws : List Str} (l : ws.length = f.sorts.length) (ne : ∀ y ∈ ws, y ≠ "") (h : IsE (.str f.word :: lawL ws f.sorts) ∨ IsE (.str f.word :: readV ws f.sorts)) : lawL ws f.sorts = readV ws f.sorts := by
  have same : ∀ (xs : List V), xs.length = f.sorts.length → IsE (.str f.word :: xs) → ∀ (i : Nat) (v : V) (s : Str), xs[i]? = some v → f.sorts[i]? = some s → fitB v s = true := fun xs lx ⟨e, he, hv⟩ i v s h1 h2 => by
    have h3 := List.cons.inj (show V.str f.word :: xs = V.str e.word :: e.parts from hv)
    have es : f.sorts = e.sorts := sorts_word (V.str.inj h3.1)
    exact (he.fit i v s (h3.2 ▸ h1) (es ▸ h2)).2
  refine List.ext_getElem? fun i => ?_
  by_cases li : i < ws.length
  · have h1 : ws[i]? = some ws[i] := List.getElem?_eq_getElem li
    have h3 : f.sorts[i]? = some (f.sorts[i]'(by omega)) := List.getElem?_eq_getElem (by omega)
    rw [lawL_get h1 h3, readV_get h1 h3]
    refine congrArg some (part_same (ne _ (List.getElem_mem li)) ?_)
    rcases h with h | h
    · exact .inl (same _ (lawL_len l) h i _ _ (lawL_get h1 h3) h3)
    · exact .inr (same _ (readV_len l) h i _ _ (readV_get h1 h3) h3)
  · rw [List.getElem?_eq_none (by rw [lawL_len l]; omega), List.getElem?_eq_none (by rw [readV_len l]; omega)]
def setN (W : List Str) (ns : List Int) : List V := ns.foldl (fun l n => l.set n.toNat (.int (lnum (W.getD n.toNat "")))) (W.map V.str)
def fin5 (W : List Str) (l : List V) : List V := if W.head? = some ("some" : Str) ∧ W[5]? = some ("-" : Str) then l.set 5 (.str "") else l
theorem pl_n {x : Str} : partL x "name" = .str x := if_pos rfl
theorem pl_num {x s : Str} (h1 : (s == ("name" : Str)) = false) (h2 : (s == ("end" : Str)) = false) : partL x s = .int (lnum x) := by
  have n1 : ¬ s = "name" := fun e => by rw [e, beq_self_eq_true] at h1; cases h1
  have n2 : s ≠ "end" := fun e => by rw [e, beq_self_eq_true] at h2; cases h2
  unfold partL
  rw [if_neg n1, if_pos n2]
theorem pl_e {x : Str} : partL x "end" = if x = "-" then .str "" else .str x := by
  unfold partL
  rw [if_neg ken, if_neg (fun z => z rfl)]
theorem fin5_no {w0 : Str} {W : List Str} {l : List V} (h : (w0 == ("some" : Str)) = false) : fin5 (w0 :: W) l = l := by
  unfold fin5
  rw [if_neg]
  rintro ⟨e, _⟩
  have e' : w0 = "some" := Option.some.inj e
  rw [e', beq_self_eq_true] at h
  cases h
theorem nums_come : numsAt "come" = [2, 5, 6] := by decide +kernel
theorem nums_go : numsAt "go" = [2, 5] := by decide +kernel
theorem nums_move : numsAt "move" = [2, 6] := by decide +kernel
theorem nums_some : numsAt "some" = [2] := by decide +kernel
theorem nums_swap : numsAt "swap" = [2] := by decide +kernel
theorem nums_count : numsAt "count" = [2, 5] := by decide +kernel
theorem nums_look : numsAt "look" = [2] := by decide +kernel
theorem law_list {f : Ent} {ws : List Str} (l : ws.length = f.sorts.length) : fin5 (f.word :: ws) (setN (f.word :: ws) (numsAt f.word)) = .str f.word :: lawL ws f.sorts := by
  have mo : ∀ {x : Str}, partL x "moment" = .int (lnum x) := pl_num (by decide +kernel) (by decide +kernel)
  have ma : ∀ {x : Str}, partL x "many" = .int (lnum x) := pl_num (by decide +kernel) (by decide +kernel)
  have pr : ∀ {x : Str}, partL x "price" = .int (lnum x) := pl_num (by decide +kernel) (by decide +kernel)
  have co : ∀ {x : Str}, partL x "counted" = .int (lnum x) := pl_num (by decide +kernel) (by decide +kernel)
  cases f with
  | come n m g p k r =>
    match ws, l with
    | [a, b, c, d, e, h], _ =>
      show fin5 ("come" :: [a, b, c, d, e, h]) (setN ("come" :: [a, b, c, d, e, h]) (numsAt "come")) = .str "come" :: [partL a "name", partL b "moment", partL c "name", partL d "name", partL e "many", partL h "price"]
      rw [fin5_no (by decide +kernel), nums_come, pl_n, mo, pl_n, pl_n, ma, pr]
      rfl
  | go n m g p k =>
    match ws, l with
    | [a, b, c, d, e], _ =>
      show fin5 ("go" :: [a, b, c, d, e]) (setN ("go" :: [a, b, c, d, e]) (numsAt "go")) = .str "go" :: [partL a "name", partL b "moment", partL c "name", partL d "name", partL e "many"]
      rw [fin5_no (by decide +kernel), nums_go, pl_n, mo, pl_n, pl_n, ma]
      rfl
  | move n m g o t k =>
    match ws, l with
    | [a, b, c, d, e, h], _ =>
      show fin5 ("move" :: [a, b, c, d, e, h]) (setN ("move" :: [a, b, c, d, e, h]) (numsAt "move")) = .str "move" :: [partL a "name", partL b "moment", partL c "name", partL d "name", partL e "name", partL h "many"]
      rw [fin5_no (by decide +kernel), nums_move, pl_n, mo, pl_n, pl_n, pl_n, ma]
      rfl
  | some_ n m g o t =>
    match ws, l with
    | [a, b, c, d, e], _ =>
      show fin5 ("some" :: [a, b, c, d, e]) (setN ("some" :: [a, b, c, d, e]) (numsAt "some")) = .str "some" :: [partL a "name", partL b "moment", partL c "name", partL d "name", partL e "end"]
      rw [nums_some, pl_n, mo, pl_n, pl_n, pl_e]
      unfold fin5
      by_cases z : e = "-"
      · rw [if_pos z, if_pos ⟨rfl, by rw [← z]; rfl⟩]
        rfl
      · rw [if_neg z, if_neg (fun q => z (Option.some.inj q.2))]
        rfl
  | swap n m o t =>
    match ws, l with
    | [a, b, c, d], _ =>
      show fin5 ("swap" :: [a, b, c, d]) (setN ("swap" :: [a, b, c, d]) (numsAt "swap")) = .str "swap" :: [partL a "name", partL b "moment", partL c "name", partL d "name"]
      rw [fin5_no (by decide +kernel), nums_swap, pl_n, mo, pl_n, pl_n]
      rfl
  | count n m g p k hd =>
    match ws, l with
    | [a, b, c, d, e, h], _ =>
      show fin5 ("count" :: [a, b, c, d, e, h]) (setN ("count" :: [a, b, c, d, e, h]) (numsAt "count")) = .str "count" :: [partL a "name", partL b "moment", partL c "name", partL d "name", partL e "counted", partL h "name"]
      rw [fin5_no (by decide +kernel), nums_count, pl_n, mo, pl_n, pl_n, co, pl_n]
      rfl
  | look n m g p =>
    match ws, l with
    | [a, b, c, d], _ =>
      show fin5 ("look" :: [a, b, c, d]) (setN ("look" :: [a, b, c, d]) (numsAt "look")) = .str "look" :: [partL a "name", partL b "moment", partL c "name", partL d "name"]
      rw [fin5_no (by decide +kernel), nums_look, pl_n, mo, pl_n, pl_n]
      rfl
/-- at t: a length and a list of places -/
def PairAt (H : Hp) (t : Addr) (n : Int) (ns : List Int) : Prop := ∃ l, H t = some (.tup [V.int n, V.ref l]) ∧ H l = some (.lst (ns.map V.int))
theorem PairAt.on {H H' : Hp} {t : Addr} {n : Int} {ns : List Int} (s : Same H H') (h : PairAt H t n ns) : PairAt H' t n ns := by
  obtain ⟨l, h1, h2⟩ := h
  exact ⟨l, s _ _ h1, s _ _ h2⟩
theorem PairAt.upd {H : Hp} {t d : Addr} {n : Int} {ns : List Int} {kvs : List (Key × V)} {o : HO} (hd : H d = some (.dK kvs)) (h : PairAt H t n ns) : PairAt (upd H d o) t n ns := by
  obtain ⟨l, h1, h2⟩ := h
  exact ⟨l, (upd_ne (ne_of h1 hd (by intro z; cases z))).trans h1, (upd_ne (ne_of h2 hd (by intro z; cases z))).trans h2⟩
theorem tp3 {σ : L2.St} {H : Hp} {Q : VK} {n a b c : Int} (go : ∀ t H', Same H H' → PairAt H' t n [a, b, c] → Q (.ref t) H') : tTup (tCons (tC (V.int n)) (tCons (tLst (tCons (tC (V.int a)) (tCons (tC (V.int b)) (tCons (tC (V.int c)) tNil)))) tNil)) σ H Q := by
  refine ⟨(by show 3 ≤ sizeLine; decide), fun l nl => ⟨(by show 2 ≤ sizeLine; decide), fun t nt => ?_⟩⟩
  have s1 := @same_new _ _ (.lst [V.int a, .int b, .int c]) nl
  have s2 := @same_new _ _ (.tup [V.int n, .ref l]) nt
  exact go t _ (s1.trans s2) ⟨l, upd_same, s2 _ _ upd_same⟩
theorem tp2 {σ : L2.St} {H : Hp} {Q : VK} {n a b : Int} (go : ∀ t H', Same H H' → PairAt H' t n [a, b] → Q (.ref t) H') : tTup (tCons (tC (V.int n)) (tCons (tLst (tCons (tC (V.int a)) (tCons (tC (V.int b)) tNil))) tNil)) σ H Q := by
  refine ⟨(by show 2 ≤ sizeLine; decide), fun l nl => ⟨(by show 2 ≤ sizeLine; decide), fun t nt => ?_⟩⟩
  have s1 := @same_new _ _ (.lst [V.int a, .int b]) nl
  have s2 := @same_new _ _ (.tup [V.int n, .ref l]) nt
  exact go t _ (s1.trans s2) ⟨l, upd_same, s2 _ _ upd_same⟩
theorem tp1 {σ : L2.St} {H : Hp} {Q : VK} {n a : Int} (go : ∀ t H', Same H H' → PairAt H' t n [a] → Q (.ref t) H') : tTup (tCons (tC (V.int n)) (tCons (tLst (tCons (tC (V.int a)) tNil)) tNil)) σ H Q := by
  refine ⟨(by show 1 ≤ sizeLine; decide), fun l nl => ⟨(by show 2 ≤ sizeLine; decide), fun t nt => ?_⟩⟩
  have s1 := @same_new _ _ (.lst [V.int a]) nl
  have s2 := @same_new _ _ (.tup [V.int n, .ref l]) nt
  exact go t _ (s1.trans s2) ⟨l, upd_same, s2 _ _ upd_same⟩
theorem tp3k {k : V} {σ : L2.St} {H : Hp} {Q : V → VK} {n a b c : Int} (go : ∀ t H', Same H H' → PairAt H' t n [a, b, c] → Q k (.ref t) H') : tC k σ H fun x H1 => tTup (tCons (tC (V.int n)) (tCons (tLst (tCons (tC (V.int a)) (tCons (tC (V.int b)) (tCons (tC (V.int c)) tNil)))) tNil)) σ H1 (Q x) := tp3 go
theorem tp2k {k : V} {σ : L2.St} {H : Hp} {Q : V → VK} {n a b : Int} (go : ∀ t H', Same H H' → PairAt H' t n [a, b] → Q k (.ref t) H') : tC k σ H fun x H1 => tTup (tCons (tC (V.int n)) (tCons (tLst (tCons (tC (V.int a)) (tCons (tC (V.int b)) tNil))) tNil)) σ H1 (Q x) := tp2 go
theorem tp1k {k : V} {σ : L2.St} {H : Hp} {Q : V → VK} {n a : Int} (go : ∀ t H', Same H H' → PairAt H' t n [a] → Q k (.ref t) H') : tC k σ H fun x H1 => tTup (tCons (tC (V.int n)) (tCons (tLst (tCons (tC (V.int a)) tNil)) tNil)) σ H1 (Q x) := tp1 go
def fmK (t1 t2 t3 t4 t5 t6 t7 : Addr) : List (Key × V) := [(Sum.inr "come", .ref t1), (Sum.inr "go", .ref t2), (Sum.inr "move", .ref t3), (Sum.inr "some", .ref t4), (Sum.inr "swap", .ref t5), (Sum.inr "count", .ref t6), (Sum.inr "look", .ref t7)]
theorem fm_new {t1 t2 t3 t4 t5 t6 t7 : Addr} : mergeK (mergeK [] [(Sum.inr "come", V.ref t1), (Sum.inr "go", .ref t2), (Sum.inr "move", .ref t3), (Sum.inr "some", .ref t4), (Sum.inr "swap", .ref t5)]) (mergeK [] [(Sum.inr "count", V.ref t6), (Sum.inr "look", .ref t7)]) = fmK t1 t2 t3 t4 t5 t6 t7 := rfl
theorem lens (f : Ent) : lenAt f.word = (f.sorts.length : Int) + 1 := by
  cases f with
  | come n m g p k r => exact (by decide +kernel : lenAt "come" = ((6 : Nat) : Int) + 1)
  | go n m g p k => exact (by decide +kernel : lenAt "go" = ((5 : Nat) : Int) + 1)
  | move n m g o t k => exact (by decide +kernel : lenAt "move" = ((6 : Nat) : Int) + 1)
  | some_ n m g o t => exact (by decide +kernel : lenAt "some" = ((5 : Nat) : Int) + 1)
  | swap n m o t => exact (by decide +kernel : lenAt "swap" = ((4 : Nat) : Int) + 1)
  | count n m g p k hd => exact (by decide +kernel : lenAt "count" = ((6 : Nat) : Int) + 1)
  | look n m g p => exact (by decide +kernel : lenAt "look" = ((4 : Nat) : Int) + 1)
theorem nums_rise (f : Ent) : (numsAt f.word).Pairwise (· < ·) := by
  have all : ∀ z ∈ words7, (numsAt z).Pairwise (· < ·) := by decide +kernel
  exact all _ (Ent.word_in f)
theorem nums_in (f : Ent) : ∀ n ∈ numsAt f.word, 0 ≤ n ∧ n < lenAt f.word := by
  have all : ∀ z ∈ words7, ∀ n ∈ numsAt z, 0 ≤ n ∧ n < lenAt z := by decide +kernel
  exact all _ (Ent.word_in f)
theorem setN_snoc (W : List Str) (ns : List Int) (n : Int) : setN W (ns ++ [n]) = (setN W ns).set n.toNat (.int (lnum (W.getD n.toNat ""))) := by
  unfold setN
  rw [List.foldl_append]
  rfl
theorem setN_len (W : List Str) (ns : List Int) : (setN W ns).length = W.length := by
  rcases last_cases ns with rfl | ⟨us, u, rfl⟩
  · exact List.length_map ..
  · induction h : us.length using Nat.strongRecOn generalizing us u with
    | _ k ih =>
      rw [setN_snoc, List.length_set]
      rcases last_cases us with rfl | ⟨us', u', rfl⟩
      · exact List.length_map ..
      · exact ih us'.length (by rw [← h]; simp) us' u' rfl
theorem setN_get (W : List Str) : ∀ (ns : List Int) (k : Nat), (∀ n ∈ ns, n.toNat ≠ k) → (setN W ns)[k]? = (W.map V.str)[k]? := by
  intro ns
  induction h : ns.length using Nat.strongRecOn generalizing ns with
  | _ m ih =>
    intro k hk
    rcases last_cases ns with rfl | ⟨us, u, rfl⟩
    · rfl
    · rw [setN_snoc, List.getElem?_set_ne (hk u (by simp))]
      exact ih us.length (by rw [← h]; simp) us rfl k fun n hn => hk n (by simp [hn])
theorem fm_get {t1 t2 t3 t4 t5 t6 t7 : Addr} {H : Hp} (p1 : PairAt H t1 7 [2, 5, 6]) (p2 : PairAt H t2 6 [2, 5]) (p3 : PairAt H t3 7 [2, 6]) (p4 : PairAt H t4 6 [2]) (p5 : PairAt H t5 5 [2]) (p6 : PairAt H t6 7 [2, 5]) (p7 : PairAt H t7 5 [2]) (f : Ent) :
    ∃ t, valV (fmK t1 t2 t3 t4 t5 t6 t7) (Sum.inr f.word) = some (.ref t) ∧ PairAt H t (lenAt f.word) (numsAt f.word) := by
  have e1 : lenAt "come" = 7 := by decide +kernel
  have e2 : lenAt "go" = 6 := by decide +kernel
  have e3 : lenAt "move" = 7 := by decide +kernel
  have e4 : lenAt "some" = 6 := by decide +kernel
  have e5 : lenAt "swap" = 5 := by decide +kernel
  have e6 : lenAt "count" = 7 := by decide +kernel
  have e7 : lenAt "look" = 5 := by decide +kernel
  cases f with
  | come n m g p k r => exact ⟨t1, rfl, by show PairAt H t1 (lenAt "come") (numsAt "come"); rw [e1, nums_come]; exact p1⟩
  | go n m g p k => exact ⟨t2, rfl, by show PairAt H t2 (lenAt "go") (numsAt "go"); rw [e2, nums_go]; exact p2⟩
  | move n m g o t k => exact ⟨t3, rfl, by show PairAt H t3 (lenAt "move") (numsAt "move"); rw [e3, nums_move]; exact p3⟩
  | some_ n m g o t => exact ⟨t4, rfl, by show PairAt H t4 (lenAt "some") (numsAt "some"); rw [e4, nums_some]; exact p4⟩
  | swap n m o t => exact ⟨t5, rfl, by show PairAt H t5 (lenAt "swap") (numsAt "swap"); rw [e5, nums_swap]; exact p5⟩
  | count n m g p k hd => exact ⟨t6, rfl, by show PairAt H t6 (lenAt "count") (numsAt "count"); rw [e6, nums_count]; exact p6⟩
  | look n m g p => exact ⟨t7, rfl, by show PairAt H t7 (lenAt "look") (numsAt "look"); rw [e7, nums_look]; exact p7⟩
theorem fm_none {t1 t2 t3 t4 t5 t6 t7 : Addr} {z : Str} (h : z ∉ words7) : valV (fmK t1 t2 t3 t4 t5 t6 t7) (Sum.inr z) = none := by
  have ne : ∀ y ∈ words7, decide ((Sum.inr y : Key) = Sum.inr z) = false := fun y hy => decide_eq_false fun e => h (Sum.inr.inj e ▸ hy)
  unfold valV fmK
  simp only [List.find?_cons, ne "come" (by simp [words7]), ne "go" (by simp [words7]), ne "move" (by simp [words7]), ne "some" (by simp [words7]), ne "swap" (by simp [words7]), ne "count" (by simp [words7]), ne "look" (by simp [words7]), List.find?_nil]
  rfl
theorem part_ne {v : V} (h : PartOk v) : partT v ≠ "" := by
  rcases h with ⟨y, rfl, h⟩ | ⟨i, rfl, h0, h1⟩
  · show (if y = "" then ("-" : Str) else y) ≠ ""
    by_cases z : y = ""
    · rw [if_pos z]
      decide +kernel
    · rw [if_neg z]
      exact z
  · intro z
    have := (num_len h0 h1).1
    have z' : numT i = "" := z
    rw [z'] at this
    revert this
    decide +kernel
theorem nums2 (f : Ent) : ∀ n ∈ numsAt f.word, 2 ≤ n := by
  have all : ∀ z ∈ words7, ∀ n ∈ numsAt z, 2 ≤ n := by decide +kernel
  exact all _ (Ent.word_in f)
theorem in_joinL {c : Nat} {p : List Nat} : ∀ {sep : List Nat} {ps : List (List Nat)}, p ∈ ps → c ∈ p → c ∈ TL.joinL sep ps := by
  intro sep ps
  induction ps with
  | nil => intro h; exact nomatch h
  | cons a r ih =>
    intro h hc
    cases r with
    | nil =>
      rcases List.mem_cons.mp h with rfl | h
      · exact hc
      · exact nomatch h
    | cons b r =>
      show c ∈ a ++ (sep ++ TL.joinL sep (b :: r))
      rcases List.mem_cons.mp h with rfl | h
      · exact List.mem_append_left _ hc
      · exact List.mem_append_right _ (List.mem_append_right _ (ih h hc))
theorem split_sub {x sep y : Str} (h : y ∈ Txt.split x sep) : ∀ c ∈ y.cps.toList, c ∈ x.cps.toList := fun c hc => by
  have j := StrLaws.join_split x sep
  have t : TL.tl x = TL.joinL (TL.tl sep) ((Txt.split x sep).map TL.tl) := by rw [← TL.tl_join, j]
  show c ∈ TL.tl x
  rw [t]
  exact in_joinL (List.mem_map.mpr ⟨y, h, rfl⟩) hc
theorem strOk_sub {x y : Str} (h : PyData.strOk x = true) (s : ∀ c ∈ y.cps.toList, c ∈ x.cps.toList) : PyData.strOk y = true := by
  unfold PyData.strOk at h ⊢
  rw [← Array.all_toList, List.all_eq_true] at h ⊢
  exact fun c hc => h c (s c hc)
theorem okv_part {x s : Str} (h : PyData.strOk x = true) : Okv (partL x s) := fun z hz => by
  unfold partL at hz
  split at hz
  · rw [← V.str.inj hz]; exact h
  · split at hz
    · exact V.noConfusion hz
    · split at hz
      · rw [← V.str.inj hz]; decide +kernel
      · rw [← V.str.inj hz]; exact h
theorem thg_partL {x s : Str} {H : Hp} (l : x.length ≤ 900) : Thg H (partL x s) := by
  unfold partL
  split
  · exact .str x (by omega)
  · split
    · exact .int _
    · split
      · exact .str "" (by decide +kernel)
      · exact .str x (by omega)
def spLEntryIn : Sp := fun vs H Q _ => ∃ x : Str, vs = [.str x] ∧ x.length ≤ 900 ∧ PyData.strOk x = true ∧ (∀ e : Ent, e.Fine → x = entT e → ∀ (l tp : Addr) (H' : Hp), Same H H' → H' l = some (.lst [V.ref tp]) → H' tp = some (.tup e.vals) → Q (.ref l) H') ∧ ((∀ e : Ent, e.Fine → x ≠ entT e) → ∀ (l : Addr) (H' : Hp), Same H H' → H' l = some (.lst []) → Q (.ref l) H')
section
variable {P : Program} {w : World} {K : PySem.W.Frag} {mg : Str → Option Value} {base : Heap}
abbrev sLEntryInN : List Str := ["_law_line_here", "_law_words_here", "_law_forms", "_law_number_here"]
theorem sc_sLEntryIn : FnScope sLEntryInN ["_law_line_here"] (defScope sLEntryIn) := ⟨rfl, rfl, rfl, by decide +kernel, rfl, by decide +kernel, by decide +kernel⟩
set_option maxHeartbeats 1000000 in
theorem ok_lentryIn {f fN fI : Addr} {fd dN dI : FuncData} (F : Fun K "_law_entry_in" "_law_entry_in" sLEntryIn f fd) (LN : DefT P w K mg base "_law_number" 1 fN dN ["_law_word"] spLNumber) (LI : DefT P w K mg base "_law_is_entry" 3 fI dI ["_law_thing"] spLIsE)
    (ml : mg "len" = none) (mt : mg "tuple" = none) (mi : mg "int" = none) : FnOk P w K mg base CX0 4 f fd ["_law_line_here"] spLEntryIn := by
  refine F.ok sc_sLEntryIn (fun vs H Q E h => ?_) (fun cdv A outer s H vs Q E hr h => ?_)
  · obtain ⟨x, rfl, _⟩ := h
    rfl
  · obtain ⟨x, rfl, l9, so, qy, qn⟩ := h
    have hu := hu_of hr
    have nd := sc_sLEntryIn.nd
    have hr1 : Room 1 _ := hr.mono (by decide)
    refine ⟨_, pss_cons (ps_set (i := 1) nd rfl (Or.inl rfl) (pe_split (pv 0) pe_str))
      (pss_cons (ps_set (i := 2) nd rfl (Or.inl rfl) (pe_disp (pps_cons pe_str (pe_tup (pa_cons pe_int (pa_cons (pe_lst (pa_cons pe_int (pa_cons pe_int (pa_cons pe_int pa_nil)))) pa_nil))) (pps_cons pe_str (pe_tup (pa_cons pe_int (pa_cons (pe_lst (pa_cons pe_int (pa_cons pe_int pa_nil))) pa_nil))) (pps_cons pe_str (pe_tup (pa_cons pe_int (pa_cons (pe_lst (pa_cons pe_int (pa_cons pe_int pa_nil))) pa_nil))) (pps_cons pe_str (pe_tup (pa_cons pe_int (pa_cons (pe_lst (pa_cons pe_int pa_nil)) pa_nil))) (pps_cons pe_str (pe_tup (pa_cons pe_int (pa_cons (pe_lst (pa_cons pe_int pa_nil)) pa_nil))) pps_nil))))) (by rfl) (by rfl) (fun z => by cases z) (by decide)))
      (pss_cons (ps_expr (pe_bm PySem.F.plainAttrs_dict PySem.F.slot_dict_update PySem.F.type_dict_update mt_update (pv 2) (pa_cons (pe_disp (pps_cons pe_str (pe_tup (pa_cons pe_int (pa_cons (pe_lst (pa_cons pe_int (pa_cons pe_int pa_nil))) pa_nil))) (pps_cons pe_str (pe_tup (pa_cons pe_int (pa_cons (pe_lst (pa_cons pe_int pa_nil)) pa_nil))) pps_nil)) (by rfl) (by rfl) (fun z => by cases z) (by decide)) pa_nil)))
      (pss_cons (ps_if (PW.pt (pw_or (pt_cmp (pc_dnotin hu (pe_ix ix_list (pv 1) pe_int (fun _ _ => rfl)) (pv 2))) (pw_or (pt_cmpR op_ne (pe_callB call_len_seq (by rfl) ml PySem.boot_len (pa_cons (pv 1) pa_nil)) (pe_ix ix_tup (pe_dget hu (pv 2) (pe_ix ix_list (pv 1) pe_int (fun _ _ => rfl)) (fun _ _ => rfl)) pe_int (fun _ _ => rfl)) (nomark _)) (pw_or1 (pt_cmpR op_in_seq pe_str (pv 1) (by rfl)))))) (pss_one (ps_ret (pe_lst pa_nil))) pss_nil)
      (pss_cons (ps_for PassesOwn.never rfl (pi_list (pe_ix ix_tup (pe_dget hu (pv 2) (pe_ix ix_list (pv 1) pe_int (fun _ _ => rfl)) (fun _ _ => rfl)) pe_int (fun _ _ => rfl))) (pg_name (i := 3) nd rfl (Or.inl rfl))
        (pss_one (ps_asg (pe_call LN.ok hr1 (by rfl) LN.g LN.kp LN.b .nil pass0 (pa_cons (pe_ix ix_list (pv 1) (pv 3) (fun _ _ => rfl)) pa_nil)) (pg_sub (pv 1) (pv 3) set_list))))
      (C8.pss_cut (ps_if (PW.pt (pw_and (pt_cmpR op_eq (pe_ix ix_list (pv 1) pe_int (fun _ _ => rfl)) pe_str (nomark _)) (pw_and1 (pt_cmpR op_eq (pe_ix ix_list (pv 1) pe_int (fun _ _ => rfl)) pe_str (nomark _))))) (pss_one (ps_asg pe_str (pg_sub (pv 1) pe_int set_list))) pss_nil)
      (pss_one (ps_ret (pe_slice sl_list (pe_lst (pa_cons (pe_callTy call_tuple_of (by rfl) mt (by decide +kernel) (pa_cons (pv 1) pa_nil)) pa_nil)) (po_some (pe_callTy call_int1 (by rfl) mi (by decide +kernel) (pa_cons (pe_not (pe_call LI.ok hr (by rfl) LI.g LI.kp LI.b .nil pass0 (pa_cons (pe_callTy call_tuple_of (by rfl) mt (by decide +kernel) (pa_cons (pv 1) pa_nil)) pa_nil))) pa_nil))) po_none)))))))), ?_⟩
    refine ⟨_, rfl, ⟨_, rfl⟩, _, _, rfl, rfl, (by decide +kernel), (by rw [sizeLine_eq]; omega), fun wl nwl => ?_⟩
    obtain ⟨w0, ws, hw⟩ := split_cons x (sep := " ") (by decide +kernel)
    have lw : ∀ y ∈ w0 :: ws, y.length ≤ 900 := fun y hy => Nat.le_trans (split_len (hw ▸ hy)) l9
    rw [hw]
    have s1 := @same_new _ _ (.lst ((w0 :: ws).map V.str)) nwl
    have h1 : (upd H wl (.lst ((w0 :: ws).map V.str))) wl = some (.lst ((w0 :: ws).map V.str)) := upd_same
    generalize upd H wl (.lst ((w0 :: ws).map V.str)) = H1 at s1 h1
    have a0 : atI ((w0 :: ws).map V.str) 0 = some (.str w0) := atI_nat (j := 0) rfl
    refine fun d nd => ?_
    have s2 := @same_new _ _ (.dK []) nd
    have hd2 : (upd H1 d (.dK [])) d = some (.dK []) := upd_same
    generalize upd H1 d (.dK []) = H2 at s2 hd2
    dsimp only [tPairs]
    refine tp3k fun t1 H3 s3 p1 => ?_
    refine tp2k fun t2 H4 s4 p2 => ?_
    refine tp2k fun t3 H5 s5 p3 => ?_
    refine tp1k fun t4 H6 s6 p4 => ?_
    refine tp1k fun t5 H7 s7 p5 => ?_
    have hd7 := s7 _ _ (s6 _ _ (s5 _ _ (s4 _ _ (s3 _ _ hd2))))
    refine ⟨hd7, [(Sum.inr "come", V.ref t1), (Sum.inr "go", .ref t2), (Sum.inr "move", .ref t3), (Sum.inr "some", .ref t4), (Sum.inr "swap", .ref t5)], rfl, (by show 5 ≤ 15; decide), ?_⟩
    have s27 : Same H2 H7 := s3.trans (s4.trans (s5.trans (s6.trans s7)))
    have q1 := (p1.on (s4.trans (s5.trans (s6.trans s7)))).upd (o := .dK (mergeK [] [(Sum.inr "come", V.ref t1), (Sum.inr "go", .ref t2), (Sum.inr "move", .ref t3), (Sum.inr "some", .ref t4), (Sum.inr "swap", .ref t5)])) hd7
    have q2 := (p2.on (s5.trans (s6.trans s7))).upd (o := .dK (mergeK [] [(Sum.inr "come", V.ref t1), (Sum.inr "go", .ref t2), (Sum.inr "move", .ref t3), (Sum.inr "some", .ref t4), (Sum.inr "swap", .ref t5)])) hd7
    have q3 := (p3.on (s6.trans s7)).upd (o := .dK (mergeK [] [(Sum.inr "come", V.ref t1), (Sum.inr "go", .ref t2), (Sum.inr "move", .ref t3), (Sum.inr "some", .ref t4), (Sum.inr "swap", .ref t5)])) hd7
    have q4 := (p4.on s7).upd (o := .dK (mergeK [] [(Sum.inr "come", V.ref t1), (Sum.inr "go", .ref t2), (Sum.inr "move", .ref t3), (Sum.inr "some", .ref t4), (Sum.inr "swap", .ref t5)])) hd7
    have q5 := p5.upd (o := .dK (mergeK [] [(Sum.inr "come", V.ref t1), (Sum.inr "go", .ref t2), (Sum.inr "move", .ref t3), (Sum.inr "some", .ref t4), (Sum.inr "swap", .ref t5)])) hd7
    have s18 : Same H1 (upd H7 d (.dK (mergeK [] [(Sum.inr "come", V.ref t1), (Sum.inr "go", .ref t2), (Sum.inr "move", .ref t3), (Sum.inr "some", .ref t4), (Sum.inr "swap", .ref t5)]))) := fun b o e => (upd_ne (ne_of_none e nd)).trans (s27 _ _ (s2 _ _ e))
    have hd8 : (upd H7 d (.dK (mergeK [] [(Sum.inr "come", V.ref t1), (Sum.inr "go", .ref t2), (Sum.inr "move", .ref t3), (Sum.inr "some", .ref t4), (Sum.inr "swap", .ref t5)]))) d = some (.dK (mergeK [] [(Sum.inr "come", V.ref t1), (Sum.inr "go", .ref t2), (Sum.inr "move", .ref t3), (Sum.inr "some", .ref t4), (Sum.inr "swap", .ref t5)])) := upd_same
    generalize upd H7 d (.dK (mergeK [] [(Sum.inr "come", V.ref t1), (Sum.inr "go", .ref t2), (Sum.inr "move", .ref t3), (Sum.inr "some", .ref t4), (Sum.inr "swap", .ref t5)])) = H8 at q1 q2 q3 q4 q5 s18 hd8
    refine ⟨_, rfl, .inr (.inr (.inl ⟨rfl, .inl ⟨_, hd8⟩⟩)), ?_⟩
    refine fun o no => ?_
    have s9 := @same_new _ _ (.dK []) no
    have ho9 : (upd H8 o (.dK [])) o = some (.dK []) := upd_same
    generalize upd H8 o (.dK []) = H9 at s9 ho9
    dsimp only [tPairs]
    refine tp2k fun t6 H10 s10 p6 => ?_
    refine tp1k fun t7 H11 s11 p7 => ?_
    have ho11 := s11 _ _ (s10 _ _ ho9)
    refine ⟨ho11, [(Sum.inr "count", V.ref t6), (Sum.inr "look", .ref t7)], rfl, (by show 2 ≤ 15; decide), ?_⟩
    have s811 : Same H8 H11 := s9.trans (s10.trans s11)
    have hdo : d ≠ o := fun z => by rw [z, no] at hd8; cases hd8
    have s8u : Same H8 (upd H11 o (.dK (mergeK [] [(Sum.inr "count", V.ref t6), (Sum.inr "look", .ref t7)]))) := fun b u e => (upd_ne (ne_of_none e no)).trans (s811 _ _ e)
    have hdu := s8u _ _ hd8
    have r6 := (p6.on s11).upd (o := .dK (mergeK [] [(Sum.inr "count", V.ref t6), (Sum.inr "look", .ref t7)])) ho11
    have r7 := p7.upd (o := .dK (mergeK [] [(Sum.inr "count", V.ref t6), (Sum.inr "look", .ref t7)])) ho11
    have q1 := q1.on s8u
    have q2 := q2.on s8u
    have q3 := q3.on s8u
    have q4 := q4.on s8u
    have q5 := q5.on s8u
    have s1u := s18.trans s8u
    have hou : (upd H11 o (.dK (mergeK [] [(Sum.inr "count", V.ref t6), (Sum.inr "look", .ref t7)]))) o = some (.dK (mergeK [] [(Sum.inr "count", V.ref t6), (Sum.inr "look", .ref t7)])) := upd_same
    generalize upd H11 o (.dK (mergeK [] [(Sum.inr "count", V.ref t6), (Sum.inr "look", .ref t7)])) = H12 at s8u hdu r6 r7 q1 q2 q3 q4 q5 s1u hou
    refine ⟨d, o, _, _, rfl, rfl, hdo, hdu, .inl hou, (by show 5 + 2 ≤ 1000; decide), ?_⟩
    rw [fm_new]
    have gets := fm_get (q1.upd (o := .dK (fmK t1 t2 t3 t4 t5 t6 t7)) hdu) (q2.upd hdu) (q3.upd hdu) (q4.upd hdu) (q5.upd hdu) (r6.upd hdu) (r7.upd hdu)
    have s1v : Same H1 (upd H12 d (.dK (fmK t1 t2 t3 t4 t5 t6 t7))) := fun b u e => (upd_ne (ne_of_none e nd)).trans (s1u _ _ e)
    have hdv : (upd H12 d (.dK (fmK t1 t2 t3 t4 t5 t6 t7))) d = some (.dK (fmK t1 t2 t3 t4 t5 t6 t7)) := upd_same
    generalize upd H12 d (.dK (fmK t1 t2 t3 t4 t5 t6 t7)) = H13 at gets s1v hdv
    have h1v := s1v _ _ h1
    have s0v := s1.trans s1v
    clear q1 q2 q3 q4 q5 r6 r7 s8u hdu s1u hou s18 hd8 s811 s9 ho9 s10 s11 p6 p7 ho11 no hdo
    have none_ : (∀ e : Ent, e.Fine → x ≠ entT e) → ∀ (Hz : Hp), Same H Hz → (0 ≤ sizeLine) ∧ ∀ l, Hz l = none → Q (.ref l) (upd Hz l (.lst [])) := fun z Hz sz => ⟨by decide, fun l nl => qn z l _ (sz.trans (same_new nl)) upd_same⟩
    by_cases w7 : w0 ∈ words7
    rotate_left
    · have no : ∀ e : Ent, e.Fine → x ≠ entT e := fun e he hx => w7 ((head_word he hx hw).1 ▸ Ent.word_in e)
      exact ⟨_, rfl, wl, _, 0, _, rfl, rfl, SqL.of h1v, a0, _, rfl, d, none, rfl, .inl ⟨_, Sum.inr w0, .inl hdv, rfl, (fm_none w7).symm⟩, true, rfl, iteT (none_ no _ s0v)⟩
    obtain ⟨f, rfl⟩ := word_of w7
    obtain ⟨t, ht, l, hp1, hp2⟩ := gets f
    refine ⟨_, rfl, wl, _, 0, _, rfl, rfl, SqL.of h1v, a0, _, rfl, d, some (.ref t), rfl, .inl ⟨_, Sum.inr f.word, .inl hdv, rfl, ht.symm⟩, false, rfl, iteF ?_⟩
    have dget : DGet H13 d (.str f.word) (some (.ref t)) := .inl ⟨_, Sum.inr f.word, .inl hdv, rfl, ht.symm⟩
    by_cases ll : ws.length = f.sorts.length
    rotate_left
    · have no : ∀ e : Ent, e.Fine → x ≠ entT e := fun e he hx => by
        obtain ⟨ew, ep⟩ := head_word he hx hw
        refine ll ?_
        rw [ep, List.length_map, e.len_parts, sorts_word ew]
      refine ⟨_, rfl, wl, _, rfl, .inl (SqL.of h1v), _, rfl, _, rfl, wl, _, 0, _, rfl, rfl, SqL.of h1v, a0, d, _, rfl, dget, t, _, 0, _, rfl, rfl, SqT.of hp1, atI_nat (j := 0) rfl, rfl, true, ?_, iteT (none_ no _ s0v)⟩
      refine congrArg V.bl ?_
      rw [decide_eq_false]
      · rfl
      · intro z
        have z' := V.int.inj z
        rw [lens, List.length_map, List.length_cons] at z'
        exact ll (by omega)
    have lW : (((f.word :: ws).map V.str).length : Int) = lenAt f.word := by rw [lens, List.length_map, List.length_cons, ll]; rfl
    refine ⟨_, rfl, wl, _, rfl, .inl (SqL.of h1v), _, rfl, _, rfl, wl, _, 0, _, rfl, rfl, SqL.of h1v, a0, d, _, rfl, dget, t, _, 0, _, rfl, rfl, SqT.of hp1, atI_nat (j := 0) rfl, rfl, false, ?_, iteF ?_⟩
    · refine congrArg V.bl ?_
      rw [lW, decide_eq_true rfl]
      rfl
    have a1 : (f.word :: ws).map V.str |>.all flatV := all_flat _
    refine ⟨_, rfl, wl, _, rfl, .inl (SqL.of h1v), rfl, a1, ?_⟩
    by_cases em : ("" : Str) ∈ f.word :: ws
    · have no : ∀ e : Ent, e.Fine → x ≠ entT e := fun e he hx => by
        rw [hx, words_ent he] at hw
        rw [← hw] at em
        obtain ⟨v, hv, hz⟩ := List.mem_map.mp em
        exact part_ne (fine_parts he v hv) hz
      refine ⟨true, ?_, iteT (none_ no _ s0v)⟩
      rw [if_neg (by decide), inV_iff, decide_eq_true em]
    refine ⟨false, ?_, iteF ?_⟩
    · rw [if_neg (by decide), inV_iff, decide_eq_false em]
    have lne : l ≠ wl := fun z => by
      rw [z, h1v] at hp2
      have e : V.str f.word :: ws.map V.str = (numsAt f.word).map V.int := HO.lst.inj (Option.some.inj hp2)
      generalize numsAt f.word = N at e
      cases N with
      | nil => cases e
      | cons a r => exact V.noConfusion (List.cons.inj e).1
    refine ⟨_, rfl, _, rfl, wl, _, 0, _, rfl, rfl, SqL.of h1v, a0, d, _, rfl, dget, t, _, 1, _, rfl, rfl, SqT.of hp1, atI_nat (j := 1) rfl, l, rfl, ⟨_, SqL.of hp2⟩, ?_⟩
    refine for_list (K := K) (a := l) (xs := (numsAt f.word).map V.int) (fun i σ H' => ∃ y3, σ = [some (.str x), some (.ref wl), some (.ref d), y3] ∧ Same H H' ∧ H' wl = some (.lst (setN (f.word :: ws) ((numsAt f.word).take i))) ∧ H' l = some (.lst ((numsAt f.word).map V.int)))
      ⟨_, rfl, s0v, h1v, hp2⟩ (fun i σ H' _ z => by obtain ⟨_, _, _, _, z⟩ := z; exact SqL.of z) ?_ ?_
    · rintro i v σ H14 hv ⟨y3, rfl, s14, hW, hl⟩
      rw [List.getElem?_map] at hv
      obtain ⟨n, hn, rfl⟩ := Option.map_eq_some_iff.mp hv
      have nin := nums_in f n (List.mem_of_getElem? hn)
      have ln : (setN (f.word :: ws) ((numsAt f.word).take i)).length = (f.word :: ws).length := setN_len _ _
      have lW' : ((f.word :: ws).length : Int) = lenAt f.word := by rw [← lW, List.length_map]
      have lk : n.toNat < (f.word :: ws).length := by omega
      have hy : (f.word :: ws)[n.toNat]? = some (f.word :: ws)[n.toNat] := List.getElem?_eq_getElem lk
      generalize (f.word :: ws)[n.toNat] = y at hy
      have en : ((n.toNat : Nat) : Int) = n := by omega
      have at' : atI (setN (f.word :: ws) ((numsAt f.word).take i)) n = some (.str y) := by
        have h := atI_nat (xs := setN (f.word :: ws) ((numsAt f.word).take i)) (j := n.toNat) (v := .str y) (by
          rw [setN_get _ _ _ fun m hm => ?_, List.getElem?_map, hy]
          · rfl
          · obtain ⟨j, hj⟩ := List.mem_iff_getElem?.mp hm
            obtain ⟨lj, ej⟩ := List.getElem?_eq_some_iff.mp hj
            obtain ⟨li, ei⟩ := List.getElem?_eq_some_iff.mp hn
            rw [List.length_take] at lj
            rw [List.getElem_take] at ej
            have lt := List.pairwise_iff_getElem.mp (nums_rise f) j i (by omega) li (by omega)
            rw [ej, ei] at lt
            have := nums_in f m (List.mem_of_mem_take hm)
            omega)
        rw [en] at h
        exact h
      have ix : ixN (setN (f.word :: ws) ((numsAt f.word).take i)).length n = some n.toNat := by
        unfold ixN
        rw [if_pos nin.1, if_pos (by rw [ln]; omega)]
      refine ⟨_, rfl, _, rfl, wl, _, n, _, rfl, rfl, SqL.of hW, at', y, rfl, Nat.le_trans (lw y (List.mem_of_getElem? hy)) (by decide), fun H15 s15 => ⟨_, rfl, _, rfl, wl, _, n, _, rfl, rfl, s15 _ _ hW, ix, ?_⟩⟩
      have gd : (f.word :: ws).getD n.toNat "" = y := by rw [List.getD_eq_getElem?_getD, hy]; rfl
      refine ⟨_, rfl, fun b o e => (upd_ne (ne_of_none e nwl)).trans (s15 _ _ (s14 _ _ e)), ?_, (upd_ne lne).trans (s15 _ _ hl)⟩
      rw [upd_same, take_sn hn, setN_snoc, gd]
    rintro σ H14 ⟨y3, rfl, s14, hW, hl⟩
    rw [List.length_map, List.take_length] at hW
    have g0 : atI (setN (f.word :: ws) (numsAt f.word)) 0 = some (.str f.word) := atI_nat (j := 0) (by
      rw [setN_get _ _ _ fun m hm => by have := nums2 f m hm; omega]
      rfl)
    refine ⟨fun σ' H' => ∃ y3, σ' = [some (.str x), some (.ref wl), some (.ref d), y3] ∧ Same H H' ∧ H' wl = some (.lst (fin5 (f.word :: ws) (setN (f.word :: ws) (numsAt f.word)))), ?_, ?_⟩
    · refine ⟨_, rfl, wl, _, 0, _, rfl, rfl, SqL.of hW, g0, rfl, _, rfl, ?_⟩
      by_cases sm : f.word = "some"
      · rw [decide_eq_true (congrArg V.str sm)]
        have l5 : 5 < (f.word :: ws).length := by
          have e1 : lenAt f.word = 6 := by rw [sm]; decide +kernel
          have e2 : ((f.word :: ws).length : Int) = lenAt f.word := by rw [← lW, List.length_map]
          omega
        have hy : (f.word :: ws)[5]? = some (f.word :: ws)[5] := List.getElem?_eq_getElem l5
        generalize (f.word :: ws)[5] = y at hy
        have ns : numsAt f.word = [2] := by rw [sm]; exact nums_some
        have g5 : atI (setN (f.word :: ws) (numsAt f.word)) 5 = some (.str y) := atI_nat (j := 5) (by
          rw [setN_get _ _ _ fun m hm => by (rw [ns] at hm; rw [List.mem_singleton.mp hm]; decide), List.getElem?_map, hy]
          rfl)
        refine iteT ⟨_, rfl, wl, _, 5, _, rfl, rfl, SqL.of hW, g5, rfl, _, rfl, ?_⟩
        by_cases yd : y = "-"
        · rw [decide_eq_true (congrArg V.str yd)]
          have ix : ixN (setN (f.word :: ws) (numsAt f.word)).length 5 = some 5 := by
            unfold ixN
            rw [if_pos (by decide), if_pos (by rw [setN_len]; omega)]
            rfl
          refine iteT ⟨_, rfl, wl, _, 5, _, rfl, rfl, hW, ix, _, rfl, fun b o e => (upd_ne (ne_of_none e nwl)).trans (s14 _ _ e), ?_⟩
          rw [upd_same]
          unfold fin5
          rw [if_pos ⟨by rw [← sm]; rfl, by rw [hy, yd]⟩]
        · rw [decide_eq_false fun z => yd (V.str.inj z)]
          refine iteF ⟨_, rfl, s14, ?_⟩
          unfold fin5
          rw [if_neg fun z => yd (Option.some.inj (hy.symm.trans z.2))]
          exact hW
      · rw [decide_eq_false fun z => sm (V.str.inj z)]
        refine iteF (iteF ⟨_, rfl, s14, ?_⟩)
        unfold fin5
        rw [if_neg fun z => sm (Option.some.inj z.1)]
        exact hW
    rintro σ H15 ⟨y3, rfl, s15, hW⟩
    rw [law_list ll] at hW
    have ne : ∀ y ∈ ws, y ≠ "" := fun y hy z => em (z ▸ List.mem_cons_of_mem _ hy)
    have okl : ∀ v ∈ V.str f.word :: lawL ws f.sorts, ∀ H' : Hp, Thg H' v ∧ Okv v := fun v hv H' => by
      rcases List.mem_cons.mp hv with rfl | hv
      · refine ⟨.str f.word (by have := lw f.word List.mem_cons_self; omega), fun z hz => ?_⟩
        rw [← V.str.inj hz]
        exact strOk_sub so (split_sub (x := x) (sep := " ") (hw ▸ List.mem_cons_self))
      obtain ⟨i, hi⟩ := List.mem_iff_getElem?.mp hv
      unfold lawL at hi
      rw [List.getElem?_zipWith] at hi
      cases e1 : ws[i]? with
      | none => rw [e1] at hi; exact nomatch hi
      | some y =>
        cases e2 : f.sorts[i]? with
        | none => rw [e1, e2] at hi; exact nomatch hi
        | some s' =>
          rw [e1, e2] at hi
          rw [← Option.some.inj hi]
          have my : y ∈ f.word :: ws := List.mem_cons_of_mem _ (List.mem_of_getElem? e1)
          exact ⟨thg_partL (lw y my), okv_part (strOk_sub so (split_sub (x := x) (sep := " ") (hw ▸ my)))⟩
    have le6 : f.sorts.length ≤ 6 := by
      have := vals_len10 f
      have : f.vals.length = f.sorts.length + 1 := vals_len f
      omega
    refine ⟨_, rfl, wl, _, rfl, .inl ⟨SqL.of hW, fun tp ntp => ⟨(by show 1 ≤ sizeLine; decide), fun ll' nll => ?_⟩⟩⟩
    have s16 := @same_new _ _ (.tup (V.str f.word :: lawL ws f.sorts)) ntp
    have htp : (upd H15 tp (.tup (V.str f.word :: lawL ws f.sorts))) tp = some (.tup (V.str f.word :: lawL ws f.sorts)) := upd_same
    generalize upd H15 tp (.tup (V.str f.word :: lawL ws f.sorts)) = H16 at s16 htp nll
    have s17 := @same_new _ _ (.lst [V.ref tp]) nll
    have hll : (upd H16 ll' (.lst [V.ref tp])) ll' = some (.lst [V.ref tp]) := upd_same
    generalize upd H16 ll' (.lst [V.ref tp]) = H17 at s17 hll
    have hW17 := s17 _ _ (s16 _ _ hW)
    refine ⟨_, rfl, wl, _, rfl, .inl ⟨SqL.of hW17, fun tq ntq => ?_⟩⟩
    have s18 := @same_new _ _ (.tup (V.str f.word :: lawL ws f.sorts)) ntq
    refine ⟨.ref tq, rfl, .inr ⟨tq, _, rfl, upd_same, by rw [List.length_cons, lawL_len ll]; omega, fun v hv => okl v hv _, fun b hb H19 s19 => ?_⟩⟩
    have s17' := s18.trans s19
    have s0 : Same H H19 := s15.trans (s16.trans (s17.trans s17'))
    have hl19 := s17' _ _ hll
    have ht19 := s17' _ _ (s17 _ _ htp)
    cases b with
    | true =>
      have ie := hb.mp rfl
      have eq := law_same ll ne (.inl ie)
      rw [eq] at ie ht19
      obtain ⟨e, he, hv⟩ := ie
      have hx := read_isE hw ll he hv
      refine ⟨true, rfl, .inr ⟨_, rfl, 0, rfl, ll', _, rfl, SqL.of hl19, fun p np => ?_⟩⟩
      have s20 := @same_new _ _ (.lst (cutV [V.ref tp] (some 0) none)) np
      have hp : (upd H19 p (.lst (cutV [V.ref tp] (some 0) none))) p = some (.lst [V.ref tp]) := by
        rw [upd_same, show cutV [V.ref tp] (some 0) none = [V.ref tp].drop 0 from cut_tail (k := 0)]
        rfl
      exact qy e he hx p tp _ (s0.trans s20) hp (by rw [s20 _ _ ht19, hv])
    | false =>
      have ni : ¬ IsE (V.str f.word :: lawL ws f.sorts) := fun z => absurd (hb.mpr z) (by decide)
      have no : ∀ e : Ent, e.Fine → x ≠ entT e := fun e he hx => by
        obtain ⟨ew, ep⟩ := head_word he hx hw
        have ie : IsE (.str f.word :: readV ws f.sorts) := ⟨e, he, isE_read he ew ep⟩
        have eq := law_same ll ne (.inr ie)
        rw [← eq] at ie
        exact ni ie
      refine ⟨false, rfl, .inr ⟨_, rfl, 1, rfl, ll', _, rfl, SqL.of hl19, fun p np => ?_⟩⟩
      have s20 := @same_new _ _ (.lst (cutV [V.ref tp] (some 1) none)) np
      have hp : (upd H19 p (.lst (cutV [V.ref tp] (some 1) none))) p = some (.lst []) := by
        rw [upd_same, show cutV [V.ref tp] (some 1) none = [V.ref tp].drop 1 from cut_tail (k := 1)]
        rfl
      exact qn no p _ (s0.trans s20) hp
end
/-! ### rows of a log -/
inductive Rw
  | enter (e : Ent)
  | back (n : Str)
  | close (d : Int) (m : Str)
def modes2 : List Str := ["refuse", "up"]
def RwOk : Rw → Prop
  | .enter e => e.Fine
  | .back n => nameB n = true
  | .close d m => 0 ≤ d ∧ d ≤ 99 ∧ m ∈ modes2
def wordR : Rw → Str
  | .enter _ => "enter"
  | .back _ => "back"
  | .close _ _ => "close"
def restR : Rw → Str
  | .enter e => entT e
  | .back n => n
  | .close d m => numT d ++ " " ++ m
def rowT (r : Rw) : Str := wordR r ++ " " ++ restR r
def RwAt (H : Hp) (t : Addr) : Rw → Prop
  | .enter e => ∃ tp, H t = some (.tup [V.str "enter", .ref tp]) ∧ H tp = some (.tup e.vals)
  | .back n => H t = some (.tup [V.str "back", .str n])
  | .close d m => H t = some (.tup [V.str "close", .int d, .str m])
theorem RwAt.on {H H' : Hp} {t : Addr} {r : Rw} (k : TK H H') (h : RwAt H t r) : RwAt H' t r := by
  cases r with
  | enter e =>
    obtain ⟨tp, h1, h2⟩ := h
    exact ⟨tp, k _ _ h1, k _ _ h2⟩
  | back n => exact k _ _ h
  | close d m => exact k _ _ h
theorem word_free (r : Rw) : 32 ∉ TL.tl (wordR r) := by
  cases r with
  | enter e => show 32 ∉ TL.tl "enter"; decide +kernel
  | back n => show 32 ∉ TL.tl "back"; decide +kernel
  | close d m => show 32 ∉ TL.tl "close"; decide +kernel
theorem tl_blank : TL.tl (" " : Str) = 32 :: [] := by decide +kernel
theorem part_row (r : Rw) : Txt.partition (rowT r) " " = (wordR r, (" " : Str), restR r) := TL.partition_app (s := 32) (S := []) tl_blank (word_free r)
theorem part_close {d : Int} (h : 0 ≤ d) (m : Str) : Txt.partition (numT d ++ " " ++ m) " " = (numT d, (" " : Str), m) :=
  TL.partition_app (s := 32) (S := []) tl_blank fun z => ((cln_num h).k 32 z).2.1 rfl
theorem first_of {l : List Nat} (h : 32 ∈ l) : ∃ a b, 32 ∉ a ∧ l = a ++ 32 :: b := by
  obtain ⟨a, b, h1, h2, _⟩ := List.exists_erase_eq h
  exact ⟨a, b, h1, h2⟩
theorem blank_cases (x : Str) : 32 ∉ TL.tl x ∨ ∃ a b : Str, x = a ++ " " ++ b ∧ 32 ∉ TL.tl a := by
  by_cases h : 32 ∈ TL.tl x
  · obtain ⟨a, b, h1, h2⟩ := first_of h
    refine .inr ⟨⟨a.toArray⟩, ⟨b.toArray⟩, ?_, ?_⟩
    · apply str_ext
      show TL.tl _ = TL.tl _
      rw [TL.tl_append, TL.tl_append, tl_blank, h2]
      show a ++ 32 :: b = a ++ [32] ++ b
      rw [List.append_assoc]
      rfl
    · exact h1
  · exact .inl h
theorem part_cases (x : Str) : (32 ∉ TL.tl x ∧ Txt.partition x " " = (x, Str.empty, Str.empty)) ∨ ∃ a b : Str, x = a ++ " " ++ b ∧ 32 ∉ TL.tl a ∧ Txt.partition x " " = (a, (" " : Str), b) := by
  rcases blank_cases x with h | ⟨a, b, rfl, h⟩
  · exact .inl ⟨h, TL.partition_none (s := 32) (S := []) tl_blank h⟩
  · exact .inr ⟨a, b, rfl, h, TL.partition_app (s := 32) (S := []) tl_blank h⟩
def dayB : V → Bool
  | .int i => decide (0 ≤ i) && decide (i ≤ 99)
  | _ => false
def spIsDayA : Sp := fun vs H Q _ => ∃ v : V, vs = [v] ∧ Thg H v ∧ Q (.bl (dayB v)) H
def spRowText (Ts : List Addr) : Sp := fun vs H Q _ => ∃ (t : Addr) (r : Rw), vs = [.ref t] ∧ RwOk r ∧ RwAt H t r ∧ TabsG Ts H ∧ ∀ H', TB1 Ts H H' → Q (.str (rowT r)) H'
def spRowIn (Ts : List Addr) : Sp := fun vs H Q _ => ∃ x : Str, vs = [.str x] ∧ x.length ≤ 900 ∧ TabsG Ts H ∧ (∀ r : Rw, RwOk r → x = rowT r → ∀ (t : Addr) (H' : Hp), TB1 Ts H H' → RwAt H' t r → Q (.ref t) H') ∧ ((∀ r : Rw, RwOk r → x ≠ rowT r) → ∀ H', TB1 Ts H H' → Q .non H')
theorem ent_inj {e f : Ent} (he : e.Fine) (hf : f.Fine) (h : entT e = entT f) : e.vals = f.vals := by
  have h1 := words_ent he
  have hw : Txt.split (entT e) " " = e.word :: e.parts.map partT := by
    rw [h1]
    show partT (.str e.word) :: _ = _
    rw [word_part]
    rfl
  obtain ⟨ew, ep⟩ := head_word hf h hw
  have a := isE_read he rfl rfl
  have b := isE_read (f := e) hf ew ep
  exact a.symm.trans b
theorem num_inj {a b : Int} (ha : 0 ≤ a) (hb : 0 ≤ b) (la : a ≤ 1000000000) (lb : b ≤ 1000000000) (h : numT a = numT b) : a = b := by
  have x := numV_int ha la
  have y := numV_int hb lb
  rw [h, y] at x
  exact (V.int.inj x).symm
/-- what a row holds, as data -/
def rowD : Rw → PyData
  | .enter e => .tuple [.str "enter", entD e]
  | .back n => .tuple [.str "back", .str n]
  | .close d m => .tuple [.str "close", .int d, .str m]
theorem row_inj {r s : Rw} (hr : RwOk r) (hs : RwOk s) (h : rowT r = rowT s) : rowD r = rowD s := by
  have p := part_row r
  rw [h, part_row s] at p
  have p1 : wordR s = wordR r := congrArg Prod.fst p
  have p2 : restR s = restR r := congrArg (fun z => z.2.2) p
  cases r with
  | enter e =>
    cases s with
    | enter f =>
      have v := ent_inj hr hs p2.symm
      show PyData.tuple [.str "enter", .tuple (e.vals.map dV)] = .tuple [.str "enter", .tuple (f.vals.map dV)]
      rw [v]
    | back n => exact absurd p1 (by show ¬ (("back" : Str) = "enter"); decide +kernel)
    | close d m => exact absurd p1 (by show ¬ (("close" : Str) = "enter"); decide +kernel)
  | back n =>
    cases s with
    | enter f => exact absurd p1 (by show ¬ (("enter" : Str) = "back"); decide +kernel)
    | back n' =>
      have e : n' = n := p2
      rw [e]
    | close d m => exact absurd p1 (by show ¬ (("close" : Str) = "back"); decide +kernel)
  | close d m =>
    cases s with
    | enter f => exact absurd p1 (by show ¬ (("enter" : Str) = "close"); decide +kernel)
    | back n' => exact absurd p1 (by show ¬ (("back" : Str) = "close"); decide +kernel)
    | close d' m' =>
      obtain ⟨a1, a2, a3⟩ := hr
      obtain ⟨b1, b2, b3⟩ := hs
      have q : numT d' ++ " " ++ m' = numT d ++ " " ++ m := p2
      have p := part_close b1 m'
      rw [q, part_close a1 m] at p
      have e1 : numT d = numT d' := congrArg Prod.fst p
      have e2 : m = m' := congrArg (fun z => z.2.2) p
      rw [num_inj a1 b1 (by omega) (by omega) e1, e2]
theorem sep_cases (x : Str) : ∃ a m b : Str, Txt.partition x " " = (a, m, b) ∧ a.length ≤ x.length ∧ b.length ≤ x.length ∧ ∀ a' b' : Str, 32 ∉ TL.tl a' → b' ≠ "" → (x = a' ++ " " ++ b' ↔ a = a' ∧ b = b') := by
  rcases part_cases x with ⟨h, e⟩ | ⟨a, b, rfl, h, e⟩
  · refine ⟨x, _, _, e, Nat.le_refl _, Nat.zero_le _, fun a' b' _ nb => ⟨fun z => ?_, fun z => absurd z.2.symm nb⟩⟩
    exfalso
    rw [z] at h
    refine h ?_
    rw [TL.tl_append, TL.tl_append, tl_blank]
    exact List.mem_append_left _ (List.mem_append_right _ List.mem_cons_self)
  · refine ⟨a, _, b, e, by rw [app_len, app_len]; omega, by rw [app_len, app_len]; omega, fun a' b' fa nb => ⟨fun z => ?_, fun z => by rw [z.1, z.2]⟩⟩
    rw [z, TL.partition_app (s := 32) (S := []) tl_blank fa] at e
    exact ⟨(congrArg Prod.fst e).symm, (congrArg (fun z => z.2.2) e).symm⟩
theorem entT_ne {e : Ent} (h : e.Fine) : entT e ≠ "" := fun z => by
  have w := words_ent h
  rw [z, show Txt.split ("" : Str) " " = [("" : Str)] from by decide +kernel] at w
  have l := congrArg List.length w
  rw [List.length_map] at l
  have : e.vals.length = e.parts.length + 1 := rfl
  rw [e.len_parts] at this
  have : 1 ≤ e.sorts.length := by cases e <;> (unfold Ent.sorts; simp)
  have l' : 1 = e.vals.length := l
  omega
theorem rest_ne {r : Rw} (h : RwOk r) : restR r ≠ "" := by
  cases r with
  | enter e => exact entT_ne h
  | back n => exact name_ne h
  | close d m =>
    obtain ⟨h0, h1, _⟩ := h
    intro z
    have l := congrArg Str.length z
    have l' : (numT d ++ " " ++ m).length = 0 := l
    rw [app_len, app_len] at l'
    have := (num_len h0 (by omega)).1
    omega
theorem row_cases (x : Str) : ∃ a m b : Str, Txt.partition x " " = (a, m, b) ∧ a.length ≤ x.length ∧ b.length ≤ x.length ∧ ∀ r, RwOk r → (x = rowT r ↔ a = wordR r ∧ b = restR r) := by
  obtain ⟨a, m, b, h1, h2, h3, h4⟩ := sep_cases x
  exact ⟨a, m, b, h1, h2, h3, fun r hr => h4 _ _ (word_free r) (rest_ne hr)⟩
section
variable {P : Program} {w : World} {K : PySem.W.Frag} {mg : Str → Option Value} {base : Heap}
theorem sc_sIsDay : FnScope ["thing"] ["thing"] (defScope sIsDay) := ⟨rfl, rfl, rfl, by decide +kernel, rfl, by decide +kernel, by decide +kernel⟩
theorem ok_isDay {f fW : Addr} {fd dW : FuncData} (F : Fun K "is_day" "is_day" sIsDay f fd) (WH : DefT P w K mg base "is_whole" 1 fW dW ["thing"] spWholeA) (mL : ∃ t, mg "LAST_DAY" = some (.int 99 t)) : FnOk P w K mg base CX0 2 f fd ["thing"] spIsDayA := by
  obtain ⟨tL, mL⟩ := mL
  refine F.ok sc_sIsDay (fun vs H Q E h => ?_) (fun cdv A' outer s H vs Q E hr h => ?_)
  · obtain ⟨i, rfl, _⟩ := h
    rfl
  · obtain ⟨v, rfl, th, q⟩ := h
    have nd := sc_sIsDay.nd
    refine ⟨_, pss_one (ps_ret (pe_and (pe_call WH.ok hr (by rfl) WH.g WH.kp WH.b .nil pass0 (pa_cons (pv 0) pa_nil)) (pe_one (pe_chain op_le op_le pe_int (pv 0) (pe_glob (v := .int 99) rfl mL ⟨_, rfl⟩))))), ?_⟩
    refine ⟨_, rfl, v, rfl, th, ?_⟩
    cases v with
    | int i =>
      refine ⟨true, rfl, iteT ?_⟩
      refine ⟨_, rfl, 0, i, rfl, rfl, _, rfl, ite2 (fun z => ?_) (fun z => ?_)⟩
      · refine ⟨i, 99, rfl, rfl, ?_⟩
        have q : Q (.bl (decide (0 ≤ i) && decide (i ≤ 99))) H := q
        rw [z, Bool.true_and] at q
        exact q
      · have q : Q (.bl (decide (0 ≤ i) && decide (i ≤ 99))) H := q
        rw [Bool.eq_false_iff.mpr z, Bool.false_and] at q
        exact q
    | _ => exact ⟨false, rfl, iteF q⟩
end
/-! ### try .. except X as n, what is caught being kept -/
namespace Kept
def ExV (cls : Value) (d : Option Addr) (a : Addr) : HO := .ext fun h => ∃ (o : Obj) (fv : Array Value), h.get? a = some o ∧ Zc cls d o ∧ o.data = .fields fv
def wKeep (K : PySem.W.Frag) (c : Value) (i n : Nat) (ts : Addr → Value → Option Addr → TS) (D : Ends) : WX := fun cls d τ G => PySem.W.exmOne K cls c = some true ∧
  ∀ a, τ.length = n → G a = none → ts a cls d { nx := fun τ' G' => D.nx (τ'.set i none) (upd G' a (ExV cls d a)), rt := D.rt, bk := fun τ' G' => D.bk (τ'.set i none) G', ct := fun τ' G' => D.ct (τ'.set i none) G' } (τ.set i (some (.ref a))) G
section
variable {X : Cx}
theorem exv_ok {P : Program} {w : World} {G : Hp} {h : Heap} {a : Addr} {cls : Value} {d : Option Addr} {o : Obj} {fv : Array Value} (e : h.get? a = some o) (z : Zc cls d o) (dd : o.data = .fields fv) : ObjOk P w G h a (ExV cls d a) :=
  ⟨⟨o, fv, e, z, dd⟩, ⟨o, e⟩, fun _ _ ⟨u, v, q, r⟩ k => ⟨u, v, k u q, r⟩⟩
/-- an object that is there, and wasn't when the def began, is told of -/
theorem told_of {pins : List (Addr × Obj)} {τ : L2.St} {G : Hp} {z : Shared} {a : Addr} {cls : Value} {d : Option Addr} {o : Obj} {fv : Array Value} (I : Inv X pins τ G z) (ga : z.heap.get? a = some o) (zc : Zc cls d o) (dd : o.data = .fields fv)
    (na : G a = none) (nl : a ≠ X.env.locals) (old : ∀ u, X.s_0.heap.get? a = some u → a ∈ X.ex) (np : ∀ p ∈ X.pn ++ pins, p.1 ≠ a) : Inv X pins τ (upd G a (ExV cls d a)) z := by
  have other : ∀ {b : Addr} {u : HO}, G b = some u → (upd G a (ExV cls d a)) b = some u := fun e => (upd_ne (ne_of_none e na)).trans e
  refine ⟨I.ok, I.os, I.bare, ⟨I.base.keep, I.base.slot, fun b u e n hx => ?_, I.base.there, fun b xs e => other (I.base.tups b xs e), fun b u v e => other (I.base.frzs b u v e), fun b ps e => ?_⟩, I.loc, I.cell, (upd_ne (Ne.symm nl)).trans I.free, fun y c e => ?_, fun p hp => ?_, I.hok.laidN (fun _ _ e => e) na (exv_ok ga zc dd), I.len⟩
  · by_cases q : b = a
    · subst q
      exact absurd (old u e) hx
    · exact (upd_ne q).trans (I.base.free b u e n hx)
  · obtain ⟨more, q⟩ := I.base.tbls b ps e
    exact ⟨more, other q⟩
  · obtain ⟨v, hv⟩ := I.cell y c e
    have q : c ≠ a := fun q => by
      subst q
      obtain ⟨o', e', rest⟩ := hv
      rw [ga] at e'
      cases e'
      rw [dd] at rest
      cases rest
    exact (upd_ne q).trans (I.freeC y c e)
  · obtain ⟨p1, p2, p3⟩ := I.pin p hp
    exact ⟨p1, (upd_ne (np p hp)).trans p2, p3⟩
end
section
variable {X : Cx} {x n : Str} {c : Value} {i : Nat} {body rest : List Stmt} {b1 : Stmt} {q1 q2 q3 : Pos} {tb : WX → TS} {ts : Addr → Value → Option Addr → TS}
theorem ps_try_keep (st : X.stack = X.env :: X.outer) (fr : X.env.frame = some X.env.locals) (ndN : X.N.Nodup) (iy : X.N[i]? = some n) (kl : X.env.kindOf n = some .local) (nm : Names X x c)
    (Hb : ∀ (W : WX) (pn : List (Addr × Obj)) (xe : Value → Shared → Prop), Takes (X.tr pn xe) W → PassesOwn (model X.prog X.w) X.A X.env xe → PSs (X.tr pn xe) body (tb W))
    (Hs : ∀ (a : Addr) (ob : Obj) (cls : Value) (d : Option Addr) (pn : List (Addr × Obj)), Zc cls d ob → (∃ fv, ob.data = .fields fv) → PSs (X.suite a ((a, ob) :: pn)) (b1 :: rest) (ts a cls d)) :
    PS X (.Try body [.ExceptHandler (some (.Name x q1)) (some n) (b1 :: rest) q2] [] [] q3) (fun D τ G => tb (wKeep X.K c i X.N.length ts D) D τ G) := by
  constructor
  intro pins z τ G D I h
  have oX := I.ok
  have frs2 : X.A.frames = some (X.env :: X.outer) := by
    rw [oX.frames, st]
  refine wpAny_Try_except (wpAny_mono ((Hb (wKeep X.K c i X.N.length ts D) (X.pn ++ pins) (fun ev z1 => wpAny (model X.prog X.w) X.A (noteFrame ev X.env) (fun _ z2 => wpAny (model X.prog X.w) X.A (setFlight ev none) (fun _ z3 =>
    wpAny (model X.prog X.w) X.A (handleBy ev X.env [.ExceptHandler (some (.Name x q1)) (some n) (b1 :: rest) q2]) (SP X pins D) X.xe z3) X.xe z2) X.xe z1) (fun ev z' fly => ?_) PassesOwn.looking).run [] z τ G D (I.toTry _) h) (fun fl z1 hsp => ?_) (fun _ _ he => he))
  · obtain ⟨a, B, zI, pins', τ', G', cls, d, rfl, J', ground, up, sky, na, os, ag, match_, yes⟩ := fly
    have J : Inv X pins τ' G' zI := J'.ofTry oX
    show wpAny (model X.prog X.w) X.A (noteFrame (.ref a) X.env) _ _ z'
    refine Sky.land Zc.steady frs2 fr (show Sky B (X.env :: X.outer) a (Zc cls d) X.env.locals z'.heap by rw [← st]; exact sky) fun h3 f3 up3 => ?_
    have J3 : Inv X pins τ' G' { z' with heap := h3 } := J.landed ground f3.1 (up.trans up3) os ag
    obtain ⟨o3, fv3, e3, zc3, dd3⟩ := f3.there
    have nofr : a ∉ frs (X.env :: X.outer) := fun hm => by
      obtain ⟨_, o', e', hnf⟩ := f3.2.2.1.mem hm
      rw [e3] at e'
      cases e'
      exact hnf _ dd3
    have nl : a ≠ X.env.locals := fun q => nofr (List.mem_filterMap.mpr ⟨X.env, List.mem_cons_self, fr.trans (congrArg some q.symm)⟩)
    have nf : a ∉ X.fs := fun hm => by
      obtain ⟨ev, hev, q⟩ := List.mem_filterMap.mp hm
      exact nofr (List.mem_filterMap.mpr ⟨ev, List.mem_cons_of_mem _ hev, q⟩)
    have new : zI.heap.get? a = none := by
      cases q : zI.heap.get? a with
      | none => rfl
      | some u =>
        have := ground a u q (by rw [st]; exact nofr)
        rw [f3.2.1] at this
        cases this
    have old : ∀ u, X.s_0.heap.get? a = some u → a ∈ X.ex := fun u e => by
      by_cases hx : a ∈ X.ex
      · exact hx
      · obtain ⟨o', e'⟩ := J.base.there a u e hx
        rw [new] at e'
        cases e'
    have np : ∀ p ∈ X.pn ++ pins, p.1 ≠ a := fun p hp q => by
      have := (J.pin p hp).1
      rw [q, new] at this
      cases this
    have S3 := J3.suite e3 dd3 na nl nf
    refine wpAny_handleBy_cons (codeAny_handlers_test ?_) (by intro q; cases q)
    have ty : PySem.W.Looks (model X.prog X.w) h3 (typeOf (.ref a)) cls := fun A' Q' E' z4 k q => wpAny_typeOf_ref (k _ _ e3) (by rw [zc3.1]; exact q)
    have hit := PySem.W.exm_one (M := model X.prog X.w) (J3.kIn) ty match_
    have load : ∀ {Q' : Value → Shared → Prop} {E' : Value → Shared → Prop}, Q' c { z' with heap := h3 } → wpAny (model X.prog X.w) (X.A.mark (some (.ref a))) (eval (.Name x q1) X.env) Q' E' { z' with heap := h3 } := fun {Q' E'} q => by
      obtain ⟨gl, dbg, hm | ⟨hm, hv, hnn⟩⟩ := nm
      · exact ld_glob (X := X.suite a ((a, o3) :: (X.pn ++ pins))) S3 gl hm q dbg
      · exact ld_blt (X := X.suite a ((a, o3) :: (X.pn ++ pins))) S3 gl hm hv q hnn dbg
    refine load (hit.here (codeAny_handlers_suite_as (HandSPX.lands_againZ f3 fun h4 f4 up4 => ?_)))
    have J4 : Inv X pins τ' G' { z' with heap := h4 } := J.landed ground f4.1 ((up.trans up3).trans up4) os ag
    obtain ⟨o4, fv4, e4, zc4, dd4⟩ := f4.there
    refine store_ok (X := X.suite a ((a, o4) :: (X.pn ++ pins))) (v := .ref a) (J4.suite e4 dd4 na nl nf) ndN iy (.inl kl) rfl (fun z5 S5 => ?_) (.inr kl)
    refine wpAny_mono ((Hs a o4 cls d (X.pn ++ pins) zc4 ⟨_, dd4⟩).run [] z5 _ G' _ S5 (yes a J'.len na)) (fun fl z6 hsp => ?_) (fun _ _ q => False.elim q)
    have fin : ∀ {τ6 : L2.St} {G6 : Hp} {Q' : Shared → Prop}, Inv X pins τ6 G6 z6 → (∀ z7, Inv X pins (τ6.set i none) G6 z7 → Q' z7) →
        wpAny (model X.prog X.w) X.A (do bindName X.env n .none; unbindBehindTheSuite X.env n q2) (fun _ z7 => Q' z7) X.xe z6 := fun {τ6 G6 Q'} I6 hq => gone_ok I6 ndN iy kl hq
    cases fl with
    | next =>
      obtain ⟨τ6, G6, S6, w6⟩ := hsp
      have p6 := S6.pin (a, o4) (List.mem_append_left _ List.mem_cons_self)
      exact fin (told_of (S6.unsuite oX) p6.1 zc4 dd4 p6.2.1 nl old np) fun z7 J7 => ⟨_, _, J7, w6⟩
    | brk =>
      obtain ⟨τ6, G6, S6, w6⟩ := hsp
      exact fin (S6.unsuite oX) fun z7 J7 => ⟨_, _, J7, w6⟩
    | cont =>
      obtain ⟨τ6, G6, S6, w6⟩ := hsp
      exact fin (S6.unsuite oX) fun z7 J7 => ⟨_, _, J7, w6⟩
    | ret u =>
      obtain ⟨v6, τ6, G6, S6, r6, w6⟩ := hsp
      exact fin (S6.unsuite oX) fun z7 J7 => ⟨_, _, _, J7, r6, w6⟩
  · cases fl with
    | next =>
      obtain ⟨τ1, G1, J1, w1⟩ := hsp
      exact wpAny_execs_nil ⟨τ1, G1, J1.ofTry oX, w1⟩
    | brk =>
      obtain ⟨τ1, G1, J1, w1⟩ := hsp
      exact ⟨τ1, G1, J1.ofTry oX, w1⟩
    | cont =>
      obtain ⟨τ1, G1, J1, w1⟩ := hsp
      exact ⟨τ1, G1, J1.ofTry oX, w1⟩
    | ret u =>
      obtain ⟨v1, τ1, G1, J1, r1, w1⟩ := hsp
      exact ⟨v1, τ1, G1, J1.ofTry oX, r1, w1⟩
end
/-! isinstance of what was kept -/
def rIsX (K : PySem.W.Frag) : List V → Hp → VK → Prop := fun xs G W => ∃ (a D : Addr) (k : V) (kv : Value) (b : Bool), xs = [V.ref a, k] ∧ G a = some (ExV (.ref D) none a) ∧ ExcC K D ∧ (∀ u, RelV k u → u = kv) ∧ PySem.W.kitOne K (.ref D) kv = some b ∧ W (V.bl b) G
theorem inst_at {P : Program} {w : World} {G : Hp} {h : Heap} {a D : Addr} (ok : HOk P w G h) (e : G a = some (ExV (.ref D) none a)) : ∃ o, PySem.W.InstAt h a o D none := by
  obtain ⟨⟨o, fv, g, z, dd⟩, _⟩ := (show ObjOk P w G h a (ExV (.ref D) none a) from ok a _ e)
  obtain ⟨oc, od, dt, sl⟩ := o
  obtain ⟨z1, z2⟩ := z
  dsimp only at z1 z2 dd
  subst z1 z2 dd
  exact ⟨_, g, rfl, rfl, trivial⟩
theorem call_isX {X : Cx} : CallR X (.builtin "isinstance") (rIsX X.K) := by
  rintro pins z τ G xs us W I r ⟨a, D, k, kv, b, rfl, ea, C, hk, e, q⟩
  obtain ⟨u1, u2, rfl, r1, r2⟩ := vals2 r
  obtain rfl : u1 = Value.ref a := r1
  obtain rfl := hk _ r2
  obtain ⟨o, J⟩ := inst_at I.hok ea
  exact PySem.W.kia_one (PySem.W.handS_kitx_exc C.hg C.hk C.hs C.hd C.ha C.hn C.ht C.hm) I.kIn J e (fun q => nomatch q) fun tk => ⟨.bl b, G, I.tok tk, rfl, q⟩
def rIsXT (K : PySem.W.Frag) : List V → Hp → VK → Prop := fun xs G W => ∃ (a D tp : Addr) (cs : List V) (us : List Value) (b : Bool), xs = [V.ref a, V.ref tp] ∧ G a = some (ExV (.ref D) none a) ∧ ExcC K D ∧ G tp = some (.tup cs) ∧ Paired ClsV cs us ∧ PySem.W.kitAny K (.ref D) us = some b ∧ W (V.bl b) G
theorem call_isXT {X : Cx} : CallR X (.builtin "isinstance") (rIsXT X.K) := by
  rintro pins z τ G xs us W I r ⟨a, D, tp, cs, ws, b, rfl, ea, C, et, hk, e, q⟩
  obtain ⟨u1, u2, rfl, r1, r2⟩ := vals2 r
  obtain rfl : u1 = Value.ref a := r1
  obtain rfl : u2 = Value.ref tp := r2
  obtain ⟨o, J⟩ := inst_at I.hok ea
  obtain ⟨_, its, rv, ot, g1, g2, n, g3⟩ := (show ObjOk X.prog X.w G z.heap tp (.tup cs) from I.hok tp _ et)
  obtain rfl := ClsV.all hk rv
  obtain ⟨oc, od, dt, sl⟩ := ot
  dsimp only at g2 g3
  subst g2 g3
  exact PySem.W.kia_tup (PySem.W.handS_kitx_exc C.hg C.hk C.hs C.hd C.ha C.hn C.ht C.hm) I.kIn J g1 e (fun q => nomatch q) fun tk => ⟨.bl b, G, I.tok tk, rfl, q⟩
end Kept
/-! ### NoText: made with a line, kept, its line read -/
def clsS (i j : Nat) : Stmt := match topS i with
  | .ClassDef _ _ _ body _ _ _ _ _ _ _ => body.getD j (.Pass ⟨0, 0, 0, 0⟩)
  | s => s
abbrev sTextInit : Stmt := clsS 29 0
namespace Kept
theorem cls_some {K : PySem.W.Frag} {D : Addr} (h : PySem.W.hasDictIn K D = true) : (PySem.W.clsIn K D).isSome = true := by
  unfold PySem.W.hasDictIn at h
  cases e : PySem.W.clsIn K D with
  | some c => rfl
  | none => rw [e] at h; cases h
theorem inst_atD {P : Program} {w : World} {G : Hp} {h : Heap} {a D dd : Addr} {fs : List (Str × V)} (ok : HOk P w G h) (e : G a = some (ExV (.ref D) (some dd) a)) (ed : G dd = some (.xd fs)) :
    ∃ (o od : Obj) (mA : Str → Option Value), PySem.W.InstAt h a o D (some od) ∧ h.Ns1 dd mA ∧ (∀ f, RelO (fs.lookup f) (mA f)) ∧ h.get? dd = some od := by
  obtain ⟨⟨o, fv, g, z, ddt⟩, _⟩ := (show ObjOk P w G h a (ExV (.ref D) (some dd) a) from ok a _ e)
  have hx : ObjOk P w G h dd (.xd fs) := ok dd _ ed
  obtain ⟨mA, hns, hr⟩ := hx
  obtain ⟨od, ho, hl⟩ := lookIn_ns hns
  exact ⟨o, od, mA, ⟨g, z.1, by unfold PySem.W.notCls; rw [ddt] <;> rfl, by rw [z.2]; exact ho⟩, hns, hr, ho⟩
def rIsD (K : PySem.W.Frag) : List V → Hp → VK → Prop := fun xs G W => ∃ (a D dd : Addr) (fs : List (Str × V)) (k : V) (kv : Value) (b : Bool), xs = [V.ref a, k] ∧ G a = some (ExV (.ref D) (some dd) a) ∧ G dd = some (.xd fs) ∧ ExcC K D ∧ (∀ u, RelV k u → u = kv) ∧ PySem.W.kitOne K (.ref D) kv = some b ∧ W (V.bl b) G
theorem call_isD {X : Cx} : CallR X (.builtin "isinstance") (rIsD X.K) := by
  rintro pins z τ G xs us W I r ⟨a, D, dd, fs, k, kv, b, rfl, ea, ed, C, hk, e, q⟩
  obtain ⟨u1, u2, rfl, r1, r2⟩ := vals2 r
  obtain rfl : u1 = Value.ref a := r1
  obtain rfl := hk _ r2
  obtain ⟨o, od, mA, J, _⟩ := inst_atD I.hok ea ed
  exact PySem.W.kia_one (PySem.W.kitx_exc (gt := none) (cls_some C.hd) C.hg C.hk C.hs C.ha C.hn C.ht C.hm) I.kIn J e (fun q => nomatch q) fun tk => ⟨.bl b, G, I.tok tk, rfl, q⟩
def rIsDT (K : PySem.W.Frag) : List V → Hp → VK → Prop := fun xs G W => ∃ (a D dd tp : Addr) (fs : List (Str × V)) (cs : List V) (us : List Value) (b : Bool), xs = [V.ref a, V.ref tp] ∧ G a = some (ExV (.ref D) (some dd) a) ∧ G dd = some (.xd fs) ∧ ExcC K D ∧ G tp = some (.tup cs) ∧ Paired ClsV cs us ∧ PySem.W.kitAny K (.ref D) us = some b ∧ W (V.bl b) G
theorem call_isDT {X : Cx} : CallR X (.builtin "isinstance") (rIsDT X.K) := by
  rintro pins z τ G xs us W I r ⟨a, D, dd, tp, fs, cs, ws, b, rfl, ea, ed, C, et, hk, e, q⟩
  obtain ⟨u1, u2, rfl, r1, r2⟩ := vals2 r
  obtain rfl : u1 = Value.ref a := r1
  obtain rfl : u2 = Value.ref tp := r2
  obtain ⟨o, od, mA, J, _⟩ := inst_atD I.hok ea ed
  obtain ⟨_, its, rv, ot, g1, g2, n, g3⟩ := (show ObjOk X.prog X.w G z.heap tp (.tup cs) from I.hok tp _ et)
  obtain rfl := ClsV.all hk rv
  obtain ⟨oc, od', dt, sl⟩ := ot
  dsimp only at g2 g3
  subst g2 g3
  exact PySem.W.kia_tup (PySem.W.kitx_exc (gt := none) (cls_some C.hd) C.hg C.hk C.hs C.ha C.hn C.ht C.hm) I.kIn J g1 e (fun q => nomatch q) fun tk => ⟨.bl b, G, I.tok tk, rfl, q⟩
/-- a field of an exception that was kept -/
def tXk (K : PySem.W.Frag) (f : Str) (te : TE) : TE := fun σ H Q => te σ H fun x H1 => ∃ (a C dd : Addr) (fs : List (Str × V)) (v : V), x = .ref a ∧ XfC K C ∧ PySem.W.findIn K (.ref C) f = some none ∧ H1 a = some (ExV (.ref C) (some dd) a) ∧ H1 dd = some (.xd fs) ∧ fs.lookup f = some v ∧ Q v H1
theorem pe_xfk {X : Cx} {e : Expr} {te : TE} {pos : Pos} {n : Str} (he : PE X e te) (hb : attributeBase e n X.env (eval e X.env) = eval e X.env := by rfl) : PE X (.Attribute e n pos) (tXk X.K n te) := by
  refine ⟨fun pins s σ H Q I h => ?_⟩
  refine attr_of hb (thn (he.run pins s σ H _ I h) fun u s1 hh => ?_)
  obtain ⟨x, H1, I1, rx, a, C, dd, fs, v, ex, T, hno, ea, ed, l, q⟩ := hh
  subst ex
  obtain rfl : u = Value.ref a := rx
  obtain ⟨o, od, mA, J, hns, hr, ho⟩ := inst_atD I1.hok ea ed
  obtain ⟨od2, ho2, hl⟩ := lookIn_ns hns
  obtain rfl : od2 = od := Option.some.inj (ho2.symm.trans ho)
  obtain ⟨u, hu, ru⟩ := RelO.some_of (v := v) (o := mA n) (by rw [← l]; exact hr n)
  exact HandSPX.exc_get I1.kIn J T.ga T.gg T.exC (PySem.W.findObj_own T.hdC hno rfl (by rw [hl, hu])) (handed_of ru) ⟨v, H1, I1.tok _, ru, q⟩
end Kept
/-- what NoText(0) leaves -/
abbrev lineX : List (Str × V) := [("line", .int 0)]
def spNtInit (C : Addr) : Sp := fun vs H Q _ => ∃ (a : Addr) (v : V), vs = [.ref a, v] ∧ H a = some (exo a C none) ∧ ∀ d, H d = none → d ≠ a → Q .non (upd (upd H d (exd d [("line", v)])) a (exo a C (some d)))
theorem nt_raise {H1 : Hp} {C : Addr} {Q : XK} (go : ∀ d H', Same H1 H' → H' d = some (.xd lineX) → Q (.ref C) (some d) H') (a : Addr) (na : H1 a = none) : spNtInit C (.ref a :: ([V.int 0] ++ [])) (upd H1 a (exo a C none))
    (fun v H2 => v = .non ∧ ∃ (d : Addr) (fs : List (Str × V)), H2 a = some (exo a C (some d)) ∧ H2 d = some (exd d fs) ∧ H1 d = none ∧ Q (.ref C) (some d) (upd (del H2 a) d (.xd fs))) (fun _ _ _ => False) := by
  refine ⟨a, .int 0, rfl, upd_same, fun d nd ne => ?_⟩
  have nd1 : H1 d = none := (upd_ne ne).symm.trans nd
  refine ⟨rfl, d, lineX, upd_same, (upd_ne ne).trans upd_same, nd1, go d _ (fun b o e => ?_) upd_same⟩
  have ba : b ≠ a := ne_of_none e na
  have bd : b ≠ d := ne_of_none e nd1
  exact (upd_ne bd).trans ((del_ne ba).trans ((upd_ne ba).trans ((upd_ne bd).trans ((upd_ne ba).trans e))))
section
variable {P : Program} {w : World} {K : PySem.W.Frag} {mg : Str → Option Value} {base : Heap}
theorem sc_sTextInit : FnScope ["self", "line"] ["self", "line"] (defScope sTextInit) := ⟨rfl, rfl, rfl, by decide +kernel, rfl, by decide +kernel, by decide +kernel⟩
theorem ok_ntInit {C f : Addr} {fd : FuncData} (T : OexC K C) (no : PySem.W.findIn K (.ref C) "line" = some none) (F : Fun K "__init__" "NoText.__init__" sTextInit f fd) : FnOk P w K mg base CX0 1 f fd ["self", "line"] (spNtInit C) := by
  refine F.ok sc_sTextInit (fun vs H Q E h => ?_) (fun cdv A outer s H vs Q E hr h => ?_)
  · obtain ⟨a, v, rfl, _⟩ := h
    rfl
  · obtain ⟨a, v, rfl, ha, q⟩ := h
    have nd := sc_sTextInit.nd
    refine ⟨_, pss_one (ps_ost (pv 0) (pv 1)), ?_⟩
    exact ⟨_, rfl, _, rfl, a, C, rfl, T, no, .inl ⟨ha, fun dx n ne => q dx n ne⟩⟩
/-- the class NoText -/
structure NtC (P : Program) (w : World) (K : PySem.W.Frag) (mg : Str → Option Value) (base : Heap) (C fI : Addr) (dI : FuncData) : Prop where
  t : OexC K C
  ic : PySem.W.findIn K (.ref C) "__init__" = some (some (.ref fI))
  ti : PySem.W.typeIn K (.ref fI) = some (.type "function")
  ok : FnOk P w K mg base CX0 1 fI dI ["self", "line"] (spNtInit C)
  b : Binds K dI ["self", "line"] []
  g : mg "NoText" = some (.ref C)
end
/-! ### row_text -/
def strV : V → Str
  | .str y => y
  | .int i => numT i
  | _ => ""
def PlainV (v : V) : Prop := (∃ y : Str, v = .str y ∧ y.length ≤ 13) ∨ ∃ i : Int, v = .int i ∧ 0 ≤ i ∧ i ≤ 1000000000
theorem strV_len {v : V} (h : PlainV v) : (strV v).length ≤ 13 := by
  rcases h with ⟨y, rfl, l⟩ | ⟨i, rfl, h0, h1⟩
  · exact l
  · exact (num_len h0 h1).2
section
variable {P : Program} {w : World} {K : PySem.W.Frag} {mg : Str → Option Value} {base : Heap}
theorem join2 (a b : Str) : Txt.join " " [a, b] = a ++ " " ++ b := join_glue " " a [b]
theorem join3 (a b c : Str) : Txt.join " " [a, b, c] = a ++ " " ++ (b ++ " " ++ c) := by
  rw [join_glue]
  show a ++ " " ++ b ++ " " ++ c = _
  rw [app_assoc (a ++ " ") b, app_assoc (a ++ " ") (b ++ " ")]
abbrev sRowTextN : List Str := ["row", "part"]
theorem sc_sRowText : FnScope sRowTextN ["row"] (defScope sRowText) := ⟨rfl, rfl, rfl, by decide +kernel, rfl, by decide +kernel, by decide +kernel⟩
theorem ok_rowText {f cA T fE : Addr} {dE : FuncData} {Ts : List Addr} {oc kV doc pm ct : Value} {od an : Option Addr} {osl : Array (Option Value)}
    (lk : K.lookup f = some ⟨oc, od, .func (PySem.W.fnOf "row_text" "row_text" (defArgs sRowText) (defBody sRowText) (defScope sRowText) .none kV doc pm an (.ref cA) ct), osl⟩) (cdI : PySem.W.codeIn K (.ref cA) "row_text" = true)
    (TB : GxR.TabB base mg cA T) (i1 : T ∈ Ts) (ET : DefT P w K mg base "entry_text" 2 fE dE ["entry"] (spEntryText Ts)) (mT_str : mg "str" = none) :
    FnOk P w K mg base CX0 3 f (PySem.W.fnOf "row_text" "row_text" (defArgs sRowText) (defBody sRowText) (defScope sRowText) .none kV doc pm an (.ref cA) ct) ["row"] (spRowText Ts) := by
  refine fn_of lk cdI sc_sRowText (fun vs H Q E h => ?_) (fun A outer s H vs Q E hr h => ?_)
  · obtain ⟨a, r, rfl, _⟩ := h
    rfl
  · obtain ⟨t, r, rfl, rk, ra, tg, q⟩ := h
    have nd := sc_sRowText.nd
    have nd := sc_sRowText.nd
    refine ⟨_, pss_cons (ps_if (pt_cmpR op_eq (pe_ix ix_tup (pv 0) pe_int (fun _ _ => rfl)) pe_str (nomark _)) (pss_one (ps_ret (pe_op op_add_str pe_str (pe_call ET.ok hr (by rfl) ET.g ET.kp ET.b .nil pass0 (pa_cons (pe_ix ix_tup (pv 0) pe_int (fun _ _ => rfl)) pa_nil))))) pss_nil)
      (pss_one (ps_ret (pe_joinX (T := T) (c := cA) (k := 0) (own := [("part", 1)]) (g := gName 1) (tt := tYes) (hr.mono (by decide)) pe_str rfl nd TB rfl ⟨blkOk_by (N := sRowTextN) (sc := defScope sRowText) (by decide +kernel), rfl, by decide +kernel, rfl⟩ (pi_tup (pv 0)) (fun _ _ _ _ _ _ => (pg_name (i := 1) nd rfl (Or.inl rfl))) (fun _ _ _ _ _ _ hr' => pts_nil) (fun _ _ _ _ _ _ hr' => (pe_callTy call_str_sn (by rfl) mT_str (by decide +kernel) (pa_cons (pv 1) pa_nil)))))), ?_⟩
    obtain ⟨y0, xs0, ht, l0, ne, ok0, l3, e⟩ | ⟨e, rfl⟩ : (∃ (y0 : Str) (xs : List V), H t = some (.tup (V.str y0 :: xs)) ∧ y0.length ≤ 13 ∧ (y0 == ("enter" : Str)) = false ∧ (∀ v ∈ xs, PlainV v) ∧ xs.length ≤ 3 ∧ rowT r = Txt.join " " ((V.str y0 :: xs).map strV)) ∨ ∃ e, r = .enter e := by
      cases r with
      | enter e => exact .inr ⟨e, rfl⟩
      | back n =>
        refine .inl ⟨"back", [V.str n], ra, by decide +kernel, by decide +kernel, fun v hv => ?_, by show 1 ≤ 3; decide, (join2 "back" n).symm⟩
        rw [List.mem_singleton.mp hv]
        exact .inl ⟨_, rfl, Nat.le_trans (name_len rk).2 (by decide)⟩
      | close d m =>
        obtain ⟨h0, h9, hm⟩ := rk
        refine .inl ⟨"close", [V.int d, V.str m], ra, by decide +kernel, by decide +kernel, fun v hv => ?_, by show 2 ≤ 3; decide, (join3 "close" (numT d) m).symm⟩
        rcases List.mem_cons.mp hv with rfl | hv
        · exact .inr ⟨_, rfl, h0, by omega⟩
        rw [List.mem_singleton.mp hv]
        refine .inl ⟨_, rfl, ?_⟩
        have all : ∀ y ∈ modes2, y.length ≤ 13 := by decide +kernel
        exact all m hm
    · have ok : ∀ v ∈ V.str y0 :: xs0, PlainV v := fun v hv => by
        rcases List.mem_cons.mp hv with rfl | hv
        · exact .inl ⟨_, rfl, l0⟩
        · exact ok0 v hv
      refine ⟨_, rfl, t, _, 0, _, rfl, rfl, SqT.of ht, atI_nat (j := 0) rfl, rfl, _, rfl, ?_⟩
      rw [decide_eq_false fun z => by rw [V.str.inj z, beq_self_eq_true] at ne; cases ne]
      refine iteF ?_
      have l4 : (V.str y0 :: xs0).length ≤ 4 := by rw [List.length_cons]; omega
      generalize V.str y0 :: xs0 = xs at ht ok e l4
      refine ⟨_, rfl, _, rfl, t, rfl, ⟨_, SqT.of ht⟩, ?_⟩
      refine gx_over (over_t (K := K) (a := t) (xs := xs)) (fun i ys H' => TB1 Ts H H' ∧ ys = ((xs.take i).map strV).map V.str) (tg T i1) (fun H2 tb => ⟨.tab tb tg i1, rfl⟩) (fun i ys H' _ z => SqT.of (z.1.tk _ _ ht)) ?_ ?_
      · rintro i x ys H' Go hx ⟨b, rfl⟩ go
        have hv := ok x (List.mem_of_getElem? hx)
        have e : ((xs.take (i + 1)).map strV).map V.str = ((xs.take i).map strV).map V.str ++ [V.str (strV x)] := by
          rw [take_sn hx, List.map_append, List.map_append]
          rfl
        have lt : (((xs.take i).map strV).map V.str).length < sizeLine := by
          rw [List.length_map, List.length_map]
          exact small1000 (by rw [List.length_take]; omega)
        refine ⟨rfl, yesT ?_⟩
        rcases hv with ⟨y, rfl, _⟩ | ⟨n, rfl, h0, h1⟩
        · exact ⟨_, rfl, _, rfl, .inl ⟨y, rfl, lt, go _ _ ⟨b, e ▸ rfl⟩⟩⟩
        · exact ⟨_, rfl, _, rfl, .inr ⟨n, rfl, int_small h0 h1, lt, go _ _ ⟨b, e ▸ rfl⟩⟩⟩
      · rintro ys H' ⟨b, rfl⟩
        rw [List.take_length]
        have sm := sum_le (xs := xs.map strV) (B := 13) fun y hy => by
          obtain ⟨v, hv, rfl⟩ := List.mem_map.mp hy
          exact strV_len (ok v hv)
        rw [List.length_map] at sm
        have bl : ((" " : Str)).length = 1 := by decide +kernel
        refine ⟨by rw [List.length_map, List.length_map]; exact Nat.le_of_lt (small1000 (by omega)), xs.map strV, rfl, by rw [List.length_map, bl]; omega, ?_⟩
        rw [← e]
        exact q H' b
    · obtain ⟨tp, h1, h2⟩ := ra
      refine ⟨_, rfl, t, _, 0, _, rfl, rfl, SqT.of h1, atI_nat (j := 0) rfl, rfl, _, rfl, ?_⟩
      rw [decide_eq_true rfl]
      refine iteT ?_
      have pk := fine_parts rk
      have l7 := vals_len10 e
      refine ⟨_, rfl, t, _, 1, _, rfl, rfl, SqT.of h1, atI_nat (j := 1) rfl, tp, e.vals, rfl, h2, pk, by omega, tg, fun H' b => ⟨_, _, rfl, rfl, ?_, ?_⟩⟩
      · have := ent_len pk
        show ("enter " : Str).length + (entT e).length ≤ sizeLine
        rw [show ("enter " : Str).length = 6 from by decide +kernel]
        exact Nat.le_of_lt (small1000 (by omega))
      · have e2 : rowT (.enter e) = "enter " ++ entT e := by
          show ("enter" : Str) ++ " " ++ entT e = _
          rw [show ("enter" : Str) ++ " " = "enter " from by decide +kernel]
        have z := q H' b
        rw [e2] at z
        exact z
end
/-! ### row_in -/
section
variable {P : Program} {w : World} {K : PySem.W.Frag} {mg : Str → Option Value} {base : Heap}
theorem ent_nil {e : Ent} (h : e.Fine) : ("" : Str) ≠ entT e := fun z => entT_ne h z.symm
theorem thg_numV (d : Str) (H : Hp) : Thg H (numV d) := by
  unfold numV
  split
  · exact .int _
  · exact .non
theorem day_mode {d m : Str} : (dayB (numV d) = true ∧ m ∈ modes2) → ∃ i : Int, numV d = .int i ∧ numT i = d ∧ 0 ≤ i ∧ i ≤ 99 := by
  rintro ⟨h, _⟩
  cases e : numV d with
  | int i =>
    rw [e] at h
    have h' : (decide (0 ≤ i) && decide (i ≤ 99)) = true := h
    rw [Bool.and_eq_true] at h'
    exact ⟨i, rfl, (numV_back e).1, of_decide_eq_true h'.1, of_decide_eq_true h'.2⟩
  | _ => rw [e] at h; cases h
theorem w_enter {r : Rw} (h : ("enter" : Str) = wordR r) : ∃ e, r = .enter e := by
  cases r with
  | enter e => exact ⟨e, rfl⟩
  | back n => exact absurd h (by show ¬ (("enter" : Str) = "back"); decide +kernel)
  | close d m => exact absurd h (by show ¬ (("enter" : Str) = "close"); decide +kernel)
theorem w_back {r : Rw} (h : ("back" : Str) = wordR r) : ∃ n, r = .back n := by
  cases r with
  | enter e => exact absurd h (by show ¬ (("back" : Str) = "enter"); decide +kernel)
  | back n => exact ⟨n, rfl⟩
  | close d m => exact absurd h (by show ¬ (("back" : Str) = "close"); decide +kernel)
theorem w_close {r : Rw} (h : ("close" : Str) = wordR r) : ∃ d m, r = .close d m := by
  cases r with
  | enter e => exact absurd h (by show ¬ (("close" : Str) = "enter"); decide +kernel)
  | back n => exact absurd h (by show ¬ (("close" : Str) = "back"); decide +kernel)
  | close d m => exact ⟨d, m, rfl⟩
abbrev sRowInN : List Str := ["text", "word", "blank", "rest", "entry", "day", "mode"]
theorem sc_sRowIn : FnScope sRowInN ["text"] (defScope sRowIn) := ⟨rfl, rfl, rfl, by decide +kernel, rfl, by decide +kernel, by decide +kernel⟩
set_option maxHeartbeats 1000000 in
theorem ok_rowIn {f fE fN fO fD T T1 aM : Addr} {Ts : List Addr} {fd dE dN dO dD : FuncData} (F : Fun K "row_in" "row_in" sRowIn f fd) (EI : DefT P w K mg base "entry_in" 5 fE dE ["text"] (spEntryInA Ts)) (IN : DefT P w K mg base "is_name" 1 fN dN ["thing"] (spName K T1))
    (NO : DefT P w K mg base "number_of" 1 fO dO ["word"] (spNumber T)) (DA : DefT P w K mg base "is_day" 2 fD dD ["thing"] spIsDayA) (i0 : T ∈ Ts) (i1 : T1 ∈ Ts) (mM : mg "MODES" = some (.ref aM)) (hM : ∀ H, SqT K H aM (modes2.map V.str)) : FnOk P w K mg base CX0 6 f fd ["text"] (spRowIn Ts) := by
  refine F.ok sc_sRowIn (fun vs H Q E h => ?_) (fun cdv A outer s H vs Q E hr h => ?_)
  · obtain ⟨x, rfl, _⟩ := h
    rfl
  · obtain ⟨x, rfl, l9, tg, qy, qn⟩ := h
    have nd := sc_sRowIn.nd
    have hr1 : Room 1 _ := hr.mono (by decide)
    have hr2 : Room 2 _ := hr.mono (by decide)
    refine ⟨_, pss_cons (ps_asg (pe_partition (pv 0) pe_str) (pg_tup (by rfl) (pgs_cons (pg_name (i := 1) nd rfl (Or.inl rfl)) (pgs_cons (pg_name (i := 2) nd rfl (Or.inl rfl)) (pgs_cons (pg_name (i := 3) nd rfl (Or.inl rfl)) pgs_nil)))))
      (pss_cons (ps_if (pt_cmpR op_eq (pv 1) pe_str (nomark _)) (pss_cons (ps_set (i := 4) nd rfl (Or.inl rfl) (pe_call EI.ok hr (by rfl) EI.g EI.kp EI.b .nil pass0 (pa_cons (pv 3) pa_nil)))
        (pss_one (ps_ret (pe_ifExp (pt_cmpR op_isN (pv 4) pe_non (by rfl)) pe_non (pe_tup (pa_cons (pv 1) (pa_cons (pv 4) pa_nil))))))) pss_nil)
      (pss_cons (ps_if (pt_cmpR op_eq (pv 1) pe_str (nomark _)) (pss_one (ps_ret (pe_ifExp (pt_val (pe_call IN.ok hr1 (by rfl) IN.g IN.kp IN.b .nil pass0 (pa_cons (pv 3) pa_nil))) (pe_tup (pa_cons (pv 1) (pa_cons (pv 3) pa_nil))) pe_non))) pss_nil)
      (pss_cons (ps_if (pt_cmpR op_eq (pv 1) pe_str (nomark _)) (pss_cons (ps_asg (pe_partition (pv 3) pe_str) (pg_tup (by rfl) (pgs_cons (pg_name (i := 5) nd rfl (Or.inl rfl)) (pgs_cons (pg_name (i := 2) nd rfl (Or.inl rfl)) (pgs_cons (pg_name (i := 6) nd rfl (Or.inl rfl)) pgs_nil)))))
        (pss_one (ps_ret (pe_ifExp (PW.pt (pw_and (pt_val (pe_call DA.ok hr2 (by rfl) DA.g DA.kp DA.b .nil pass0 (pa_cons (pe_call NO.ok hr1 (by rfl) NO.g NO.kp NO.b .nil pass0 (pa_cons (pv 5) pa_nil)) pa_nil))) (pw_and1 (pt_cmpR op_in_seq (pv 6) (pe_glob (v := .ref aM) (u := .ref aM) (by rfl) mM rfl) (by rfl))))) (pe_tup (pa_cons (pv 1) (pa_cons (pe_call NO.ok hr1 (by rfl) NO.g NO.kp NO.b .nil pass0 (pa_cons (pv 5) pa_nil)) (pa_cons (pv 6) pa_nil)))) pe_non)))) pss_nil)
      (pss_one (ps_ret pe_non))))), ?_⟩
    obtain ⟨a, mm, b, hp, la, lb, hi⟩ := row_cases x
    have sl9 : ∀ {n : Nat}, n ≤ 900 → n ≤ sizeLine := fun h => Nat.le_of_lt (small1000 (by omega))
    refine ⟨_, rfl, ⟨_, rfl⟩, x, _, rfl, rfl, (by decide +kernel), sl9 l9, fun p np => ?_⟩
    rw [hp]
    have s1 := @same_new _ _ (.tup [V.str a, .str mm, .str b]) np
    have h1 : (upd H p (.tup [V.str a, .str mm, .str b])) p = some (.tup [V.str a, .str mm, .str b]) := upd_same
    generalize upd H p (.tup [V.str a, .str mm, .str b]) = H1 at s1 h1
    have tg1 := tabs_sm s1 tg
    have b1 : TB1 Ts H H1 := .same tg s1
    refine ⟨p, _, rfl, SqT.of h1, rfl, _, _, rfl, _, _, rfl, _, _, rfl, rfl, ?_⟩
    refine ⟨_, rfl, rfl, _, rfl, ?_⟩
    by_cases e1 : a = "enter"
    · subst e1
      rw [decide_eq_true rfl]
      refine iteT ⟨_, rfl, b, rfl, Nat.le_trans lb l9, tg1, fun e he hx tp H2 b2 _ htp => ?_, fun no H2 b2 => ?_⟩
      · refine ⟨_, rfl, rfl, _, rfl, ?_⟩
        rw [decide_eq_false (fun z => nomatch z)]
        refine iteF ⟨_, rfl, _, rfl, (by show 2 ≤ sizeLine; decide), fun t nt => ?_⟩
        have s3 := @same_new _ _ (.tup [V.str "enter", .ref tp]) nt
        exact qy (.enter e) he ((hi (.enter e) he).mpr ⟨rfl, hx⟩) t _ ((b1.tr b2).tr (.same b2.1 s3)) ⟨tp, upd_same, s3 _ _ htp⟩
      · refine ⟨_, rfl, rfl, _, rfl, ?_⟩
        rw [decide_eq_true rfl]
        refine iteT (qn (fun r hr hx => ?_) H2 (b1.tr b2))
        obtain ⟨z1, z2⟩ := (hi r hr).mp hx
        obtain ⟨e, rfl⟩ := w_enter z1
        exact no e hr z2
    rw [decide_eq_false fun z => e1 (V.str.inj z)]
    refine iteF ⟨_, rfl, rfl, _, rfl, ?_⟩
    by_cases e2 : a = "back"
    · subst e2
      rw [decide_eq_true rfl]
      refine iteT ⟨_, rfl, .str b, rfl, tg1 T1 i1, .inl ⟨b, rfl, sl9 (Nat.le_trans lb l9), fun H2 tb => ?_⟩⟩
      have b2 : TB1 Ts H H2 := b1.tr (.tab tb tg1 i1)
      by_cases nb : nameB b = true
      · rw [nb]
        refine ⟨true, rfl, iteT ⟨_, rfl, _, rfl, (by show 2 ≤ sizeLine; decide), fun t nt => ?_⟩⟩
        have s3 := @same_new _ _ (.tup [V.str "back", .str b]) nt
        exact qy (.back b) nb ((hi (.back b) nb).mpr ⟨rfl, rfl⟩) t _ (b2.tr (.same b2.1 s3)) upd_same
      · rw [Bool.eq_false_iff.mpr nb]
        refine ⟨false, rfl, iteF (qn (fun r hr hx => ?_) H2 b2)⟩
        obtain ⟨z1, z2⟩ := (hi r hr).mp hx
        obtain ⟨n, rfl⟩ := w_back z1
        exact nb (z2 ▸ hr)
    rw [decide_eq_false fun z => e2 (V.str.inj z)]
    refine iteF ⟨_, rfl, rfl, _, rfl, ?_⟩
    by_cases e3 : a = "close"
    rotate_left
    · rw [decide_eq_false fun z => e3 (V.str.inj z)]
      refine iteF (qn (fun r hr hx => ?_) H1 b1)
      obtain ⟨z1, z2⟩ := (hi r hr).mp hx
      cases r with
      | enter e => exact e1 z1
      | back n => exact e2 z1
      | close d m => exact e3 z1
    subst e3
    rw [decide_eq_true rfl]
    refine iteT ?_
    obtain ⟨d, m2, md, hp2, ld, lm, hi2⟩ := sep_cases b
    refine ⟨_, rfl, ⟨_, rfl⟩, b, _, rfl, rfl, (by decide +kernel), sl9 (Nat.le_trans lb l9), fun p2 np2 => ?_⟩
    rw [hp2]
    have s2 := @same_new _ _ (.tup [V.str d, .str m2, .str md]) np2
    have h2 : (upd H1 p2 (.tup [V.str d, .str m2, .str md])) p2 = some (.tup [V.str d, .str m2, .str md]) := upd_same
    generalize upd H1 p2 (.tup [V.str d, .str m2, .str md]) = H2 at s2 h2
    have tg2 := tabs_sm s2 tg1
    have b2 : TB1 Ts H H2 := b1.tr (.same tg1 s2)
    refine ⟨p2, _, rfl, SqT.of h2, rfl, _, _, rfl, _, _, rfl, _, _, rfl, rfl, ?_⟩
    have ld9 : d.length ≤ sizeLine := sl9 (Nat.le_trans ld (Nat.le_trans lb l9))
    have hc : ∀ D M, RwOk (.close D M) → (x = rowT (.close D M) ↔ d = numT D ∧ md = M) := fun D M ok => by
      rw [hi _ ok]
      have z := hi2 (numT D) M (fun z => ((cln_num ok.1).k 32 z).2.1 rfl) fun z => by
        have := ok.2.2
        rw [z] at this
        revert this
        decide +kernel
      exact ⟨fun y => z.mp y.2, fun y => ⟨rfl, z.mpr y⟩⟩
    refine ⟨_, rfl, d, rfl, ld9, tg2 T i0, fun H3 tb3 => ?_⟩
    have b3 : TB1 Ts H H3 := b2.tr (.tab tb3 tg2 i0)
    refine ⟨_, rfl, thg_numV d H3, ?_⟩
    have fail : ¬ (dayB (numV d) = true ∧ md ∈ modes2) → ∀ H', TB1 Ts H H' → Q .non H' := fun no H' b' => qn (fun r hr hx => by
      obtain ⟨z1, z2⟩ := (hi r hr).mp hx
      obtain ⟨D, M, rfl⟩ := w_close z1
      obtain ⟨y1, y2⟩ := (hc D M hr).mp hx
      obtain ⟨h0, h9, hm⟩ := hr
      refine no ⟨?_, y2 ▸ hm⟩
      rw [y1, numV_int h0 (by omega)]
      show (decide (0 ≤ D) && decide (D ≤ 99)) = true
      rw [decide_eq_true h0, decide_eq_true h9]
      rfl) H' b'
    by_cases dv : dayB (numV d) = true
    rotate_left
    · rw [Bool.eq_false_iff.mpr dv]
      exact ⟨false, rfl, iteF (fail (fun z => dv z.1) H3 b3)⟩
    rw [dv]
    refine ⟨true, rfl, iteT ?_⟩
    refine ⟨_, rfl, aM, _, rfl, .inr (hM H3), rfl, all_flat _, ?_⟩
    rw [if_neg (by decide), inV_iff]
    by_cases dm : md ∈ modes2
    rotate_left
    · rw [decide_eq_false dm]
      exact ⟨false, rfl, iteF (fail (fun z => dm z.2) H3 b3)⟩
    rw [decide_eq_true dm]
    refine ⟨true, rfl, iteT ⟨_, rfl, _, rfl, d, rfl, ld9, b3.1 T i0, fun H4 tb4 => ?_⟩⟩
    have b4 : TB1 Ts H H4 := b3.tr (.tab tb4 b3.1 i0)
    obtain ⟨i, e, ei, i0', i9⟩ := day_mode ⟨dv, dm⟩
    rw [e]
    have ok : RwOk (.close i md) := ⟨i0', i9, dm⟩
    refine ⟨_, rfl, (by show 3 ≤ sizeLine; decide), fun t nt => ?_⟩
    have s5 := @same_new _ _ (.tup [V.str "close", .int i, .str md]) nt
    exact qy _ ok ((hc i md ok).mpr ⟨ei.symm, rfl⟩) t _ (b4.tr (.same b4.1 s5)) upd_same
end
/-! ### the law's own reading of a row -/
def spLRowIn : Sp := fun vs H Q _ => ∃ x : Str, vs = [.str x] ∧ x.length ≤ 900 ∧ PyData.strOk x = true ∧ (∀ r : Rw, RwOk r → x = rowT r → ∀ (l t : Addr) (H' : Hp), Same H H' → H' l = some (.lst [V.ref t]) → RwAt H' t r → Q (.ref l) H') ∧
  ((∀ r : Rw, RwOk r → x ≠ rowT r) → ∀ (l : Addr) (H' : Hp), Same H H' → H' l = some (.lst []) → Q (.ref l) H')
theorem cutS_to (x : Str) (n : Nat) : cutS x none (some (n : Int)) = sc ((TL.tl x).take n) := by
  unfold cutS
  rw [HT.sIx_nat, HT.sIx_none, Nat.sub_zero, List.drop_zero]
  show (⟨((TL.tl x).take (min n x.length)).toArray⟩ : Str) = _
  have e : x.length = (TL.tl x).length := by simp [Str.length, TL.tl]
  rw [e]
  by_cases h : n ≤ (TL.tl x).length
  · rw [Nat.min_eq_left h]
  · rw [Nat.min_eq_right (by omega), List.take_length, List.take_of_length_le (by omega)]
theorem cutS_from (x : Str) (n : Nat) : cutS x (some (n : Int)) none = sc ((TL.tl x).drop n) := by
  unfold cutS
  rw [HT.sIx_nat, HT.sIx_none]
  show (⟨(((TL.tl x).drop (min n x.length)).take (x.length - min n x.length)).toArray⟩ : Str) = _
  have e : x.length = (TL.tl x).length := by simp [Str.length, TL.tl]
  rw [e, List.take_of_length_le (by rw [List.length_drop]; omega)]
  by_cases h : n ≤ (TL.tl x).length
  · rw [Nat.min_eq_left h]
  · rw [Nat.min_eq_right (by omega), List.drop_length, List.drop_of_length_le (by omega)]
theorem tl_enter : TL.tl ("enter " : Str) = [101, 110, 116, 101, 114, 32] := by decide +kernel
theorem enter_sp : ("enter" : Str) ++ " " = "enter " := by decide +kernel
theorem tl_sc (l : List Nat) : TL.tl (sc l) = l := rfl
theorem cut_enter (b : Str) : cutS ("enter" ++ " " ++ b) none (some 6) = "enter " ∧ cutS ("enter" ++ " " ++ b) (some 6) none = b := by
  rw [enter_sp]
  constructor
  · rw [show (6 : Int) = ((6 : Nat) : Int) from rfl, cutS_to]
    apply str_ext
    show (TL.tl ("enter " ++ b)).take 6 = TL.tl "enter "
    rw [TL.tl_append, tl_enter]
    rfl
  · rw [show (6 : Int) = ((6 : Nat) : Int) from rfl, cutS_from]
    apply str_ext
    show (TL.tl ("enter " ++ b)).drop 6 = TL.tl b
    rw [TL.tl_append, tl_enter]
    rfl
theorem enter_of {x : Str} (h : cutS x none (some 6) = "enter ") : x = "enter" ++ " " ++ cutS x (some 6) none := by
  rw [show (6 : Int) = ((6 : Nat) : Int) from rfl, cutS_to] at h
  rw [show (6 : Int) = ((6 : Nat) : Int) from rfl, cutS_from, enter_sp]
  have h' : (TL.tl x).take 6 = TL.tl "enter " := congrArg TL.tl h
  apply str_ext
  show TL.tl x = TL.tl _
  rw [TL.tl_append, ← h', tl_sc, List.take_append_drop]
theorem row_enter {b : Str} {r : Rw} (h : "enter" ++ " " ++ b = rowT r) : ∃ e, r = .enter e ∧ b = entT e := by
  have p := part_row r
  have q : Txt.partition ("enter" ++ " " ++ b) " " = (("enter" : Str), (" " : Str), b) := TL.partition_app (s := 32) (S := []) tl_blank (by decide +kernel)
  rw [← h, q] at p
  obtain ⟨e, rfl⟩ := w_enter (congrArg Prod.fst p)
  exact ⟨e, rfl, congrArg (fun z => z.2.2) p⟩
theorem cut_sub {x : Str} {n : Nat} : ∀ c ∈ (cutS x (some (n : Int)) none).cps.toList, c ∈ x.cps.toList := fun c hc => by
  rw [cutS_from] at hc
  exact List.mem_of_mem_drop (show c ∈ (TL.tl x).drop n from hc)
theorem split_back {n : Str} (h : nameB n = true) : Txt.split (rowT (.back n)) " " = [("back" : Str), n] := by
  have e : rowT (.back n) = Txt.join " " ["back", n] := (join2 "back" n).symm
  rw [e]
  refine split_blank (by simp) fun y hy => ?_
  rcases List.mem_cons.mp hy with rfl | hy
  · exact ⟨by decide +kernel⟩
  · rw [List.mem_singleton.mp hy]
    exact cln_name h
theorem cln_mode {m : Str} (h : m ∈ modes2) : Cln m := ⟨fun c hc => by
  have all : ∀ y ∈ modes2, ∀ c ∈ y.cps.toList, c < 256 ∧ c ≠ 32 ∧ c ≠ 10 := by decide +kernel
  exact all m h c hc⟩
theorem split_close {d : Int} {m : Str} (h : RwOk (.close d m)) : Txt.split (rowT (.close d m)) " " = [("close" : Str), numT d, m] := by
  have e : rowT (.close d m) = Txt.join " " ["close", numT d, m] := (join3 "close" (numT d) m).symm
  rw [e]
  refine split_blank (by simp) fun y hy => ?_
  rcases List.mem_cons.mp hy with rfl | hy
  · exact ⟨by decide +kernel⟩
  rcases List.mem_cons.mp hy with rfl | hy
  · exact cln_num h.1
  · rw [List.mem_singleton.mp hy]
    exact cln_mode h.2.2
theorem of_split {x : Str} {ws : List Str} (h : Txt.split x " " = ws) : x = Txt.join " " ws := by
  have j := StrLaws.join_split x " "
  rw [h, ← TL.join_eq] at j
  exact j.symm
/-- what a row's text is, by its words -/
theorem row_words {x : Str} (ne : cutS x none (some 6) ≠ "enter ") {r : Rw} (hr : RwOk r) (h : x = rowT r) : (∃ n, r = .back n ∧ nameB n = true ∧ Txt.split x " " = [("back" : Str), n]) ∨ ∃ d m, r = .close d m ∧ RwOk (.close d m) ∧ Txt.split x " " = [("close" : Str), numT d, m] := by
  cases r with
  | enter e => exact absurd (by rw [h]; exact (cut_enter (entT e)).1) ne
  | back n => exact .inl ⟨n, rfl, hr, by rw [h]; exact split_back hr⟩
  | close d m => exact .inr ⟨d, m, rfl, hr, by rw [h]; exact split_close hr⟩
theorem lnum_ok {d : Str} (h : 0 ≤ lnum d) : numOk d = true := by
  by_cases z : numOk d = true
  · exact z
  · unfold lnum at h
    rw [if_neg z] at h
    omega
theorem lnum_int {d : Str} (h : 0 ≤ lnum d) : numT (lnum d) = d := by
  have o := lnum_ok h
  have e : numV d = .int (lnum d) := by
    unfold numV lnum
    rw [if_pos o, if_pos o]
  exact (numV_back e).1
theorem lnum_num {d : Int} (h0 : 0 ≤ d) (h1 : d ≤ 1000000000) : lnum (numT d) = d := by
  have e := numV_int h0 h1
  unfold numV at e
  unfold lnum
  by_cases z : numOk (numT d) = true
  · rw [if_pos z] at e ⊢
    exact V.int.inj e
  · rw [if_neg z] at e
    cases e
theorem int_of {d : Str} (h : 0 ≤ lnum d) : PySem.intText? d = some (lnum d) ∧ d.length ≤ 640 := by
  have o := lnum_ok h
  have o' := o
  unfold numOk at o'
  simp only [Bool.and_eq_true] at o'
  obtain ⟨⟨⟨a, b⟩, c⟩, _⟩ := o'
  have a := of_decide_eq_true a
  have b := of_decide_eq_true b
  have dg : NumText.AllDigits d.cps.toList := fun z hz => (figB_iff z).mp (List.all_eq_true.mp c z hz)
  have ne : d.cps.toList ≠ [] := fun z => by
    have : d.length = d.cps.toList.length := by simp [Str.length]
    rw [z] at this
    rw [this] at a
    exact absurd a (by decide)
  refine ⟨?_, by omega⟩
  have i := intText_digits dg ne (by omega)
  unfold lnum
  rw [if_pos o]
  exact i
section
variable {P : Program} {w : World} {K : PySem.W.Frag} {mg : Str → Option Value} {base : Heap}
abbrev sLRowInN : List Str := ["_law_text", "_law_entry_here", "_law_words_here"]
theorem sc_sLRowIn : FnScope sLRowInN ["_law_text"] (defScope sLRowIn) := ⟨rfl, rfl, rfl, by decide +kernel, rfl, by decide +kernel, by decide +kernel⟩
set_option maxHeartbeats 1000000 in
theorem ok_lrowIn {f fE fI fN : Addr} {fd dE dI dN : FuncData} (F : Fun K "_law_row_in" "_law_row_in" sLRowIn f fd) (LE : DefT P w K mg base "_law_entry_in" 4 fE dE ["_law_line_here"] spLEntryIn)
    (LI : DefT P w K mg base "_law_is_name" 1 fI dI ["_law_thing"] spOwn3) (LN : DefT P w K mg base "_law_number" 1 fN dN ["_law_word"] spLNumber) (ml : mg "len" = none) (mT_int : mg "int" = none) : FnOk P w K mg base CX0 5 f fd ["_law_text"] spLRowIn := by
  refine F.ok sc_sLRowIn (fun vs H Q E h => ?_) (fun cdv A outer s H vs Q E hr h => ?_)
  · obtain ⟨x, rfl, _⟩ := h
    rfl
  · obtain ⟨x, rfl, l9, so, qy, qn⟩ := h
    have nd := sc_sLRowIn.nd
    have hr1 : Room 1 _ := hr.mono (by decide)
    refine ⟨_, pss_cons (ps_if (pt_cmpR op_eq (pe_slice sl_str (pv 0) po_none (po_some pe_int)) pe_str (nomark _)) (pss_one (ps_ret (pe_lc (own := [("_law_entry_here", 1)]) (g := gName 1) (tt := tYes) (te := tTup (tCons (tC (V.str "enter")) (tCons (tVar 1) tNil))) rfl nd (pi_list (pe_call LE.ok hr (by rfl) LE.g LE.kp LE.b .nil pass0 (pa_cons (pe_slice sl_str (pv 0) (po_some pe_int) po_none) pa_nil))) (blkOk_by (N := sLRowInN) (sc := defScope sLRowIn) (by decide +kernel)) (fun _ _ _ _ _ => (pg_name (i := 1) nd rfl (Or.inl rfl))) (fun _ _ _ _ _ => pts_nil) (fun _ _ _ _ _ => (pe_tup (pa_cons pe_str (pa_cons (pv 1) pa_nil))))))) pss_nil)
      (pss_cons (ps_set (i := 2) nd rfl (Or.inl rfl) (pe_split (pv 0) pe_str))
      (C8.pss_cut (ps_if (PW.pt (pw_and (pt_cmpR op_eq (pe_callB call_len_seq (by rfl) ml PySem.boot_len (pa_cons (pv 2) pa_nil)) pe_int (nomark _)) (pw_and (pt_cmpR op_eq (pe_ix ix_list (pv 2) pe_int (fun _ _ => rfl)) pe_str (nomark _)) (pw_and1 (pt_val (pe_call LI.ok hr1 (by rfl) LI.g LI.kp LI.b .nil pass0 (pa_cons (pe_ix ix_list (pv 2) pe_int (fun _ _ => rfl)) pa_nil))))))) (pss_one (ps_ret (pe_lst (pa_cons (pe_tup (pa_cons pe_str (pa_cons (pe_ix ix_list (pv 2) pe_int (fun _ _ => rfl)) pa_nil))) pa_nil)))) pss_nil)
      (pss_cons (ps_if (PW.pt (pw_and (pt_cmpR op_eq (pe_callB call_len_seq (by rfl) ml PySem.boot_len (pa_cons (pv 2) pa_nil)) pe_int (nomark _)) (pw_and (pt_cmpR op_eq (pe_ix ix_list (pv 2) pe_int (fun _ _ => rfl)) pe_str (nomark _)) (pw_and (pt_cmpR op_in_seq (pe_ix ix_list (pv 2) pe_int (fun _ _ => rfl)) (pe_tup (pa_cons pe_str (pa_cons pe_str pa_nil))) (by rfl)) (pw_and1 (pt_chain op_le op_lt pe_int (pe_call LN.ok hr1 (by rfl) LN.g LN.kp LN.b .nil pass0 (pa_cons (pe_ix ix_list (pv 2) pe_int (fun _ _ => rfl)) pa_nil)) pe_int)))))) (pss_one (ps_ret (pe_lst (pa_cons (pe_tup (pa_cons pe_str (pa_cons (pe_callTy call_int_str (by rfl) mT_int (by decide +kernel) (pa_cons (pe_ix ix_list (pv 2) pe_int (fun _ _ => rfl)) pa_nil)) (pa_cons (pe_ix ix_list (pv 2) pe_int (fun _ _ => rfl)) pa_nil)))) pa_nil)))) pss_nil)
      (pss_one (ps_ret (pe_lst pa_nil)))))), ?_⟩
    have sl9 : ∀ {n : Nat}, n ≤ 900 → n ≤ sizeLine := fun h => Nat.le_of_lt (small1000 (by omega))
    refine ⟨_, rfl, _, rfl, x, rfl, sl9 l9, rfl, _, rfl, ?_⟩
    by_cases c6 : cutS x none (some 6) = "enter "
    · rw [decide_eq_true (congrArg V.str c6)]
      have xe := enter_of c6
      generalize hb : cutS x (some 6) none = b at xe
      have lb : b.length ≤ 900 := by rw [← hb]; exact Nat.le_trans (cutS_length _ _ _) l9
      have sb : PyData.strOk b = true := strOk_sub so fun c hc => by
        rw [← hb] at hc
        exact cut_sub (n := 6) c hc
      refine iteT ⟨_, rfl, 6, rfl, x, rfl, sl9 l9, ?_⟩
      rw [hb]
      refine ⟨b, rfl, lb, sb, fun e he hx l tp H1 s1 hl htp => ?_, fun no l H1 s1 hl => ?_⟩
      · refine ⟨l, rfl, ⟨_, SqL.of hl⟩, fun D nD => ?_⟩
        refine lc_list (K := K) (a := l) (xs := [V.ref tp]) (fun i H' => TK H1 H' ∧ Same H H' ∧ H' l = some (.lst [V.ref tp]) ∧ ((i = 0 ∧ H' D = some (.lst [])) ∨ (i = 1 ∧ ∃ t, H' D = some (.lst [V.ref t]) ∧ H' t = some (.tup [V.str "enter", .ref tp])))) ?_ (fun i H' _ z => SqL.of z.2.2.1) ?_ ?_
        · have sD := @same_new _ _ (.lst []) nD
          exact ⟨TK.of sD, s1.trans sD, sD _ _ hl, .inl ⟨rfl, upd_same⟩⟩
        · rintro i y H2 hy ⟨k2, s2, hl2, z⟩
          have li := (List.getElem?_eq_some_iff.mp hy).1
          obtain rfl : i = 0 := by
            have : i < 1 := li
            omega
          obtain rfl : V.ref tp = y := Option.some.inj hy
          obtain ⟨_, hD⟩ : (0 : Nat) = 0 ∧ H2 D = some (.lst []) := by
            rcases z with z | ⟨z, _⟩
            · exact z
            · omega
          refine ⟨rfl, yesT ⟨_, rfl, (by show 2 ≤ sizeLine; decide), fun t nt => ?_⟩⟩
          have s3 := @same_new _ _ (.tup [V.str "enter", .ref tp]) nt
          have hD3 := s3 _ _ hD
          have nDH : H D = none := s1.free nD
          refine ⟨[], hD3, (by show 0 < sizeLine; decide), ?_, ?_, ?_, .inr ⟨rfl, t, upd_same, ?_⟩⟩
          · exact fun b o e => (upd_ne (ne_of_none e nD)).trans (s3 _ _ (k2 _ _ e))
          · exact fun b o e => (upd_ne (ne_of_none e nDH)).trans (s3 _ _ (s2 _ _ e))
          · exact (upd_ne (by intro z; rw [z, hD] at hl2; cases hl2)).trans (s3 _ _ hl2)
          · exact (upd_ne (by intro z; rw [z] at nt; rw [nt] at hD; cases hD)).trans upd_same
        · rintro H2 ⟨k2, s2, hl2, z⟩
          obtain ⟨t, hD, ht⟩ : ∃ t, H2 D = some (.lst [V.ref t]) ∧ H2 t = some (.tup [V.str "enter", .ref tp]) := by
            rcases z with ⟨z, _⟩ | ⟨_, z⟩
            · exact absurd z (by show ¬ (1 = 0); decide)
            · exact z
          exact qy (.enter e) he (by rw [xe, hx]; rfl) D t H2 s2 hD ⟨tp, ht, k2 _ _ htp⟩
      · refine ⟨l, rfl, ⟨_, SqL.of hl⟩, fun D nD => ?_⟩
        have sD := @same_new _ _ (.lst []) nD
        refine lc_list (K := K) (a := l) (xs := []) (fun i H' => Same H H' ∧ H' l = some (.lst []) ∧ H' D = some (.lst [])) ⟨s1.trans sD, sD _ _ hl, upd_same⟩ (fun i H' _ z => SqL.of z.2.1) ?_ ?_
        · rintro i y H2 hy _
          exact nomatch hy
        · rintro H2 ⟨s2, _, hD⟩
          refine qn (fun r hr hx => ?_) D H2 s2 hD
          obtain ⟨e, rfl, hb'⟩ := row_enter (xe.symm.trans hx)
          exact no e hr hb'
    rw [decide_eq_false fun z => c6 (V.str.inj z)]
    refine iteF ⟨_, rfl, ⟨_, rfl⟩, _, _, rfl, rfl, (by decide +kernel), Nat.le_of_lt (small1000 (by omega)), fun wl nwl => ?_⟩
    have lw : ∀ y ∈ Txt.split x " ", y.length ≤ 900 ∧ PyData.strOk y = true := fun y hy => ⟨Nat.le_trans (split_len hy) l9, strOk_sub so (split_sub hy)⟩
    have hrow := fun (r : Rw) (hr : RwOk r) (h : x = rowT r) => row_words c6 hr h
    have hback := fun (ws : List Str) (h : Txt.split x " " = ws) => of_split h
    generalize Txt.split x " " = ws at lw hrow hback
    have hx := hback ws rfl
    have s1 := @same_new _ _ (.lst (ws.map V.str)) nwl
    have h1 : (upd H wl (.lst (ws.map V.str))) wl = some (.lst (ws.map V.str)) := upd_same
    generalize upd H wl (.lst (ws.map V.str)) = H1 at s1 h1
    have none_ : (∀ r : Rw, RwOk r → x ≠ rowT r) → ∀ (Hz : Hp), Same H Hz → (0 ≤ sizeLine) ∧ ∀ l, Hz l = none → Q (.ref l) (upd Hz l (.lst [])) := fun z Hz sz => ⟨by decide, fun l nl => qn z l _ (sz.trans (same_new nl)) upd_same⟩
    have sqw := SqL.of (K := K) h1
    have isb : (∃ n, nameB n = true ∧ ws = [("back" : Str), n]) ∨ ¬ ∃ n, nameB n = true ∧ ws = [("back" : Str), n] := Classical.em _
    refine ⟨fun σ' H' => σ' = [some (.str x), none, some (.ref wl)] ∧ Same H H' ∧ H' wl = some (.lst (ws.map V.str)) ∧ ¬ ∃ n, nameB n = true ∧ ws = [("back" : Str), n], ?_, ?_⟩
    · refine ⟨_, rfl, wl, _, rfl, .inl sqw, rfl, _, rfl, ?_⟩
      by_cases l2 : ws.length = 2
      rotate_left
      · rw [decide_eq_false fun z => l2 (by
          have z' := V.int.inj z
          rw [List.length_map] at z'
          omega)]
        exact iteF (iteF ⟨rfl, s1, h1, fun ⟨n, _, e⟩ => l2 (by rw [e]; rfl)⟩)
      obtain ⟨a, b, rfl⟩ : ∃ a b, ws = [a, b] := by
        match ws, l2 with
        | [a, b], _ => exact ⟨a, b, rfl⟩
      rw [decide_eq_true (show V.int ((List.map V.str [a, b]).length : Int) = V.int 2 from rfl)]
      refine iteT ⟨_, rfl, wl, _, 0, _, rfl, rfl, sqw, atI_nat (j := 0) rfl, rfl, _, rfl, ?_⟩
      by_cases ea : a = "back"
      · subst ea
        rw [decide_eq_true rfl]
        refine iteT ⟨_, rfl, wl, _, 1, _, rfl, rfl, sqw, atI_nat (j := 1) rfl, .str b, rfl, .str b (by have := (lw b (by simp)).1; omega), fun z hz => V.str.inj hz ▸ (lw b (by simp)).2, fun H2 s2 => ?_⟩
        have h2 := s2 _ _ h1
        by_cases nb : nameB b = true
        · rw [show nmV (.str b) = true from nb]
          refine ⟨true, rfl, iteT ⟨_, rfl, wl, _, 1, _, rfl, rfl, SqL.of h2, atI_nat (j := 1) rfl, (by show 2 ≤ sizeLine; decide), fun t nt => ⟨(by show 1 ≤ sizeLine; decide), fun l nl => ?_⟩⟩⟩
          have s3 := @same_new _ _ (.tup [V.str "back", .str b]) nt
          have s4 := @same_new _ _ (.lst [V.ref t]) nl
          exact qy (.back b) nb (by rw [hx]; exact join2 "back" b) l t _ (s1.trans (s2.trans (s3.trans s4))) upd_same (s4 _ _ upd_same)
        · rw [show nmV (.str b) = false from Bool.eq_false_iff.mpr nb]
          exact ⟨false, rfl, iteF ⟨rfl, s1.trans s2, h2, fun ⟨n, hn, e⟩ => nb (by
            have e' := (List.cons.inj (List.cons.inj e).2).1
            rw [e']
            exact hn)⟩⟩
      · rw [decide_eq_false fun z => ea (V.str.inj z)]
        exact iteF (iteF ⟨rfl, s1, h1, fun ⟨n, hn, e⟩ => ea (List.cons.inj e).1⟩)
    · rintro σ H2 ⟨rfl, s2, h2, nob⟩
      have sq2 := SqL.of (K := K) h2
      have fail : (∀ d m, RwOk (.close d m) → ws ≠ [("close" : Str), numT d, m]) → ∀ r : Rw, RwOk r → x ≠ rowT r := fun z r hr h => by
        rcases hrow r hr h with ⟨n, _, hn, e⟩ | ⟨d, m, _, ok, e⟩
        · exact nob ⟨n, hn, e⟩
        · exact z d m ok e
      refine ⟨_, rfl, wl, _, rfl, .inl sq2, rfl, _, rfl, ?_⟩
      by_cases l3 : ws.length = 3
      rotate_left
      · rw [decide_eq_false fun z => l3 (by
          have z' := V.int.inj z
          rw [List.length_map] at z'
          omega)]
        exact iteF (iteF (none_ (fail fun d m _ e => l3 (by rw [e]; rfl)) H2 s2))
      obtain ⟨a, b, c, rfl⟩ : ∃ a b c, ws = [a, b, c] := by
        match ws, l3 with
        | [a, b, c], _ => exact ⟨a, b, c, rfl⟩
      rw [decide_eq_true (show V.int ((List.map V.str [a, b, c]).length : Int) = V.int 3 from rfl)]
      refine iteT ⟨_, rfl, wl, _, 0, _, rfl, rfl, sq2, atI_nat (j := 0) rfl, rfl, _, rfl, ?_⟩
      by_cases ea : a = "close"
      rotate_left
      · rw [decide_eq_false fun z => ea (V.str.inj z)]
        exact iteF (iteF (none_ (fail fun d m _ e => ea (List.cons.inj e).1) H2 s2))
      subst ea
      rw [decide_eq_true rfl]
      refine iteT ⟨_, rfl, wl, _, 2, _, rfl, rfl, sq2, atI_nat (j := 2) rfl, (by show 2 ≤ sizeLine; decide), fun tm ntm => ?_⟩
      have s3 := @same_new _ _ (.tup [V.str "refuse", .str "up"]) ntm
      have h3 := s3 _ _ h2
      have htm : (upd H2 tm (.tup [V.str "refuse", .str "up"])) tm = some (.tup [V.str "refuse", .str "up"]) := upd_same
      generalize upd H2 tm (.tup [V.str "refuse", .str "up"]) = H3 at s3 h3 htm
      have sq3 := SqL.of (K := K) h3
      refine ⟨tm, _, rfl, .inr (SqT.of htm), rfl, all_flat modes2, ?_⟩
      rw [if_neg (by decide), show inV (V.str c) [V.str "refuse", V.str "up"] = decide (c ∈ modes2) from (inV_iff : inV (V.str c) (modes2.map V.str) = decide (c ∈ modes2))]
      by_cases cm : c ∈ modes2
      rotate_left
      · rw [decide_eq_false cm]
        refine ⟨false, rfl, iteF (iteF (none_ (fail fun d m ok e => cm ?_) H3 (s2.trans s3)))⟩
        have e' := (List.cons.inj (List.cons.inj (List.cons.inj e).2).2).1
        rw [e']
        exact ok.2.2
      rw [decide_eq_true cm]
      refine ⟨true, rfl, iteT ⟨_, rfl, wl, _, 1, _, rfl, rfl, sq3, atI_nat (j := 1) rfl, b, rfl, (by have := (lw b (by simp)).1; omega), fun H4 s4 => ?_⟩⟩
      have h4 := s4 _ _ h3
      have sq4 := SqL.of (K := K) h4
      refine ⟨0, lnum b, rfl, rfl, _, rfl, ?_⟩
      by_cases g0 : 0 ≤ lnum b
      rotate_left
      · rw [decide_eq_false g0]
        refine iteF ⟨false, rfl, iteF (none_ (fail fun d m ok e => g0 ?_) H4 (s2.trans (s3.trans s4)))⟩
        have e' := (List.cons.inj (List.cons.inj e).2).1
        rw [e', lnum_num ok.1 (by have := ok.2.1; omega)]
        exact ok.1
      rw [decide_eq_true g0]
      refine iteT ⟨lnum b, 100, rfl, rfl, _, rfl, ?_⟩
      by_cases g9 : lnum b < 100
      rotate_left
      · rw [decide_eq_false g9]
        refine iteF (none_ (fail fun d m ok e => g9 ?_) H4 (s2.trans (s3.trans s4)))
        have e' := (List.cons.inj (List.cons.inj e).2).1
        have l9 := ok.2.1
        rw [e', lnum_num ok.1 (by omega)]
        omega
      rw [decide_eq_true g9]
      obtain ⟨i1, i2⟩ := int_of g0
      refine iteT ⟨_, rfl, wl, _, 1, _, rfl, rfl, sq4, atI_nat (j := 1) rfl, b, lnum b, rfl, i1, i2, _, rfl, wl, _, 2, _, rfl, rfl, sq4, atI_nat (j := 2) rfl, (by show 3 ≤ sizeLine; decide), fun t nt => ⟨(by show 1 ≤ sizeLine; decide), fun l nl => ?_⟩⟩
      have s5 := @same_new _ _ (.tup [V.str "close", .int (lnum b), .str c]) nt
      have s6 := @same_new _ _ (.lst [V.ref t]) nl
      refine qy (.close (lnum b) c) ⟨g0, by omega, cm⟩ ?_ l t _ (s2.trans (s3.trans (s4.trans (s5.trans s6)))) upd_same (s6 _ _ upd_same)
      rw [hx, join3 "close" b c]
      show _ = ("close" : Str) ++ " " ++ (numT (lnum b) ++ " " ++ c)
      rw [lnum_int g0]
end
/-! ### defs that may raise -/
structure DefX (P : Program) (w : World) (K : PySem.W.Frag) (mg : Str → Option Value) (base : Heap) (x : Str) (k : Nat) (f : Addr) (fd : FuncData) (ps : List Str) (sp : Sp) : Prop where
  ok : FnOk P w K mg base (L2.CX P w) k f fd ps sp
  g : mg x = some (.ref f)
  kp : PySem.W.keepIn K (.ref f) = true
  b : Binds K fd ps []
/-- an own class of errors over ValueError -/
structure Err (K : PySem.W.Frag) (mg : Str → Option Value) (x : Str) (C : Addr) : Prop where
  gC : mg x = some (.ref C)
  ex : PySem.W.excIn K C [.type "ValueError", .type "Exception", .type "BaseException", .type "object"] "ValueError.__new__" = true
  kp : PySem.W.keepIn K (.ref C) = true
  sb : PySem.W.subIn K (.ref C) (.type "BaseException") = some true
  ty : PySem.W.typeIn K (.ref C) = some (.type "type")
/-! ### read_row, read_entry -/
def NoStr (K : PySem.W.Frag) (H : Hp) (v : V) : Prop := ∃ t : String, TyX K H v (.type t) ∧ kitB t "str" = some false
def spReadRow (K : PySem.W.Frag) (Ts : List Addr) (C : Addr) : Sp := fun vs H Q E => ∃ v : V, vs = [v] ∧ TabsG Ts H ∧
  ((∃ x : Str, v = .str x ∧ x.length ≤ 900 ∧ (∀ r : Rw, RwOk r → x = rowT r → ∀ (t : Addr) (H' : Hp), TB1 Ts H H' → RwAt H' t r → Q (.ref t) H') ∧ ((∀ r : Rw, RwOk r → x ≠ rowT r) → ∀ (d : Addr) (H' : Hp), TB1 Ts H H' → H' d = some (.xd lineX) → E (.ref C) (some d) H')) ∨
   (NoStr K H v ∧ ∀ (d : Addr) (H' : Hp), TB1 Ts H H' → H' d = some (.xd lineX) → E (.ref C) (some d) H'))
def spReadEnt (K : PySem.W.Frag) (Ts : List Addr) (C : Addr) : Sp := fun vs H Q E => ∃ v : V, vs = [v] ∧ TabsG Ts H ∧
  ((∃ x : Str, v = .str x ∧ x.length ≤ 900 ∧ (∀ e : Ent, e.Fine → x = entT e → ∀ (t : Addr) (H' : Hp), TB1 Ts H H' → H' t = some (.tup e.vals) → Q (.ref t) H') ∧ ((∀ e : Ent, e.Fine → x ≠ entT e) → ∀ (d : Addr) (H' : Hp), TB1 Ts H H' → H' d = some (.xd lineX) → E (.ref C) (some d) H')) ∨
   (NoStr K H v ∧ ∀ (d : Addr) (H' : Hp), TB1 Ts H H' → H' d = some (.xd lineX) → E (.ref C) (some d) H'))
section
variable {P : Program} {w : World} {K : PySem.W.Frag} {mg : Str → Option Value} {base : Heap}
abbrev sReadRowN : List Str := ["text", "row"]
theorem sc_sReadRow : FnScope sReadRowN ["text"] (defScope sReadRow) := ⟨rfl, rfl, rfl, by decide +kernel, rfl, by decide +kernel, by decide +kernel⟩
theorem ok_readRow {f fR C fI : Addr} {Ts : List Addr} {fd dR dI : FuncData} (F : Fun K "read_row" "read_row" sReadRow f fd) (RI : DefT P w K mg base "row_in" 6 fR dR ["text"] (spRowIn Ts)) (NT : NtC P w K mg base C fI dI) (mis : mg "isinstance" = none) (mT_str : mg "str" = none) :
    FnOk P w K mg base (L2.CX P w) 7 f fd ["text"] (spReadRow K Ts C) := by
  refine F.okX sc_sReadRow (fun vs H Q E h => ?_) (fun cdv A' outer s H vs Q E hr h => ?_)
  · obtain ⟨v, rfl, _⟩ := h
    rfl
  · obtain ⟨v, rfl, tg, h⟩ := h
    have nd := sc_sReadRow.nd
    refine ⟨_, pss_cons (ps_set (i := 1) nd rfl (Or.inl rfl) (pe_ifExp (pt_val (pe_callB call_isi (by rfl) mis (by decide +kernel) (pa_cons (pv 0) (pa_cons (pe_bltn (v := .ty "str") (u := .type "str") (by rfl) mT_str (by decide +kernel) rfl) pa_nil)))) (pe_call RI.ok hr (by rfl) RI.g RI.kp RI.b .nil pass0 (pa_cons (pv 0) pa_nil)) pe_non))
      (pss_cons (ps_if (pt_cmpR op_isN (pv 1) pe_non (by rfl)) (pss_one (ps_raise rfl (takes_of rfl rfl rfl rfl) (pmk_oex NT.t NT.ic NT.ti NT.ok (hr.mono (by decide)) NT.b .nil pass0 (by rfl) NT.g (pa_cons pe_int pa_nil)))) pss_nil)
      (pss_one (ps_ret (pv 1)))), ?_⟩
    rcases h with ⟨x, rfl, l9, qy, qn⟩ | ⟨⟨t, ty, kb⟩, q⟩
    · refine ⟨_, rfl, _, _, _, _, true, rfl, .ty "str", .base (.str _), kit_ty (by decide +kernel), true, rfl, iteT ?_⟩
      refine ⟨_, rfl, x, rfl, l9, tg, fun r hr hx t H1 b1 rt => ?_, fun no H1 b1 => ?_⟩
      · refine ⟨_, rfl, rfl, _, rfl, ?_⟩
        rw [decide_eq_false (fun z => nomatch z)]
        exact iteF ⟨_, rfl, qy r hr hx t H1 b1 rt⟩
      · refine ⟨_, rfl, rfl, _, rfl, ?_⟩
        rw [decide_eq_true rfl]
        refine iteT ⟨(by decide), nt_raise fun d H2 s2 hd => ?_⟩
        exact qn no d H2 (b1.tr (.same b1.1 s2)) hd
    · refine ⟨_, rfl, _, _, _, _, false, rfl, .ty "str", ty, kit_ty kb, false, rfl, iteF ?_⟩
      refine ⟨_, rfl, rfl, _, rfl, ?_⟩
      rw [decide_eq_true rfl]
      refine iteT ⟨(by decide), nt_raise fun d H2 s2 hd => ?_⟩
      exact q d H2 (.same tg s2) hd
abbrev sReadEntryN : List Str := ["text", "entry"]
theorem sc_sReadEntry : FnScope sReadEntryN ["text"] (defScope sReadEntry) := ⟨rfl, rfl, rfl, by decide +kernel, rfl, by decide +kernel, by decide +kernel⟩
theorem ok_readEnt {f fR C fI : Addr} {Ts : List Addr} {fd dR dI : FuncData} (F : Fun K "read_entry" "read_entry" sReadEntry f fd) (EI : DefT P w K mg base "entry_in" 5 fR dR ["text"] (spEntryInA Ts)) (NT : NtC P w K mg base C fI dI) (mis : mg "isinstance" = none) (mT_str : mg "str" = none) :
    FnOk P w K mg base (L2.CX P w) 6 f fd ["text"] (spReadEnt K Ts C) := by
  refine F.okX sc_sReadEntry (fun vs H Q E h => ?_) (fun cdv A' outer s H vs Q E hr h => ?_)
  · obtain ⟨v, rfl, _⟩ := h
    rfl
  · obtain ⟨v, rfl, tg, h⟩ := h
    have nd := sc_sReadEntry.nd
    refine ⟨_, pss_cons (ps_set (i := 1) nd rfl (Or.inl rfl) (pe_ifExp (pt_val (pe_callB call_isi (by rfl) mis (by decide +kernel) (pa_cons (pv 0) (pa_cons (pe_bltn (v := .ty "str") (u := .type "str") (by rfl) mT_str (by decide +kernel) rfl) pa_nil)))) (pe_call EI.ok hr (by rfl) EI.g EI.kp EI.b .nil pass0 (pa_cons (pv 0) pa_nil)) pe_non))
      (pss_cons (ps_if (pt_cmpR op_isN (pv 1) pe_non (by rfl)) (pss_one (ps_raise rfl (takes_of rfl rfl rfl rfl) (pmk_oex NT.t NT.ic NT.ti NT.ok (hr.mono (by decide)) NT.b .nil pass0 (by rfl) NT.g (pa_cons pe_int pa_nil)))) pss_nil)
      (pss_one (ps_ret (pv 1)))), ?_⟩
    rcases h with ⟨x, rfl, l9, qy, qn⟩ | ⟨⟨t, ty, kb⟩, q⟩
    · refine ⟨_, rfl, _, _, _, _, true, rfl, .ty "str", .base (.str _), kit_ty (by decide +kernel), true, rfl, iteT ?_⟩
      refine ⟨_, rfl, x, rfl, l9, tg, fun e he hx t H1 b1 _ ht => ?_, fun no H1 b1 => ?_⟩
      · refine ⟨_, rfl, rfl, _, rfl, ?_⟩
        rw [decide_eq_false (fun z => nomatch z)]
        exact iteF ⟨_, rfl, qy e he hx t H1 b1 ht⟩
      · refine ⟨_, rfl, rfl, _, rfl, ?_⟩
        rw [decide_eq_true rfl]
        refine iteT ⟨(by decide), nt_raise fun d H2 s2 hd => ?_⟩
        exact qn no d H2 (b1.tr (.same b1.1 s2)) hd
    · refine ⟨_, rfl, _, _, _, _, false, rfl, .ty "str", ty, kit_ty kb, false, rfl, iteF ?_⟩
      refine ⟨_, rfl, rfl, _, rfl, ?_⟩
      rw [decide_eq_true rfl]
      refine iteT ⟨(by decide), nt_raise fun d H2 s2 hd => ?_⟩
      exact q d H2 (.same tg s2) hd
end
/-! ### a lambda without parameters that captures names, handed to a def: all but its table stays -/
structure LamD (Pt : Addr) (q : Str) (H H' : Hp) : Prop where
  kp : ∀ b o, b ≠ Pt → H b = some o → H' b = some o
  free : ∀ b, H' b = none → H b = none
  tab : LamX.TabS H' Pt q
abbrev capO (X : Cx) (prm : Arguments) (bd : Expr) (sco : Scope) (pm : Value) (cc : Addr) (ctv : Value) : Obj :=
  PySem.W.kla_obj "<lambda>" (X.env.qual ++ "<lambda>") prm bd sco (cloFrom X.env.cells sco.names []) pm cc ctv
theorem cap_new {X : Cx} {pins : List (Addr × Obj)} {τ : L2.St} {G : Hp} {z : Shared} {cA Pt : Addr} {prm : Arguments} {bd : Expr} {sco : Scope} {at_ : Pos} {E W : Value → Shared → Prop} (I : Inv X pins τ G z) (TB : LamX.TabB X.base X.mg cA Pt) (hcode : X.env.code = .ref cA)
    (tab : LamX.TabS G Pt (X.env.qual ++ "<lambda>")) (hdef : defaultsOf prm X.env = ([], [])) (clo : closureFor sco X.env = pure (cloFrom X.env.cells sco.names []))
    (fin : ∀ (f cc : Addr) (pm ctv : Value) (G1 : Hp) (z1 : Shared), Inv X pins τ G1 z1 → LamD Pt (X.env.qual ++ "<lambda>") G G1 → z1.heap.get? f = some (capO X prm bd sco pm cc ctv) → G1 f = none → f ∉ frs X.stack → G1 cc = some (LamX.CodeO cc (X.env.qual ++ "<lambda>")) → W (.ref f) z1) :
    wpAny (model X.prog X.w) X.A (eval (.Lambda prm bd sco at_) X.env) W E z := by
  obtain ⟨ws, gP, tri, known⟩ := tab
  have atP : z.heap.get? Pt = some { cls := .none, data := .fields ws } := I.hok Pt _ gP
  have far : ∀ a, z.heap.objs.size ≤ a → a ∉ frs X.stack := fun a ha m => (List.mem_cons.mp (I.stkSub a m)).elim (fun e => absurd I.lt (by rw [← e]; exact Nat.not_lt.mpr ha)) (I.nofs ha)
  refine PySem.W.kla_eval hdef ?_
  rcases hc : codeAmong at_ ws.toList with _ | cv
  · refine PySem.W.kla_makeFunction (mg := X.mg) (c := cA) (P := Pt) (ps := ws) clo I.ok.glob (I.mod.glob.keeps I.bk) hcode (TB.code.keeps I.bk) atP tri hc TB.gP (TB.bm.keeps I.bk) ?_
    rintro cc ctv hn tk ext ge lt ⟨c2, oc, us, t, e2, hoc, hdat, hus⟩ htb
    obtain rfl : cc = c2 := Value.ref.inj e2
    have up : z.heap.objs.size ≤ hn.objs.size := Nat.le_trans ge (Nat.le_of_lt lt)
    have nC : G cc = none := I.hok.fresh ge
    have nPc : Pt ≠ cc := ne_of_none gP nC
    have J := LamX.inv_table (t' := tk) (more := #[rawInt at_.line, rawInt at_.col, .ref cc]) (h' := hn.push (capO X prm bd sco ((X.mg "__name__").getD .none) cc ctv)) I gP (fun b o ne e => Heap.get?_push_of_some _ (ext b o ne e)) (Heap.get?_push_of_some _ htb) ge ⟨oc, us, t, Heap.get?_push_of_some _ hoc, hdat, hus⟩
    have keep : ∀ b o, b ≠ Pt → G b = some o → (upd (upd G Pt (.tbl (ws ++ #[rawInt at_.line, rawInt at_.col, .ref cc]))) cc (LamX.CodeO cc (X.env.qual ++ "<lambda>"))) b = some o := fun b o ne e => by
      rw [upd_ne (ne_of_none e nC), upd_ne ne]
      exact e
    have lst : (ws ++ #[rawInt at_.line, rawInt at_.col, .ref cc]).toList = ws.toList ++ [rawInt at_.line, rawInt at_.col, .ref cc] := by simp
    refine fin hn.objs.size cc ((X.mg "__name__").getD .none) ctv _ _ J ⟨keep, fun b e => ?_, _, by rw [upd_ne nPc, upd_same], by rw [lst]; exact PySem.TriplesOk_snoc _ _ _ _ tri, fun p2 cv' e => ?_⟩ (Heap.get?_push_size _ rfl) ?_ (far _ up) upd_same
    · by_cases y1 : b = cc
      · rw [y1]
        exact nC
      · by_cases y2 : b = Pt
        · rw [upd_ne y1, y2, upd_same] at e
          cases e
        · rw [upd_ne y1, upd_ne y2] at e
          exact e
    · rw [lst] at e
      rcases LamX.among_app _ tri e with y | y
      · obtain ⟨c0, z1, z2⟩ := known p2 cv' y
        exact ⟨c0, z1, keep _ _ (fun y => LamX.codeO_ne ws (Option.some.inj (z2.symm.trans (by rw [y]; exact gP)))) z2⟩
      · exact ⟨cc, y, upd_same⟩
    · rw [upd_ne (Nat.ne_of_gt lt), upd_ne (Nat.ne_of_gt (Nat.lt_of_lt_of_le (Heap.lt_size atP) up))]
      exact I.hok.fresh up
  · obtain ⟨cc, rfl, hco⟩ := known at_ cv hc
    refine PySem.W.kla_makeFunctionHit (mg := X.mg) (c := cA) (P := Pt) (ps := ws) clo I.ok.glob (I.mod.glob.keeps I.bk) hcode (TB.code.keeps I.bk) atP tri hc (TB.bm.keeps I.bk) ?_
    rintro ctv hn tk ext up
    have J : Inv X pins τ G { z with heap := hn.push (capO X prm bd sco ((X.mg "__name__").getD .none) cc ctv), toks := tk } := I.kept fun b o e => Heap.get?_push_of_some _ (ext b o e)
    exact fin hn.objs.size cc ((X.mg "__name__").getD .none) ctv G _ J ⟨fun _ _ _ e => e, fun _ e => e, ws, gP, tri, known⟩ (Heap.get?_push_size _ rfl) (I.hok.fresh up) (far _ up) hco
def tCap (Pt : Addr) (q : Str) (TT : (XK → Hp → VK → Prop) → Hp → VK → Prop) (t : XK → TE) : TE := fun τ G W => LamX.TabS G Pt q ∧ ∀ G1, LamD Pt q G G1 → TT (fun E G2 W2 => t E τ G2 W2) G1 W
/-- x(lambda: bd) -/
theorem pe_capcall {X : Cx} {TT : (XK → Hp → VK → Prop) → Hp → VK → Prop} {x a : Str} {g cA Pt : Addr} {k : Nat} {pg : Arguments} {bg : List Stmt} {sg : Scope} {dV kV doc pm cdv ct oc : Value} {an od : Option Addr} {osl : Array (Option Value)} {Ng : List Str}
    {prm : Arguments} {bd : Expr} {sco : Scope} {t : XK → TE} {p1 p2 pos : Pos} (hg : Gl X x) (hm : X.mg x = some (.ref g)) (hk : PySem.W.keepIn X.K (.ref g) = true)
    (lk : X.K.lookup g = some ⟨oc, od, .func (PySem.W.fnOf x x pg bg sg dV kV doc pm an cdv ct), osl⟩) (hcg : PySem.W.codeIn X.K cdv x = true) (hb : Binds X.K (PySem.W.fnOf x x pg bg sg dV kV doc pm an cdv ct) [a] []) (Sg : FnScope Ng [a] sg) (hNg : Ng[0]? = some a) (hva : Vis sg a)
    (give : LamX.GivesTo X Ng x sg g cdv bg a (X.env.qual ++ "<lambda>") TT) (TB : LamX.TabB X.base X.mg cA Pt) (hcode : X.env.code = .ref cA) (hr : Room (k + 2) X.A) (L : LamX.LamS X.env.scope sco) (hdef : defaultsOf prm X.env = ([], []))
    (hbind : ∀ (q : Str) (cl : List (Str × Addr)) (pm cv ctv : Value), bindArgs (PySem.W.kla_fn "<lambda>" q prm bd sco cl pm cv ctv) ⟨[], []⟩ = pure [])
    (hbody : ∀ (A : Around) (outer : List Env) (z : Shared) (G : Hp) (E : XK) (f cc : Addr), Room k (A.deeper (LamX.lamEnv X sco z.heap.objs.size f cc)) → PE (LamX.lamCx X A outer z G E sco f cc) bd (t E))
    (d1 : (x == ("__debug__" : Str)) = false := by decide) (d2 : (a == ("__debug__" : Str)) = false := by decide) (d3 : (a == ("__classdict__" : Str)) = false := by decide) :
    PE X (.Call (.Name x p1) [.Lambda prm bd sco p2] [] pos) (tCap Pt (X.env.qual ++ "<lambda>") TT t) := by
  constructor
  rintro pins z τ G W I ⟨tab, h⟩
  refine wpAny_Call_Name_kw (ld_glob I hg hm ?_ d1)
  refine PySem.W.callWith_K (h₀ := X.base) I.ok.mod.kin hk ?_ (by rfl) (by rfl)
  show wpAny _ _ (spliced ((false, eval (.Lambda prm bd sco p2) X.env) :: backTo pos (starEach [] X.env))) _ _ z
  have hfree := LamX.LamS.has L I.ok
  refine Calls.spliced_cons (cap_new I TB hcode tab hdef (closure_ok hfree) fun f cc pm' ctv G1 z1 J D hf hfn hfr hco => ?_)
  refine Calls.spliced_nil ⟨J.kIn, ?_⟩
  have ran : codeAny (model X.prog X.w) X.A (.call (.ref g) ⟨[.ref f], []⟩) (CR C8.CX0 X.stack X.prog X.w G1 z1 W C8.E0) z1 :=
    LamX.run_ofS (N := Ng) (ps := [a]) (us := [.ref f]) (vs := [.ref f]) lk hcg Sg hr J.env0 (hb z1 [.ref f] J.kIn rfl) (.cons rfl .nil) rfl fun hr' => by
      obtain ⟨t', w1, w2⟩ := give f cc z1 G1 W (fun E G2 W2 => t E τ G2 W2) (fun WW pn xe E p3 p4 tk hW => LamX.pe_act (i := 0) J L hf hfn hfr (hbind _ _ _ _ _) tk hW hr' (fun A outer z G hr2 => hbody A outer z G E f cc hr2) hNg hva d2 d3) hco (h G1 D)
      exact ⟨t', w1.nox, w2⟩
  refine wpAny_call (codeAny_mono ran fun r z2 hq => ?_)
  cases r with
  | error e => exact (show False from hq).elim
  | ok fl =>
    cases fl with
    | ret u => exact J.after hq
    | next | brk | cont => exact False.elim hq
/-- the def that calls what it got, its room told -/
def GivesToR (k : Nat) (X : Cx) (Ng : List Str) (x : Str) (sg : Scope) (g : Addr) (cdg : Value) (bg : List Stmt) (a : Str) (q : Str) (TT : (XK → Hp → VK → Prop) → Hp → VK → Prop) : Prop :=
  ∀ (f c' : Addr) (s : Shared) (H : Hp) (Q : VK) (tl : XK → Hp → VK → Prop), Room k (X.A.deeper (envOfC x sg s.heap.objs.size g cdg)) →
    (∀ (W : WX) (pn : List (Addr × Obj)) (xe : Value → Shared → Prop) (E : XK) (p1 p2 : Pos), Takes ((cxOf C8.CX0 X.prog X.w X.K X.mg X.base Ng x sg g cdg X.A X.stack s H C8.E0).tr pn xe) W → (∀ cls d σ' H', E cls d H' → W cls d σ' H') →
      PE ((cxOf C8.CX0 X.prog X.w X.K X.mg X.base Ng x sg g cdg X.A X.stack s H C8.E0).tr pn xe) (.Call (.Name a p1) [] [] p2) (fun σZ HZ Q => σZ[0]? = some (some (.ref f)) ∧ HZ c' = some (LamX.CodeO c' q) ∧ tl E HZ Q)) →
    H c' = some (LamX.CodeO c' q) → TT tl H Q →
    ∃ t, PSs (cxOf C8.CX0 X.prog X.w X.K X.mg X.base Ng x sg g cdg X.A X.stack s H C8.E0).nox bg t ∧ t { nx := fun _ H' => Q .non H', rt := Q } (L2.start Ng [.ref f]) H
/-- x(lambda: bd) -/
theorem pe_capcallR {X : Cx} {TT : (XK → Hp → VK → Prop) → Hp → VK → Prop} {x a : Str} {g cA Pt : Addr} {k : Nat} {pg : Arguments} {bg : List Stmt} {sg : Scope} {dV kV doc pm cdv ct oc : Value} {an od : Option Addr} {osl : Array (Option Value)} {Ng : List Str}
    {prm : Arguments} {bd : Expr} {sco : Scope} {t : XK → TE} {p1 p2 pos : Pos} (hg : Gl X x) (hm : X.mg x = some (.ref g)) (hk : PySem.W.keepIn X.K (.ref g) = true)
    (lk : X.K.lookup g = some ⟨oc, od, .func (PySem.W.fnOf x x pg bg sg dV kV doc pm an cdv ct), osl⟩) (hcg : PySem.W.codeIn X.K cdv x = true) (hb : Binds X.K (PySem.W.fnOf x x pg bg sg dV kV doc pm an cdv ct) [a] []) (Sg : FnScope Ng [a] sg) (hNg : Ng[0]? = some a) (hva : Vis sg a)
    (give : GivesToR (k + 1) X Ng x sg g cdv bg a (X.env.qual ++ "<lambda>") TT) (TB : LamX.TabB X.base X.mg cA Pt) (hcode : X.env.code = .ref cA) (hr : Room (k + 2) X.A) (L : LamX.LamS X.env.scope sco) (hdef : defaultsOf prm X.env = ([], []))
    (hbind : ∀ (q : Str) (cl : List (Str × Addr)) (pm cv ctv : Value), bindArgs (PySem.W.kla_fn "<lambda>" q prm bd sco cl pm cv ctv) ⟨[], []⟩ = pure [])
    (hbody : ∀ (A : Around) (outer : List Env) (z : Shared) (G : Hp) (E : XK) (f cc : Addr), Room k (A.deeper (LamX.lamEnv X sco z.heap.objs.size f cc)) → PE (LamX.lamCx X A outer z G E sco f cc) bd (t E))
    (d1 : (x == ("__debug__" : Str)) = false := by decide) (d2 : (a == ("__debug__" : Str)) = false := by decide) (d3 : (a == ("__classdict__" : Str)) = false := by decide) :
    PE X (.Call (.Name x p1) [.Lambda prm bd sco p2] [] pos) (tCap Pt (X.env.qual ++ "<lambda>") TT t) := by
  constructor
  rintro pins z τ G W I ⟨tab, h⟩
  refine wpAny_Call_Name_kw (ld_glob I hg hm ?_ d1)
  refine PySem.W.callWith_K (h₀ := X.base) I.ok.mod.kin hk ?_ (by rfl) (by rfl)
  show wpAny _ _ (spliced ((false, eval (.Lambda prm bd sco p2) X.env) :: backTo pos (starEach [] X.env))) _ _ z
  have hfree := LamX.LamS.has L I.ok
  refine Calls.spliced_cons (cap_new I TB hcode tab hdef (closure_ok hfree) fun f cc pm' ctv G1 z1 J D hf hfn hfr hco => ?_)
  refine Calls.spliced_nil ⟨J.kIn, ?_⟩
  have ran : codeAny (model X.prog X.w) X.A (.call (.ref g) ⟨[.ref f], []⟩) (CR C8.CX0 X.stack X.prog X.w G1 z1 W C8.E0) z1 :=
    LamX.run_ofS (N := Ng) (ps := [a]) (us := [.ref f]) (vs := [.ref f]) lk hcg Sg hr J.env0 (hb z1 [.ref f] J.kIn rfl) (.cons rfl .nil) rfl fun hr' => by
      obtain ⟨t', w1, w2⟩ := give f cc z1 G1 W (fun E G2 W2 => t E τ G2 W2) hr' (fun WW pn xe E p3 p4 tk hW => LamX.pe_act (i := 0) J L hf hfn hfr (hbind _ _ _ _ _) tk hW hr' (fun A outer z G hr2 => hbody A outer z G E f cc hr2) hNg hva d2 d3) hco (h G1 D)
      exact ⟨t', w1.nox, w2⟩
  refine wpAny_call (codeAny_mono ran fun r z2 hq => ?_)
  cases r with
  | error e => exact (show False from hq).elim
  | ok fl =>
    cases fl with
    | ret u => exact J.after hq
    | next | brk | cont => exact False.elim hq
/-! ### what is refused, asked by a lambda -/
structure O75 where
  cl : Addr
  cd : Addr
  nd : Addr
  ne : Addr
  nf : Addr
  ng : Addr
  ngd : Addr
  nh : Addr
  nm : Addr
  nn : Addr
  np : Addr
  nr : Addr
  nth : Addr
  nti : Addr
  tm : Addr
  tw : Addr
structure G75 (mg : Str → Option Value) (O : O75) (C CE : Addr) : Prop where
  cl : mg "Clash" = some (.ref O.cl)
  cd : mg "Closed" = some (.ref O.cd)
  nd : mg "NoDay" = some (.ref O.nd)
  ne : mg "NoEntry" = some (.ref O.ne)
  nf : mg "NoFilling" = some (.ref O.nf)
  ng : mg "NoGo" = some (.ref O.ng)
  ngd : mg "NoGood" = some (.ref O.ngd)
  nh : mg "NoHouse" = some (.ref O.nh)
  nm : mg "NoMove" = some (.ref O.nm)
  nn : mg "NoName" = some (.ref O.nn)
  np : mg "NoPlace" = some (.ref O.np)
  nr : mg "NoRow" = some (.ref O.nr)
  nth : mg "NoThen" = some (.ref O.nth)
  nti : mg "NoTie" = some (.ref O.nti)
  tm : mg "TooMany" = some (.ref O.tm)
  tw : mg "Twice" = some (.ref O.tw)
  nt : mg "NoText" = some (.ref C)
  gE : mg "CountError" = some (.ref CE)
structure C75 (K : PySem.W.Frag) (O : O75) (C CE : Addr) : Prop where
  ec : ExcC K C
  o1 : PySem.W.kitAny K (.ref C) [.ref O.cl, .ref O.cd, .ref O.nd, .ref O.ne, .ref O.nf, .ref O.ng, .ref O.ngd, .ref O.nh, .ref O.nm, .ref O.nn, .ref O.np] = some false
  o2 : PySem.W.kitAny K (.ref C) [.ref O.nr, .ref O.nth, .ref O.nti, .ref O.tm, .ref O.tw] = some false
  v : PySem.W.kitOne K (.ref C) (.type "ValueError") = some true
  nt : PySem.W.kitOne K (.ref C) (.ref C) = some true
  cm : PySem.W.exmOne K (.ref C) (.ref CE) = some true
  xf : XfC K C
  nl : PySem.W.findIn K (.ref C) "line" = some none
def T75 (C : Addr) : (XK → Hp → VK → Prop) → Hp → VK → Prop := fun tl H Q => ∀ W : VK, tl (fun cls d H' => cls = .ref C ∧ ∃ dd, d = some dd ∧ H' dd = some (.xd lineX) ∧ ∀ H2, Same H' H2 → Q (.bl true) H2) H W
theorem cr_reprI {X : Cx} : CallR X (.builtin "repr") (fun vs H Q => ∃ i : Int, vs = [.int i] ∧ i.natAbs.log2 < 1920 ∧ Q (.str (Str.ofString (toString i))) H) := by
  rintro pins s σ H vs us Q I r ⟨i, rfl, hi, q⟩
  obtain ⟨u, rfl, ru⟩ := vals1 r
  obtain ⟨t, rfl⟩ := ru
  exact PySem.P.repr_of_int hi ⟨.str _, H, I.tok _, ⟨_, rfl⟩, q⟩
section
variable {X : Cx}
abbrev sRefusedN : List Str := ["_law_ask", "_law_caught", "e"]
theorem sc_sRefused : FnScope sRefusedN ["_law_ask"] (defScope sRefused) := ⟨rfl, rfl, rfl, by decide +kernel, rfl, by decide +kernel, by decide +kernel⟩
set_option maxHeartbeats 4000000 in
theorem refused_gives {k : Nat} {g C CE : Addr} {O : O75} {cdg : Value} {q : Str} (G : G75 X.mg O C CE) (D : C75 X.K O C CE) (mis : X.mg "isinstance" = none) (mT_int : X.mg "int" = none) (mv : X.mg "ValueError" = none) (mp : X.mg "repr" = none) : GivesToR (k + 1) X sRefusedN "_law_refused" (defScope sRefused) g cdg (defBody sRefused) "_law_ask" q (T75 C) := by
    intro f c' s H Q tl hr act hc h
    let tbA : WX → TS := fun W D σ H => ∃ Ech : XK, (∀ cls d σ' H', Ech cls d H' → W cls d σ' H') ∧ σ[0]? = some (some (.ref f)) ∧ H c' = some (LamX.CodeO c' q) ∧ tl Ech H fun v H' => D.nx σ H'
    have nd := sc_sRefused.nd
    have body : ∀ (W : WX) (pn : List (Addr × Obj)) (xe : Value → Shared → Prop) (p1 p2 p3 : Pos), Takes ((cxOf C8.CX0 X.prog X.w X.K X.mg X.base sRefusedN "_law_refused" (defScope sRefused) g cdg X.A X.stack s H C8.E0).nox.tr pn xe) W →
        PSs ((cxOf C8.CX0 X.prog X.w X.K X.mg X.base sRefusedN "_law_refused" (defScope sRefused) g cdg X.A X.stack s H C8.E0).nox.tr pn xe) [.Expr (.Call (.Name "_law_ask" p1) [] [] p2) p3] (tbA W) := fun W pn xe p1 p2 p3 tk => by
      refine ⟨fun pins z σ H1 D1 I h1 => ?_⟩
      obtain ⟨Ech, hW, e1, e2, e3⟩ := h1
      exact (pss_one (ps_expr (act W pn xe Ech _ _ tk hW))).run pins z σ H1 D1 I ⟨e1, e2, e3⟩
    refine ⟨_, pss_cons (ps_set (i := 1) nd rfl (Or.inl rfl) pe_non)
      (pss_cons (Kept.ps_try_keep (i := 2) (tb := tbA) rfl rfl nd rfl rfl ⟨rfl, by decide, .inl G.gE⟩ (fun W pn xe tk _ => body W pn xe _ _ _ tk) (fun a ob cls d pn hz hf => pss_one (ps_set (i := 1) nd rfl (Or.inl rfl) (pv 2))))
      (pss_cons (ps_if (pt_val (pe_callB Kept.call_isDT (by rfl) mis (by decide +kernel) (pa_cons (pv 1) (pa_cons (pe_tup (pa_cons (pe_glob (v := .ref O.cl) (u := .ref O.cl) (by rfl) G.cl rfl) (pa_cons (pe_glob (v := .ref O.cd) (u := .ref O.cd) (by rfl) G.cd rfl) (pa_cons (pe_glob (v := .ref O.nd) (u := .ref O.nd) (by rfl) G.nd rfl) (pa_cons (pe_glob (v := .ref O.ne) (u := .ref O.ne) (by rfl) G.ne rfl) (pa_cons (pe_glob (v := .ref O.nf) (u := .ref O.nf) (by rfl) G.nf rfl) (pa_cons (pe_glob (v := .ref O.ng) (u := .ref O.ng) (by rfl) G.ng rfl) (pa_cons (pe_glob (v := .ref O.ngd) (u := .ref O.ngd) (by rfl) G.ngd rfl) (pa_cons (pe_glob (v := .ref O.nh) (u := .ref O.nh) (by rfl) G.nh rfl) (pa_cons (pe_glob (v := .ref O.nm) (u := .ref O.nm) (by rfl) G.nm rfl) (pa_cons (pe_glob (v := .ref O.nn) (u := .ref O.nn) (by rfl) G.nn rfl) (pa_cons (pe_glob (v := .ref O.np) (u := .ref O.np) (by rfl) G.np rfl) pa_nil)))))))))))) pa_nil)))) (pss_one (ps_ret pe_bl)) pss_nil)
      (pss_cons (ps_if (PW.pt (pw_or (pt_val (pe_callB Kept.call_isDT (by rfl) mis (by decide +kernel) (pa_cons (pv 1) (pa_cons (pe_tup (pa_cons (pe_glob (v := .ref O.nr) (u := .ref O.nr) (by rfl) G.nr rfl) (pa_cons (pe_glob (v := .ref O.nth) (u := .ref O.nth) (by rfl) G.nth rfl) (pa_cons (pe_glob (v := .ref O.nti) (u := .ref O.nti) (by rfl) G.nti rfl) (pa_cons (pe_glob (v := .ref O.tm) (u := .ref O.tm) (by rfl) G.tm rfl) (pa_cons (pe_glob (v := .ref O.tw) (u := .ref O.tw) (by rfl) G.tw rfl) pa_nil)))))) pa_nil)))) (pw_or1 (pt_not (pt_val (pe_callB Kept.call_isD (by rfl) mis (by decide +kernel) (pa_cons (pv 1) (pa_cons (pe_bltn (v := .ty "ValueError") (u := .type "ValueError") (by rfl) mv (by decide +kernel) rfl) pa_nil)))))))) (pss_one (ps_ret pe_bl)) pss_nil)
      (pss_one (ps_ret (pe_and (pe_callB Kept.call_isD (by rfl) mis (by decide +kernel) (pa_cons (pv 1) (pa_cons (pe_glob (v := .ref C) (u := .ref C) (by rfl) G.nt rfl) pa_nil))) (pe_and (pe_callB call_isi (by rfl) mis (by decide +kernel) (pa_cons (Kept.pe_xfk (pv 1)) (pa_cons (pe_bltn (v := .ty "int") (u := .type "int") (by rfl) mT_int (by decide +kernel) rfl) pa_nil))) (pe_one (pe_cmpR op_eq (pe_callB cr_reprI (by rfl) mp (by decide +kernel) (pa_cons (Kept.pe_xfk (pv 1)) pa_nil)) pe_str (nomark _)))))))))), ?_⟩
    refine ⟨fun cls d H' => cls = .ref C ∧ ∃ dd, d = some dd ∧ H' dd = some (.xd lineX) ∧ ∀ H2, Same H' H2 → Q (.bl true) H2, ?_, rfl, hc, ?_⟩
    rotate_left
    · exact h _
    rintro cls d σ' H1 ⟨rfl, dd, rfl, hd, hq⟩
    refine ⟨D.cm, fun a hl na => ?_⟩
    obtain ⟨y0, y1, y2, rfl⟩ : ∃ y0 y1 y2, σ' = [y0, y1, y2] := by
      match σ', hl with
      | [y0, y1, y2], _ => exact ⟨_, _, _, rfl⟩
    refine ⟨_, rfl, ?_⟩
    have s1 := @same_new _ _ (Kept.ExV (.ref C) (some dd) a) na
    have ha : (upd H1 a (Kept.ExV (.ref C) (some dd) a)) a = some (Kept.ExV (.ref C) (some dd) a) := upd_same
    have hd1 := s1 _ _ hd
    have own : ∀ (C : Addr), ClsV (.ref C) (.ref C) := .own
    refine ⟨_, rfl, (by show 11 ≤ sizeLine; decide), fun tp ntp => ?_⟩
    have s2 := s1.trans (@same_new _ _ (.tup [V.ref O.cl, .ref O.cd, .ref O.nd, .ref O.ne, .ref O.nf, .ref O.ng, .ref O.ngd, .ref O.nh, .ref O.nm, .ref O.nn, .ref O.np]) ntp)
    have ha2 := @same_new _ _ (.tup [V.ref O.cl, .ref O.cd, .ref O.nd, .ref O.ne, .ref O.nf, .ref O.ng, .ref O.ngd, .ref O.nh, .ref O.nm, .ref O.nn, .ref O.np]) ntp _ _ ha
    have hd2 := s2 _ _ hd
    refine ⟨a, C, dd, tp, _, _, _, false, rfl, ha2, hd2, D.ec, upd_same, .cons (own _) (.cons (own _) (.cons (own _) (.cons (own _) (.cons (own _) (.cons (own _) (.cons (own _) (.cons (own _) (.cons (own _) (.cons (own _) (.cons (own _) (.nil))))))))))), D.o1, false, rfl, iteF ?_⟩
    refine ⟨_, rfl, (by show 5 ≤ sizeLine; decide), fun tq ntq => ?_⟩
    have s3 := s2.trans (@same_new _ _ (.tup [V.ref O.nr, .ref O.nth, .ref O.nti, .ref O.tm, .ref O.tw]) ntq)
    have ha3 := @same_new _ _ (.tup [V.ref O.nr, .ref O.nth, .ref O.nti, .ref O.tm, .ref O.tw]) ntq _ _ ha2
    have hd3 := s3 _ _ hd
    refine ⟨a, C, dd, tq, _, _, _, false, rfl, ha3, hd3, D.ec, upd_same, .cons (own _) (.cons (own _) (.cons (own _) (.cons (own _) (.cons (own _) (.nil))))), D.o2, false, rfl, iteF ?_⟩
    refine ⟨_, rfl, a, C, dd, _, .ty "ValueError", .type "ValueError", true, rfl, ha3, hd3, D.ec, fun u r => r, D.v, true, rfl, iteF ?_⟩
    refine ⟨_, rfl, a, C, dd, _, .ref C, .ref C, true, rfl, ha3, hd3, D.ec, fun u r => r, D.nt, true, rfl, iteT ?_⟩
    refine ⟨_, rfl, a, C, dd, _, _, rfl, D.xf, D.nl, ha3, hd3, rfl, ?_⟩
    refine ⟨_, _, _, _, true, rfl, .ty "int", .base (.int _), kit_ty (by decide +kernel), true, rfl, iteT ?_⟩
    refine ⟨_, rfl, a, C, dd, _, _, rfl, D.xf, D.nl, ha3, hd3, rfl, ?_⟩
    refine ⟨0, rfl, by decide, rfl, ?_⟩
    rw [decide_eq_true (show V.str (Str.ofString (toString (0 : Int))) = V.str "0" from congrArg V.str (by decide +kernel))]
    exact hq _ s3
end
/-! ### a text that is bent -/
theorem op_mulS {X : Cx} : OpR X (binaryOp .Mult) (fun x y H Q => ∃ (a : Str) (n : Int), x = V.str a ∧ y = V.int n ∧ MulOk a n ∧ Q (.str (Txt.mul a n)) H) := by
  rintro pins z τ G x y v u W I rx ry ⟨a, n, rfl, rfl, ok, q⟩
  obtain ⟨t, rfl⟩ := rx
  obtain ⟨t', rfl⟩ := ry
  exact SB.mul ok fun t' tk => ⟨.str (Txt.mul a n), G, I.tok _, ⟨_, rfl⟩, q⟩
def Sm (x : Str) : Prop := ∀ c ∈ x.cps.toList, c < 256
theorem Sm.app {a b : Str} (ha : Sm a) (hb : Sm b) : Sm (a ++ b) := fun c hc => by
  have hc' : c ∈ TL.tl (a ++ b) := hc
  rw [TL.tl_append] at hc'
  rcases List.mem_append.mp hc' with h | h
  · exact ha c h
  · exact hb c h
theorem Sm.sub {x y : Str} (h : Sm x) (s : ∀ c ∈ y.cps.toList, c ∈ x.cps.toList) : Sm y := fun c hc => h c (s c hc)
theorem Sm.ok {x : Str} (h : Sm x) : PyData.strOk x = true := by
  unfold PyData.strOk
  rw [← Array.all_toList, List.all_eq_true]
  exact fun c hc => decide_eq_true (by have := h c hc; omega)
theorem Sm.cut {x : Str} {lo hi : Option Int} (h : Sm x) : Sm (cutS x lo hi) := fun c hc => h c (List.mem_of_mem_drop (List.mem_of_mem_take (show c ∈ (x.cps.toList.drop _).take _ from hc)))
theorem Sm.one {c : Nat} (h : c < 256) : Sm ⟨#[c]⟩ := fun d hd => by
  have hd' : d ∈ [c] := hd
  rw [List.mem_singleton.mp hd']
  exact h
theorem mulok2 (c : Nat) : MulOk ⟨#[c]⟩ 2 := ⟨by decide, fun _ _ => by show ¬ (((1 : Nat) : Int) > (2 ^ 63 - 1) / 2); decide, fun _ _ => rfl⟩
theorem mul2 (c : Nat) : Txt.mul ⟨#[c]⟩ 2 = ⟨#[c, c]⟩ := rfl
theorem mulok61 : MulOk "9" 61 := ⟨by decide, fun _ _ => by decide +kernel, fun _ _ => by decide +kernel⟩
def wsum (l : List Str) : Nat := (l.map (·.length)).sum + l.length
theorem wsum_app (a b : List Str) : wsum (a ++ b) = wsum a + wsum b := by
  unfold wsum
  rw [List.map_append, List.sum_append, List.length_append]
  omega
theorem wsum_take (k : Nat) (l : List Str) : wsum (l.take k) ≤ wsum l := by
  have h := wsum_app (l.take k) (l.drop k)
  rw [List.take_append_drop] at h
  omega
theorem wsum_drop (k : Nat) (l : List Str) : wsum (l.drop k) ≤ wsum l := by
  have h := wsum_app (l.take k) (l.drop k)
  rw [List.take_append_drop] at h
  omega
theorem wsum_one (y : Str) : wsum [y] = y.length + 1 := rfl
theorem bl1 : ((" " : Str)).length = 1 := by decide +kernel
theorem join_wsum (l : List Str) : (Txt.join " " l).length ≤ wsum l := by
  have h := join_len " " l
  rw [bl1] at h
  unfold wsum
  omega
theorem wsum_split (x : Str) : wsum (Txt.split x " ") = x.length + 1 := by
  obtain ⟨a, r, h⟩ := split_cons x (sep := " ") (by decide +kernel)
  have e := of_split h
  rw [h]
  have l := congrArg Str.length e
  rw [join_glue, glue_len, bl1] at l
  unfold wsum
  simp only [List.map_cons, List.sum_cons, List.length_cons]
  omega
theorem Sm.join {l : List Str} (h : ∀ y ∈ l, Sm y) : Sm (Txt.join " " l) := fun c hc => by
  have hc' : c ∈ TL.tl (Txt.join " " l) := hc
  rw [TL.join_eq, TL.tl_join] at hc'
  rcases mem_joinL hc' with q | ⟨p, hp, q⟩
  · have : c ∈ [32] := q
    rw [List.mem_singleton.mp this]
    decide
  · obtain ⟨y, hy, rfl⟩ := List.mem_map.mp hp
    exact h y hy c q
abbrev sg75 : Str := " !\"#$&'()*+,-./0123456789:;<=>?@ABCDEFGHIJKLMNOPQRSTUVWXYZ[\\]^_`abcdefghijklmnopqrstuvwxyz{|}~\n"
theorem sg75_len : 1 ≤ sg75.length ∧ sg75.length ≤ 200 := by decide +kernel
theorem sg75_sm : Sm sg75 := by unfold Sm; decide +kernel
theorem at_ex75 {α : Type} {xs : List α} {r : Int} (h0 : 0 ≤ r) (h1 : r < (xs.length : Int)) : ∃ v, atI xs r = some v ∧ v ∈ xs := by
  obtain ⟨k, rfl⟩ : ∃ k : Nat, r = (k : Int) := ⟨r.toNat, by omega⟩
  have lk : k < xs.length := by omega
  exact ⟨xs[k], atI_nat (List.getElem?_eq_getElem lk), List.getElem_mem lk⟩
theorem at_neg75 {α : Type} {xs : List α} {r : Int} (h0 : 0 ≤ r) (h1 : r < (xs.length : Int)) : ∃ v, atI xs (r - 1) = some v ∧ v ∈ xs := by
  by_cases z : r = 0
  · subst z
    have lk : xs.length - 1 < xs.length := by omega
    refine ⟨xs[xs.length - 1], ?_, List.getElem_mem lk⟩
    unfold atI ixN
    rw [if_neg (by omega), if_pos (by omega)]
    show xs[_]? = _
    rw [show ((0 : Int) - 1 + (xs.length : Int)).toNat = xs.length - 1 from by omega]
    exact List.getElem?_eq_getElem lk
  · exact at_ex75 (by omega) (by omega)
theorem sl_to {K : PySem.W.Frag} {σ : L2.St} {H : Hp} {Q : VK} {i j : Nat} {wl : Addr} {k : Nat} {ws : List Str} (h1 : σ[i]? = some (some (.ref wl))) (h2 : σ[j]? = some (some (.int (k : Int)))) (hw : H wl = some (.lst (ws.map V.str)))
    (go : ∀ q H', Same H H' → H' q = some (.lst ((ws.take k).map V.str)) → Q (.ref q) H') : tSl (rSlL K) (tVar i) tNoPart (tPart (tVar j)) σ H Q :=
  ⟨_, h1, _, h2, k, rfl, wl, _, rfl, SqL.of hw, fun q nq => go q _ (same_new nq) (by rw [upd_same, cut_head, List.map_take])⟩
theorem sl_from {K : PySem.W.Frag} {σ : L2.St} {H : Hp} {Q : VK} {i j : Nat} {wl : Addr} {k : Nat} {ws : List Str} (h1 : σ[i]? = some (some (.ref wl))) (h2 : σ[j]? = some (some (.int (k : Int)))) (hw : H wl = some (.lst (ws.map V.str)))
    (go : ∀ q H', Same H H' → H' q = some (.lst ((ws.drop k).map V.str)) → Q (.ref q) H') : tSl (rSlL K) (tVar i) (tPart (tVar j)) tNoPart σ H Q :=
  ⟨_, h1, _, h2, k, rfl, wl, _, rfl, SqL.of hw, fun q nq => go q _ (same_new nq) (by rw [upd_same, cut_tail, List.map_drop])⟩
theorem sl_to1 {K : PySem.W.Frag} {σ : L2.St} {H : Hp} {Q : VK} {i j : Nat} {wl : Addr} {k : Nat} {ws : List Str} (h1 : σ[i]? = some (some (.ref wl))) (h2 : σ[j]? = some (some (.int (k : Int)))) (hw : H wl = some (.lst (ws.map V.str)))
    (go : ∀ q H', Same H H' → H' q = some (.lst ((ws.take (k + 1)).map V.str)) → Q (.ref q) H') : tSl (rSlL K) (tVar i) tNoPart (tPart (tOp (rI0 fun i j => .int (i + j)) (tVar j) (tC (V.int 1)))) σ H Q :=
  ⟨_, h1, _, h2, k, 1, rfl, rfl, _, rfl, wl, _, rfl, SqL.of hw, fun q nq => go q _ (same_new nq) (by rw [upd_same, show ((k : Int) + 1) = ((k + 1 : Nat) : Int) from rfl, cut_head, List.map_take])⟩
theorem sl_from1 {K : PySem.W.Frag} {σ : L2.St} {H : Hp} {Q : VK} {i j : Nat} {wl : Addr} {k : Nat} {ws : List Str} (h1 : σ[i]? = some (some (.ref wl))) (h2 : σ[j]? = some (some (.int (k : Int)))) (hw : H wl = some (.lst (ws.map V.str)))
    (go : ∀ q H', Same H H' → H' q = some (.lst ((ws.drop (k + 1)).map V.str)) → Q (.ref q) H') : tSl (rSlL K) (tVar i) (tPart (tOp (rI0 fun i j => .int (i + j)) (tVar j) (tC (V.int 1)))) tNoPart σ H Q :=
  ⟨_, h1, _, h2, k, 1, rfl, rfl, _, rfl, wl, _, rfl, SqL.of hw, fun q nq => go q _ (same_new nq) (by rw [upd_same, show ((k : Int) + 1) = ((k + 1 : Nat) : Int) from rfl, cut_tail, List.map_drop])⟩
theorem cat_strs {H : Hp} {Q : VK} {q1 q2 : Addr} {xs ys : List Str} (h1 : H q1 = some (.lst (xs.map V.str))) (h2 : H q2 = some (.lst (ys.map V.str))) (l : xs.length + ys.length ≤ 900) (go : ∀ q H', Same H H' → H' q = some (.lst ((xs ++ ys).map V.str)) → Q (.ref q) H') : rCat (.ref q1) (.ref q2) H Q :=
  ⟨q1, q2, _, _, rfl, rfl, h1, h2, by rw [List.length_map, List.length_map]; exact Nat.le_of_lt (small1000 (by omega)), fun q nq => go q _ (same_new nq) (by rw [upd_same, List.map_append])⟩
theorem lst_one {σ : L2.St} {H : Hp} {Q : VK} {i : Nat} {y : Str} (h1 : σ[i]? = some (some (.str y))) (go : ∀ q H', Same H H' → H' q = some (.lst ([y].map V.str)) → Q (.ref q) H') : tLst (tCons (tVar i) tNil) σ H Q :=
  ⟨_, h1, (by show 1 ≤ sizeLine; decide), fun q nq => go q _ (same_new nq) upd_same⟩
/-- the other words -/
def oth75 (y : Str) : List Str := [("00" : Str), "07", "-0", "+1", "", "0", "-1", "99", "100", "9999", "10000", Txt.mul "9" 61, "abcdefghi", "a", "A", "-"] ++ [("some" : Str), "enter", "back", "close", "up", "refuse", "Up", "none", y]
theorem oth75_ok {y z : Str} (ly : y.length ≤ 300) (sy : Sm y) (h : z ∈ oth75 y) : z.length ≤ 300 ∧ Sm z := by
  have all : ∀ z ∈ [("00" : Str), "07", "-0", "+1", "", "0", "-1", "99", "100", "9999", "10000", Txt.mul "9" 61, "abcdefghi", "a", "A", "-", "some", "enter", "back", "close", "up", "refuse", "Up", "none"], z.length ≤ 300 ∧ ∀ c ∈ z.cps.toList, c < 256 := by decide +kernel
  have h' : z ∈ [("00" : Str), "07", "-0", "+1", "", "0", "-1", "99", "100", "9999", "10000", Txt.mul "9" 61, "abcdefghi", "a", "A", "-", "some", "enter", "back", "close", "up", "refuse", "Up", "none"] ++ [y] := h
  rcases List.mem_append.mp h' with h | h
  · exact all z h
  · rw [List.mem_singleton.mp h]
    exact ⟨ly, sy⟩
def spBent : Sp := fun vs H Q _ => ∃ (p c : Addr) (n : Nat) (x : Str), vs = [.ref p, .str x] ∧ PenAt H p c n ∧ n ≤ 90000 ∧ 1 ≤ x.length ∧ x.length ≤ 250 ∧ Sm x ∧
  ∀ (y : Str) (H' : Hp), y.length ≤ 850 → Sm y → PenAt H' p c (n + 6) → But p H H' → Q (.str y) H'
section
variable {P : Program} {w : World} {K : PySem.W.Frag} {mg : Str → Option Value} {base : Heap}
abbrev sBentN : List Str := ["_law_pen_here", "_law_text", "_law_way", "_law_signs", "_law_sign", "_law_at", "_law_words_here", "_law_other", "_law_new", "_law_bent_here"]
theorem sc_sBent : FnScope sBentN ["_law_pen_here", "_law_text"] (defScope sBent) := ⟨rfl, rfl, rfl, by decide +kernel, rfl, by decide +kernel, by decide +kernel⟩
set_option maxHeartbeats 2000000 in
theorem ok_bent {f fT : Addr} {fd dT : FuncData} (F : Fun K "_law_bent" "_law_bent" sBent f fd) (T : TakeT P w K mg base fT dT) (ml : mg "len" = none) : FnOk P w K mg base CX0 2 f fd ["_law_pen_here", "_law_text"] spBent := by
  refine F.ok sc_sBent (fun vs H Q E h => ?_) (fun cdv A outer s H vs Q E hr h => ?_)
  · obtain ⟨p, c, n, x, rfl, _⟩ := h
    rfl
  · obtain ⟨p, c, n, x, rfl, pen, hn, l1, l250, sm, qq⟩ := h
    have nd := sc_sBent.nd
    refine ⟨_, pss_cons (ps_set (i := 2) nd rfl (Or.inl rfl) (pe_call T.ok hr (by rfl) T.g T.kp T.b .nil pass0 (pa_cons (pv 0) (pa_cons pe_int pa_nil))))
      (pss_cons (ps_set (i := 3) nd rfl (Or.inl rfl) pe_str)
      (pss_cons (ps_set (i := 4) nd rfl (Or.inl rfl) (pe_ix ix_str (pv 3) (pe_call T.ok hr (by rfl) T.g T.kp T.b .nil pass0 (pa_cons (pv 0) (pa_cons (pe_callB call_len_str (by rfl) ml PySem.boot_len (pa_cons (pv 3) pa_nil)) pa_nil))) (fun _ _ => rfl)))
      (pss_cons (ps_set (i := 5) nd rfl (Or.inl rfl) (pe_call T.ok hr (by rfl) T.g T.kp T.b .nil pass0 (pa_cons (pv 0) (pa_cons (pe_callB call_len_str (by rfl) ml PySem.boot_len (pa_cons (pv 1) pa_nil)) pa_nil))))
      (pss_cons (ps_if (pt_cmpR op_lt (pv 2) pe_int (nomark _)) (pss_one (ps_ret (pe_op op_add_str (pe_op op_add_str (pe_slice sl_str (pv 1) po_none (po_some (pv 5))) (pe_ix ix_list (pe_lst (pa_cons pe_str (pa_cons (pe_op op_mulS (pe_ix ix_str (pv 1) (pv 5) (fun _ _ => rfl)) pe_int) (pa_cons (pv 4) (pa_cons (pe_op op_add_str (pv 4) (pe_ix ix_str (pv 1) (pv 5) (fun _ _ => rfl))) pa_nil))))) (pv 2) (fun _ _ => rfl))) (pe_slice sl_str (pv 1) (po_some (pe_op op_add (pv 5) pe_int)) po_none)))) pss_nil)
      (pss_cons (ps_set (i := 6) nd rfl (Or.inl rfl) (pe_split (pv 1) pe_str))
      (pss_cons (ps_set (i := 5) nd rfl (Or.inl rfl) (pe_call T.ok hr (by rfl) T.g T.kp T.b .nil pass0 (pa_cons (pv 0) (pa_cons (pe_callB call_len_seq (by rfl) ml PySem.boot_len (pa_cons (pv 6) pa_nil)) pa_nil))))
      (pss_cons (ps_set (i := 7) nd rfl (Or.inl rfl) (pe_lst (pa_cons pe_str (pa_cons pe_str (pa_cons pe_str (pa_cons pe_str (pa_cons pe_str (pa_cons pe_str (pa_cons pe_str (pa_cons pe_str (pa_cons pe_str (pa_cons pe_str (pa_cons pe_str (pa_cons (pe_op op_mulS pe_str pe_int) (pa_cons pe_str (pa_cons pe_str (pa_cons pe_str (pa_cons pe_str pa_nil))))))))))))))))))
      (pss_cons (ps_set (i := 7) nd rfl (Or.inl rfl) (pe_op op_cat (pv 7) (pe_lst (pa_cons pe_str (pa_cons pe_str (pa_cons pe_str (pa_cons pe_str (pa_cons pe_str (pa_cons pe_str (pa_cons pe_str (pa_cons pe_str (pa_cons (pe_ix ix_list (pv 6) (pe_op op_sub (pv 5) pe_int) (fun _ _ => rfl)) pa_nil))))))))))))
      (pss_cons (ps_set (i := 8) nd rfl (Or.inl rfl) (pe_ix ix_list (pv 7) (pe_call T.ok hr (by rfl) T.g T.kp T.b .nil pass0 (pa_cons (pv 0) (pa_cons (pe_callB call_len_seq (by rfl) ml PySem.boot_len (pa_cons (pv 7) pa_nil)) pa_nil))) (fun _ _ => rfl)))
      (pss_cons (ps_set (i := 9) nd rfl (Or.inl rfl) (pe_lst (pa_cons (pe_op op_cat (pe_slice sl_list (pv 6) po_none (po_some (pv 5))) (pe_slice sl_list (pv 6) (po_some (pe_op op_add (pv 5) pe_int)) po_none)) (pa_cons (pe_op op_cat (pe_slice sl_list (pv 6) po_none (po_some (pe_op op_add (pv 5) pe_int))) (pe_slice sl_list (pv 6) (po_some (pv 5)) po_none)) (pa_cons (pe_op op_cat (pe_op op_cat (pe_slice sl_list (pv 6) po_none (po_some (pv 5))) (pe_lst (pa_cons (pv 8) pa_nil))) (pe_slice sl_list (pv 6) (po_some (pv 5)) po_none)) pa_nil)))))
      (pss_cons (ps_expr (pe_bm PySem.F.plainAttrs_list PySem.F.slot_list_append PySem.F.type_list_append mt_append (pv 9) (pa_cons (pe_op op_cat (pe_op op_cat (pe_slice sl_list (pv 6) po_none (po_some (pv 5))) (pe_lst (pa_cons (pv 8) pa_nil))) (pe_slice sl_list (pv 6) (po_some (pe_op op_add (pv 5) pe_int)) po_none)) pa_nil)))
      (pss_one (ps_ret (pe_join pe_str (pe_ix ix_list (pv 9) (pe_op op_sub (pv 2) pe_int) (fun _ _ => rfl)))))))))))))))), ?_⟩
    have hz : ∀ {n : Nat}, n ≤ 990 → n ≤ sizeLine := fun h => Nat.le_of_lt (small1000 (by omega))
    refine ⟨_, rfl, p, c, n, 8, rfl, pen, by omega, by decide, by decide, fun r1 H1 a1 b1 pen1 bt1 => ?_⟩
    have sl := sg75_len
    refine ⟨_, rfl, _, rfl, _, rfl, sg75, rfl, hz (by omega), p, c, n + 1, (sg75.length : Int), rfl, pen1, by omega, by omega, by omega, fun r2 H2 a2 b2 pen2 bt2 => ?_⟩
    obtain ⟨ch, hch, mch⟩ := at_ex75 (xs := sg75.cps.toList) a2 (by rw [Array.length_toList]; exact b2)
    refine ⟨sg75, r2, ch, rfl, rfl, hz (by omega), hch, ?_⟩
    have c256 : ch < 256 := sg75_sm ch mch
    refine ⟨_, rfl, _, rfl, x, rfl, hz (by omega), p, c, n + 2, (x.length : Int), rfl, pen2, by omega, by omega, by omega, fun r3 H3 a3 b3 pen3 bt3 => ?_⟩
    obtain ⟨cx, hcx, mcx⟩ := at_ex75 (xs := x.cps.toList) a3 (by rw [Array.length_toList]; exact b3)
    have x256 : cx < 256 := sm cx mcx
    have bt13 : But p H H3 := fun b o e ne => bt3 _ _ (bt2 _ _ (bt1 _ _ e ne) ne) ne
    refine ⟨_, rfl, r1, 4, rfl, rfl, _, rfl, ite2 (fun z => ?_) (fun z => ?_)⟩
    · have xz : x.length ≤ sizeLine := hz (by omega)
      have one : ∀ k : Nat, (⟨#[k]⟩ : Str).length = 1 := fun _ => rfl
      obtain ⟨y, hy, my⟩ : ∃ y : Str, atI ([("" : Str), Txt.mul ⟨#[cx]⟩ 2, ⟨#[ch]⟩, ⟨#[ch]⟩ ++ ⟨#[cx]⟩].map V.str) r1 = some (.str y) ∧ y ∈ [("" : Str), Txt.mul ⟨#[cx]⟩ 2, ⟨#[ch]⟩, ⟨#[ch]⟩ ++ ⟨#[cx]⟩] := by
        obtain ⟨v, hv, mv⟩ := at_ex75 (xs := [("" : Str), Txt.mul ⟨#[cx]⟩ 2, ⟨#[ch]⟩, ⟨#[ch]⟩ ++ ⟨#[cx]⟩].map V.str) a1 (by show r1 < 4; exact of_decide_eq_true z)
        obtain ⟨y, hy, rfl⟩ := List.mem_map.mp mv
        exact ⟨y, hv, hy⟩
      have yy : y.length ≤ 2 ∧ Sm y := by
        simp only [List.mem_cons, List.not_mem_nil, or_false] at my
        rcases my with rfl | rfl | rfl | rfl
        · exact ⟨by decide +kernel, by unfold Sm; decide +kernel⟩
        · rw [mul2]
          refine ⟨by show 2 ≤ 2; decide, fun d hd => ?_⟩
          have hd' : d ∈ [cx, cx] := hd
          simp only [List.mem_cons, List.not_mem_nil, or_false, or_self] at hd'
          rw [hd']
          exact x256
        · exact ⟨by show 1 ≤ 2; decide, .one c256⟩
        · exact ⟨by rw [app_len, one, one]; decide, (Sm.one c256).app (.one x256)⟩
      refine ⟨_, rfl, _, rfl, r3, rfl, x, rfl, xz, _, rfl, _, rfl, x, r3, cx, rfl, rfl, xz, hcx, ⟨#[cx]⟩, 2, rfl, rfl, mulok2 cx, _, rfl, _, rfl, _, rfl, _, rfl, x, r3, cx, rfl, rfl, xz, hcx, _, _, rfl, rfl, (by rw [one, one]; exact hz (by decide)), (by show 4 ≤ sizeLine; decide), fun l nl => ?_⟩
      have s4 := @same_new _ _ (.lst ([("" : Str), Txt.mul ⟨#[cx]⟩ 2, ⟨#[ch]⟩, ⟨#[ch]⟩ ++ ⟨#[cx]⟩].map V.str)) nl
      have lc1 := cutS_length x none (some r3)
      have lc2 := cutS_length x (some (r3 + 1)) none
      refine ⟨_, rfl, l, _, r1, _, rfl, rfl, SqL.of upd_same, hy, _, _, rfl, rfl, hz (by omega), _, rfl, _, rfl, r3, 1, rfl, rfl, _, rfl, x, rfl, xz, _, _, rfl, rfl, hz (by rw [app_len]; omega), ?_⟩
      exact qq _ _ (by rw [app_len, app_len]; omega) ((sm.cut.app yy.2).app sm.cut) ((pen3.same s4).mono (by omega)) fun b o e ne => s4 _ _ (bt13 _ _ e ne)
    · obtain ⟨w0, wr, hw⟩ := split_cons x (sep := " ") (by decide +kernel)
      have wS := wsum_split x
      have wsm : ∀ y ∈ Txt.split x " ", Sm y := fun y hy => sm.sub (split_sub hy)
      have wl250 : ∀ y ∈ Txt.split x " ", y.length ≤ 250 := fun y hy => Nat.le_trans (split_len hy) l250
      have wne : 1 ≤ (Txt.split x " ").length := by rw [hw, List.length_cons]; omega
      refine ⟨_, rfl, ⟨_, rfl⟩, x, _, rfl, rfl, (by decide +kernel), hz (by omega), fun wl nwl => ?_⟩
      generalize Txt.split x " " = ws at wS wsm wl250 wne
      have wlen : ws.length ≤ 251 := by unfold wsum at wS; omega
      have s4 := @same_new _ _ (.lst (ws.map V.str)) nwl
      have h4 : (upd H3 wl (.lst (ws.map V.str))) wl = some (.lst (ws.map V.str)) := upd_same
      generalize upd H3 wl (.lst (ws.map V.str)) = H4 at s4 h4
      have pen4 := pen3.same s4
      have wlp : wl ≠ p := fun z => pen3.there (z ▸ nwl)
      have lm : (ws.map V.str).length = ws.length := List.length_map ..
      refine ⟨_, rfl, _, rfl, wl, _, rfl, .inl (SqL.of h4), p, c, n + 3, ((ws.map V.str).length : Int), rfl, pen4, by omega, by omega, by omega, fun r5 H5 a5 b5 pen5 bt5 => ?_⟩
      rw [lm] at b5
      have h5 := bt5 _ _ h4 wlp
      obtain ⟨yv, hyv, myv⟩ := at_neg75 (xs := ws.map V.str) a5 (by rw [lm]; exact b5)
      obtain ⟨yo, myo, rfl⟩ := List.mem_map.mp myv
      refine ⟨"9", 61, rfl, rfl, mulok61, (by show 16 ≤ sizeLine; decide), fun l1 nl1 => ?_⟩
      have s6 := @same_new _ _ (.lst [V.str "00", .str "07", .str "-0", .str "+1", .str "", .str "0", .str "-1", .str "99", .str "100", .str "9999", .str "10000", .str (Txt.mul "9" 61), .str "abcdefghi", .str "a", .str "A", .str "-"]) nl1
      have hl1 := @upd_same H5 l1 (.lst [V.str "00", .str "07", .str "-0", .str "+1", .str "", .str "0", .str "-1", .str "99", .str "100", .str "9999", .str "10000", .str (Txt.mul "9" 61), .str "abcdefghi", .str "a", .str "A", .str "-"])
      have h6 := s6 _ _ h5
      refine ⟨_, rfl, _, rfl, _, rfl, r5, 1, rfl, rfl, wl, _, r5 - 1, _, rfl, rfl, SqL.of h6, hyv, (by show 9 ≤ sizeLine; decide), fun l2 nl2 => ?_⟩
      have s7 := @same_new _ _ (.lst [V.str "some", .str "enter", .str "back", .str "close", .str "up", .str "refuse", .str "Up", .str "none", .str yo]) nl2
      refine ⟨l1, l2, _, _, rfl, rfl, s7 _ _ hl1, upd_same, (by show 16 + 9 ≤ sizeLine; decide), fun l3 nl3 => ?_⟩
      have s8 := @same_new _ _ (.lst ([V.str "00", .str "07", .str "-0", .str "+1", .str "", .str "0", .str "-1", .str "99", .str "100", .str "9999", .str "10000", .str (Txt.mul "9" 61), .str "abcdefghi", .str "a", .str "A", .str "-"] ++ [V.str "some", .str "enter", .str "back", .str "close", .str "up", .str "refuse", .str "Up", .str "none", .str yo])) nl3
      have s58 := s6.trans (s7.trans s8)
      have hl3 : (upd (upd (upd H5 l1 (.lst [V.str "00", .str "07", .str "-0", .str "+1", .str "", .str "0", .str "-1", .str "99", .str "100", .str "9999", .str "10000", .str (Txt.mul "9" 61), .str "abcdefghi", .str "a", .str "A", .str "-"])) l2 (.lst [V.str "some", .str "enter", .str "back", .str "close", .str "up", .str "refuse", .str "Up", .str "none", .str yo])) l3 (.lst ([V.str "00", .str "07", .str "-0", .str "+1", .str "", .str "0", .str "-1", .str "99", .str "100", .str "9999", .str "10000", .str (Txt.mul "9" 61), .str "abcdefghi", .str "a", .str "A", .str "-"] ++ [V.str "some", .str "enter", .str "back", .str "close", .str "up", .str "refuse", .str "Up", .str "none", .str yo]))) l3 = some (.lst ((oth75 yo).map V.str)) := upd_same
      generalize upd (upd (upd H5 l1 _) l2 _) l3 _ = H8 at s58 hl3 ⊢
      have h8 := s58 _ _ h5
      have pen8 := pen5.same s58
      have nep : ∀ {a : Addr} {xs : List V}, H8 a = some (.lst xs) → a ≠ p := fun {a xs} h z => by
        obtain ⟨kvs, _, _, _, g1, _⟩ := pen8.ex
        rw [z, g1] at h
        cases h
      have l3p := nep hl3
      have wlp8 := nep h8
      have lo : ((oth75 yo).map V.str).length = 25 := by rw [List.length_map]; rfl
      refine ⟨_, rfl, _, rfl, _, rfl, l3, _, rfl, .inl (SqL.of hl3), p, c, n + 4, (((oth75 yo).map V.str).length : Int), rfl, pen8, by omega, by omega, by omega, fun r6 H9 a6 b6 pen9 bt9 => ?_⟩
      have hl9 := bt9 _ _ hl3 l3p
      have h9 := bt9 _ _ h8 wlp8
      obtain ⟨nv, hnv, mnv⟩ := at_ex75 (xs := (oth75 yo).map V.str) a6 b6
      obtain ⟨nw, mnw, rfl⟩ := List.mem_map.mp mnv
      obtain ⟨nwl, nws⟩ := oth75_ok (by have := wl250 yo myo; omega) (wsm yo myo) mnw
      refine ⟨l3, _, r6, _, rfl, rfl, SqL.of hl9, hnv, ?_⟩
      obtain ⟨k, rfl⟩ : ∃ k : Nat, r5 = (k : Int) := ⟨r5.toNat, by omega⟩
      have g1 := List.length_take_le k ws
      refine sl_to rfl rfl h9 fun q1 H10 s10 e1 => ?_
      refine sl_from1 rfl rfl (s10 _ _ h9) fun q2 H11 s11 e2 => ?_
      refine cat_strs (s11 _ _ e1) e2 (by rw [List.length_take, List.length_drop]; omega) fun q3 H12 s12 e3 => ?_
      have s912 := s10.trans (s11.trans s12)
      refine sl_to1 rfl rfl (s912 _ _ h9) fun q4 H13 s13 e4 => ?_
      refine sl_from rfl rfl (s13 _ _ (s912 _ _ h9)) fun q5 H14 s14 e5 => ?_
      refine cat_strs (s14 _ _ e4) e5 (by rw [List.length_take, List.length_drop]; omega) fun q6 H15 s15 e6 => ?_
      have s1215 := s13.trans (s14.trans s15)
      have s915 := s912.trans s1215
      refine sl_to rfl rfl (s915 _ _ h9) fun q7 H16 s16 e7 => ?_
      refine lst_one rfl fun q8 H17 s17 e8 => ?_
      refine cat_strs (s17 _ _ e7) e8 (by rw [List.length_take, List.length_singleton]; omega) fun q9 H18 s18 e9 => ?_
      have s1518 := s16.trans (s17.trans s18)
      refine sl_from rfl rfl (s1518 _ _ (s915 _ _ h9)) fun q10 H19 s19 e10 => ?_
      refine cat_strs (s19 _ _ e9) e10 (by rw [List.length_append, List.length_take, List.length_drop, List.length_singleton]; omega) fun q11 H20 s20 e11 => ?_
      have s1520 := s1518.trans (s19.trans s20)
      have s920 := s915.trans s1520
      refine ⟨(by show 3 ≤ sizeLine; decide), fun bl nbl => ?_⟩
      have s21 := @same_new _ _ (.lst [V.ref q3, .ref q6, .ref q11]) nbl
      have hb := @upd_same H20 bl (.lst [V.ref q3, .ref q6, .ref q11])
      generalize upd H20 bl (.lst [V.ref q3, .ref q6, .ref q11]) = H21 at s21 hb ⊢
      have s921 := s920.trans s21
      refine ⟨_, rfl, .inl ⟨rfl, _, SqL.of hb⟩, ?_⟩
      refine sl_to rfl rfl (s921 _ _ h9) fun q12 H22 s22 e12 => ?_
      refine lst_one rfl fun q13 H23 s23 e13 => ?_
      refine cat_strs (s23 _ _ e12) e13 (by rw [List.length_take, List.length_singleton]; omega) fun q14 H24 s24 e14 => ?_
      have s2124 := s22.trans (s23.trans s24)
      refine sl_from1 rfl rfl (s2124 _ _ (s921 _ _ h9)) fun q15 H25 s25 e15 => ?_
      refine cat_strs (s25 _ _ e14) e15 (by rw [List.length_append, List.length_take, List.length_drop, List.length_singleton]; omega) fun q16 H26 s26 e16 => ?_
      have s2126 := s2124.trans (s25.trans s26)
      have hb26 := s2126 _ _ hb
      refine ⟨bl, _, _, rfl, rfl, hb26, (by show 3 < sizeLine; decide), ?_⟩
      have keep : ∀ {a : Addr} {xs : List Str}, H26 a = some (.lst (xs.map V.str)) → (upd H26 bl (.lst ([V.ref q3, .ref q6, .ref q11] ++ [V.ref q16]))) a = some (.lst (xs.map V.str)) := fun {a xs} e => (upd_ne (fun z => by
        rw [z, hb26] at e
        cases xs with
        | nil => exact nomatch (HO.lst.inj (Option.some.inj e))
        | cons y r => exact V.noConfusion (List.cons.inj (HO.lst.inj (Option.some.inj e))).1)).trans e
      have k3 := keep (s2126 _ _ (s21 _ _ (s1520 _ _ (s1215 _ _ e3))))
      have k6 := keep (s2126 _ _ (s21 _ _ (s1520 _ _ e6)))
      have k11 := keep (s2126 _ _ (s21 _ _ e11))
      have k16 := keep e16
      have hbn := @upd_same H26 bl (.lst ([V.ref q3, .ref q6, .ref q11] ++ [V.ref q16]))
      have nbl9 : H9 bl = none := s920.free nbl
      have blp : bl ≠ p := fun z => pen9.there (z ▸ nbl9)
      have fin : But p H9 (upd H26 bl (.lst ([V.ref q3, .ref q6, .ref q11] ++ [V.ref q16]))) ∧ PenAt (upd H26 bl (.lst ([V.ref q3, .ref q6, .ref q11] ++ [V.ref q16]))) p c (n + 4 + 1) := by
        have st : Same H9 (upd H26 bl (.lst ([V.ref q3, .ref q6, .ref q11] ++ [V.ref q16]))) := fun b o e => (upd_ne (ne_of_none e nbl9)).trans (s2126 _ _ (s921 _ _ e))
        exact ⟨fun b o e _ => st _ _ e, pen9.same st⟩
      generalize upd H26 bl (.lst ([V.ref q3, .ref q6, .ref q11] ++ [V.ref q16])) = H27 at k3 k6 k11 k16 hbn fin ⊢
      have z4 : 4 ≤ r1 := by
        have := of_decide_eq_false (Bool.eq_false_iff.mpr z)
        omega
      obtain ⟨v, hv, mv⟩ := at_ex75 (xs := [V.ref q3, .ref q6, .ref q11] ++ [V.ref q16]) (r := r1 - 4) (by omega) (by show r1 - 4 < 4; omega)
      have w1 := wsum_take k ws
      have w2 := wsum_drop k ws
      have w3 := wsum_take (k + 1) ws
      have w4 := wsum_drop (k + 1) ws
      have sT : ∀ k, ∀ y ∈ ws.take k, Sm y := fun k y hy => wsm y (List.mem_of_mem_take hy)
      have sD : ∀ k, ∀ y ∈ ws.drop k, Sm y := fun k y hy => wsm y (List.mem_of_mem_drop hy)
      have sN : ∀ y ∈ [nw], Sm y := fun y hy => by rw [List.mem_singleton.mp hy]; exact nws
      have sA : ∀ {a b : List Str}, (∀ y ∈ a, Sm y) → (∀ y ∈ b, Sm y) → ∀ y ∈ a ++ b, Sm y := fun ha hb y hy => (List.mem_append.mp hy).elim (ha y) (hb y)
      obtain ⟨q, ys, rfl, hq, wy, sy⟩ : ∃ (q : Addr) (ys : List Str), v = .ref q ∧ H27 q = some (.lst (ys.map V.str)) ∧ wsum ys ≤ 850 ∧ ∀ y ∈ ys, Sm y := by
        simp only [List.mem_append, List.mem_cons, List.not_mem_nil, or_false] at mv
        rcases mv with (rfl | rfl | rfl) | rfl
        · exact ⟨_, _, rfl, k3, by rw [wsum_app]; omega, sA (sT _) (sD _)⟩
        · exact ⟨_, _, rfl, k6, by rw [wsum_app]; omega, sA (sT _) (sD _)⟩
        · exact ⟨_, _, rfl, k11, by rw [wsum_app, wsum_app, wsum_one]; omega, sA (sA (sT _) sN) (sD _)⟩
        · exact ⟨_, _, rfl, k16, by rw [wsum_app, wsum_app, wsum_one]; omega, sA (sA (sT _) sN) (sD _)⟩
      refine ⟨⟨_, rfl⟩, _, rfl, _, rfl, r1, 4, rfl, rfl, bl, _, r1 - 4, _, rfl, rfl, SqL.of hbn, hv, " ", q, ys, rfl, rfl, .inl (SqL.of hq), ?_, ?_⟩
      · rw [bl1]
        unfold wsum at wy
        omega
      · have jl := join_wsum ys
        exact qq _ _ (by omega) (Sm.join sy) (fin.2.mono (by omega)) fun b o e ne => fin.1 _ _ (bt9 _ _ (s58 _ _ (bt5 _ _ (s4 _ _ (bt13 _ _ e ne)) ne)) ne) ne
end
/-! ### guards, tables of lambdas -/
theorem okG_of {P : Program} {w : World} {K : PySem.W.Frag} {mg : Str → Option Value} {base : Heap} {x qual : Str} {st : Stmt} {f : Addr} {N ps : List Str} {k : Nat} {sp : Sp} {oc kV doc pm cdv ct : Value} {od an : Option Addr} {osl : Array (Option Value)}
    (lk : K.lookup f = some ⟨oc, od, .func (PySem.W.fnOf x qual (defArgs st) (defBody st) (defScope st) .none kV doc pm an cdv ct), osl⟩) (hcd : PySem.W.codeIn K cdv qual = true) (S : FnScope N ps (defScope st)) (many : ∀ vs H Q E, sp vs H Q E → vs.length = ps.length)
    (body : ∀ (B : Around) (fs : List Env) (s : Shared) (H : Hp) (vs : List V) (Q : VK) (E : XK), B.guards = some [] → Room k (B.deeper (envOfC qual (defScope st) s.heap.objs.size f cdv)) → sp vs H Q E →
      ∃ t, PSs (cxOf CX0 P w K mg base N qual (defScope st) f cdv B fs s H E).nox (defBody st) t ∧ t { nx := fun _ H' => Q .non H', rt := Q } (start N vs) H) : FnG P w K mg base (k + 1) f (PySem.W.fnOf x qual (defArgs st) (defBody st) (defScope st) .none kV doc pm an cdv ct) ps sp := by
  refine ⟨many, fun B fs s H as us vs Q E hg hr e0 hb r hsp => ?_⟩
  have old : ∀ b o, base.get? b = some o → s.heap.get? b = some o := fun b o e => (e0.bs b o e).1
  have KX := e0.mod.kin.keeps old
  obtain ⟨t, pt, ht⟩ := body B fs s H vs Q E hg (hr.deeper _) hsp
  refine codeAny_call_function hr.depth (KX _ _ lk) rfl S.co S.gen rfl (PySem.W.codeRec_of KX hcd) (hb _ _ _ _ ?_)
  refine wpAny_newFunctionEnv_cells S.kind ?_ ?_
  · rintro ⟨n, v⟩ hy
    have hn := (List.of_mem_zip hy).1
    exact (S.par n hn).imp id fun q => ⟨q, PySem.W.cellsFrom_some _ _ _ (.inl q)⟩
  · rintro env rfl s1 x
    have I := inv_start (CX := CX0) (E := E) S hr.hd e0 (many _ _ _ _ hsp) r x
    refine ⟨(e0.mod.nolimit.keeps old).keeps x.toInCall.keep, codeAny_func (wpAny_mono (pt.nox.run [] s1 _ H _ I ht) ?_ fun e s' hs => hs)⟩
    rintro fl s' hs
    cases fl with
    | ret u =>
      obtain ⟨v, σ', H', J, rv, q⟩ := hs
      exact ⟨v, H', J.os, J.bare, J.base, J.hok, rv, q⟩
    | next =>
      obtain ⟨σ', H', J, q⟩ := hs
      exact ⟨.non, H', J.os, J.bare, J.base, J.hok, rfl, q⟩
    | brk =>
      obtain ⟨_, _, _, q⟩ := hs
      exact False.elim q
    | cont =>
      obtain ⟨_, _, _, q⟩ := hs
      exact False.elim q
structure DefG (P : Program) (w : World) (K : PySem.W.Frag) (mg : Str → Option Value) (base : Heap) (x : Str) (k : Nat) (f : Addr) (fd : FuncData) (ps : List Str) (sp : Sp) : Prop where
  ok : FnG P w K mg base k f fd ps sp
  g : mg x = some (.ref f)
  kp : PySem.W.keepIn K (.ref f) = true
  b : Binds K fd ps []
theorem tabS_g {H : Hp} {Pt : Addr} {q : Str} (h : LamX.TabS H Pt q) : GxR.TabG H Pt := by
  obtain ⟨ps, h1, h2, _⟩ := h
  exact ⟨ps, h1, h2⟩
/-! ### one text, right -/
theorem short_lit {y : Str} (h1 : y.cps.toList.all (fun c => decide (c < 16 ^ 8)) = true) (h2 : y.cps.size ≤ 8) : Short (.str y) 8 0 := ⟨rfl, rfl, h1, h2, Nat.zero_le _⟩
theorem short_fine {e : Ent} (f : e.Fine) : Short (entD e) 70 1 := by
  have l7 := vals_len10 e
  refine short_tup (n := 8) (k := 0) (fun d hd => ?_) (by rw [List.length_map]; omega)
  obtain ⟨v, hv, rfl⟩ := List.mem_map.mp hd
  rcases fine_parts f v hv with ⟨y, rfl, h⟩ | ⟨i, rfl, h0, h1⟩
  · refine short_str ?_
    rcases h with h | h | h
    · exact .inr (.inl h)
    · exact .inl h
    · exact .inr (.inr h)
  · exact short_int h0 h1
theorem short_row {r : Rw} (h : RwOk r) : Short (rowD r) 200 2 := by
  cases r with
  | enter e =>
    refine short_tup (n := 70) (k := 1) (fun d hd => ?_) (by show 2 * 71 ≤ 200; decide)
    simp only [List.mem_cons, List.not_mem_nil, or_false] at hd
    rcases hd with rfl | rfl
    · exact (short_lit (by decide +kernel) (by decide +kernel)).mono (by decide) (by decide)
    · exact short_fine h
  | back n =>
    refine (short_tup (n := 8) (k := 0) (m := 200) (fun d hd => ?_) (by show 2 * 9 ≤ 200; decide)).mono (by decide) (by decide)
    simp only [List.mem_cons, List.not_mem_nil, or_false] at hd
    rcases hd with rfl | rfl
    · exact short_lit (by decide +kernel) (by decide +kernel)
    · exact short_str (.inl h)
  | close d m =>
    obtain ⟨h0, h9, hm⟩ := h
    refine (short_tup (n := 8) (k := 0) (m := 200) (fun d' hd => ?_) (by show 3 * 9 ≤ 200; decide)).mono (by decide) (by decide)
    simp only [List.mem_cons, List.not_mem_nil, or_false] at hd
    rcases hd with rfl | rfl | rfl
    · exact short_lit (by decide +kernel) (by decide +kernel)
    · exact short_int h0 (by omega)
    · have all : ∀ y ∈ modes2, y.cps.toList.all (fun c => decide (c < 16 ^ 8)) = true ∧ y.cps.size ≤ 8 := by decide +kernel
      exact short_lit (all m hm).1 (all m hm).2
theorem RwAt.dp {K : PySem.W.Frag} {H : Hp} {t : Addr} {r : Rw} (h : RwAt H t r) : Dp K H (.ref t) (rowD r) := by
  cases r with
  | enter e =>
    obtain ⟨tp, h1, h2⟩ := h
    exact .tup (SqT.of h1) (.cons (.str _) (.cons (dp_ent h2) .nil))
  | back n => exact .tup (SqT.of h) (.cons (.str _) (.cons (.str _) .nil))
  | close d m => exact .tup (SqT.of h) (.cons (.str _) (.cons (.int _) (.cons (.str _) .nil)))
theorem TB1.lam {Ts : List Addr} {Pt : Addr} {q : Str} {H H' : Hp} (n : Pt ∉ Ts) (g : TabsG Ts H) (h : LamX.TabS H Pt q) (d : LamD Pt q H H') : TB1 (Pt :: Ts) H H' := by
  refine ⟨fun T hT => ?_, fun a o e nt => d.kp a o (fun z => ?_) e, d.free, fun a o e na => d.kp a o (fun z => na (z ▸ List.mem_cons_self)) e⟩
  · rcases List.mem_cons.mp hT with rfl | hT
    · exact tabS_g d.tab
    · obtain ⟨ps, e, ok⟩ := g T hT
      exact ⟨ps, d.kp _ _ (fun z => n (z ▸ hT)) e, ok⟩
  · obtain ⟨ps, e', _⟩ := h
    rw [z, e'] at e
    exact nt ps (Option.some.inj e).symm
theorem TB1.tabS {Ts : List Addr} {H H' : Hp} {Pt : Addr} {q : Str} (t : TB1 Ts H H') (nt : Pt ∉ Ts) (h : LamX.TabS H Pt q) : LamX.TabS H' Pt q := by
  obtain ⟨ps, h1, h2, h3⟩ := h
  exact ⟨ps, t.oth _ _ h1 nt, h2, fun at' cv e => by
    obtain ⟨c, e1, e2⟩ := h3 at' cv e
    exact ⟨c, e1, t.kp _ _ e2 LamX.codeO_ne⟩⟩
theorem TB1.up {Ts : List Addr} {Pt : Addr} {H H' : Hp} (t : TB1 Ts H H') (g : GxR.TabG H' Pt) : TB1 (Pt :: Ts) H H' :=
  ⟨fun T hT => by
    rcases List.mem_cons.mp hT with rfl | hT
    · exact g
    · exact t.tg T hT, t.kp, t.free, fun a o e na => t.oth a o e fun z => na (List.mem_cons_of_mem _ z)⟩
theorem TabsG.tl {Ts : List Addr} {Pt : Addr} {H : Hp} (g : TabsG (Pt :: Ts) H) : TabsG Ts H := fun T hT => g T (List.mem_cons_of_mem _ hT)
/-- all that a def needs that asks by a lambda what is refused -/
structure RefD (P : Program) (w : World) (K : PySem.W.Frag) (mg : Str → Option Value) (base : Heap) (O : O75) (C CE f : Addr) (oc kV doc pm cdv ct : Value) (od an : Option Addr) (osl : Array (Option Value)) : Prop where
  lk : K.lookup f = some ⟨oc, od, .func (PySem.W.fnOf "_law_refused" "_law_refused" (defArgs sRefused) (defBody sRefused) (defScope sRefused) .none kV doc pm an cdv ct), osl⟩
  cd : PySem.W.codeIn K cdv "_law_refused" = true
  g : mg "_law_refused" = some (.ref f)
  kp : PySem.W.keepIn K (.ref f) = true
  b : Binds K (PySem.W.fnOf "_law_refused" "_law_refused" (defArgs sRefused) (defBody sRefused) (defScope sRefused) .none kV doc pm an cdv ct) ["_law_ask"] []
  G : G75 mg O C CE
  D : C75 K O C CE
abbrev qRow : Str := (("_law_row_right" : Str) ++ ".<locals>.") ++ "<lambda>"
abbrev qEnt : Str := (("_law_entry_right" : Str) ++ ".<locals>.") ++ "<lambda>"
def spRight (q : Str) (Ts : List Addr) (Pt : Addr) : Sp := fun vs H Q _ => ∃ x : Str, vs = [.str x] ∧ x.length ≤ 900 ∧ PyData.strOk x = true ∧ TabsG Ts H ∧ LamX.TabS H Pt q ∧ ∀ H', TB1 (Pt :: Ts) H H' → LamX.TabS H' Pt q → Q (.bl true) H'
section
variable {P : Program} {w : World} {K : PySem.W.Frag} {mg : Str → Option Value} {base : Heap}
abbrev sRowRightN : List Str := ["_law_text", "_law_due"]
theorem sc_sRowRight : FnScope sRowRightN ["_law_text"] (defScope sRowRight) := ⟨rfl, rfl, rfl, by decide +kernel, rfl, by decide +kernel, by decide +kernel⟩
set_option maxHeartbeats 2000000 in
theorem ok_rowRight {f cR Pt fA fL fT fR C CE : Addr} {dL dT dR : FuncData} {Ts : List Addr} {O : O75} {oc kV doc pm ct oc' kV' doc' pm' cdv' ct' : Value} {od an od' an' : Option Addr} {osl osl' : Array (Option Value)}
    (lk : K.lookup f = some ⟨oc, od, .func (PySem.W.fnOf "_law_row_right" "_law_row_right" (defArgs sRowRight) (defBody sRowRight) (defScope sRowRight) .none kV doc pm an (.ref cR) ct), osl⟩) (cdI : PySem.W.codeIn K (.ref cR) "_law_row_right" = true)
    (TBL : LamX.TabB base mg cR Pt) (nPt : Pt ∉ Ts) (RF : RefD P w K mg base O C CE fA oc' kV' doc' pm' cdv' ct' od' an' osl') (LR : DefT P w K mg base "_law_row_in" 5 fL dL ["_law_text"] spLRowIn) (RT : DefT P w K mg base "row_text" 3 fT dT ["row"] (spRowText Ts))
    (RX : DefX P w K mg base "read_row" 7 fR dR ["text"] (spReadRow K Ts C)) (RR : DefT P w K mg base "read_row" 7 fR dR ["text"] (fun vs H Q _ => spReadRow K Ts C vs H Q (fun _ _ _ => False)))
    (mp : mg "repr" = none) (mis : mg "isinstance" = none) (mT_int : mg "int" = none) (mv : mg "ValueError" = none) : 
    FnG P w K mg base 10 f (PySem.W.fnOf "_law_row_right" "_law_row_right" (defArgs sRowRight) (defBody sRowRight) (defScope sRowRight) .none kV doc pm an (.ref cR) ct) ["_law_text"] (spRight qRow Ts Pt) := by
  refine okG_of lk cdI sc_sRowRight (fun vs H Q E h => ?_) (fun B outer s H vs Q E hG hr h => ?_)
  · obtain ⟨x, rfl, _⟩ := h
    rfl
  · obtain ⟨x, rfl, l9, so, tg, tl, q⟩ := h
    have eu : ∀ {n : Nat}, n + 64 < cLine → n < cLine := fun h => by omega
    have nd := sc_sRowRight.nd
    have hr3 : Room 3 _ := hr.mono (by decide)
    have hr5 : Room 5 _ := hr.mono (by decide)
    refine ⟨_, pss_cons (ps_set (i := 1) nd rfl (Or.inl rfl) (pe_call LR.ok hr5 (by rfl) LR.g LR.kp LR.b .nil pass0 (pa_cons (pv 0) pa_nil)))
      (pss_cons (ps_if (pt_cmpR (op_eqNil (eu hr.units)) (pv 1) (pe_lst pa_nil) (nomark _)) (pss_one (ps_ret (pe_capcallR (k := 7) (t := fun E2 => tCallS (spReadRow K Ts C) (fun _ => E2) (tCons (tVar 0) tNil))  (by rfl) RF.g RF.kp RF.lk RF.cd RF.b sc_sRefused rfl (.inl rfl) (refused_gives RF.G RF.D mis mT_int mv mp) TBL rfl hr (LamX.lamS_by (sc := defScope sRowRight) (by decide +kernel)) rfl (by intros; rfl) (fun A2 outer2 z2 G2 E2 f2 cc2 hrL => (pe_callS RX.ok (hrL.mono (by decide)) (by rfl) RX.g RX.kp RX.b (fun σ => passAt (takes_of rfl rfl rfl rfl) σ) (pa_cons (pv 0) pa_nil)))))) pss_nil)
      (pss_one (ps_ret (pe_and (pe_cmpR op_eq (pe_callB (cr_repr hG hr.units) (by rfl) mp (by decide +kernel) (pa_cons (pe_call RR.ok (hr.mono (by decide)) (by rfl) RR.g RR.kp RR.b .nil pass0 (pa_cons (pv 0) pa_nil)) pa_nil)) (pe_callB (cr_repr hG hr.units) (by rfl) mp (by decide +kernel) (pa_cons (pe_ix ix_list (pv 1) pe_int (fun _ _ => rfl)) pa_nil)) (nomark _)) (pe_one (pe_cmpR op_eq (pe_call RT.ok hr3 (by rfl) RT.g RT.kp RT.b .nil pass0 (pa_cons (pe_ix ix_list (pv 1) pe_int (fun _ _ => rfl)) pa_nil)) (pv 0) (nomark _))))))), ?_⟩
    have tb0 : ∀ {H' : Hp}, Same H H' → TB1 Ts H H' := fun s => .same tg s
    have fin : ∀ {H' : Hp}, TB1 Ts H H' → Q (.bl true) H' := fun {H'} b => q H' (b.up (tabS_g (b.tabS nPt tl))) (b.tabS nPt tl)
    refine ⟨_, rfl, x, rfl, l9, so, fun r hr' hx l t H1 s1 hl rt => ?_, fun no l H1 s1 hl => ?_⟩
    · refine ⟨_, rfl, (by show 0 ≤ sizeLine; decide), fun L nL => ?_⟩
      have s2 := @same_new _ _ (.lst []) nL
      have hL := @upd_same H1 L (.lst [])
      have hl2 := s2 _ _ hl
      have rt2 : RwAt (upd H1 L (.lst [])) t r := rt.on (TK.of s2)
      generalize upd H1 L (.lst []) = H2 at s2 hL hl2 rt2 ⊢
      have b2 := tb0 (s1.trans s2)
      refine ⟨l, L, _, rfl, rfl, SqL.of hl2, SqL.of hL, false, rfl, iteF ?_⟩
      refine ⟨_, rfl, .str x, rfl, b2.1, .inl ⟨x, rfl, l9, fun r' ok' hx' t' H3 b3 rt' => ?_, fun no _ _ _ _ => no r hr' hx⟩⟩
      have sh := short_row hr'
      have sh' := short_row ok'
      have b23 := b2.tr b3
      refine ⟨t', _, rfl, rt'.dp, sh'.sh, sh'.nd, Nat.le_trans sh'.dp (by decide), sh'.fits (by decide), _, rfl, l, _, 0, _, rfl, rfl, SqL.of (b3.lst hl2), atI_nat (j := 0) rfl, t, _, rfl, (rt2.on b3.tk).dp, sh.sh, sh.nd, Nat.le_trans sh.dp (by decide), sh.fits (by decide), rfl, ?_⟩
      rw [row_inj ok' hr' (hx'.symm.trans hx), decide_eq_true rfl]
      refine ⟨true, rfl, iteT ⟨_, rfl, l, _, 0, _, rfl, rfl, SqL.of (b3.lst hl2), atI_nat (j := 0) rfl, t, r, rfl, hr', rt2.on b3.tk, b23.1, fun H4 b4 => ⟨_, rfl, rfl, ?_⟩⟩⟩
      rw [decide_eq_true (congrArg V.str hx.symm)]
      exact fin (b23.tr b4)
    · refine ⟨_, rfl, (by show 0 ≤ sizeLine; decide), fun L nL => ?_⟩
      have s2 := @same_new _ _ (.lst []) nL
      have hL := @upd_same H1 L (.lst [])
      have hl2 := s2 _ _ hl
      generalize upd H1 L (.lst []) = H2 at s2 hL hl2 ⊢
      have b2 := tb0 (s1.trans s2)
      refine ⟨l, L, _, rfl, rfl, SqL.of hl2, SqL.of hL, true, rfl, iteT ?_⟩
      have tl2 := b2.tabS nPt tl
      refine ⟨tl2, fun G1 D W => ?_⟩
      have bL := TB1.lam nPt b2.1 tl2 D
      refine ⟨_, rfl, .str x, rfl, bL.1.tl, .inl ⟨x, rfl, l9, fun r' ok' hx' => absurd hx' (no r' ok'), fun _ d H3 b3 hd => ⟨rfl, d, rfl, hd, fun H4 s4 => ?_⟩⟩⟩
      have t3 := b3.tabS nPt D.tab
      have b34 : TB1 Ts H3 H4 := .same b3.1 s4
      have t4 := b34.tabS nPt t3
      have up2 : TB1 (Pt :: Ts) H H2 := b2.up (tabS_g tl2)
      exact q H4 (((up2.tr bL).tr (b3.up (tabS_g t3))).tr (b34.up (tabS_g t4))) t4
theorem ent_injD {e f : Ent} (he : e.Fine) (hf : f.Fine) (h : entT e = entT f) : entD e = entD f := by
  unfold entD
  rw [ent_inj he hf h]
abbrev sEntryRightN : List Str := ["_law_text", "_law_due"]
theorem sc_sEntryRight : FnScope sEntryRightN ["_law_text"] (defScope sEntryRight) := ⟨rfl, rfl, rfl, by decide +kernel, rfl, by decide +kernel, by decide +kernel⟩
set_option maxHeartbeats 2000000 in
theorem ok_entRight {f cR Pt fA fL fT fR C CE : Addr} {dL dT dR : FuncData} {Ts : List Addr} {O : O75} {oc kV doc pm ct oc' kV' doc' pm' cdv' ct' : Value} {od an od' an' : Option Addr} {osl osl' : Array (Option Value)}
    (lk : K.lookup f = some ⟨oc, od, .func (PySem.W.fnOf "_law_entry_right" "_law_entry_right" (defArgs sEntryRight) (defBody sEntryRight) (defScope sEntryRight) .none kV doc pm an (.ref cR) ct), osl⟩) (cdI : PySem.W.codeIn K (.ref cR) "_law_entry_right" = true)
    (TBL : LamX.TabB base mg cR Pt) (nPt : Pt ∉ Ts) (RF : RefD P w K mg base O C CE fA oc' kV' doc' pm' cdv' ct' od' an' osl') (LR : DefT P w K mg base "_law_entry_in" 4 fL dL ["_law_line_here"] spLEntryIn) (RT : DefT P w K mg base "entry_text" 2 fT dT ["entry"] (spEntryText Ts))
    (RX : DefX P w K mg base "read_entry" 6 fR dR ["text"] (spReadEnt K Ts C)) (RR : DefT P w K mg base "read_entry" 6 fR dR ["text"] (fun vs H Q _ => spReadEnt K Ts C vs H Q (fun _ _ _ => False)))
    (mp : mg "repr" = none) (mis : mg "isinstance" = none) (mT_int : mg "int" = none) (mv : mg "ValueError" = none) : 
    FnG P w K mg base 9 f (PySem.W.fnOf "_law_entry_right" "_law_entry_right" (defArgs sEntryRight) (defBody sEntryRight) (defScope sEntryRight) .none kV doc pm an (.ref cR) ct) ["_law_text"] (spRight qEnt Ts Pt) := by
  refine okG_of lk cdI sc_sEntryRight (fun vs H Q E h => ?_) (fun B outer s H vs Q E hG hr h => ?_)
  · obtain ⟨x, rfl, _⟩ := h
    rfl
  · obtain ⟨x, rfl, l9, so, tg, tl, q⟩ := h
    have eu : ∀ {n : Nat}, n + 64 < cLine → n < cLine := fun h => by omega
    have nd := sc_sEntryRight.nd
    have hr2 : Room 2 _ := hr.mono (by decide)
    have hr4 : Room 4 _ := hr.mono (by decide)
    refine ⟨_, pss_cons (ps_set (i := 1) nd rfl (Or.inl rfl) (pe_call LR.ok hr4 (by rfl) LR.g LR.kp LR.b .nil pass0 (pa_cons (pv 0) pa_nil)))
      (pss_cons (ps_if (pt_cmpR (op_eqNil (eu hr.units)) (pv 1) (pe_lst pa_nil) (nomark _)) (pss_one (ps_ret (pe_capcallR (k := 6) (t := fun E2 => tCallS (spReadEnt K Ts C) (fun _ => E2) (tCons (tVar 0) tNil))  (by rfl) RF.g RF.kp RF.lk RF.cd RF.b sc_sRefused rfl (.inl rfl) (refused_gives RF.G RF.D mis mT_int mv mp) TBL rfl hr (LamX.lamS_by (sc := defScope sEntryRight) (by decide +kernel)) rfl (by intros; rfl) (fun A2 outer2 z2 G2 E2 f2 cc2 hrL => (pe_callS RX.ok (hrL.mono (by decide)) (by rfl) RX.g RX.kp RX.b (fun σ => passAt (takes_of rfl rfl rfl rfl) σ) (pa_cons (pv 0) pa_nil)))))) pss_nil)
      (pss_one (ps_ret (pe_and (pe_cmpR op_eq (pe_callB (cr_repr hG hr.units) (by rfl) mp (by decide +kernel) (pa_cons (pe_call RR.ok (hr.mono (by decide)) (by rfl) RR.g RR.kp RR.b .nil pass0 (pa_cons (pv 0) pa_nil)) pa_nil)) (pe_callB (cr_repr hG hr.units) (by rfl) mp (by decide +kernel) (pa_cons (pe_ix ix_list (pv 1) pe_int (fun _ _ => rfl)) pa_nil)) (nomark _)) (pe_one (pe_cmpR op_eq (pe_call RT.ok hr2 (by rfl) RT.g RT.kp RT.b .nil pass0 (pa_cons (pe_ix ix_list (pv 1) pe_int (fun _ _ => rfl)) pa_nil)) (pv 0) (nomark _))))))), ?_⟩
    have tb0 : ∀ {H' : Hp}, Same H H' → TB1 Ts H H' := fun s => .same tg s
    have fin : ∀ {H' : Hp}, TB1 Ts H H' → Q (.bl true) H' := fun {H'} b => q H' (b.up (tabS_g (b.tabS nPt tl))) (b.tabS nPt tl)
    refine ⟨_, rfl, x, rfl, l9, so, fun r hr' hx l t H1 s1 hl rt => ?_, fun no l H1 s1 hl => ?_⟩
    · refine ⟨_, rfl, (by show 0 ≤ sizeLine; decide), fun L nL => ?_⟩
      have s2 := @same_new _ _ (.lst []) nL
      have hL := @upd_same H1 L (.lst [])
      have hl2 := s2 _ _ hl
      have rt2 : (upd H1 L (.lst [])) t = some (.tup r.vals) := s2 _ _ rt
      generalize upd H1 L (.lst []) = H2 at s2 hL hl2 rt2 ⊢
      have b2 := tb0 (s1.trans s2)
      refine ⟨l, L, _, rfl, rfl, SqL.of hl2, SqL.of hL, false, rfl, iteF ?_⟩
      refine ⟨_, rfl, .str x, rfl, b2.1, .inl ⟨x, rfl, l9, fun r' ok' hx' t' H3 b3 rt' => ?_, fun no _ _ _ _ => no r hr' hx⟩⟩
      have sh := short_fine hr'
      have sh' := short_fine ok'
      have b23 := b2.tr b3
      refine ⟨t', _, rfl, dp_ent rt', sh'.sh, sh'.nd, Nat.le_trans sh'.dp (by decide), sh'.fits (by decide), _, rfl, l, _, 0, _, rfl, rfl, SqL.of (b3.lst hl2), atI_nat (j := 0) rfl, t, _, rfl, dp_ent (b3.tk _ _ rt2), sh.sh, sh.nd, Nat.le_trans sh.dp (by decide), sh.fits (by decide), rfl, ?_⟩
      rw [ent_injD ok' hr' (hx'.symm.trans hx), decide_eq_true rfl]
      refine ⟨true, rfl, iteT ⟨_, rfl, l, _, 0, _, rfl, rfl, SqL.of (b3.lst hl2), atI_nat (j := 0) rfl, t, r.vals, rfl, b3.tk _ _ rt2, fine_parts hr', by have := vals_len10 r; omega, b23.1, fun H4 b4 => ⟨_, rfl, rfl, ?_⟩⟩⟩
      rw [decide_eq_true (show V.str (Txt.join " " (r.vals.map partT)) = V.str x from congrArg V.str hx.symm)]
      exact fin (b23.tr b4)
    · refine ⟨_, rfl, (by show 0 ≤ sizeLine; decide), fun L nL => ?_⟩
      have s2 := @same_new _ _ (.lst []) nL
      have hL := @upd_same H1 L (.lst [])
      have hl2 := s2 _ _ hl
      generalize upd H1 L (.lst []) = H2 at s2 hL hl2 ⊢
      have b2 := tb0 (s1.trans s2)
      refine ⟨l, L, _, rfl, rfl, SqL.of hl2, SqL.of hL, true, rfl, iteT ?_⟩
      have tl2 := b2.tabS nPt tl
      refine ⟨tl2, fun G1 D W => ?_⟩
      have bL := TB1.lam nPt b2.1 tl2 D
      refine ⟨_, rfl, .str x, rfl, bL.1.tl, .inl ⟨x, rfl, l9, fun r' ok' hx' => absurd hx' (no r' ok'), fun _ d H3 b3 hd => ⟨rfl, d, rfl, hd, fun H4 s4 => ?_⟩⟩⟩
      have t3 := b3.tabS nPt D.tab
      have b34 : TB1 Ts H3 H4 := .same b3.1 s4
      have t4 := b34.tabS nPt t3
      have up2 : TB1 (Pt :: Ts) H H2 := b2.up (tabS_g tl2)
      exact q H4 (((up2.tr bL).tr (b3.up (tabS_g t3))).tr (b34.up (tabS_g t4))) t4
end
/-! ### the law's rows -/
def spRows : Sp := fun vs H Q _ => ∃ (p c : Addr) (n : Nat), vs = [.ref p] ∧ PenAt H p c n ∧ n ≤ 1000 ∧
  ∀ (l : Addr) (rs : List (Addr × Rw)) (H' : Hp), H' l = some (.lst (rs.map fun x => V.ref x.1)) → rs.length = 9 → (∀ x ∈ rs, RwOk x.2 ∧ RwAt H' x.1 x.2) → PenAt H' p c (n + 400) → But p H H' → Q (.ref l) H'
theorem tk_but75 {H H' : Hp} {p c : Addr} {n : Nat} (pen : PenAt H p c n) (b : But p H H') : TK H H' := fun a xs e => by
  obtain ⟨kvs, ns', a', x', g1, _⟩ := pen.ex
  exact b a _ e (ne_of e g1 (by intro z; cases z))
theorem lst_but75 {H H' : Hp} {p c l : Addr} {n : Nat} {xs : List V} (pen : PenAt H p c n) (b : But p H H') (e : H l = some (.lst xs)) : H' l = some (.lst xs) := by
  obtain ⟨kvs, ns', a', x', g1, _⟩ := pen.ex
  exact b l _ e (ne_of e g1 (by intro z; cases z))
/-- the rows so far, one more -/
structure RsAt (p c : Addr) (n0 : Nat) (H0 H : Hp) (D : Addr) (k : Nat) (rs : List (Addr × Rw)) : Prop where
  pen : PenAt H p c n0
  bt : But p H0 H
  nD : H0 D = none
  nc : D ≠ c
  hD : H D = some (.lst (rs.map fun x => V.ref x.1))
  len : rs.length = k
  ok : ∀ x ∈ rs, RwOk x.2 ∧ RwAt H x.1 x.2
theorem RsAt.on {p c : Addr} {n0 n1 k : Nat} {H0 H H' : Hp} {D : Addr} {rs : List (Addr × Rw)} (r : RsAt p c n0 H0 H D k rs) (pen : PenAt H' p c n1) (b : But p H H') : RsAt p c n1 H0 H' D k rs :=
  ⟨pen, r.bt.tr b, r.nD, r.nc, lst_but75 r.pen b r.hD, r.len, fun x hx => ⟨(r.ok x hx).1, (r.ok x hx).2.on (tk_but75 r.pen b)⟩⟩
theorem RsAt.same {p c : Addr} {n0 k : Nat} {H0 H H' : Hp} {D : Addr} {rs : List (Addr × Rw)} (r : RsAt p c n0 H0 H D k rs) (s : Same H H') : RsAt p c n0 H0 H' D k rs := r.on (r.pen.same s) (.of s)
theorem RsAt.add {p c : Addr} {n0 k : Nat} {H0 H : Hp} {D t : Addr} {rs : List (Addr × Rw)} {x : Rw} (r : RsAt p c n0 H0 H D k rs) (ok : RwOk x) (at_ : RwAt H t x) : RsAt p c n0 H0 (upd H D (.lst ((rs.map fun x => V.ref x.1) ++ [V.ref t]))) D (k + 1) (rs ++ [(t, x)]) := by
  have tk : TK H (upd H D (.lst ((rs.map fun x => V.ref x.1) ++ [V.ref t]))) := fun a xs e => (upd_ne (fun z => by rw [z, r.hD] at e; cases e)).trans e
  have np : D ≠ p := by
    obtain ⟨kvs, ns', a', x', g1, _⟩ := r.pen.ex
    exact ne_of r.hD g1 (by intro z; cases z)
  refine ⟨r.pen.upd np r.nc, fun b o e nb => (upd_ne (ne_of_none e r.nD)).trans (r.bt b o e nb), r.nD, r.nc, ?_, by rw [List.length_append, r.len]; rfl, fun y hy => ?_⟩
  · rw [upd_same, List.map_append]
    rfl
  · rcases List.mem_append.mp hy with h | h
    · exact ⟨(r.ok y h).1, (r.ok y h).2.on tk⟩
    · rw [List.mem_singleton.mp h]
      exact ⟨ok, at_.on tk⟩
section
variable {P : Program} {w : World} {K : PySem.W.Frag} {mg : Str → Option Value} {base : Heap}
abbrev sLRowsN : List Str := ["_law_pen_here", "_law_places", "_law_goods", "_law_hands", "_law_names_here", "_law_moments_here", "_law_rows_here", "_law_k", "_law_word"]
theorem sc_sLRows : FnScope sLRowsN ["_law_pen_here"] (defScope sLRows) := ⟨rfl, rfl, rfl, by decide +kernel, rfl, by decide +kernel, by decide +kernel⟩
set_option maxHeartbeats 2000000 in
theorem ok_lrows {f fT fW fM fE : Addr} {fd dT dW dM dE : FuncData} (F : Fun K "_law_rows" "_law_rows" sLRows f fd) (T : TakeT P w K mg base fT dT)
    (WD : DefT P w K mg base "_law_words" 3 fW dW ["_law_pen_here", "_law_places", "_law_goods", "_law_entries"] spWords) (MO : DefT P w K mg base "_law_moments" 2 fM dM ["_law_pen_here", "_law_many_here"] spMoments)
    (EO : DefT P w K mg base "_law_entry_of" 3 fE dE ["_law_pen_here", "_law_word", "_law_name", "_law_moment", "_law_places", "_law_goods", "_law_hands"] spEntryOf) (mr : mg "range" = none) : FnOk P w K mg base CX0 4 f fd ["_law_pen_here"] spRows := by
  refine F.ok sc_sLRows (fun vs H Q E h => ?_) (fun cdv A outer s H vs Q E hr h => ?_)
  · obtain ⟨p, c, n, rfl, _⟩ := h
    rfl
  · obtain ⟨p, c, n, rfl, pen, hn, q⟩ := h
    have nd := sc_sLRows.nd
    have hr1 : Room 1 _ := hr.mono (by decide)
    have hr2 : Room 2 _ := hr.mono (by decide)
    refine ⟨_, pss_cons (ps_asg (pe_call WD.ok hr (by rfl) WD.g WD.kp WD.b .nil pass0 (pa_cons (pv 0) (pa_cons (pe_op op_add pe_int (pe_call T.ok hr1 (by rfl) T.g T.kp T.b .nil pass0 (pa_cons (pv 0) (pa_cons pe_int pa_nil)))) (pa_cons (pe_op op_add pe_int (pe_call T.ok hr1 (by rfl) T.g T.kp T.b .nil pass0 (pa_cons (pv 0) (pa_cons pe_int pa_nil)))) (pa_cons pe_int pa_nil))))) (pg_tup (by rfl) (pgs_cons (pg_name (i := 1) nd rfl (Or.inl rfl)) (pgs_cons (pg_name (i := 2) nd rfl (Or.inl rfl)) (pgs_cons (pg_name (i := 3) nd rfl (Or.inl rfl)) (pgs_cons (pg_name (i := 4) nd rfl (Or.inl rfl)) pgs_nil))))))
      (pss_cons (ps_set (i := 5) nd rfl (Or.inl rfl) (pe_call MO.ok hr2 (by rfl) MO.g MO.kp MO.b .nil pass0 (pa_cons (pv 0) (pa_cons pe_int pa_nil))))
      (pss_cons (ps_set (i := 6) nd rfl (Or.inl rfl) (pe_lst pa_nil))
      (pss_cons (ps_for PassesOwn.never rfl (pi_range1 rfl mr (pa_cons pe_int pa_nil)) (pg_name (i := 7) nd rfl (Or.inl rfl))
        (pss_cons (ps_set (i := 8) nd rfl (Or.inl rfl) (pe_ix ix_list (pe_lst (pa_cons pe_str (pa_cons pe_str (pa_cons pe_str (pa_cons pe_str (pa_cons pe_str (pa_cons pe_str (pa_cons pe_str pa_nil)))))))) (pv 7) (fun _ _ => rfl)))
        (pss_one (ps_expr (pe_bm PySem.F.plainAttrs_list PySem.F.slot_list_append PySem.F.type_list_append mt_append (pv 6) (pa_cons (pe_tup (pa_cons pe_str (pa_cons (pe_call EO.ok hr (by rfl) EO.g EO.kp EO.b .nil pass0 (pa_cons (pv 0) (pa_cons (pv 8) (pa_cons (pe_ix ix_list (pv 4) (pv 7) (fun _ _ => rfl)) (pa_cons (pe_ix ix_list (pv 5) (pv 7) (fun _ _ => rfl)) (pa_cons (pv 1) (pa_cons (pv 2) (pa_cons (pv 3) pa_nil)))))))) pa_nil))) pa_nil))))))
      (pss_cons (ps_expr (pe_bm PySem.F.plainAttrs_list PySem.F.slot_list_append PySem.F.type_list_append mt_append (pv 6) (pa_cons (pe_tup (pa_cons pe_str (pa_cons (pe_ix ix_list (pv 4) pe_int (fun _ _ => rfl)) pa_nil))) pa_nil)))
      (pss_cons (ps_expr (pe_bm PySem.F.plainAttrs_list PySem.F.slot_list_append PySem.F.type_list_append mt_append (pv 6) (pa_cons (pe_tup (pa_cons pe_str (pa_cons (pe_ix ix_list (pe_lst (pa_cons pe_int (pa_cons pe_int (pa_cons (pe_call T.ok hr1 (by rfl) T.g T.kp T.b .nil pass0 (pa_cons (pv 0) (pa_cons pe_int pa_nil))) pa_nil)))) (pe_call T.ok hr1 (by rfl) T.g T.kp T.b .nil pass0 (pa_cons (pv 0) (pa_cons pe_int pa_nil))) (fun _ _ => rfl)) (pa_cons (pe_ix ix_list (pe_lst (pa_cons pe_str (pa_cons pe_str pa_nil))) (pe_call T.ok hr1 (by rfl) T.g T.kp T.b .nil pass0 (pa_cons (pv 0) (pa_cons pe_int pa_nil))) (fun _ _ => rfl)) pa_nil)))) pa_nil)))
      (pss_one (ps_ret (pv 6)))))))), ?_⟩
    refine ⟨_, rfl, _, rfl, p, c, n, 6, rfl, pen, by omega, by decide, by decide, fun r1 H2 b1 d1 pen2 bt2 => ?_⟩
    refine ⟨1, r1, rfl, rfl, _, rfl, p, c, n + 1, 3, rfl, pen2, by omega, by decide, by decide, fun r2 H3 b2 d2 pen3 bt3 => ?_⟩
    refine ⟨1, r2, rfl, rfl, p, c, n + 2, (1 + r1).toNat, (1 + r2).toNat, 8, ?_, pen3, by omega, by omega, by omega, by omega, fun tp l1 l2 l3 l4 PL GL HL EL H4 ntp ht h1 h2 h3 h4 n1 n2 n3 n4 pen4 bt4 => ?_⟩
    · rw [Int.toNat_of_nonneg (by omega), Int.toNat_of_nonneg (by omega)]
      rfl
    refine ⟨tp, _, rfl, SqT.of ht, rfl, _, _, rfl, _, _, rfl, _, _, rfl, _, _, rfl, rfl, ?_⟩
    refine ⟨_, rfl, p, c, n + 52, 7, rfl, pen4, by omega, by omega, fun l5 mos H5 nl5 h5 lm bm pen5 bt5 => ?_⟩
    have z1 : PL.length = (1 + r1).toNat := n1.len
    have z2 : GL.length = (1 + r2).toNat := n2.len
    have z3 : HL.length = 3 := n3.len
    have z4 : EL.length = 8 := n4.len
    refine ⟨(by show 0 ≤ sizeLine; decide), fun D nD => ?_⟩
    have sD := @same_new _ _ (.lst []) nD
    have bt05 : But p H H5 := bt2.tr (bt3.tr (bt4.tr bt5))
    have hDn : H D = none := by
      cases e : H D with
      | none => rfl
      | some o =>
        have := bt05 D o e fun z => pen5.there (z ▸ nD)
        rw [nD] at this
        cases this
    have R0 : RsAt p c (n + 152) H (upd H5 D (.lst [])) D 0 [] := ⟨(pen5.same sD).mono (by omega), bt05.tr (.of sD), hDn, fun z => pen5.cells (z ▸ nD), upd_same, rfl, fun y hy => nomatch hy⟩
    have k1 := sD _ _ (pen_strs pen4 bt5 h1)
    have k2 := sD _ _ (pen_strs pen4 bt5 h2)
    have k3 := sD _ _ (pen_strs pen4 bt5 h3)
    have k4 := sD _ _ (pen_strs pen4 bt5 h4)
    have k5 := sD _ _ h5
    have dl : ∀ {l : Addr} {xs : List V}, H5 l = some (.lst xs) → l ≠ D := fun h => ne_of_none h nD
    have e1 := dl (pen_strs pen4 bt5 h1)
    have e2 := dl (pen_strs pen4 bt5 h2)
    have e3 := dl (pen_strs pen4 bt5 h3)
    have e4 := dl (pen_strs pen4 bt5 h4)
    have e5 := dl h5
    generalize upd H5 D (.lst []) = H6 at R0 k1 k2 k3 k4 k5
    refine ⟨7, rfl, by decide, by decide, ?_⟩
    refine for_range (lo := 0) (n := 7) (fun i σ H' => ∃ y7 y8, σ = [some (.ref p), some (.ref l1), some (.ref l2), some (.ref l3), some (.ref l4), some (.ref l5), some (.ref D), y7, y8] ∧ H' l1 = some (.lst (PL.map V.str)) ∧ H' l2 = some (.lst (GL.map V.str)) ∧ H' l3 = some (.lst (HL.map V.str)) ∧ H' l4 = some (.lst (EL.map V.str)) ∧ H' l5 = some (.lst (mos.map V.int)) ∧ ∃ rs, RsAt p c (n + 152 + 30 * i) H H' D i rs)
      ⟨_, _, rfl, k1, k2, k3, k4, k5, [], R0⟩ ?_ ?_
    · rintro i σ H7 hi ⟨y7, y8, rfl, g1, g2, g3, g4, g5, rs, R⟩
      refine ⟨(by show 7 ≤ sizeLine; decide), fun wl nwl => ?_⟩
      obtain ⟨wv, hw, mw⟩ := at_ex75 (xs := words7.map V.str) (r := 0 + (i : Int)) (by omega) (by show 0 + (i : Int) < 7; omega)
      obtain ⟨wd, mwd, rfl⟩ := List.mem_map.mp mw
      have sw := @same_new _ _ (.lst [V.str "come", .str "go", .str "move", .str "some", .str "swap", .str "count", .str "look"]) nwl
      refine ⟨_, rfl, wl, _, 0 + (i : Int), _, rfl, rfl, SqL.of upd_same, hw, ?_⟩
      have R2 := R.same sw
      have g1 := sw _ _ g1
      have g2 := sw _ _ g2
      have g3 := sw _ _ g3
      have g4 := sw _ _ g4
      have g5 := sw _ _ g5
      generalize upd H7 wl (.lst [V.str "come", .str "go", .str "move", .str "some", .str "swap", .str "count", .str "look"]) = H8 at R2 g1 g2 g3 g4 g5 ⊢
      refine ⟨_, rfl, .inl ⟨rfl, _, SqL.of R2.hD⟩, ?_⟩
      have lj : i < EL.length := by omega
      obtain ⟨nme, hnj, hn3⟩ : ∃ nme, EL[i]? = some nme ∧ nme ∈ EL := ⟨EL[i], List.getElem?_eq_getElem lj, List.getElem_mem lj⟩
      have hn1 : atI (EL.map V.str) (0 + (i : Int)) = some (.str nme) := by
        rw [Int.zero_add]
        exact atI_nat (by rw [List.getElem?_map, hnj]; rfl)
      obtain ⟨mo, hm1, hm2⟩ := at_ints (ns := mos) (r := 0 + (i : Int)) (by omega) (by omega)
      refine ⟨_, rfl, _, rfl, _, rfl, _, rfl, l4, _, _, _, rfl, rfl, SqL.of g4, hn1, _, rfl, _, rfl, l5, _, _, _, rfl, rfl, SqL.of g5, hm1, _, rfl, _, rfl, _, rfl, p, c, _, wd, nme, mo, l1, l2, l3, PL, GL, HL, rfl, R2.pen, by omega, mwd, g1, g2, g3,
        (fun z => by subst z; simp at z1; omega), (fun z => by subst z; simp at z2; omega), (fun z => by subst z; simp at z3), by omega, by omega, by omega, fun te e H9 nte hte en em ef pen9 bt9 => ?_⟩
      have R3 := R2.on pen9 bt9
      have fin := fine_of ef (n1.nodup (by omega)) (n1.names (by omega)) (n2.names (by omega)) (n3.names (by omega)) (en ▸ n4.names (by omega) nme hn3) (em ▸ (bm mo hm2).1) (em ▸ (bm mo hm2).2)
      refine ⟨(by show 2 ≤ sizeLine; decide), fun t nt => ?_⟩
      have s10 := @same_new _ _ (.tup [V.str "enter", .ref te]) nt
      have R4 := R3.same s10
      refine ⟨D, _, _, rfl, rfl, R4.hD, (by rw [List.length_map, R4.len]; exact small1000 (by omega)), ?_⟩
      have R5 := R4.add (t := t) (x := .enter e) fin.1 ⟨te, upd_same, s10 _ _ hte⟩
      have keep : ∀ {l : Addr} {xs : List V}, H8 l = some (.lst xs) → l ≠ D → (upd (upd H9 t (.tup [V.str "enter", .ref te])) D (.lst ((rs.map fun x => V.ref x.1) ++ [V.ref t]))) l = some (.lst xs) := fun e ne => (upd_ne ne).trans (s10 _ _ (lst_but75 R2.pen bt9 e))
      exact ⟨_, _, rfl, keep g1 e1, keep g2 e2, keep g3 e3, keep g4 e4, keep g5 e5, _, ⟨R5.pen.mono (by omega), R5.bt, R5.nD, R5.nc, R5.hD, R5.len, R5.ok⟩⟩
    rintro σ H7 ⟨y7, y8, rfl, g1, g2, g3, g4, g5, rs, R⟩
    obtain ⟨nme, hnj, hn3⟩ : ∃ nme, EL[7]? = some nme ∧ nme ∈ EL := ⟨EL[7], List.getElem?_eq_getElem (by omega), List.getElem_mem (by omega)⟩
    refine ⟨_, rfl, .inl ⟨rfl, _, SqL.of R.hD⟩, _, rfl, l4, _, 7, _, rfl, rfl, SqL.of g4, atI_nat (j := 7) (by rw [List.getElem?_map, hnj]; rfl), (by show 2 ≤ sizeLine; decide), fun t nt => ?_⟩
    have s8 := @same_new _ _ (.tup [V.str "back", .str nme]) nt
    have R2 := R.same s8
    refine ⟨D, _, _, rfl, rfl, R2.hD, (by rw [List.length_map, R2.len]; exact small1000 (by omega)), ?_⟩
    have R3 := R2.add (t := t) (x := .back nme) (n4.names (by omega) nme hn3) upd_same
    generalize upd (upd H7 t (.tup [V.str "back", .str nme])) D (.lst ((rs.map fun x => V.ref x.1) ++ [V.ref t])) = H8 at R3 ⊢
    refine ⟨_, rfl, .inl ⟨rfl, _, SqL.of R3.hD⟩, ?_⟩
    refine ⟨_, rfl, p, c, _, 100, rfl, R3.pen, by omega, by decide, by decide, fun r3 H9 a3 b3 pen9 bt9 => ⟨(by show 3 ≤ sizeLine; decide), fun w1 nw1 => ?_⟩⟩
    have R4 := R3.on pen9 bt9
    have s10 := @same_new _ _ (.lst [V.int 0, .int 99, .int r3]) nw1
    have hw1 := @upd_same H9 w1 (.lst [V.int 0, .int 99, .int r3])
    have R5 := R4.same s10
    generalize upd H9 w1 (.lst [V.int 0, .int 99, .int r3]) = H10 at s10 hw1 R5 ⊢
    refine ⟨_, rfl, p, c, _, 3, rfl, R5.pen, by omega, by decide, by decide, fun r4 H11 a4 b4 pen11 bt11 => ?_⟩
    have R6 := R5.on pen11 bt11
    obtain ⟨dv, hd, md⟩ := at_ex75 (xs := [(0 : Int), 99, r3].map V.int) (r := r4) a4 (by show r4 < 3; exact b4)
    obtain ⟨dd, mdd, rfl⟩ := List.mem_map.mp md
    have dr : 0 ≤ dd ∧ dd ≤ 99 := by
      simp only [List.mem_cons, List.not_mem_nil, or_false] at mdd
      omega
    refine ⟨w1, _, r4, _, rfl, rfl, SqL.of (lst_but75 R5.pen bt11 hw1), hd, (by show 2 ≤ sizeLine; decide), fun w2 nw2 => ?_⟩
    have s12 := @same_new _ _ (.lst [V.str "refuse", .str "up"]) nw2
    have hw2 := @upd_same H11 w2 (.lst [V.str "refuse", .str "up"])
    have R7 := R6.same s12
    generalize upd H11 w2 (.lst [V.str "refuse", .str "up"]) = H12 at s12 hw2 R7 ⊢
    refine ⟨_, rfl, p, c, _, 2, rfl, R7.pen, by omega, by decide, by decide, fun r5 H13 a5 b5 pen13 bt13 => ?_⟩
    have R8 := R7.on pen13 bt13
    obtain ⟨mv, hm, mm⟩ := at_ex75 (xs := modes2.map V.str) (r := r5) a5 (by show r5 < 2; exact b5)
    obtain ⟨m, mm2, rfl⟩ := List.mem_map.mp mm
    refine ⟨w2, _, r5, _, rfl, rfl, SqL.of (lst_but75 R7.pen bt13 hw2), hm, (by show 3 ≤ sizeLine; decide), fun t2 nt2 => ?_⟩
    have s14 := @same_new _ _ (.tup [V.str "close", .int dd, .str m]) nt2
    have R9 := R8.same s14
    refine ⟨D, _, _, rfl, rfl, R9.hD, (by rw [List.length_map, R9.len]; exact small1000 (by omega)), ?_⟩
    have R10 := R9.add (t := t2) (x := .close dd m) ⟨dr.1, dr.2, mm2⟩ upd_same
    exact ⟨_, rfl, q D _ _ R10.hD R10.len R10.ok (R10.pen.mono (by omega)) R10.bt⟩
end
/-! ### a promise that may raise, where it doesn't -/
theorem FnOk.calm {P : Program} {w : World} {K : PySem.W.Frag} {mg : Str → Option Value} {base : Heap} {k : Nat} {f : Addr} {fd : FuncData} {ps : List Str} {sp : Sp} (F : FnOk P w K mg base (L2.CX P w) k f fd ps sp) : FnOk P w K mg base CX0 k f fd ps (fun vs H Q _ => sp vs H Q (fun _ _ _ => False)) :=
  ⟨fun vs H Q E h => F.len vs H Q _ h, fun A outer s H args us vs Q E hr he hb hv hs => codeAny_mono (F.run A outer s H args us vs Q _ hr he hb hv hs) fun r s' h => by
    cases r with
    | ok fl => cases fl <;> exact h
    | error e =>
      obtain ⟨_, _, _, _, _, _, _, _, _, _, _, _, hE⟩ := h
      exact False.elim hE⟩
/-! ### what the law needs -/
theorem cln_sm {y : Str} (h : Cln y) : Sm y := fun c hc => (h.k c hc).1
theorem ent_sm {e : Ent} (h : e.Fine) : Sm (entT e) := Sm.join fun y hy => by
  obtain ⟨v, hv, rfl⟩ := List.mem_map.mp hy
  exact cln_sm (part_cln (fine_parts h v hv)).1
theorem sm_lit {y : Str} (h : ∀ c ∈ y.cps.toList, c < 256) : Sm y := h
theorem row_sm {r : Rw} (h : RwOk r) : Sm (rowT r) ∧ 1 ≤ (rowT r).length ∧ (rowT r).length ≤ 240 := by
  have b1 : ((" " : Str)).length = 1 := bl1
  have lw : (wordR r).length ≤ 5 := by
    cases r with
    | enter e => show ("enter" : Str).length ≤ 5; decide +kernel
    | back n => show ("back" : Str).length ≤ 5; decide +kernel
    | close d m => show ("close" : Str).length ≤ 5; decide +kernel
  have sw : Sm (wordR r) := by
    cases r with
    | enter e => show Sm "enter"; unfold Sm; decide +kernel
    | back n => show Sm "back"; unfold Sm; decide +kernel
    | close d m => show Sm "close"; unfold Sm; decide +kernel
  have sb : Sm " " := by unfold Sm; decide +kernel
  have rest : Sm (restR r) ∧ (restR r).length ≤ 200 := by
    cases r with
    | enter e => exact ⟨ent_sm h, ent_len (fine_parts h)⟩
    | back n => exact ⟨cln_sm (cln_name h), by have := (name_len h).2; show n.length ≤ 200; omega⟩
    | close d m =>
      obtain ⟨h0, h9, hm⟩ := h
      have all : ∀ y ∈ modes2, y.length ≤ 13 := by decide +kernel
      have l1 := (num_len h0 (by omega)).2
      have l2 := all m hm
      exact ⟨((cln_sm (cln_num h0)).app sb).app (cln_sm (cln_mode hm)), by show (numT d ++ " " ++ m).length ≤ 200; rw [app_len, app_len]; omega⟩
  have ll : (rowT r).length = (wordR r).length + 1 + (restR r).length := by
    show (wordR r ++ " " ++ restR r).length = _
    rw [app_len, app_len, b1]
  exact ⟨(sw.app sb).app rest.1, by omega, by omega⟩
theorem short_len {d : PyData} {n k : Nat} (h : Short d n k) (hn : n ≤ 200) : d.shown.length ≤ 10000 := by
  have q := PyData.shown_le_bulk 13 (by decide) d h.ls
  have := h.bk
  omega
/-- what str() says of a part of a row -/
def StrP (H : Hp) (v : V) (y : Str) : Prop := (v = .str y ∧ y.length ≤ 13) ∨ (∃ i : Int, v = .int i ∧ 0 ≤ i ∧ i ≤ 1000000000 ∧ y = numT i) ∨ ∃ (a : Addr) (e : Ent), v = .ref a ∧ H a = some (.tup e.vals) ∧ e.Fine ∧ y = (entD e).shown
theorem StrP.on {H H' : Hp} {v : V} {y : Str} (k : TK H H') (h : StrP H v y) : StrP H' v y := by
  rcases h with h | h | ⟨a, e, h1, h2, h3, h4⟩
  · exact .inl h
  · exact .inr (.inl h)
  · exact .inr (.inr ⟨a, e, h1, k _ _ h2, h3, h4⟩)
theorem StrP.len {H : Hp} {v : V} {y : Str} (h : StrP H v y) : y.length ≤ 10000 := by
  rcases h with ⟨_, h⟩ | ⟨i, _, h0, h1, rfl⟩ | ⟨a, e, _, _, h, rfl⟩
  · omega
  · have := (num_len h0 h1).2
    omega
  · exact short_len (short_fine h) (by decide)
theorem row_tail {H : Hp} {t : Addr} {r : Rw} (ok : RwOk r) (h : RwAt H t r) : ∃ (xs : List V) (ys : List Str), H t = some (.tup (V.str (wordR r) :: xs)) ∧ ys.length = xs.length ∧ 1 ≤ xs.length ∧ xs.length ≤ 2 ∧ (∀ (i : Nat) (x : V), xs[i]? = some x → ∃ y, ys[i]? = some y ∧ StrP H x y) ∧ (∀ y ∈ ys, y.length ≤ 10000) ∧
    ((∃ (e : Ent) (tp : Addr), r = .enter e ∧ xs = [V.ref tp] ∧ H tp = some (.tup e.vals)) ∨ ((∀ e, r ≠ .enter e) ∧ wordR r ++ " " ++ Txt.join " " ys = rowT r)) := by
  cases r with
  | enter e =>
    obtain ⟨tp, h1, h2⟩ := h
    have sp : StrP H (V.ref tp) (entD e).shown := .inr (.inr ⟨tp, e, rfl, h2, ok, rfl⟩)
    refine ⟨[V.ref tp], [(entD e).shown], h1, rfl, Nat.le_refl 1, Nat.le_succ 1, fun i x hx => ?_, fun y hy => ?_, .inl ⟨e, tp, rfl, rfl, h2⟩⟩
    · match i, hx with
      | 0, hx => exact ⟨_, rfl, Option.some.inj hx ▸ sp⟩
    · rw [List.mem_singleton.mp hy]
      exact sp.len
  | back n =>
    have sp : StrP H (V.str n) n := .inl ⟨rfl, by have := (name_len ok).2; omega⟩
    refine ⟨[V.str n], [n], h, rfl, Nat.le_refl 1, Nat.le_succ 1, fun i x hx => ?_, fun y hy => ?_, .inr ⟨fun e z => (nomatch z), by rw [join_glue]; rfl⟩⟩
    · match i, hx with
      | 0, hx => exact ⟨_, rfl, Option.some.inj hx ▸ sp⟩
    · rw [List.mem_singleton.mp hy]
      exact sp.len
  | close d m =>
    obtain ⟨h0, h9, hm⟩ := ok
    have all : ∀ y ∈ modes2, y.length ≤ 13 := by decide +kernel
    have s1 : StrP H (V.int d) (numT d) := .inr (.inl ⟨d, rfl, h0, by omega, rfl⟩)
    have s2 : StrP H (V.str m) m := .inl ⟨rfl, all m hm⟩
    refine ⟨[V.int d, V.str m], [numT d, m], h, rfl, Nat.le_succ 1, Nat.le_refl 2, fun i x hx => ?_, fun y hy => ?_, .inr ⟨fun e z => (nomatch z), ?_⟩⟩
    · match i, hx with
      | 0, hx => exact ⟨_, rfl, Option.some.inj hx ▸ s1⟩
      | 1, hx => exact ⟨_, rfl, Option.some.inj hx ▸ s2⟩
    · rcases List.mem_cons.mp hy with rfl | hy
      · exact s1.len
      · rw [List.mem_singleton.mp hy]
        exact s2.len
    · rw [join2]
      rfl
theorem cr_strP {X : Cx} (hG : X.A.guards = some []) (hu : X.A.units + 64 < cLine) : CallR X (.type "str") (fun vs H Q => ∃ (v : V) (y : Str), vs = [v] ∧ StrP H v y ∧ Q (.str y) H) := by
  rintro pins s σ H vs us Q I r ⟨v, y, rfl, sp, q⟩
  rcases sp with ⟨rfl, _⟩ | ⟨i, rfl, h0, h1, rfl⟩ | ⟨a, e, rfl, ha, fi, rfl⟩
  · exact call_str_sn pins s σ H _ us Q I r ⟨_, rfl, .inl ⟨y, rfl, q⟩⟩
  · exact call_str_sn pins s σ H _ us Q I r ⟨_, rfl, .inr ⟨i, rfl, int_small h0 h1, q⟩⟩
  · rw [Vals.ref1 r]
    have sh := short_fine fi
    obtain ⟨as, rd⟩ := Dp.reads I (entD e) (.ref a) (.ref a) (dp_ent ha) rfl
    have := sh.dp
    exact str_of_reads rd sh.sh (PyData.noDict_hsm sh.nd) hG (by omega) (fun _ _ e => e) (fun h' u tk hk => ⟨.str _, H, I.kept hk, ⟨_, rfl⟩, q⟩) (sh.fits (by decide))
theorem nostr_of {K : PySem.W.Frag} {H : Hp} {v : V} (t : Thg H v) (ns : ∀ z, v ≠ .str z) : NoStr K H v := by
  obtain ⟨n, ty, mn, e1, _⟩ := t.ty (K := K)
  refine ⟨n, ty, ?_⟩
  rw [kit_str mn, decide_eq_false]
  exact fun z => by
    obtain ⟨y, hy⟩ := e1.mp z
    exact ns y hy
abbrev qLaw : Str := (("law" : Str) ++ ".<locals>.") ++ "<lambda>"
/-- between two steps of the law -/
structure LJ (Ts : List Addr) (P1 P2 P3 p c : Addr) (k : Nat) (H0 H : Hp) : Prop where
  pen : PenAt H p c k
  kp : ∀ a o, H0 a = some o → (∀ ps, o ≠ .tbl ps) → a ≠ p → H a = some o
  tg : TabsG Ts H
  t1 : LamX.TabS H P1 qRow
  t2 : LamX.TabS H P2 qEnt
  t3 : LamX.TabS H P3 qLaw
structure Ne3 (Ts : List Addr) (P1 P2 P3 : Addr) : Prop where
  n1 : P1 ∉ Ts
  n2 : P2 ∉ Ts
  n3 : P3 ∉ Ts
  a : P1 ≠ P2
  b : P1 ≠ P3
  c : P2 ≠ P3
section
variable {Ts : List Addr} {P1 P2 P3 p c : Addr} {k : Nat} {H0 H H' : Hp}
theorem pen_tb {Ts : List Addr} {H H' : Hp} {p c : Addr} {n : Nat} (pen : PenAt H p c n) (b : TB1 Ts H H') : PenAt H' p c n := by
  obtain ⟨kvs, ns, a, x, g1, g2, g3, g4, g5, g6, g7⟩ := pen.ex
  exact ⟨kvs, ns, a, x, b.2 _ _ g1 fun _ z => (nomatch z), g2, g3, g4, g5, b.2 _ _ g6 fun _ z => (nomatch z), g7⟩
theorem LJ.tup (j : LJ Ts P1 P2 P3 p c k H0 H) {n : Nat} (pen : PenAt H0 p c n) : TK H0 H := fun a xs e => j.kp a _ e (fun _ z => nomatch z) fun w => by
  obtain ⟨kvs, ns', a', x', g1, _⟩ := pen.ex
  rw [w, g1] at e
  exact nomatch e
theorem LJ.lst (j : LJ Ts P1 P2 P3 p c k H0 H) {n : Nat} (pen : PenAt H0 p c n) {a : Addr} {xs : List V} (e : H0 a = some (.lst xs)) : H a = some (.lst xs) := j.kp a _ e (fun _ z => nomatch z) fun w => by
  obtain ⟨kvs, ns', a', x', g1, _⟩ := pen.ex
  rw [w, g1] at e
  exact nomatch e
theorem LJ.tb (j : LJ Ts P1 P2 P3 p c k H0 H) (n : Ne3 Ts P1 P2 P3) (b : TB1 Ts H H') : LJ Ts P1 P2 P3 p c k H0 H' :=
  ⟨pen_tb j.pen b, fun a o e nt np => b.kp a o (j.kp a o e nt np) nt, b.tg, b.tabS n.n1 j.t1, b.tabS n.n2 j.t2, b.tabS n.n3 j.t3⟩
theorem LJ.same (j : LJ Ts P1 P2 P3 p c k H0 H) (n : Ne3 Ts P1 P2 P3) (s : Same H H') : LJ Ts P1 P2 P3 p c k H0 H' := j.tb n (.same j.tg s)
theorem LJ.but (j : LJ Ts P1 P2 P3 p c k H0 H) {m : Nat} (pen : PenAt H' p c m) (b : But p H H') : LJ Ts P1 P2 P3 p c m H0 H' := by
  have tt : ∀ {Pt : Addr} {q : Str}, LamX.TabS H Pt q → LamX.TabS H' Pt q := fun {Pt q} h => by
    obtain ⟨kvs, ns', a', x', g1, _⟩ := j.pen.ex
    obtain ⟨ps, h1, h2, h3⟩ := h
    exact ⟨ps, b _ _ h1 (ne_of h1 g1 (by intro z; cases z)), h2, fun at' cv e => by
      obtain ⟨c, e1, e2⟩ := h3 at' cv e
      exact ⟨c, e1, b _ _ e2 (ne_of e2 g1 (by intro z; cases z))⟩⟩
  refine ⟨pen, fun a o e nt np => b a o (j.kp a o e nt np) np, fun T hT => ?_, tt j.t1, tt j.t2, tt j.t3⟩
  obtain ⟨kvs, ns', a', x', g1, _⟩ := j.pen.ex
  obtain ⟨ps, e, ok⟩ := j.tg T hT
  exact ⟨ps, b T _ e (ne_of e g1 (by intro z; cases z)), ok⟩
theorem LJ.b1 (j : LJ Ts P1 P2 P3 p c k H0 H) (n : Ne3 Ts P1 P2 P3) (b : TB1 (P1 :: Ts) H H') (t : LamX.TabS H' P1 qRow) : LJ Ts P1 P2 P3 p c k H0 H' :=
  ⟨pen_tb j.pen b, fun a o e nt np => b.kp a o (j.kp a o e nt np) nt, b.tg.tl, t, b.tabS (fun z => (List.mem_cons.mp z).elim (fun e => n.a e.symm) n.n2) j.t2, b.tabS (fun z => (List.mem_cons.mp z).elim (fun e => n.b e.symm) n.n3) j.t3⟩
theorem LJ.b2 (j : LJ Ts P1 P2 P3 p c k H0 H) (n : Ne3 Ts P1 P2 P3) (b : TB1 (P2 :: Ts) H H') (t : LamX.TabS H' P2 qEnt) : LJ Ts P1 P2 P3 p c k H0 H' :=
  ⟨pen_tb j.pen b, fun a o e nt np => b.kp a o (j.kp a o e nt np) nt, b.tg.tl, b.tabS (fun z => (List.mem_cons.mp z).elim n.a n.n1) j.t1, t, b.tabS (fun z => (List.mem_cons.mp z).elim (fun e => n.c e.symm) n.n3) j.t3⟩
theorem LJ.b3 (j : LJ Ts P1 P2 P3 p c k H0 H) (n : Ne3 Ts P1 P2 P3) (b : TB1 (P3 :: Ts) H H') (t : LamX.TabS H' P3 qLaw) : LJ Ts P1 P2 P3 p c k H0 H' :=
  ⟨pen_tb j.pen b, fun a o e nt np => b.kp a o (j.kp a o e nt np) nt, b.tg.tl, b.tabS (fun z => (List.mem_cons.mp z).elim n.b n.n1) j.t1, b.tabS (fun z => (List.mem_cons.mp z).elim n.c n.n2) j.t2, t⟩
theorem LJ.mono (j : LJ Ts P1 P2 P3 p c k H0 H) {m : Nat} (h : k ≤ m) : LJ Ts P1 P2 P3 p c m H0 H := ⟨j.pen.mono h, j.kp, j.tg, j.t1, j.t2, j.t3⟩
theorem LJ.put (j : LJ Ts P1 P2 P3 p c k H0 H) {m : Nat} (pen0 : PenAt H0 p c m) {D : Addr} {xs ys : List V} (n : H0 D = none) (hD : H D = some (.lst xs)) : LJ Ts P1 P2 P3 p c k H0 (upd H D (.lst ys)) := by
  have tt : ∀ {Pt : Addr} {q : Str}, LamX.TabS H Pt q → LamX.TabS (upd H D (.lst ys)) Pt q := fun {Pt q} h => by
    obtain ⟨ps, h1, h2, h3⟩ := h
    exact ⟨ps, (upd_ne (ne_of h1 hD (by intro z; cases z))).trans h1, h2, fun at' cv e => by
      obtain ⟨c, e1, e2⟩ := h3 at' cv e
      exact ⟨c, e1, (upd_ne (ne_of e2 hD (by intro z; cases z))).trans e2⟩⟩
  refine ⟨j.pen.upd (fun z => pen0.there (z ▸ n)) (fun z => pen0.cells (z ▸ n)), fun a o e nt np => (upd_ne (ne_of_none e n)).trans (j.kp a o e nt np), fun T hT => ?_, tt j.t1, tt j.t2, tt j.t3⟩
  obtain ⟨ps, e, ok⟩ := j.tg T hT
  exact ⟨ps, (upd_ne (ne_of e hD (by intro z; cases z))).trans e, ok⟩
theorem LJ.tr {k' : Nat} (j : LJ Ts P1 P2 P3 p c k H0 H) (j' : LJ Ts P1 P2 P3 p c k' H H') : LJ Ts P1 P2 P3 p c k' H0 H' := ⟨j'.pen, fun a o e nt np => j'.kp a o (j.kp a o e nt np) nt np, j'.tg, j'.t1, j'.t2, j'.t3⟩
theorem LJ.re (j : LJ Ts P1 P2 P3 p c k H0 H) : LJ Ts P1 P2 P3 p c k H H := ⟨j.pen, fun _ _ e _ _ => e, j.tg, j.t1, j.t2, j.t3⟩
end
/-! ### the law -/
abbrev l11 : List Str := ["", " ", "enter", "enter ", "back", "back ", "close", "close 5", "look", "enter enter", "back -"]
theorem l11_ok : ∀ y ∈ l11, y.length ≤ 20 ∧ Sm y := fun y hy => by
  have all : ∀ y ∈ l11, y.length ≤ 20 ∧ ∀ c ∈ y.cps.toList, c < 256 := by decide +kernel
  exact all y hy
theorem ne_same75 {x : V} : V.bl (!decide (x = x)) = .bl false := by
  rw [decide_eq_true rfl]
  rfl
section
variable {P : Program} {w : World} {K : PySem.W.Frag} {mg : Str → Option Value} {base : Heap}
abbrev sLawN : List Str := ["_law_script", "_law_pen_here", "_law_row", "_law_text", "_law_part", "_law_found", "_law_thing", "_law_turn"]
theorem sc_sLaw : FnScope sLawN ["_law_script"] (defScope sLaw) := ⟨rfl, rfl, rfl, by decide +kernel, rfl, by decide +kernel, by decide +kernel⟩
def spLaw (K : PySem.W.Frag) (Ts : List Addr) (P1 P2 P3 : Addr) : Sp := fun vs H Q _ => ∃ (a : Addr) (ns : List Int), vs = [.ref a] ∧ SqL K H a (ns.map V.int) ∧ TabsG Ts H ∧ LamX.TabS H P1 qRow ∧ LamX.TabS H P2 qEnt ∧ LamX.TabS H P3 qLaw ∧ ∀ H', Q (.bl true) H'
set_option maxHeartbeats 8000000 in
theorem ok_law {f cR P1 P2 P3 fP fL fI fT fR fE fB fA f1 f2 C CE : Addr} {dP dL dI dT dR dE dB d1 d2 : FuncData} {Ts : List Addr} {O : O75} {oc kV doc pm ct oc' kV' doc' pm' cdv' ct' : Value} {od an od' an' : Option Addr} {osl osl' : Array (Option Value)}
    (lk : K.lookup f = some ⟨oc, od, .func (PySem.W.fnOf "law" "law" (defArgs sLaw) (defBody sLaw) (defScope sLaw) .none kV doc pm an (.ref cR) ct), osl⟩) (cdI : PySem.W.codeIn K (.ref cR) "law" = true)
    (TBL : LamX.TabB base mg cR P3) (nn : Ne3 Ts P1 P2 P3) (RF : RefD P w K mg base O C CE fA oc' kV' doc' pm' cdv' ct' od' an' osl')
    (GP : DefT P w K mg base "_law_pen" 1 fP dP ["_law_script"] (spPen K)) (LR : DefT P w K mg base "_law_rows" 4 fL dL ["_law_pen_here"] spRows) (LL : DefT P w K mg base "_law_line" 1 fI dI ["_law_entry_here"] spLine)
    (RT : DefT P w K mg base "row_text" 3 fT dT ["row"] (spRowText Ts)) (RX : DefX P w K mg base "read_row" 7 fR dR ["text"] (spReadRow K Ts C)) (RR : DefT P w K mg base "read_row" 7 fR dR ["text"] (fun vs H Q _ => spReadRow K Ts C vs H Q (fun _ _ _ => False)))
    (EX : DefX P w K mg base "read_entry" 6 fE dE ["text"] (spReadEnt K Ts C)) (BE : DefT P w K mg base "_law_bent" 2 fB dB ["_law_pen_here", "_law_text"] spBent)
    (RI : DefG P w K mg base "_law_row_right" 10 f1 d1 ["_law_text"] (spRight qRow Ts P1)) (EI : DefG P w K mg base "_law_entry_right" 9 f2 d2 ["_law_text"] (spRight qEnt Ts P2))
    (mp : mg "repr" = none) (mis : mg "isinstance" = none) (mT_int : mg "int" = none) (mv : mg "ValueError" = none) (mT_str : mg "str" = none) (mr : mg "range" = none) : 
    FnG P w K mg base 11 f (PySem.W.fnOf "law" "law" (defArgs sLaw) (defBody sLaw) (defScope sLaw) .none kV doc pm an (.ref cR) ct) ["_law_script"] (spLaw K Ts P1 P2 P3) := by
  refine okG_of lk cdI sc_sLaw (fun vs H Q E h => ?_) (fun B outer s H vs Q E hG hr h => ?_)
  · obtain ⟨a, ns, rfl, _⟩ := h
    rfl
  · obtain ⟨a, ns, rfl, hS, tg, t1, t2, t3, q⟩ := h
    have nd := sc_sLaw.nd
    have hr1 : Room 1 _ := hr.mono (by decide)
    have hr2 : Room 2 _ := hr.mono (by decide)
    have hr3 : Room 3 _ := hr.mono (by decide)
    have hr4 : Room 4 _ := hr.mono (by decide)
    have hr7 : Room 7 _ := hr.mono (by decide)
    have hr9 : Room 9 _ := hr.mono (by decide)
    refine ⟨_, pss_cons (ps_set (i := 1) nd rfl (Or.inr rfl) (pe_call GP.ok hr1 (by rfl) GP.g GP.kp GP.b .nil pass0 (pa_cons (pv 0) pa_nil)))
      (pss_cons (ps_for PassesOwn.never rfl (pi_list (pe_call LR.ok hr4 (by rfl) LR.g LR.kp LR.b .nil pass0 (pa_cons (pv 1) pa_nil))) (pg_name (i := 2) nd rfl (Or.inl rfl))
        (pss_cons (ps_set (i := 3) nd rfl (Or.inr rfl) (pe_op op_add_str (pe_op op_add_str (pe_ix ix_tup (pv 2) pe_int (fun _ _ => rfl)) pe_str) (pe_join pe_str (pe_lc (own := [("_law_part", 4)]) (g := gName 4) (tt := tYes) rfl nd (pi_tup (pe_slice sl_S (pv 2) (po_some pe_int) po_none)) (blkOk_by (N := sLawN) (sc := defScope sLaw) (by decide +kernel)) (fun _ _ _ _ _ => (pg_name (i := 4) nd rfl (Or.inl rfl))) (fun _ _ _ _ _ => pts_nil) (fun _ _ _ _ _ => (pe_callTy (cr_strP hG hr.units) (by rfl) mT_str (by decide +kernel) (pa_cons (pv 4) pa_nil)))))))
        (C8.pss_cut (ps_if (pt_cmpR op_eq (pe_ix ix_tup (pv 2) pe_int (fun _ _ => rfl)) pe_str (nomark _)) (pss_one (ps_set (i := 3) nd rfl (Or.inr rfl) (pe_op op_add_str pe_str (pe_call LL.ok hr1 (by rfl) LL.g LL.kp LL.b .nil pass0 (pa_cons (pe_ix ix_tup (pv 2) pe_int (fun _ _ => rfl)) pa_nil))))) pss_nil)
        (pss_cons (ps_set (i := 5) nd rfl (Or.inl rfl) (pe_call RT.ok hr3 (by rfl) RT.g RT.kp RT.b .nil pass0 (pa_cons (pv 2) pa_nil)))
        (pss_cons (ps_if (PW.pt (pw_or (pt_not (pt_val (pe_callB call_isi (by rfl) mis (by decide +kernel) (pa_cons (pv 5) (pa_cons (pe_bltn (v := .ty "str") (u := .type "str") (by rfl) mT_str (by decide +kernel) rfl) pa_nil))))) (pw_or (pt_cmpR op_ne (pv 5) (pv 3) (nomark _)) (pw_or1 (pt_cmpR op_ne (pe_callB (cr_repr hG hr.units) (by rfl) mp (by decide +kernel) (pa_cons (pe_call RR.ok hr7 (by rfl) RR.g RR.kp RR.b .nil pass0 (pa_cons (pv 3) pa_nil)) pa_nil)) (pe_callB (cr_repr hG hr.units) (by rfl) mp (by decide +kernel) (pa_cons (pv 2) pa_nil)) (nomark _)))))) (pss_one (ps_ret pe_bl)) pss_nil)
        (pss_one (ps_for PassesOwn.never rfl (pi_list (pe_op op_cat (pe_lc (own := [("_law_turn", 7)]) (g := gName 7) (tt := tYes) rfl nd (pi_range1 rfl mr (pa_cons pe_int pa_nil)) (blkOk_by (N := sLawN) (sc := defScope sLaw) (by decide +kernel)) (fun _ _ _ _ _ => (pg_name (i := 7) nd rfl (Or.inl rfl))) (fun _ _ _ _ _ => pts_nil) (fun _ _ _ _ _ => (pe_call BE.ok hr2 (by rfl) BE.g BE.kp BE.b .nil pass0 (pa_cons (pv 1) (pa_cons (pv 3) pa_nil))))) (pe_lst (pa_cons (pe_op op_add_str (pv 3) pe_str) (pa_cons (pe_op op_add_str pe_str (pv 3)) (pa_cons (pe_op op_add_str (pv 3) pe_str) (pa_cons (pv 3) pa_nil))))))) (pg_name (i := 6) nd rfl (Or.inr rfl))
          (pss_cons (ps_if (pt_not (pt_val (pe_callG RI.ok hG hr (by rfl) RI.g RI.kp RI.b (pa_cons (pv 6) pa_nil)))) (pss_one (ps_ret pe_bl)) pss_nil)
          (pss_one (ps_if (PW.pt (pw_and (pt_cmpR op_eq (pe_ix ix_tup (pv 2) pe_int (fun _ _ => rfl)) pe_str (nomark _)) (pw_and1 (pt_not (pt_val (pe_callG EI.ok hG hr9 (by rfl) EI.g EI.kp EI.b (pa_cons (pe_slice sl_str (pv 6) (po_some pe_int) po_none) pa_nil))))))) (pss_one (ps_ret pe_bl)) pss_nil))))))))))
      (pss_cons (ps_for PassesOwn.never rfl (pi_list (pe_lst (pa_cons pe_str (pa_cons pe_str (pa_cons pe_str (pa_cons pe_str (pa_cons pe_str (pa_cons pe_str (pa_cons pe_str (pa_cons pe_str (pa_cons pe_str (pa_cons pe_str (pa_cons pe_str pa_nil))))))))))))) (pg_name (i := 3) nd rfl (Or.inr rfl))
        (pss_one (ps_if (PW.pt (pw_or (pt_not (pt_val (pe_callG RI.ok hG hr (by rfl) RI.g RI.kp RI.b (pa_cons (pv 3) pa_nil)))) (pw_or1 (pt_not (pt_val (pe_callG EI.ok hG hr9 (by rfl) EI.g EI.kp EI.b (pa_cons (pv 3) pa_nil))))))) (pss_one (ps_ret pe_bl)) pss_nil)))
      (pss_cons (ps_for PassesOwn.never rfl (pi_list (pe_lst (pa_cons pe_non (pa_cons pe_int (pa_cons pe_bl (pa_cons (pe_lst (pa_cons pe_str pa_nil)) (pa_cons (pe_tup (pa_cons pe_str (pa_cons pe_str pa_nil))) (pa_cons pe_dnewK (pa_cons (pe_tup pa_nil) pa_nil))))))))) (pg_name (i := 6) nd rfl (Or.inr rfl))
        (pss_cons (ps_if (pt_not (pt_val (pe_capcallR (k := 8) (t := fun E2 => tCallS (spReadRow K Ts C) (fun _ => E2) (tCons (tVar 6) tNil))  (by rfl) RF.g RF.kp RF.lk RF.cd RF.b sc_sRefused rfl (.inl rfl) (refused_gives RF.G RF.D mis mT_int mv mp) TBL rfl hr (LamX.lamS_by (sc := defScope sLaw) (by decide +kernel)) rfl (by intros; rfl) (fun A2 outer2 z2 G2 E2 f2 cc2 hrL => (pe_callS RX.ok (hrL.mono (by decide)) (by rfl) RX.g RX.kp RX.b (fun σ => passAt (takes_of rfl rfl rfl rfl) σ) (pa_cons (pv 6) pa_nil)))))) (pss_one (ps_ret pe_bl)) pss_nil)
        (pss_one (ps_if (pt_not (pt_val (pe_capcallR (k := 8) (t := fun E2 => tCallS (spReadEnt K Ts C) (fun _ => E2) (tCons (tVar 6) tNil))  (by rfl) RF.g RF.kp RF.lk RF.cd RF.b sc_sRefused rfl (.inl rfl) (refused_gives RF.G RF.D mis mT_int mv mp) TBL rfl hr (LamX.lamS_by (sc := defScope sLaw) (by decide +kernel)) rfl (by intros; rfl) (fun A2 outer2 z2 G2 E2 f2 cc2 hrL => (pe_callS EX.ok (hrL.mono (by decide)) (by rfl) EX.g EX.kp EX.b (fun σ => passAt (takes_of rfl rfl rfl rfl) σ) (pa_cons (pv 6) pa_nil)))))) (pss_one (ps_ret pe_bl)) pss_nil))))
      (pss_one (ps_ret pe_bl))))), ?_⟩
    refine ⟨_, rfl, a, ns, rfl, hS, fun p c H1 np nc pen1 sm1 => ?_⟩
    have J1 : LJ Ts P1 P2 P3 p c 0 H1 H1 := ⟨pen1, fun _ _ e _ _ => e, tabs_sm sm1 tg, t1.ext sm1, t2.ext sm1, t3.ext sm1⟩
    refine ⟨_, rfl, p, c, 0, rfl, pen1, by omega, fun l rs H2 hl lrs hrs pen2 bt2 => ?_⟩
    have J2 : LJ Ts P1 P2 P3 p c 400 H2 H2 := by
      have j := J1.but pen2 bt2
      exact ⟨j.pen, fun _ _ e _ _ => e, j.tg, j.t1, j.t2, j.t3⟩
    refine ⟨l, rfl, ⟨_, SqL.of hl⟩, ?_⟩
    refine for_list (K := K) (a := l) (xs := rs.map fun x => V.ref x.1) (fun i σ H' => ∃ y2 y3 y4 y5 y6 y7, σ = [some (.ref a), some (.ref p), y2, y3, y4, y5, y6, y7] ∧ LJ Ts P1 P2 P3 p c (400 + 100 * i) H2 H') ⟨_, _, _, _, _, _, rfl, J2⟩ (fun i σ H' _ z => by
      obtain ⟨_, _, _, _, _, _, _, j⟩ := z
      exact SqL.of (j.lst pen2 hl)) ?_ ?_
    · rintro i v σ H3 hv ⟨y2, y3, y4, y5, y6, y7, rfl, J3⟩
      rw [List.getElem?_map] at hv
      obtain ⟨⟨t, r⟩, hr1, rfl⟩ := Option.map_eq_some_iff.mp hv
      have i9 : i < 9 := by rw [← lrs]; exact (List.getElem?_eq_some_iff.mp hr1).1
      have ok : RwOk r := (hrs _ (List.mem_of_getElem? hr1)).1
      have at2 : RwAt H2 t r := (hrs _ (List.mem_of_getElem? hr1)).2
      have at3 := at2.on (J3.tup pen2)
      obtain ⟨xs, ys, ht2, lxy, lx1, lx2, hxy2, hyl, kind⟩ := row_tail ok at2
      have tk3 := J3.tup pen2
      have ht := tk3 _ _ ht2
      have hxy := fun (i : Nat) (x : V) (hx : xs[i]? = some x) => (hxy2 i x hx).imp fun y z => And.intro z.1 (z.2.on tk3)
      refine ⟨_, rfl, t, _, 0, _, rfl, rfl, SqT.of ht, atI_nat (j := 0) rfl, ?_⟩
      have wl : (wordR r).length ≤ 5 := by
        cases r with
        | enter e => show ("enter" : Str).length ≤ 5; decide +kernel
        | back n => show ("back" : Str).length ≤ 5; decide +kernel
        | close d m => show ("close" : Str).length ≤ 5; decide +kernel
      have b1 := bl1
      refine ⟨_, _, rfl, rfl, (by rw [sizeLine_eq]; omega), ⟨_, rfl⟩, ?_⟩
      refine ⟨_, rfl, 1, rfl, t, _, rfl, ht, fun b H4 s4 hb => ⟨b, rfl, ⟨_, SqT.of hb⟩, fun D nD => ?_⟩⟩
      have hb' : H4 b = some (.tup xs) := by rw [hb]; exact congrArg (fun z => some (HO.tup z)) (cut_tail (xs := V.str (wordR r) :: xs) (k := 1))
      have sD := @same_new _ _ (.lst []) nD
      refine lc_tup (K := K) (a := b) (xs := xs) (fun j H' => Same H4 H' ∧ H' D = some (.lst ((ys.take j).map V.str))) ⟨sD, upd_same⟩ (fun j H' _ z => SqT.of (z.1 _ _ hb')) ?_ ?_
      · rintro j x H5 hx ⟨s5, hD⟩
        obtain ⟨y, hy, sp⟩ := hxy j x hx
        refine ⟨rfl, yesT ⟨_, rfl, x, y, rfl, sp.on (TK.of (s4.trans s5)), _, hD, (by rw [List.length_map, List.length_take]; exact small1000 (by omega)), fun b o e => (upd_ne (ne_of_none e nD)).trans (s5 _ _ e), ?_⟩⟩
        rw [upd_same, take_sn hy, List.map_append]
        rfl
      rintro H5 ⟨s5, hD⟩
      rw [← lxy, List.take_length] at hD
      have sm := sum_le (xs := ys) (B := 10000) hyl
      have jl := join_len " " ys
      rw [b1] at jl
      refine ⟨" ", D, ys, rfl, rfl, .inl (SqL.of hD), (by rw [b1]; omega), _, _, rfl, rfl, (by rw [sizeLine_eq, app_len]; omega), ?_⟩
      have J5 := J3.same nn (s4.trans s5)
      have at5 := at3.on (TK.of (s4.trans s5))
      have ht5 := (s4.trans s5) _ _ ht
      obtain ⟨smr, l1r, l2r⟩ := row_sm ok
      refine ⟨fun σ' H' => ∃ y4 y5 y6 y7, σ' = [some (.ref a), some (.ref p), some (.ref t), some (.str (rowT r)), y4, y5, y6, y7] ∧ LJ Ts P1 P2 P3 p c (400 + 100 * i) H2 H', ?_, ?_⟩
      · refine ⟨_, rfl, t, _, 0, _, rfl, rfl, SqT.of ht5, atI_nat (j := 0) rfl, rfl, _, rfl, ?_⟩
        rcases kind with ⟨e, tp, rfl, rfl, htp⟩ | ⟨ne, te⟩
        · rw [decide_eq_true (show V.str (wordR (.enter e)) = V.str "enter" from rfl)]
          refine iteT ⟨_, rfl, t, _, 1, _, rfl, rfl, SqT.of ht5, atI_nat (j := 1) rfl, tp, e, rfl, (s4.trans s5) _ _ (tk3 _ _ htp), fine_parts ok, fun H6 s6 => ⟨_, _, rfl, rfl, ?_, ?_⟩⟩
          · have := ent_len (fine_parts ok)
            rw [sizeLine_eq, show ("enter " : Str).length = 6 from by decide +kernel]
            omega
          · refine ⟨y4, y5, y6, y7, ?_, J5.same nn s6⟩
            rw [show rowT (.enter e) = "enter " ++ entT e from by
              show ("enter" : Str) ++ " " ++ entT e = _
              rw [enter_sp]]
            rfl
        · rw [decide_eq_false fun z => by
            cases r with
            | enter e => exact ne e rfl
            | back n => exact absurd (V.str.inj z) (by show ¬ (("back" : Str) = "enter"); decide +kernel)
            | close d m => exact absurd (V.str.inj z) (by show ¬ (("close" : Str) = "enter"); decide +kernel)]
          refine iteF ⟨y4, y5, y6, y7, ?_, J5⟩
          rw [← te]
          rfl
      rintro σ H6 ⟨y4, y5, y6, y7, rfl, J6⟩
      have at6 := at2.on (J6.tup pen2)
      refine ⟨_, rfl, t, r, rfl, ok, at6, J6.tg, fun H7 b7 => ?_⟩
      have J7 := J6.tb nn b7
      have at7 := at2.on (J7.tup pen2)
      refine ⟨_, rfl, _, _, _, _, true, rfl, .ty "str", .base (.str _), kit_ty (by decide +kernel), _, rfl, iteF ?_⟩
      refine ⟨_, rfl, _, rfl, rfl, false, ne_same75, iteF ?_⟩
      refine ⟨_, rfl, .str (rowT r), rfl, J7.tg, .inl ⟨_, rfl, by omega, fun r' ok' hx' t' H8 b8 rt' => ?_, fun no _ _ _ _ => no r ok rfl⟩⟩
      have J8 := J7.tb nn b8
      have sh := short_row ok
      have sh' := short_row ok'
      refine ⟨t', _, rfl, rt'.dp, sh'.sh, sh'.nd, Nat.le_trans sh'.dp (by decide), sh'.fits (by decide), _, rfl, t, _, rfl, (at2.on (J8.tup pen2)).dp, sh.sh, sh.nd, Nat.le_trans sh.dp (by decide), sh.fits (by decide), rfl, ?_⟩
      rw [row_inj ok' ok hx'.symm, ne_same75]
      refine ⟨false, rfl, iteF ?_⟩
      have J8r := J8.re
      have pen8 := J8.pen
      refine ⟨6, rfl, by decide, by decide, fun D2 nD2 => ?_⟩
      have sD2 := @same_new _ _ (.lst []) nD2
      refine lc_range (lo := 0) (n := 6) (fun j H' => LJ Ts P1 P2 P3 p c (400 + 100 * i + 6 * j) H8 H' ∧ ∃ zs : List Str, zs.length = j ∧ H' D2 = some (.lst (zs.map V.str)) ∧ ∀ z ∈ zs, z.length ≤ 850 ∧ Sm z) ⟨J8r.same nn sD2, [], rfl, upd_same, fun z hz => nomatch hz⟩ ?_ ?_
      · rintro j H9 hj ⟨J9, zs, lz, hD9, hzs⟩
        refine ⟨rfl, yesT ⟨_, rfl, _, rfl, p, c, _, rowT r, rfl, J9.pen, by omega, l1r, by omega, smr, fun y H10 ly sy pen10 bt10 => ?_⟩⟩
        have hD10 := lst_but75 J9.pen bt10 hD9
        refine ⟨_, hD10, (by rw [List.length_map, lz]; exact small1000 (by omega)), ((J9.but pen10 bt10).put pen8 nD2 hD10).mono (by omega), zs ++ [y], by rw [List.length_append, lz]; rfl, ?_, fun z hz => ?_⟩
        · rw [upd_same, List.map_append]
          rfl
        · rcases List.mem_append.mp hz with hz | hz
          · exact hzs z hz
          · rw [List.mem_singleton.mp hz]
            exact ⟨ly, sy⟩
      rintro H9 ⟨J9, zs, lz, hD9, hzs⟩
      have sp1 : Sm " " := by unfold Sm; decide +kernel
      have sp2 : Sm "\n" := by unfold Sm; decide +kernel
      have bn : ("\n" : Str).length = 1 := by decide +kernel
      have lsz : ∀ {n : Nat}, n ≤ 990 → n ≤ sizeLine := fun h => Nat.le_of_lt (small1000 (by omega))
      refine ⟨_, rfl, _, _, rfl, rfl, lsz (by omega), _, rfl, _, _, rfl, rfl, lsz (by omega), _, rfl, _, _, rfl, rfl, lsz (by omega), _, rfl, (by show 4 ≤ sizeLine; decide), fun L nL => ?_⟩
      have sL := @same_new _ _ (.lst [V.str (rowT r ++ " "), .str (" " ++ rowT r), .str (rowT r ++ "\n"), .str (rowT r)]) nL
      refine ⟨D2, L, _, _, rfl, rfl, sL _ _ hD9, upd_same, (by rw [List.length_map, lz]; show 6 + 4 ≤ sizeLine; decide), fun M nM => ?_⟩
      have sM := @same_new _ _ (.lst (zs.map V.str ++ [V.str (rowT r ++ " "), .str (" " ++ rowT r), .str (rowT r ++ "\n"), .str (rowT r)])) nM
      have hM : (upd (upd H9 L (.lst [V.str (rowT r ++ " "), .str (" " ++ rowT r), .str (rowT r ++ "\n"), .str (rowT r)])) M (.lst (zs.map V.str ++ [V.str (rowT r ++ " "), .str (" " ++ rowT r), .str (rowT r ++ "\n"), .str (rowT r)]))) M = some (.lst ((zs ++ [rowT r ++ " ", " " ++ rowT r, rowT r ++ "\n", rowT r]).map V.str)) := by
        rw [upd_same, List.map_append]
        rfl
      have ts_ok : ∀ z ∈ zs ++ [rowT r ++ " ", " " ++ rowT r, rowT r ++ "\n", rowT r], z.length ≤ 850 ∧ Sm z := fun z hz => by
        rcases List.mem_append.mp hz with hz | hz
        · exact hzs z hz
        · simp only [List.mem_cons, List.not_mem_nil, or_false] at hz
          rcases hz with rfl | rfl | rfl | rfl
          · exact ⟨by rw [app_len]; omega, smr.app sp1⟩
          · exact ⟨by rw [app_len]; omega, sp1.app smr⟩
          · exact ⟨by rw [app_len]; omega, smr.app sp2⟩
          · exact ⟨by omega, smr⟩
      have J10 := (J9.same nn (sL.trans sM)).re
      have J8x := J9.same nn (sL.trans sM)
      refine ⟨M, rfl, ⟨_, SqL.of hM⟩, ?_⟩
      have tsl : (zs ++ [rowT r ++ " ", " " ++ rowT r, rowT r ++ "\n", rowT r]).length ≤ 10 := by rw [List.length_append, lz]; exact Nat.le_refl 10
      generalize zs ++ [rowT r ++ " ", " " ++ rowT r, rowT r ++ "\n", rowT r] = ts at hM ts_ok tsl
      generalize upd (upd H9 L (.lst [V.str (rowT r ++ " "), .str (" " ++ rowT r), .str (rowT r ++ "\n"), .str (rowT r)])) M (.lst (zs.map V.str ++ [V.str (rowT r ++ " "), .str (" " ++ rowT r), .str (rowT r ++ "\n"), .str (rowT r)])) = H10 at hM J10 J8x ⊢
      have pen10 := J10.pen
      refine for_list (K := K) (a := M) (xs := ts.map V.str) (fun j σ H' => ∃ y6 y7, σ = [some (.ref a), some (.ref p), some (.ref t), some (.str (rowT r)), y4, some (.str (rowT r)), y6, y7] ∧ LJ Ts P1 P2 P3 p c (400 + 100 * i + 36) H10 H') ⟨_, _, rfl, J10⟩ (fun j σ H' _ z => by
        obtain ⟨_, _, _, j⟩ := z
        exact SqL.of (j.lst pen10 hM)) ?_ ?_
      · rintro j v σ H11 hv ⟨y6', y7', rfl, J11⟩
        rw [List.getElem?_map] at hv
        obtain ⟨y, hy, rfl⟩ := Option.map_eq_some_iff.mp hv
        obtain ⟨ly, sy⟩ := ts_ok y (List.mem_of_getElem? hy)
        refine ⟨_, rfl, y, rfl, by omega, sy.ok, J11.tg, J11.t1, fun H12 b12 t12 => ⟨true, rfl, iteF ?_⟩⟩
        have J12 := J11.b1 nn b12 t12
        have J2all : LJ Ts P1 P2 P3 p c _ H2 H12 := (J8.tr J8x).tr J12
        have ht12 := (J2all.tup pen2) _ _ ht2
        refine ⟨_, rfl, t, _, 0, _, rfl, rfl, SqT.of ht12, atI_nat (j := 0) rfl, rfl, _, rfl, ite2 (fun z => ?_) (fun z => ?_)⟩
        · refine ⟨_, rfl, 6, rfl, y, rfl, lsz (by omega), cutS y (some 6) none, rfl, by have := cutS_length y (some 6) none; omega, sy.cut.ok, J12.tg, J12.t2, fun H13 b13 t13 => ⟨true, rfl, iteF ⟨_, _, rfl, J12.b2 nn b13 t13⟩⟩⟩
        · exact iteF ⟨_, _, rfl, J12⟩
      · rintro σ H11 ⟨y6', y7', rfl, J11⟩
        exact ⟨_, _, _, _, _, _, rfl, ((J8.tr J8x).tr J11).mono (by omega)⟩
    · rintro σ H3 ⟨y2, y3, y4, y5, y6, y7, rfl, J3⟩
      refine ⟨(by show 11 ≤ sizeLine; decide), fun L nL => ⟨L, rfl, ⟨_, SqL.of upd_same⟩, ?_⟩⟩
      have sL := @same_new _ _ (.lst [V.str "", .str " ", .str "enter", .str "enter ", .str "back", .str "back ", .str "close", .str "close 5", .str "look", .str "enter enter", .str "back -"]) nL
      have hL : (upd H3 L (.lst [V.str "", .str " ", .str "enter", .str "enter ", .str "back", .str "back ", .str "close", .str "close 5", .str "look", .str "enter enter", .str "back -"])) L = some (.lst (l11.map V.str)) := upd_same
      have J4 := (J3.same nn sL).re
      generalize upd H3 L (.lst [V.str "", .str " ", .str "enter", .str "enter ", .str "back", .str "back ", .str "close", .str "close 5", .str "look", .str "enter enter", .str "back -"]) = H4 at hL J4 ⊢
      have pen4 := J4.pen
      refine for_list (K := K) (a := L) (xs := l11.map V.str) (fun i σ H' => ∃ y2 y3 y4 y5 y6 y7, σ = [some (.ref a), some (.ref p), y2, y3, y4, y5, y6, y7] ∧ LJ Ts P1 P2 P3 p c (400 + 100 * rs.length) H4 H') ⟨_, _, _, _, _, _, rfl, by rw [List.length_map] at J4; exact J4⟩ (fun i σ H' _ z => by
        obtain ⟨_, _, _, _, _, _, _, j⟩ := z
        exact SqL.of (j.lst pen4 hL)) ?_ ?_
      · rintro i v σ H5 hv ⟨y2, y3, y4, y5, y6, y7, rfl, J5⟩
        rw [List.getElem?_map] at hv
        obtain ⟨y, hy, rfl⟩ := Option.map_eq_some_iff.mp hv
        obtain ⟨ly, sy⟩ := l11_ok y (List.mem_of_getElem? hy)
        refine ⟨_, rfl, y, rfl, by omega, sy.ok, J5.tg, J5.t1, fun H6 b6 t6 => ⟨true, rfl, iteF ?_⟩⟩
        have J6 := J5.b1 nn b6 t6
        exact ⟨_, rfl, y, rfl, by omega, sy.ok, J6.tg, J6.t2, fun H7 b7 t7 => ⟨true, rfl, iteF ⟨_, _, _, _, _, _, rfl, J6.b2 nn b7 t7⟩⟩⟩
      rintro σ H5 ⟨y2, y3, y4, y5, y6, y7, rfl, J5⟩
      have ne : ∀ {z : Addr} {Hz : Hp}, PenAt Hz p c (400 + 100 * rs.length) → Hz z = none → z ≠ p := fun pn n e => pn.there (e ▸ n)
      refine ⟨(by show 1 ≤ sizeLine; decide), fun a1 n1 => ⟨(by show 2 ≤ sizeLine; decide), fun a2 n2 => fun a3 n3 => ⟨(by show 0 ≤ sizeLine; decide), fun a4 n4 => ⟨(by show 7 ≤ sizeLine; decide), fun M nM => ⟨M, rfl, ⟨_, SqL.of upd_same⟩, ?_⟩⟩⟩⟩⟩
      have J5 := J5.re
      have p1 := ne J5.pen n1
      have s1 := @same_new _ _ (.lst [V.str "back a"]) n1
      have e1 := @upd_same H5 a1 (.lst [V.str "back a"])
      have J6 := J5.same nn s1
      generalize upd H5 a1 (.lst [V.str "back a"]) = H6 at s1 e1 J6 n2 n3 n4 nM ⊢
      have p2 := ne J6.pen n2
      have s2 := @same_new _ _ (.tup [V.str "back", .str "a"]) n2
      have e2 := @upd_same H6 a2 (.tup [V.str "back", .str "a"])
      have J7 := J6.same nn s2
      generalize upd H6 a2 (.tup [V.str "back", .str "a"]) = H7 at s2 e2 J7 n3 n4 nM ⊢
      have p3 := ne J7.pen n3
      have s3 := @same_new _ _ (.dK []) n3
      have e3 := @upd_same H7 a3 (.dK [])
      have J8 := J7.same nn s3
      generalize upd H7 a3 (.dK []) = H8 at s3 e3 J8 n4 nM ⊢
      have p4 := ne J8.pen n4
      have s4 := @same_new _ _ (.tup []) n4
      have e4 := @upd_same H8 a4 (.tup [])
      have J9 := J8.same nn s4
      generalize upd H8 a4 (.tup []) = H9 at s4 e4 J9 nM ⊢
      have s5 := @same_new _ _ (.lst [V.non, .int 7, .bl true, .ref a1, .ref a2, .ref a3, .ref a4]) nM
      have e5 := @upd_same H9 M (.lst [V.non, .int 7, .bl true, .ref a1, .ref a2, .ref a3, .ref a4])
      have J10 := (J9.same nn s5).re
      generalize upd H9 M (.lst [V.non, .int 7, .bl true, .ref a1, .ref a2, .ref a3, .ref a4]) = H10 at s5 e5 J10 ⊢
      have th : ∀ v ∈ [V.non, .int 7, .bl true, .ref a1, .ref a2, .ref a3, .ref a4], (∀ z, v ≠ .str z) ∧ Thg H10 v ∧ ∀ b, v = .ref b → b ≠ p := fun v hv => by
        simp only [List.mem_cons, List.not_mem_nil, or_false] at hv
        rcases hv with rfl | rfl | rfl | rfl | rfl | rfl | rfl
        · exact ⟨fun z h => (nomatch h), .non, fun b h => (nomatch h)⟩
        · exact ⟨fun z h => (nomatch h), .int 7, fun b h => (nomatch h)⟩
        · exact ⟨fun z h => (nomatch h), .bl true, fun b h => (nomatch h)⟩
        · exact ⟨fun z h => (nomatch h), .lst (s5 _ _ (s4 _ _ (s3 _ _ (s2 _ _ e1)))), fun b h => V.ref.inj h ▸ p1⟩
        · exact ⟨fun z h => (nomatch h), .tup (s5 _ _ (s4 _ _ (s3 _ _ e2))), fun b h => V.ref.inj h ▸ p2⟩
        · exact ⟨fun z h => (nomatch h), .dct (s5 _ _ (s4 _ _ e3)), fun b h => V.ref.inj h ▸ p3⟩
        · exact ⟨fun z h => (nomatch h), .tup (s5 _ _ e4), fun b h => V.ref.inj h ▸ p4⟩
      have pen10 := J10.pen
      refine for_list (K := K) (a := M) (xs := [V.non, .int 7, .bl true, .ref a1, .ref a2, .ref a3, .ref a4]) (fun i σ H' => ∃ y2 y3 y4 y5 y6 y7, σ = [some (.ref a), some (.ref p), y2, y3, y4, y5, y6, y7] ∧ LJ Ts P1 P2 P3 p c (400 + 100 * rs.length) H10 H') ⟨_, _, _, _, _, _, rfl, J10⟩ (fun i σ H' _ z => by
        obtain ⟨_, _, _, _, _, _, _, j⟩ := z
        exact SqL.of (j.lst pen10 e5)) ?_ ?_
      · rintro i v σ H11 hv ⟨y2, y3, y4, y5, y6, y7, rfl, J11⟩
        obtain ⟨ns, tv, vp⟩ := th v (List.mem_of_getElem? hv)
        have tg' : ∀ {H' : Hp} {k : Nat}, LJ Ts P1 P2 P3 p c k H10 H' → NoStr K H' v := fun {H' k} j => nostr_of (tv.on fun b o e h nt => j.kp b o h nt (vp b e)) ns
        refine ⟨J11.t3, fun G1 D W => ?_⟩
        have bL := TB1.lam nn.n3 J11.tg J11.t3 D
        have JL := J11.b3 nn bL D.tab
        refine ⟨_, rfl, v, rfl, JL.tg, .inr ⟨tg' JL, fun d H12 b12 hd => ⟨rfl, d, rfl, hd, fun H13 s13 => ⟨true, rfl, iteF ?_⟩⟩⟩⟩
        have J13 := (JL.tb nn b12).same nn s13
        refine ⟨J13.t3, fun G2 D2 W2 => ?_⟩
        have bL2 := TB1.lam nn.n3 J13.tg J13.t3 D2
        have JL2 := J13.b3 nn bL2 D2.tab
        refine ⟨_, rfl, v, rfl, JL2.tg, .inr ⟨tg' JL2, fun d2 H14 b14 hd2 => ⟨rfl, d2, rfl, hd2, fun H15 s15 => ⟨true, rfl, iteF ?_⟩⟩⟩⟩
        exact ⟨_, _, _, _, _, _, rfl, (JL2.tb nn b14).same nn s15⟩
      · rintro σ H11 ⟨y2, y3, y4, y5, y6, y7, rfl, J11⟩
        exact q H11
end
theorem tab_is {K : PySem.W.Frag} {x : Str} {f c T : Addr} {oc occ : Value} {od odc : Option Addr} {sl slc : Array (Option Value)} {fd : FuncData} {vs : Array Value}
    (a : PySem.W.nsIn K mainGlobals x = some (some (.ref f))) (l : K.lookup f = some ⟨oc, od, .func fd, sl⟩) (hc : fd.code = .ref c) (lc : K.lookup c = some ⟨occ, odc, .fields vs, slc⟩) (hv : (vs[11]? : Option Value) = some (.ref T)) :
    PySem.W.tabIn K x = some (c, T) := by
  unfold PySem.W.tabIn
  simp only [a, l, hc, lc, hv]
set_option maxHeartbeats 4000000 in
theorem all_mk {l : PySem.W.OpenLaw} {q : Program} {loose : List Str} {XP : (Str → Option Value) → Heap → Prop} {w : World} {s0 : Shared} {K : PySem.W.Frag} {h : Heap} {mg mb : Str → Option Value} {fa cE cX aMD fIt cNs cxcl cxcd cxnd cxne cxnf cxng cxngd cxnh cxnm cxnn cxnp cxnr cxnth cxnti cxtm cxtw f1 f2 f3 f4 f5 f6 f7 f8 f9 f10 f11 f12 f13 f14 f15 f16 f17 f18 f19 f20 f21 f23 f24 f25 f26 f27 f28 f29 f30 f31 f32 f33 f34 f35 f36 c1 T1 c3 T3 c6 T6 c8 T8 c9 T9 c33 T33 c34 T34 c36 T36 aFo aBo aFo1 aFo2 aFo3 aFo4 aFo5 aFo6 aFo7 aBo1 aBo2 aBo3 aBo4 : Addr} {dr1 : PySem.DefRec} {dr3 : PySem.DefRec} {dr6 : PySem.DefRec} {dr8 : PySem.DefRec} {dr9 : PySem.DefRec} {dr33 : PySem.DefRec} {dr34 : PySem.DefRec} {dr36 : PySem.DefRec}
    (G : PySem.W.Ground q loose [] XP w s0 mg mb h) (X : K.In h) (hfa : mg "law" = some (.ref fa))
    {od1 an1 odc1 od2 an2 od3 an3 odc3 od4 an4 od5 an5 od6 an6 odc6 od7 an7 od8 an8 odc8 od9 an9 odc9 od10 an10 od11 an11 od12 an12 od13 an13 od14 an14 od15 an15 od16 an16 od17 an17 od18 an18 od19 an19 od20 an20 od21 an21 od23 an23 od24 an24 od25 an25 od26 an26 od27 an27 od28 an28 od29 an29 od30 an30 od31 an31 od32 an32 od33 an33 odc33 od34 an34 odc34 od35 an35 od36 an36 odc36 odFo1 odFo2 odFo3 odFo4 odFo5 odFo6 odFo7 odBo1 odBo2 odBo3 odBo4 : Option Addr} {sl1 slc1 sl2 sl3 slc3 sl4 sl5 sl6 slc6 sl7 sl8 slc8 sl9 slc9 sl10 sl11 sl12 sl13 sl14 sl15 sl16 sl17 sl18 sl19 sl20 sl21 sl23 sl24 sl25 sl26 sl27 sl28 sl29 sl30 sl31 sl32 sl33 slc33 sl34 slc34 sl35 sl36 slc36 slFo1 slFo2 slFo3 slFo4 slFo5 slFo6 slFo7 slBo1 slBo2 slBo3 slBo4 : Array (Option Value)} {oc1 kV1 dc1 pm1 ct1 occ1 oc2 kV2 dc2 pm2 ct2 cd2 oc3 kV3 dc3 pm3 ct3 occ3 oc4 kV4 dc4 pm4 ct4 cd4 oc5 kV5 dc5 pm5 ct5 cd5 oc6 kV6 dc6 pm6 ct6 occ6 oc7 kV7 dc7 pm7 ct7 cd7 oc8 kV8 dc8 pm8 ct8 occ8 oc9 kV9 dc9 pm9 ct9 occ9 oc10 kV10 dc10 pm10 ct10 cd10 oc11 kV11 dc11 pm11 ct11 cd11 oc12 kV12 dc12 pm12 ct12 cd12 oc13 kV13 dc13 pm13 ct13 cd13 oc14 kV14 dc14 pm14 ct14 cd14 oc15 kV15 dc15 pm15 ct15 cd15 oc16 kV16 dc16 pm16 ct16 cd16 oc17 kV17 dc17 pm17 ct17 cd17 oc18 kV18 dc18 pm18 ct18 cd18 oc19 kV19 dc19 pm19 ct19 cd19 oc20 kV20 dc20 pm20 ct20 cd20 oc21 kV21 dc21 pm21 ct21 cd21 oc23 kV23 dc23 pm23 ct23 cd23 oc24 kV24 dc24 pm24 ct24 cd24 oc25 kV25 dc25 pm25 ct25 cd25 oc26 kV26 dc26 pm26 ct26 cd26 oc27 kV27 dc27 pm27 ct27 cd27 oc28 kV28 dc28 pm28 ct28 cd28 oc29 kV29 dc29 pm29 ct29 cd29 oc30 kV30 dc30 pm30 ct30 cd30 oc31 kV31 dc31 pm31 ct31 cd31 oc32 kV32 dc32 pm32 ct32 cd32 oc33 kV33 dc33 pm33 ct33 occ33 oc34 kV34 dc34 pm34 ct34 occ34 oc35 kV35 dc35 pm35 ct35 cd35 oc36 kV36 dc36 pm36 ct36 occ36 : Value}
    {nFo nFo1 nFo2 nFo3 nFo4 nFo5 nFo6 nFo7 nBo nBo1 nBo2 nBo3 nBo4 : Nat}
    {itFo1 itFo2 itFo3 itFo4 itFo5 itFo6 itFo7 itBo1 itBo2 itBo3 itBo4 vsc1 vsc3 vsc6 vsc8 vsc9 vsc33 vsc34 vsc36 : Array Value}
    {esFo esBo : Array DictEntry}
    {tL tN tO tFG tMF tLD : Tok}
    {odMD odIt anIt ddX : Option Addr} {itMD : Array Value} {nMD : Nat} {slMD slIt : Array (Option Value)} {ocIt kVIt dcIt pmIt cdIt ctIt : Value} {nmX qX : Str} {bsX : List Value} {snX : List Str} {subX : List Value} {abX : Bool} {colX : Option Bool} {m0X m1X m2X m3X m5X : Option Value}
    (a1 : PySem.W.nsIn K mainGlobals "is_name" = some (some (.ref f1)))
    (l1 : K.lookup f1 = some ⟨oc1, od1, .func (PySem.W.fnOf "is_name" "is_name" (defArgs sName) (defBody sName) (defScope sName) .none kV1 dc1 pm1 an1 (.ref c1) ct1), sl1⟩)
    (c_1 : PySem.W.codeIn K (.ref c1) "is_name" = true)
    (k1 : PySem.W.keepIn K (.ref f1) = true)
    (lc1 : K.lookup c1 = some ⟨occ1, odc1, .fields vsc1, slc1⟩)
    (hv1 : (vsc1[11]? : Option Value) = some (.ref T1))
    (nT1 : K.lookup T1 = none)
    (r1 : (PyProof.Rows.recsOf q).find? (fun e => e.name == ("is_name" : Str)) = some dr1)
    (a2 : PySem.W.nsIn K mainGlobals "is_whole" = some (some (.ref f2)))
    (l2 : K.lookup f2 = some ⟨oc2, od2, .func (PySem.W.fnOf "is_whole" "is_whole" (defArgs sWhole) (defBody sWhole) (defScope sWhole) .none kV2 dc2 pm2 an2 cd2 ct2), sl2⟩)
    (c_2 : PySem.W.codeIn K cd2 "is_whole" = true)
    (k2 : PySem.W.keepIn K (.ref f2) = true)
    (a3 : PySem.W.nsIn K mainGlobals "is_entry" = some (some (.ref f3)))
    (l3 : K.lookup f3 = some ⟨oc3, od3, .func (PySem.W.fnOf "is_entry" "is_entry" (defArgs sIsEntry) (defBody sIsEntry) (defScope sIsEntry) .none kV3 dc3 pm3 an3 (.ref c3) ct3), sl3⟩)
    (c_3 : PySem.W.codeIn K (.ref c3) "is_entry" = true)
    (k3 : PySem.W.keepIn K (.ref f3) = true)
    (lc3 : K.lookup c3 = some ⟨occ3, odc3, .fields vsc3, slc3⟩)
    (hv3 : (vsc3[11]? : Option Value) = some (.ref T3))
    (nT3 : K.lookup T3 = none)
    (r3 : (PyProof.Rows.recsOf q).find? (fun e => e.name == ("is_entry" : Str)) = some dr3)
    (a4 : PySem.W.nsIn K mainGlobals "fits" = some (some (.ref f4)))
    (l4 : K.lookup f4 = some ⟨oc4, od4, .func (PySem.W.fnOf "fits" "fits" (defArgs sFits) (defBody sFits) (defScope sFits) .none kV4 dc4 pm4 an4 cd4 ct4), sl4⟩)
    (c_4 : PySem.W.codeIn K cd4 "fits" = true)
    (k4 : PySem.W.keepIn K (.ref f4) = true)
    (a5 : PySem.W.nsIn K mainGlobals "places_of" = some (some (.ref f5)))
    (l5 : K.lookup f5 = some ⟨oc5, od5, .func (PySem.W.fnOf "places_of" "places_of" (defArgs sPlacesOf) (defBody sPlacesOf) (defScope sPlacesOf) .none kV5 dc5 pm5 an5 cd5 ct5), sl5⟩)
    (c_5 : PySem.W.codeIn K cd5 "places_of" = true)
    (k5 : PySem.W.keepIn K (.ref f5) = true)
    (a6 : PySem.W.nsIn K mainGlobals "number_of" = some (some (.ref f6)))
    (l6 : K.lookup f6 = some ⟨oc6, od6, .func (PySem.W.fnOf "number_of" "number_of" (defArgs sNumberOf) (defBody sNumberOf) (defScope sNumberOf) .none kV6 dc6 pm6 an6 (.ref c6) ct6), sl6⟩)
    (c_6 : PySem.W.codeIn K (.ref c6) "number_of" = true)
    (k6 : PySem.W.keepIn K (.ref f6) = true)
    (lc6 : K.lookup c6 = some ⟨occ6, odc6, .fields vsc6, slc6⟩)
    (hv6 : (vsc6[11]? : Option Value) = some (.ref T6))
    (nT6 : K.lookup T6 = none)
    (r6 : (PyProof.Rows.recsOf q).find? (fun e => e.name == ("number_of" : Str)) = some dr6)
    (a7 : PySem.W.nsIn K mainGlobals "is_day" = some (some (.ref f7)))
    (l7 : K.lookup f7 = some ⟨oc7, od7, .func (PySem.W.fnOf "is_day" "is_day" (defArgs sIsDay) (defBody sIsDay) (defScope sIsDay) .none kV7 dc7 pm7 an7 cd7 ct7), sl7⟩)
    (c_7 : PySem.W.codeIn K cd7 "is_day" = true)
    (k7 : PySem.W.keepIn K (.ref f7) = true)
    (a8 : PySem.W.nsIn K mainGlobals "entry_text" = some (some (.ref f8)))
    (l8 : K.lookup f8 = some ⟨oc8, od8, .func (PySem.W.fnOf "entry_text" "entry_text" (defArgs sEntryText) (defBody sEntryText) (defScope sEntryText) .none kV8 dc8 pm8 an8 (.ref c8) ct8), sl8⟩)
    (c_8 : PySem.W.codeIn K (.ref c8) "entry_text" = true)
    (k8 : PySem.W.keepIn K (.ref f8) = true)
    (lc8 : K.lookup c8 = some ⟨occ8, odc8, .fields vsc8, slc8⟩)
    (hv8 : (vsc8[11]? : Option Value) = some (.ref T8))
    (nT8 : K.lookup T8 = none)
    (r8 : (PyProof.Rows.recsOf q).find? (fun e => e.name == ("entry_text" : Str)) = some dr8)
    (a9 : PySem.W.nsIn K mainGlobals "row_text" = some (some (.ref f9)))
    (l9 : K.lookup f9 = some ⟨oc9, od9, .func (PySem.W.fnOf "row_text" "row_text" (defArgs sRowText) (defBody sRowText) (defScope sRowText) .none kV9 dc9 pm9 an9 (.ref c9) ct9), sl9⟩)
    (c_9 : PySem.W.codeIn K (.ref c9) "row_text" = true)
    (k9 : PySem.W.keepIn K (.ref f9) = true)
    (lc9 : K.lookup c9 = some ⟨occ9, odc9, .fields vsc9, slc9⟩)
    (hv9 : (vsc9[11]? : Option Value) = some (.ref T9))
    (nT9 : K.lookup T9 = none)
    (r9 : (PyProof.Rows.recsOf q).find? (fun e => e.name == ("row_text" : Str)) = some dr9)
    (a10 : PySem.W.nsIn K mainGlobals "read_entry" = some (some (.ref f10)))
    (l10 : K.lookup f10 = some ⟨oc10, od10, .func (PySem.W.fnOf "read_entry" "read_entry" (defArgs sReadEntry) (defBody sReadEntry) (defScope sReadEntry) .none kV10 dc10 pm10 an10 cd10 ct10), sl10⟩)
    (c_10 : PySem.W.codeIn K cd10 "read_entry" = true)
    (k10 : PySem.W.keepIn K (.ref f10) = true)
    (a11 : PySem.W.nsIn K mainGlobals "entry_in" = some (some (.ref f11)))
    (l11 : K.lookup f11 = some ⟨oc11, od11, .func (PySem.W.fnOf "entry_in" "entry_in" (defArgs sEntryIn) (defBody sEntryIn) (defScope sEntryIn) .none kV11 dc11 pm11 an11 cd11 ct11), sl11⟩)
    (c_11 : PySem.W.codeIn K cd11 "entry_in" = true)
    (k11 : PySem.W.keepIn K (.ref f11) = true)
    (a12 : PySem.W.nsIn K mainGlobals "part_in" = some (some (.ref f12)))
    (l12 : K.lookup f12 = some ⟨oc12, od12, .func (PySem.W.fnOf "part_in" "part_in" (defArgs sPartIn) (defBody sPartIn) (defScope sPartIn) .none kV12 dc12 pm12 an12 cd12 ct12), sl12⟩)
    (c_12 : PySem.W.codeIn K cd12 "part_in" = true)
    (k12 : PySem.W.keepIn K (.ref f12) = true)
    (a13 : PySem.W.nsIn K mainGlobals "read_row" = some (some (.ref f13)))
    (l13 : K.lookup f13 = some ⟨oc13, od13, .func (PySem.W.fnOf "read_row" "read_row" (defArgs sReadRow) (defBody sReadRow) (defScope sReadRow) .none kV13 dc13 pm13 an13 cd13 ct13), sl13⟩)
    (c_13 : PySem.W.codeIn K cd13 "read_row" = true)
    (k13 : PySem.W.keepIn K (.ref f13) = true)
    (a14 : PySem.W.nsIn K mainGlobals "row_in" = some (some (.ref f14)))
    (l14 : K.lookup f14 = some ⟨oc14, od14, .func (PySem.W.fnOf "row_in" "row_in" (defArgs sRowIn) (defBody sRowIn) (defScope sRowIn) .none kV14 dc14 pm14 an14 cd14 ct14), sl14⟩)
    (c_14 : PySem.W.codeIn K cd14 "row_in" = true)
    (k14 : PySem.W.keepIn K (.ref f14) = true)
    (a15 : PySem.W.nsIn K mainGlobals "_law_pen" = some (some (.ref f15)))
    (l15 : K.lookup f15 = some ⟨oc15, od15, .func (PySem.W.fnOf "_law_pen" "_law_pen" (defArgs sPen) (defBody sPen) (defScope sPen) .none kV15 dc15 pm15 an15 cd15 ct15), sl15⟩)
    (c_15 : PySem.W.codeIn K cd15 "_law_pen" = true)
    (k15 : PySem.W.keepIn K (.ref f15) = true)
    (a16 : PySem.W.nsIn K mainGlobals "_law_take" = some (some (.ref f16)))
    (l16 : K.lookup f16 = some ⟨oc16, od16, .func (PySem.W.fnOf "_law_take" "_law_take" (defArgs sTake) (defBody sTake) (defScope sTake) .none kV16 dc16 pm16 an16 cd16 ct16), sl16⟩)
    (c_16 : PySem.W.codeIn K cd16 "_law_take" = true)
    (k16 : PySem.W.keepIn K (.ref f16) = true)
    (a17 : PySem.W.nsIn K mainGlobals "_law_names" = some (some (.ref f17)))
    (l17 : K.lookup f17 = some ⟨oc17, od17, .func (PySem.W.fnOf "_law_names" "_law_names" (defArgs sNames) (defBody sNames) (defScope sNames) .none kV17 dc17 pm17 an17 cd17 ct17), sl17⟩)
    (c_17 : PySem.W.codeIn K cd17 "_law_names" = true)
    (k17 : PySem.W.keepIn K (.ref f17) = true)
    (a18 : PySem.W.nsIn K mainGlobals "_law_words" = some (some (.ref f18)))
    (l18 : K.lookup f18 = some ⟨oc18, od18, .func (PySem.W.fnOf "_law_words" "_law_words" (defArgs sWords) (defBody sWords) (defScope sWords) .none kV18 dc18 pm18 an18 cd18 ct18), sl18⟩)
    (c_18 : PySem.W.codeIn K cd18 "_law_words" = true)
    (k18 : PySem.W.keepIn K (.ref f18) = true)
    (a19 : PySem.W.nsIn K mainGlobals "_law_moments" = some (some (.ref f19)))
    (l19 : K.lookup f19 = some ⟨oc19, od19, .func (PySem.W.fnOf "_law_moments" "_law_moments" (defArgs sMoments) (defBody sMoments) (defScope sMoments) .none kV19 dc19 pm19 an19 cd19 ct19), sl19⟩)
    (c_19 : PySem.W.codeIn K cd19 "_law_moments" = true)
    (k19 : PySem.W.keepIn K (.ref f19) = true)
    (a20 : PySem.W.nsIn K mainGlobals "_law_many" = some (some (.ref f20)))
    (l20 : K.lookup f20 = some ⟨oc20, od20, .func (PySem.W.fnOf "_law_many" "_law_many" (defArgs sMany) (defBody sMany) (defScope sMany) .none kV20 dc20 pm20 an20 cd20 ct20), sl20⟩)
    (c_20 : PySem.W.codeIn K cd20 "_law_many" = true)
    (k20 : PySem.W.keepIn K (.ref f20) = true)
    (a21 : PySem.W.nsIn K mainGlobals "_law_entry_of" = some (some (.ref f21)))
    (l21 : K.lookup f21 = some ⟨oc21, od21, .func (PySem.W.fnOf "_law_entry_of" "_law_entry_of" (defArgs sEntryOf) (defBody sEntryOf) (defScope sEntryOf) .none kV21 dc21 pm21 an21 cd21 ct21), sl21⟩)
    (c_21 : PySem.W.codeIn K cd21 "_law_entry_of" = true)
    (k21 : PySem.W.keepIn K (.ref f21) = true)
    (a23 : PySem.W.nsIn K mainGlobals "_law_is_name" = some (some (.ref f23)))
    (l23 : K.lookup f23 = some ⟨oc23, od23, .func (PySem.W.fnOf "_law_is_name" "_law_is_name" (defArgs sOwn) (defBody sOwn) (defScope sOwn) .none kV23 dc23 pm23 an23 cd23 ct23), sl23⟩)
    (c_23 : PySem.W.codeIn K cd23 "_law_is_name" = true)
    (k23 : PySem.W.keepIn K (.ref f23) = true)
    (a24 : PySem.W.nsIn K mainGlobals "_law_whole" = some (some (.ref f24)))
    (l24 : K.lookup f24 = some ⟨oc24, od24, .func (PySem.W.fnOf "_law_whole" "_law_whole" (defArgs sLWhole) (defBody sLWhole) (defScope sLWhole) .none kV24 dc24 pm24 an24 cd24 ct24), sl24⟩)
    (c_24 : PySem.W.codeIn K cd24 "_law_whole" = true)
    (k24 : PySem.W.keepIn K (.ref f24) = true)
    (a25 : PySem.W.nsIn K mainGlobals "_law_ends" = some (some (.ref f25)))
    (l25 : K.lookup f25 = some ⟨oc25, od25, .func (PySem.W.fnOf "_law_ends" "_law_ends" (defArgs sEnds) (defBody sEnds) (defScope sEnds) .none kV25 dc25 pm25 an25 cd25 ct25), sl25⟩)
    (c_25 : PySem.W.codeIn K cd25 "_law_ends" = true)
    (k25 : PySem.W.keepIn K (.ref f25) = true)
    (a26 : PySem.W.nsIn K mainGlobals "_law_is_entry" = some (some (.ref f26)))
    (l26 : K.lookup f26 = some ⟨oc26, od26, .func (PySem.W.fnOf "_law_is_entry" "_law_is_entry" (defArgs sLIsEntry) (defBody sLIsEntry) (defScope sLIsEntry) .none kV26 dc26 pm26 an26 cd26 ct26), sl26⟩)
    (c_26 : PySem.W.codeIn K cd26 "_law_is_entry" = true)
    (k26 : PySem.W.keepIn K (.ref f26) = true)
    (a27 : PySem.W.nsIn K mainGlobals "_law_line" = some (some (.ref f27)))
    (l27 : K.lookup f27 = some ⟨oc27, od27, .func (PySem.W.fnOf "_law_line" "_law_line" (defArgs sLine) (defBody sLine) (defScope sLine) .none kV27 dc27 pm27 an27 cd27 ct27), sl27⟩)
    (c_27 : PySem.W.codeIn K cd27 "_law_line" = true)
    (k27 : PySem.W.keepIn K (.ref f27) = true)
    (a28 : PySem.W.nsIn K mainGlobals "_law_number" = some (some (.ref f28)))
    (l28 : K.lookup f28 = some ⟨oc28, od28, .func (PySem.W.fnOf "_law_number" "_law_number" (defArgs sLNumber) (defBody sLNumber) (defScope sLNumber) .none kV28 dc28 pm28 an28 cd28 ct28), sl28⟩)
    (c_28 : PySem.W.codeIn K cd28 "_law_number" = true)
    (k28 : PySem.W.keepIn K (.ref f28) = true)
    (a29 : PySem.W.nsIn K mainGlobals "_law_entry_in" = some (some (.ref f29)))
    (l29 : K.lookup f29 = some ⟨oc29, od29, .func (PySem.W.fnOf "_law_entry_in" "_law_entry_in" (defArgs sLEntryIn) (defBody sLEntryIn) (defScope sLEntryIn) .none kV29 dc29 pm29 an29 cd29 ct29), sl29⟩)
    (c_29 : PySem.W.codeIn K cd29 "_law_entry_in" = true)
    (k29 : PySem.W.keepIn K (.ref f29) = true)
    (a30 : PySem.W.nsIn K mainGlobals "_law_refused" = some (some (.ref f30)))
    (l30 : K.lookup f30 = some ⟨oc30, od30, .func (PySem.W.fnOf "_law_refused" "_law_refused" (defArgs sRefused) (defBody sRefused) (defScope sRefused) .none kV30 dc30 pm30 an30 cd30 ct30), sl30⟩)
    (c_30 : PySem.W.codeIn K cd30 "_law_refused" = true)
    (k30 : PySem.W.keepIn K (.ref f30) = true)
    (a31 : PySem.W.nsIn K mainGlobals "_law_row_in" = some (some (.ref f31)))
    (l31 : K.lookup f31 = some ⟨oc31, od31, .func (PySem.W.fnOf "_law_row_in" "_law_row_in" (defArgs sLRowIn) (defBody sLRowIn) (defScope sLRowIn) .none kV31 dc31 pm31 an31 cd31 ct31), sl31⟩)
    (c_31 : PySem.W.codeIn K cd31 "_law_row_in" = true)
    (k31 : PySem.W.keepIn K (.ref f31) = true)
    (a32 : PySem.W.nsIn K mainGlobals "_law_bent" = some (some (.ref f32)))
    (l32 : K.lookup f32 = some ⟨oc32, od32, .func (PySem.W.fnOf "_law_bent" "_law_bent" (defArgs sBent) (defBody sBent) (defScope sBent) .none kV32 dc32 pm32 an32 cd32 ct32), sl32⟩)
    (c_32 : PySem.W.codeIn K cd32 "_law_bent" = true)
    (k32 : PySem.W.keepIn K (.ref f32) = true)
    (a33 : PySem.W.nsIn K mainGlobals "_law_row_right" = some (some (.ref f33)))
    (l33 : K.lookup f33 = some ⟨oc33, od33, .func (PySem.W.fnOf "_law_row_right" "_law_row_right" (defArgs sRowRight) (defBody sRowRight) (defScope sRowRight) .none kV33 dc33 pm33 an33 (.ref c33) ct33), sl33⟩)
    (c_33 : PySem.W.codeIn K (.ref c33) "_law_row_right" = true)
    (k33 : PySem.W.keepIn K (.ref f33) = true)
    (lc33 : K.lookup c33 = some ⟨occ33, odc33, .fields vsc33, slc33⟩)
    (hv33 : (vsc33[11]? : Option Value) = some (.ref T33))
    (nT33 : K.lookup T33 = none)
    (r33 : (PyProof.Rows.recsOf q).find? (fun e => e.name == ("_law_row_right" : Str)) = some dr33)
    (a34 : PySem.W.nsIn K mainGlobals "_law_entry_right" = some (some (.ref f34)))
    (l34 : K.lookup f34 = some ⟨oc34, od34, .func (PySem.W.fnOf "_law_entry_right" "_law_entry_right" (defArgs sEntryRight) (defBody sEntryRight) (defScope sEntryRight) .none kV34 dc34 pm34 an34 (.ref c34) ct34), sl34⟩)
    (c_34 : PySem.W.codeIn K (.ref c34) "_law_entry_right" = true)
    (k34 : PySem.W.keepIn K (.ref f34) = true)
    (lc34 : K.lookup c34 = some ⟨occ34, odc34, .fields vsc34, slc34⟩)
    (hv34 : (vsc34[11]? : Option Value) = some (.ref T34))
    (nT34 : K.lookup T34 = none)
    (r34 : (PyProof.Rows.recsOf q).find? (fun e => e.name == ("_law_entry_right" : Str)) = some dr34)
    (a35 : PySem.W.nsIn K mainGlobals "_law_rows" = some (some (.ref f35)))
    (l35 : K.lookup f35 = some ⟨oc35, od35, .func (PySem.W.fnOf "_law_rows" "_law_rows" (defArgs sLRows) (defBody sLRows) (defScope sLRows) .none kV35 dc35 pm35 an35 cd35 ct35), sl35⟩)
    (c_35 : PySem.W.codeIn K cd35 "_law_rows" = true)
    (k35 : PySem.W.keepIn K (.ref f35) = true)
    (a36 : PySem.W.nsIn K mainGlobals "law" = some (some (.ref f36)))
    (l36 : K.lookup f36 = some ⟨oc36, od36, .func (PySem.W.fnOf "law" "law" (defArgs sLaw) (defBody sLaw) (defScope sLaw) .none kV36 dc36 pm36 an36 (.ref c36) ct36), sl36⟩)
    (c_36 : PySem.W.codeIn K (.ref c36) "law" = true)
    (k36 : PySem.W.keepIn K (.ref f36) = true)
    (lc36 : K.lookup c36 = some ⟨occ36, odc36, .fields vsc36, slc36⟩)
    (hv36 : (vsc36[11]? : Option Value) = some (.ref T36))
    (nT36 : K.lookup T36 = none)
    (r36 : (PyProof.Rows.recsOf q).find? (fun e => e.name == ("law" : Str)) = some dr36)
    (ne13 : T1 ≠ T3)
    (ne16 : T1 ≠ T6)
    (ne36 : T3 ≠ T6)
    (ne18 : T1 ≠ T8)
    (ne38 : T3 ≠ T8)
    (ne68 : T6 ≠ T8)
    (ne19 : T1 ≠ T9)
    (ne39 : T3 ≠ T9)
    (ne69 : T6 ≠ T9)
    (ne89 : T8 ≠ T9)
    (ne133 : T1 ≠ T33)
    (ne333 : T3 ≠ T33)
    (ne633 : T6 ≠ T33)
    (ne833 : T8 ≠ T33)
    (ne933 : T9 ≠ T33)
    (ne134 : T1 ≠ T34)
    (ne334 : T3 ≠ T34)
    (ne634 : T6 ≠ T34)
    (ne834 : T8 ≠ T34)
    (ne934 : T9 ≠ T34)
    (ne3334 : T33 ≠ T34)
    (ne136 : T1 ≠ T36)
    (ne336 : T3 ≠ T36)
    (ne636 : T6 ≠ T36)
    (ne836 : T8 ≠ T36)
    (ne936 : T9 ≠ T36)
    (ne3336 : T33 ≠ T36)
    (ne3436 : T34 ≠ T36)
    (AFo : PySem.W.nsIn K mainGlobals "FORMS" = some (some (.ref aFo)))
    (LFo : K.lookup aFo = some ⟨.type "dict", none, .dict esFo nFo, #[]⟩)
    (litFo : PySem.W.KeysLit w.params esFo.toList)
    (lowFo : (aFo == sysModules) = false)
    (gFo1 : PySem.W.nsIn K aFo "come" = some (some (.ref aFo1)))
    (LFo1 : K.lookup aFo1 = some ⟨.type "tuple", odFo1, .seq itFo1 nFo1, slFo1⟩)
    (zFo1 : itFo1.size ≤ sizeLine)
    (vFo1 : Vals ([.str "name", .str "moment", .str "name", .str "name", .str "many", .str "price"] : List V) itFo1.toList)
    (gFo2 : PySem.W.nsIn K aFo "go" = some (some (.ref aFo2)))
    (LFo2 : K.lookup aFo2 = some ⟨.type "tuple", odFo2, .seq itFo2 nFo2, slFo2⟩)
    (zFo2 : itFo2.size ≤ sizeLine)
    (vFo2 : Vals ([.str "name", .str "moment", .str "name", .str "name", .str "many"] : List V) itFo2.toList)
    (gFo3 : PySem.W.nsIn K aFo "move" = some (some (.ref aFo3)))
    (LFo3 : K.lookup aFo3 = some ⟨.type "tuple", odFo3, .seq itFo3 nFo3, slFo3⟩)
    (zFo3 : itFo3.size ≤ sizeLine)
    (vFo3 : Vals ([.str "name", .str "moment", .str "name", .str "name", .str "name", .str "many"] : List V) itFo3.toList)
    (gFo4 : PySem.W.nsIn K aFo "some" = some (some (.ref aFo4)))
    (LFo4 : K.lookup aFo4 = some ⟨.type "tuple", odFo4, .seq itFo4 nFo4, slFo4⟩)
    (zFo4 : itFo4.size ≤ sizeLine)
    (vFo4 : Vals ([.str "name", .str "moment", .str "name", .str "name", .str "end"] : List V) itFo4.toList)
    (gFo5 : PySem.W.nsIn K aFo "swap" = some (some (.ref aFo5)))
    (LFo5 : K.lookup aFo5 = some ⟨.type "tuple", odFo5, .seq itFo5 nFo5, slFo5⟩)
    (zFo5 : itFo5.size ≤ sizeLine)
    (vFo5 : Vals ([.str "name", .str "moment", .str "name", .str "name"] : List V) itFo5.toList)
    (gFo6 : PySem.W.nsIn K aFo "count" = some (some (.ref aFo6)))
    (LFo6 : K.lookup aFo6 = some ⟨.type "tuple", odFo6, .seq itFo6 nFo6, slFo6⟩)
    (zFo6 : itFo6.size ≤ sizeLine)
    (vFo6 : Vals ([.str "name", .str "moment", .str "name", .str "name", .str "counted", .str "name"] : List V) itFo6.toList)
    (gFo7 : PySem.W.nsIn K aFo "look" = some (some (.ref aFo7)))
    (LFo7 : K.lookup aFo7 = some ⟨.type "tuple", odFo7, .seq itFo7 nFo7, slFo7⟩)
    (zFo7 : itFo7.size ≤ sizeLine)
    (vFo7 : Vals ([.str "name", .str "moment", .str "name", .str "name"] : List V) itFo7.toList)
    (ABo : PySem.W.nsIn K mainGlobals "BOUNDS" = some (some (.ref aBo)))
    (LBo : K.lookup aBo = some ⟨.type "dict", none, .dict esBo nBo, #[]⟩)
    (litBo : PySem.W.KeysLit w.params esBo.toList)
    (lowBo : (aBo == sysModules) = false)
    (gBo1 : PySem.W.nsIn K aBo "moment" = some (some (.ref aBo1)))
    (LBo1 : K.lookup aBo1 = some ⟨.type "tuple", odBo1, .seq itBo1 nBo1, slBo1⟩)
    (zBo1 : itBo1.size ≤ sizeLine)
    (vBo1 : Vals ([.int 0, .int 9999] : List V) itBo1.toList)
    (gBo2 : PySem.W.nsIn K aBo "many" = some (some (.ref aBo2)))
    (LBo2 : K.lookup aBo2 = some ⟨.type "tuple", odBo2, .seq itBo2 nBo2, slBo2⟩)
    (zBo2 : itBo2.size ≤ sizeLine)
    (vBo2 : Vals ([.int 1, .int 1000000000] : List V) itBo2.toList)
    (gBo3 : PySem.W.nsIn K aBo "counted" = some (some (.ref aBo3)))
    (LBo3 : K.lookup aBo3 = some ⟨.type "tuple", odBo3, .seq itBo3 nBo3, slBo3⟩)
    (zBo3 : itBo3.size ≤ sizeLine)
    (vBo3 : Vals ([.int 0, .int 1000000000] : List V) itBo3.toList)
    (gBo4 : PySem.W.nsIn K aBo "price" = some (some (.ref aBo4)))
    (LBo4 : K.lookup aBo4 = some ⟨.type "tuple", odBo4, .seq itBo4 nBo4, slBo4⟩)
    (zBo4 : itBo4.size ≤ sizeLine)
    (vBo4 : Vals ([.int 0, .int 1000000000] : List V) itBo4.toList)
    (zL : PySem.W.nsIn K mainGlobals "LETTERS" = some (some (.str abc tL)))
    (zN : PySem.W.nsIn K mainGlobals "LONGEST_NAME" = some (some (.int 8 tN)))
    (zO : PySem.W.nsIn K mainGlobals "OUTSIDE" = some (some (.str "-" tO)))
    (zFG : PySem.W.nsIn K mainGlobals "FIGURES" = some (some (.str figs tFG)))
    (zMF : PySem.W.nsIn K mainGlobals "MOST_FIGURES" = some (some (.int 60 tMF)))
    (zLD : PySem.W.nsIn K mainGlobals "LAST_DAY" = some (some (.int 99 tLD)))
    (xFo : (esFo.toList.all fun e => match e.key with | .str s _ => words7.any fun y => s == y | _ => false) = true)
    (smF : (aFo == sysModules) = false)
    (HMD : PySem.W.nsIn K mainGlobals "MODES" = some (some (.ref aMD)))
    (LMD : K.lookup aMD = some ⟨.type "tuple", odMD, .seq itMD nMD, slMD⟩)
    (zMD : itMD.size ≤ sizeLine)
    (vMD : Vals (modes2.map V.str) itMD.toList)
    (HE : PySem.W.nsIn K mainGlobals "CountError" = some (some (.ref cE)))
    (HX : PySem.W.nsIn K mainGlobals "NoText" = some (some (.ref cX)))
    (Hcl : PySem.W.nsIn K mainGlobals "Clash" = some (some (.ref cxcl)))
    (Hcd : PySem.W.nsIn K mainGlobals "Closed" = some (some (.ref cxcd)))
    (Hnd : PySem.W.nsIn K mainGlobals "NoDay" = some (some (.ref cxnd)))
    (Hne : PySem.W.nsIn K mainGlobals "NoEntry" = some (some (.ref cxne)))
    (Hnf : PySem.W.nsIn K mainGlobals "NoFilling" = some (some (.ref cxnf)))
    (Hng : PySem.W.nsIn K mainGlobals "NoGo" = some (some (.ref cxng)))
    (Hngd : PySem.W.nsIn K mainGlobals "NoGood" = some (some (.ref cxngd)))
    (Hnh : PySem.W.nsIn K mainGlobals "NoHouse" = some (some (.ref cxnh)))
    (Hnm : PySem.W.nsIn K mainGlobals "NoMove" = some (some (.ref cxnm)))
    (Hnn : PySem.W.nsIn K mainGlobals "NoName" = some (some (.ref cxnn)))
    (Hnp : PySem.W.nsIn K mainGlobals "NoPlace" = some (some (.ref cxnp)))
    (Hnr : PySem.W.nsIn K mainGlobals "NoRow" = some (some (.ref cxnr)))
    (Hnth : PySem.W.nsIn K mainGlobals "NoThen" = some (some (.ref cxnth)))
    (Hnti : PySem.W.nsIn K mainGlobals "NoTie" = some (some (.ref cxnti)))
    (Htm : PySem.W.nsIn K mainGlobals "TooMany" = some (some (.ref cxtm)))
    (Htw : PySem.W.nsIn K mainGlobals "Twice" = some (some (.ref cxtw)))
    (e6 : PySem.W.specialIn K (.builtin "object.__class__") "__get__" = some (some (.builtin "getset_descriptor.__get__")))
    (e7 : PySem.W.takesIn K (.builtin "object.__class__") = some true)
    (xL : K.lookup cX = some (excClassObj nmX qX cX cNs bsX [.ref cE, .type "ValueError", .type "Exception", .type "BaseException", .type "object"] true snX subX abX colX ddX m0X m1X m2X m3X m5X "ValueError.__new__"))
    (saX : PySem.W.findIn K (.ref cX) "__setattr__" = some (some (.builtin "object.__setattr__")))
    (iX : PySem.W.findIn K (.ref cX) "__init__" = some (some (.ref fIt)))
    (tI : PySem.W.typeIn K (.ref fIt) = some (.type "function"))
    (lI : K.lookup fIt = some ⟨ocIt, odIt, .func (PySem.W.fnOf "__init__" "NoText.__init__" (defArgs sTextInit) (defBody sTextInit) (defScope sTextInit) .none kVIt dcIt pmIt anIt cdIt ctIt), slIt⟩)
    (c_I : PySem.W.codeIn K cdIt "NoText.__init__" = true)
    (kI : PySem.W.keepIn K (.ref fIt) = true)
    (nlX : PySem.W.findIn K (.ref cX) "line" = some none)
    (kpX : PySem.W.keepIn K (.ref cX) = true)
    (sbX : PySem.W.subIn K (.ref cX) (.type "BaseException") = some true)
    (tyX : PySem.W.typeIn K (.ref cX) = some (.type "type"))
    (e1X : PySem.W.findIn K (.ref cX) "__getattribute__" = some (some (.builtin "BaseException.__getattribute__")))
    (e2X : PySem.W.findIn K (.ref cX) "__getattr__" = some none)
    (e4X : PySem.W.hasDictIn K cX = true)
    (e5X : PySem.W.findIn K (.ref cX) "__class__" = some (some (.builtin "object.__class__")))
    (e8X : PySem.W.mroIn K cX (.type "object") = some true)
    (cmX : PySem.W.exmOne K (.ref cX) (.ref cE) = some true)
    (o1X : PySem.W.kitAny K (.ref cX) [.ref cxcl, .ref cxcd, .ref cxnd, .ref cxne, .ref cxnf, .ref cxng, .ref cxngd, .ref cxnh, .ref cxnm, .ref cxnn, .ref cxnp] = some false)
    (o2X : PySem.W.kitAny K (.ref cX) [.ref cxnr, .ref cxnth, .ref cxnti, .ref cxtm, .ref cxtw] = some false)
    (ntX : PySem.W.kitOne K (.ref cX) (.ref cX) = some true)
    (vX : PySem.W.kitOne K (.ref cX) (.type "ValueError") = some true)
    (y_abs : PySem.W.nsIn K mainGlobals "abs" = some none)
    (y_all : PySem.W.nsIn K mainGlobals "all" = some none)
    (y_bool : PySem.W.nsIn K mainGlobals "bool" = some none)
    (y_int : PySem.W.nsIn K mainGlobals "int" = some none)
    (y_isinstance : PySem.W.nsIn K mainGlobals "isinstance" = some none)
    (y_len : PySem.W.nsIn K mainGlobals "len" = some none)
    (y_list : PySem.W.nsIn K mainGlobals "list" = some none)
    (y_range : PySem.W.nsIn K mainGlobals "range" = some none)
    (y_repr : PySem.W.nsIn K mainGlobals "repr" = some none)
    (y_set : PySem.W.nsIn K mainGlobals "set" = some none)
    (y_str : PySem.W.nsIn K mainGlobals "str" = some none)
    (y_tuple : PySem.W.nsIn K mainGlobals "tuple" = some none)
    (y_zip : PySem.W.nsIn K mainGlobals "zip" = some none)
    (y_ValueError : PySem.W.nsIn K mainGlobals "ValueError" = some none) :
    LawG l w K 11 63 "_law_script" mg fa h := by
  have Gg := G.T.g
  have e := hfa.symm.trans (PySem.W.mg_of X Gg a36)
  cases e
  have n_abs := PySem.W.mg_none_of X Gg y_abs
  have n_all := PySem.W.mg_none_of X Gg y_all
  have n_bool := PySem.W.mg_none_of X Gg y_bool
  have n_int := PySem.W.mg_none_of X Gg y_int
  have n_isinstance := PySem.W.mg_none_of X Gg y_isinstance
  have n_len := PySem.W.mg_none_of X Gg y_len
  have n_list := PySem.W.mg_none_of X Gg y_list
  have n_range := PySem.W.mg_none_of X Gg y_range
  have n_repr := PySem.W.mg_none_of X Gg y_repr
  have n_set := PySem.W.mg_none_of X Gg y_set
  have n_str := PySem.W.mg_none_of X Gg y_str
  have n_tuple := PySem.W.mg_none_of X Gg y_tuple
  have n_zip := PySem.W.mg_none_of X Gg y_zip
  have n_ValueError := PySem.W.mg_none_of X Gg y_ValueError
  have m_L := PySem.W.mg_of X Gg zL
  have m_N := PySem.W.mg_of X Gg zN
  have m_O := PySem.W.mg_of X Gg zO
  have m_FG := PySem.W.mg_of X Gg zFG
  have m_MF := PySem.W.mg_of X Gg zMF
  have m_LD := PySem.W.mg_of X Gg zLD
  have m_Fo := PySem.W.mg_of X Gg AFo
  have m_Bo := PySem.W.mg_of X Gg ABo
  have F1 := fun_mk (st := sName) l1 c_1 k1
  have b1 := F1.binds (ps := ["thing"]) fun _ _ _ _ _ _ us hl => match us, hl with | [_], _ => rfl
  have g1 := PySem.W.mg_of X Gg a1
  have F2 := fun_mk (st := sWhole) l2 c_2 k2
  have b2 := F2.binds (ps := ["thing"]) fun _ _ _ _ _ _ us hl => match us, hl with | [_], _ => rfl
  have g2 := PySem.W.mg_of X Gg a2
  have F3 := fun_mk (st := sIsEntry) l3 c_3 k3
  have b3 := F3.binds (ps := ["thing"]) fun _ _ _ _ _ _ us hl => match us, hl with | [_], _ => rfl
  have g3 := PySem.W.mg_of X Gg a3
  have F4 := fun_mk (st := sFits) l4 c_4 k4
  have b4 := F4.binds (ps := ["part", "sort"]) fun _ _ _ _ _ _ us hl => match us, hl with | [_, _], _ => rfl
  have g4 := PySem.W.mg_of X Gg a4
  have F5 := fun_mk (st := sPlacesOf) l5 c_5 k5
  have b5 := F5.binds (ps := ["entry"]) fun _ _ _ _ _ _ us hl => match us, hl with | [_], _ => rfl
  have g5 := PySem.W.mg_of X Gg a5
  have F6 := fun_mk (st := sNumberOf) l6 c_6 k6
  have b6 := F6.binds (ps := ["word"]) fun _ _ _ _ _ _ us hl => match us, hl with | [_], _ => rfl
  have g6 := PySem.W.mg_of X Gg a6
  have F7 := fun_mk (st := sIsDay) l7 c_7 k7
  have b7 := F7.binds (ps := ["thing"]) fun _ _ _ _ _ _ us hl => match us, hl with | [_], _ => rfl
  have g7 := PySem.W.mg_of X Gg a7
  have F8 := fun_mk (st := sEntryText) l8 c_8 k8
  have b8 := F8.binds (ps := ["entry"]) fun _ _ _ _ _ _ us hl => match us, hl with | [_], _ => rfl
  have g8 := PySem.W.mg_of X Gg a8
  have F9 := fun_mk (st := sRowText) l9 c_9 k9
  have b9 := F9.binds (ps := ["row"]) fun _ _ _ _ _ _ us hl => match us, hl with | [_], _ => rfl
  have g9 := PySem.W.mg_of X Gg a9
  have F10 := fun_mk (st := sReadEntry) l10 c_10 k10
  have b10 := F10.binds (ps := ["text"]) fun _ _ _ _ _ _ us hl => match us, hl with | [_], _ => rfl
  have g10 := PySem.W.mg_of X Gg a10
  have F11 := fun_mk (st := sEntryIn) l11 c_11 k11
  have b11 := F11.binds (ps := ["text"]) fun _ _ _ _ _ _ us hl => match us, hl with | [_], _ => rfl
  have g11 := PySem.W.mg_of X Gg a11
  have F12 := fun_mk (st := sPartIn) l12 c_12 k12
  have b12 := F12.binds (ps := ["word", "sort"]) fun _ _ _ _ _ _ us hl => match us, hl with | [_, _], _ => rfl
  have g12 := PySem.W.mg_of X Gg a12
  have F13 := fun_mk (st := sReadRow) l13 c_13 k13
  have b13 := F13.binds (ps := ["text"]) fun _ _ _ _ _ _ us hl => match us, hl with | [_], _ => rfl
  have g13 := PySem.W.mg_of X Gg a13
  have F14 := fun_mk (st := sRowIn) l14 c_14 k14
  have b14 := F14.binds (ps := ["text"]) fun _ _ _ _ _ _ us hl => match us, hl with | [_], _ => rfl
  have g14 := PySem.W.mg_of X Gg a14
  have F15 := fun_mk (st := sPen) l15 c_15 k15
  have b15 := F15.binds (ps := ["_law_script"]) fun _ _ _ _ _ _ us hl => match us, hl with | [_], _ => rfl
  have g15 := PySem.W.mg_of X Gg a15
  have F16 := fun_mk (st := sTake) l16 c_16 k16
  have b16 := F16.binds (ps := ["_law_pen_here", "_law_many_here"]) fun _ _ _ _ _ _ us hl => match us, hl with | [_, _], _ => rfl
  have g16 := PySem.W.mg_of X Gg a16
  have F17 := fun_mk (st := sNames) l17 c_17 k17
  have b17 := F17.binds (ps := ["_law_pen_here", "_law_many_here"]) fun _ _ _ _ _ _ us hl => match us, hl with | [_, _], _ => rfl
  have g17 := PySem.W.mg_of X Gg a17
  have F18 := fun_mk (st := sWords) l18 c_18 k18
  have b18 := F18.binds (ps := ["_law_pen_here", "_law_places", "_law_goods", "_law_entries"]) fun _ _ _ _ _ _ us hl => match us, hl with | [_, _, _, _], _ => rfl
  have g18 := PySem.W.mg_of X Gg a18
  have F19 := fun_mk (st := sMoments) l19 c_19 k19
  have b19 := F19.binds (ps := ["_law_pen_here", "_law_many_here"]) fun _ _ _ _ _ _ us hl => match us, hl with | [_, _], _ => rfl
  have g19 := PySem.W.mg_of X Gg a19
  have F20 := fun_mk (st := sMany) l20 c_20 k20
  have b20 := F20.binds (ps := ["_law_pen_here"]) fun _ _ _ _ _ _ us hl => match us, hl with | [_], _ => rfl
  have g20 := PySem.W.mg_of X Gg a20
  have F21 := fun_mk (st := sEntryOf) l21 c_21 k21
  have b21 := F21.binds (ps := ["_law_pen_here", "_law_word", "_law_name", "_law_moment", "_law_places", "_law_goods", "_law_hands"]) fun _ _ _ _ _ _ us hl => match us, hl with | [_, _, _, _, _, _, _], _ => rfl
  have g21 := PySem.W.mg_of X Gg a21
  have F23 := fun_mk (st := sOwn) l23 c_23 k23
  have b23 := F23.binds (ps := ["_law_thing"]) fun _ _ _ _ _ _ us hl => match us, hl with | [_], _ => rfl
  have g23 := PySem.W.mg_of X Gg a23
  have F24 := fun_mk (st := sLWhole) l24 c_24 k24
  have b24 := F24.binds (ps := ["_law_thing", "_law_least", "_law_most"]) fun _ _ _ _ _ _ us hl => match us, hl with | [_, _, _], _ => rfl
  have g24 := PySem.W.mg_of X Gg a24
  have F25 := fun_mk (st := sEnds) l25 c_25 k25
  have b25 := F25.binds (ps := ["_law_thing"]) fun _ _ _ _ _ _ us hl => match us, hl with | [_], _ => rfl
  have g25 := PySem.W.mg_of X Gg a25
  have F26 := fun_mk (st := sLIsEntry) l26 c_26 k26
  have b26 := F26.binds (ps := ["_law_thing"]) fun _ _ _ _ _ _ us hl => match us, hl with | [_], _ => rfl
  have g26 := PySem.W.mg_of X Gg a26
  have F27 := fun_mk (st := sLine) l27 c_27 k27
  have b27 := F27.binds (ps := ["_law_entry_here"]) fun _ _ _ _ _ _ us hl => match us, hl with | [_], _ => rfl
  have g27 := PySem.W.mg_of X Gg a27
  have F28 := fun_mk (st := sLNumber) l28 c_28 k28
  have b28 := F28.binds (ps := ["_law_word"]) fun _ _ _ _ _ _ us hl => match us, hl with | [_], _ => rfl
  have g28 := PySem.W.mg_of X Gg a28
  have F29 := fun_mk (st := sLEntryIn) l29 c_29 k29
  have b29 := F29.binds (ps := ["_law_line_here"]) fun _ _ _ _ _ _ us hl => match us, hl with | [_], _ => rfl
  have g29 := PySem.W.mg_of X Gg a29
  have F30 := fun_mk (st := sRefused) l30 c_30 k30
  have b30 := F30.binds (ps := ["_law_ask"]) fun _ _ _ _ _ _ us hl => match us, hl with | [_], _ => rfl
  have g30 := PySem.W.mg_of X Gg a30
  have F31 := fun_mk (st := sLRowIn) l31 c_31 k31
  have b31 := F31.binds (ps := ["_law_text"]) fun _ _ _ _ _ _ us hl => match us, hl with | [_], _ => rfl
  have g31 := PySem.W.mg_of X Gg a31
  have F32 := fun_mk (st := sBent) l32 c_32 k32
  have b32 := F32.binds (ps := ["_law_pen_here", "_law_text"]) fun _ _ _ _ _ _ us hl => match us, hl with | [_, _], _ => rfl
  have g32 := PySem.W.mg_of X Gg a32
  have F33 := fun_mk (st := sRowRight) l33 c_33 k33
  have b33 := F33.binds (ps := ["_law_text"]) fun _ _ _ _ _ _ us hl => match us, hl with | [_], _ => rfl
  have g33 := PySem.W.mg_of X Gg a33
  have F34 := fun_mk (st := sEntryRight) l34 c_34 k34
  have b34 := F34.binds (ps := ["_law_text"]) fun _ _ _ _ _ _ us hl => match us, hl with | [_], _ => rfl
  have g34 := PySem.W.mg_of X Gg a34
  have F35 := fun_mk (st := sLRows) l35 c_35 k35
  have b35 := F35.binds (ps := ["_law_pen_here"]) fun _ _ _ _ _ _ us hl => match us, hl with | [_], _ => rfl
  have g35 := PySem.W.mg_of X Gg a35
  have F36 := fun_mk (st := sLaw) l36 c_36 k36
  have t1 := tab_is a1 l1 rfl lc1 hv1
  obtain ⟨hd1, tb1⟩ := PySem.W.tab_of G.T X r1 t1
  have t3 := tab_is a3 l3 rfl lc3 hv3
  obtain ⟨hd3, tb3⟩ := PySem.W.tab_of G.T X r3 t3
  have t6 := tab_is a6 l6 rfl lc6 hv6
  obtain ⟨hd6, tb6⟩ := PySem.W.tab_of G.T X r6 t6
  have t8 := tab_is a8 l8 rfl lc8 hv8
  obtain ⟨hd8, tb8⟩ := PySem.W.tab_of G.T X r8 t8
  have t9 := tab_is a9 l9 rfl lc9 hv9
  obtain ⟨hd9, tb9⟩ := PySem.W.tab_of G.T X r9 t9
  have t33 := tab_is a33 l33 rfl lc33 hv33
  obtain ⟨hd33, tb33⟩ := PySem.W.tab_of G.T X r33 t33
  have t34 := tab_is a34 l34 rfl lc34 hv34
  obtain ⟨hd34, tb34⟩ := PySem.W.tab_of G.T X r34 t34
  have t36 := tab_is a36 l36 rfl lc36 hv36
  obtain ⟨hd36, tb36⟩ := PySem.W.tab_of G.T X r36 t36
  have DF : KDict K w aFo esFo nFo := ⟨LFo, litFo, lowFo⟩
  have hF : ∀ e : Ent, ∃ aS, KDct K w aFo e.word (.ref aS) ∧ ∀ H, SqT K H aS (e.sorts.map V.str) := fun e => by
    cases e
    · exact ⟨_, ⟨esFo, nFo, _, LFo, litFo, gFo1, rfl⟩, fun H => .inr ⟨_, _, _, LFo1, rfl, rfl, zFo1, vFo1⟩⟩
    · exact ⟨_, ⟨esFo, nFo, _, LFo, litFo, gFo2, rfl⟩, fun H => .inr ⟨_, _, _, LFo2, rfl, rfl, zFo2, vFo2⟩⟩
    · exact ⟨_, ⟨esFo, nFo, _, LFo, litFo, gFo3, rfl⟩, fun H => .inr ⟨_, _, _, LFo3, rfl, rfl, zFo3, vFo3⟩⟩
    · exact ⟨_, ⟨esFo, nFo, _, LFo, litFo, gFo4, rfl⟩, fun H => .inr ⟨_, _, _, LFo4, rfl, rfl, zFo4, vFo4⟩⟩
    · exact ⟨_, ⟨esFo, nFo, _, LFo, litFo, gFo5, rfl⟩, fun H => .inr ⟨_, _, _, LFo5, rfl, rfl, zFo5, vFo5⟩⟩
    · exact ⟨_, ⟨esFo, nFo, _, LFo, litFo, gFo6, rfl⟩, fun H => .inr ⟨_, _, _, LFo6, rfl, rfl, zFo6, vFo6⟩⟩
    · exact ⟨_, ⟨esFo, nFo, _, LFo, litFo, gFo7, rfl⟩, fun H => .inr ⟨_, _, _, LFo7, rfl, rfl, zFo7, vFo7⟩⟩
  have hB : ∀ x ∈ sorts4, ∃ aT, KDct K w aBo x (.ref aT) ∧ ∀ H, SqT K H aT [.int (bnd x).1, .int (bnd x).2] := fun x hx => by
    simp only [sorts4, List.mem_cons, List.not_mem_nil, or_false] at hx
    rcases hx with rfl | rfl | rfl | rfl
    · exact ⟨_, ⟨esBo, nBo, _, LBo, litBo, gBo1, rfl⟩, fun H => .inr ⟨_, _, _, LBo1, rfl, rfl, zBo1, vBo1⟩⟩
    · exact ⟨_, ⟨esBo, nBo, _, LBo, litBo, gBo2, rfl⟩, fun H => .inr ⟨_, _, _, LBo2, rfl, rfl, zBo2, vBo2⟩⟩
    · exact ⟨_, ⟨esBo, nBo, _, LBo, litBo, gBo3, rfl⟩, fun H => .inr ⟨_, _, _, LBo3, rfl, rfl, zBo3, vBo3⟩⟩
    · exact ⟨_, ⟨esBo, nBo, _, LBo, litBo, gBo4, rfl⟩, fun H => .inr ⟨_, _, _, LBo4, rfl, rfl, zBo4, vBo4⟩⟩
  have hN : ∀ z : Str, z ∉ words7 → KLook K w aFo z none := fun z nz => ⟨esFo, nFo, LFo, litFo, forms_only LFo xFo z nz⟩
  refine ⟨PySem.W.fnOf "law" "law" (defArgs sLaw) (defBody sLaw) (defScope sLaw) .none kV36 dc36 pm36 an36 (.ref c36) ct36, [(c1, T1), (c3, T3), (c6, T6), (c8, T8), (c9, T9), (c33, T33), (c34, T34), (c36, T36)], spLaw K [T1, T3, T6, T8, T9] T33 T34 T36, ⟨fun p hp => ?_, fun p hp => ?_, fun p hp => ?_⟩, fun s v => .of_eq rfl, fun H a ns hlen hT hS => ?_, fun base _ _ TB => ?_⟩
  · simp only [List.mem_cons, List.not_mem_nil, or_false] at hp
    rcases hp with rfl | rfl | rfl | rfl | rfl | rfl | rfl | rfl
    · exact tb1
    · exact tb3
    · exact tb6
    · exact tb8
    · exact tb9
    · exact tb33
    · exact tb34
    · exact tb36
  · simp only [List.mem_cons, List.not_mem_nil, or_false] at hp
    rcases hp with rfl | rfl | rfl | rfl | rfl | rfl | rfl | rfl
    · exact nT1
    · exact nT3
    · exact nT6
    · exact nT8
    · exact nT9
    · exact nT33
    · exact nT34
    · exact nT36
  · simp only [List.mem_cons, List.not_mem_nil, or_false] at hp
    rcases hp with rfl | rfl | rfl | rfl | rfl | rfl | rfl | rfl
    · exact hd1
    · exact hd3
    · exact hd6
    · exact hd8
    · exact hd9
    · exact hd33
    · exact hd34
    · exact hd36
  · refine ⟨a, ns, rfl, hS, fun T hT' => ?_, LamX.TabS.nil (hT (c33, _) (by simp)), LamX.TabS.nil (hT (c34, _) (by simp)), LamX.TabS.nil (hT (c36, _) (by simp)), fun _ => rfl⟩
    simp only [List.mem_cons, List.not_mem_nil, or_false] at hT'
    rcases hT' with rfl | rfl | rfl | rfl | rfl
    · exact ⟨#[], hT (c1, _) (by simp), trivial⟩
    · exact ⟨#[], hT (c3, _) (by simp), trivial⟩
    · exact ⟨#[], hT (c6, _) (by simp), trivial⟩
    · exact ⟨#[], hT (c8, _) (by simp), trivial⟩
    · exact ⟨#[], hT (c9, _) (by simp), trivial⟩
  · have B1 := TB (c1, T1) (by simp)
    have B3 := TB (c3, T3) (by simp)
    have B6 := TB (c6, T6) (by simp)
    have B8 := TB (c8, T8) (by simp)
    have B9 := TB (c9, T9) (by simp)
    have B33 := TB (c33, T33) (by simp)
    have B34 := TB (c34, T34) (by simp)
    have B36 := TB (c36, T36) (by simp)
    have nPt1 : T33 ∉ [T1, T3, T6, T8, T9] := by
          simp only [List.mem_cons, List.not_mem_nil, or_false, not_or]
          exact ⟨fun z => ne133 z.symm, fun z => ne333 z.symm, fun z => ne633 z.symm, fun z => ne833 z.symm, fun z => ne933 z.symm⟩
    have nPt2 : T34 ∉ [T1, T3, T6, T8, T9] := by
          simp only [List.mem_cons, List.not_mem_nil, or_false, not_or]
          exact ⟨fun z => ne134 z.symm, fun z => ne334 z.symm, fun z => ne634 z.symm, fun z => ne834 z.symm, fun z => ne934 z.symm⟩
    have nPt3 : T36 ∉ [T1, T3, T6, T8, T9] := by
          simp only [List.mem_cons, List.not_mem_nil, or_false, not_or]
          exact ⟨fun z => ne136 z.symm, fun z => ne336 z.symm, fun z => ne636 z.symm, fun z => ne836 z.symm, fun z => ne936 z.symm⟩
    have OX : OexC K cX := ⟨⟨_, _, _, _, _, _, _, _, _, _, _, _, _, _, _, xL, by rfl⟩, saX, sbX, tyX, kpX⟩
    have FIt := fun_mk (st := sTextInit) lI c_I kI
    have bIt := FIt.binds (ps := ["self", "line"]) fun _ _ _ _ _ _ us hl => match us, hl with | [_, _], _ => rfl
    have NT : NtC l.prog w K mg base cX fIt _ := ⟨OX, iX, tI, ok_ntInit OX nlX FIt, bIt, PySem.W.mg_of X Gg HX⟩
    have RF : RefD l.prog w K mg base ⟨cxcl, cxcd, cxnd, cxne, cxnf, cxng, cxngd, cxnh, cxnm, cxnn, cxnp, cxnr, cxnth, cxnti, cxtm, cxtw⟩ cX cE f30 _ _ _ _ _ _ _ _ _ := ⟨l30, c_30, g30, k30, b30, ⟨PySem.W.mg_of X Gg Hcl, PySem.W.mg_of X Gg Hcd, PySem.W.mg_of X Gg Hnd, PySem.W.mg_of X Gg Hne, PySem.W.mg_of X Gg Hnf, PySem.W.mg_of X Gg Hng, PySem.W.mg_of X Gg Hngd, PySem.W.mg_of X Gg Hnh, PySem.W.mg_of X Gg Hnm, PySem.W.mg_of X Gg Hnn, PySem.W.mg_of X Gg Hnp, PySem.W.mg_of X Gg Hnr, PySem.W.mg_of X Gg Hnth, PySem.W.mg_of X Gg Hnti, PySem.W.mg_of X Gg Htm, PySem.W.mg_of X Gg Htw, PySem.W.mg_of X Gg HX, PySem.W.mg_of X Gg HE⟩, ⟨⟨e1X, e2X, sbX, e4X, e5X, e6, e7, e8X⟩, o1X, o2X, vX, ntX, cmX, ⟨e1X, e2X, sbX, e4X⟩, nlX⟩⟩
    have TT : TakeT l.prog w K mg base f16 _ := ⟨ok_take F16 n_len n_abs, g16, k16, b16⟩
    have NA : DefT l.prog w K mg base "_law_names" 2 f17 _ _ (spNames) := ⟨ok_names F17 TT n_len n_range, g17, k17, b17⟩
    have MY : DefT l.prog w K mg base "_law_many" 2 f20 _ _ (spMany) := ⟨ok_many F20 TT, g20, k20, b20⟩
    have EO : DefT l.prog w K mg base "_law_entry_of" 3 f21 _ _ (spEntryOf) := ⟨ok_entryOf F21 TT MY n_len, g21, k21, b21⟩
    have GP : DefT l.prog w K mg base "_law_pen" 1 f15 _ _ (spPen K) := ⟨ok_pen F15 n_list, g15, k15, b15⟩
    have WD : DefT l.prog w K mg base "_law_words" 3 f18 _ _ (spWords) := ⟨ok_words F18 TT NA, g18, k18, b18⟩
    have MO : DefT l.prog w K mg base "_law_moments" 2 f19 _ _ (spMoments) := ⟨ok_moments F19 TT n_len n_range n_int, g19, k19, b19⟩
    have NM : DefT l.prog w K mg base "is_name" 1 f1 _ _ (spName K T1) := ⟨ok_name l1 c_1 ⟨B1.code, B1.bm, B1.gP⟩ n_isinstance n_str n_len n_all ⟨_, m_L⟩ ⟨_, m_N⟩, g1, k1, b1⟩
    have WH : DefT l.prog w K mg base "is_whole" 1 f2 _ _ (spWholeA) := ⟨ok_wholeA F2 n_isinstance n_int n_bool, g2, k2, b2⟩
    have FI : DefT l.prog w K mg base "fits" 2 f4 _ _ (spFitsA T1) := ⟨ok_fitsA F4 NM WH m_Bo hB, g4, k4, b4⟩
    have PO : DefT l.prog w K mg base "places_of" 1 f5 _ _ (spPlaces) := ⟨ok_placesOf F5, g5, k5, b5⟩
    have IE : DefT l.prog w K mg base "is_entry" 4 f3 _ _ (spIsEntryA T1 T3) := ⟨ok_isEntryA l3 c_3 ⟨B3.code, B3.bm, B3.gP⟩ ne13 FI PO n_isinstance n_tuple n_len n_str n_all n_zip n_set m_Fo DF hF (forms_only LFo xFo), g3, k3, b3⟩
    have ET : DefT l.prog w K mg base "entry_text" 2 f8 _ _ (spEntryText [T1, T3, T6, T8, T9]) := ⟨ok_entryText l8 c_8 ⟨B8.code, B8.bm, B8.gP⟩ (by simp) ⟨_, m_O⟩ n_str, g8, k8, b8⟩
    have RT : DefT l.prog w K mg base "row_text" 3 f9 _ _ (spRowText [T1, T3, T6, T8, T9]) := ⟨ok_rowText l9 c_9 ⟨B9.code, B9.bm, B9.gP⟩ (by simp) ET n_str, g9, k9, b9⟩
    have NO : DefT l.prog w K mg base "number_of" 1 f6 _ _ (spNumber T6) := ⟨ok_numberOf l6 c_6 ⟨B6.code, B6.bm, B6.gP⟩ n_len n_all n_int ⟨_, m_FG⟩ ⟨_, m_MF⟩, g6, k6, b6⟩
    have DA : DefT l.prog w K mg base "is_day" 2 f7 _ _ (spIsDayA) := ⟨ok_isDay F7 WH ⟨_, m_LD⟩, g7, k7, b7⟩
    have PI : DefT l.prog w K mg base "part_in" 2 f12 _ _ (spPartIn T6) := ⟨ok_partIn F12 NO ⟨_, m_O⟩, g12, k12, b12⟩
    have EI : DefT l.prog w K mg base "entry_in" 5 f11 _ _ (spEntryInA [T1, T3, T6, T8, T9]) := ⟨ok_entryInA F11 PI IE (by simp) (by simp) (by simp) n_len n_zip m_Fo smF hF hN, g11, k11, b11⟩
    have RI : DefT l.prog w K mg base "row_in" 6 f14 _ _ (spRowIn [T1, T3, T6, T8, T9]) := ⟨ok_rowIn F14 EI NM NO DA (by simp) (by simp) (PySem.W.mg_of X Gg HMD) (fun H => .inr ⟨_, _, _, LMD, rfl, rfl, zMD, vMD⟩), g14, k14, b14⟩
    have RX : DefX l.prog w K mg base "read_row" 7 f13 _ _ (spReadRow K [T1, T3, T6, T8, T9] cX) := ⟨ok_readRow F13 RI NT n_isinstance n_str, g13, k13, b13⟩
    have RR : DefT l.prog w K mg base "read_row" 7 f13 _ _ (fun vs H Q _ => spReadRow K [T1, T3, T6, T8, T9] cX vs H Q (fun _ _ _ => False)) := ⟨FnOk.calm RX.ok, g13, k13, b13⟩
    have EX : DefX l.prog w K mg base "read_entry" 6 f10 _ _ (spReadEnt K [T1, T3, T6, T8, T9] cX) := ⟨ok_readEnt F10 EI NT n_isinstance n_str, g10, k10, b10⟩
    have ER : DefT l.prog w K mg base "read_entry" 6 f10 _ _ (fun vs H Q _ => spReadEnt K [T1, T3, T6, T8, T9] cX vs H Q (fun _ _ _ => False)) := ⟨FnOk.calm EX.ok, g10, k10, b10⟩
    have ON : DefT l.prog w K mg base "_law_is_name" 1 f23 _ _ (spOwn3) := ⟨ok_own3 F23 n_isinstance n_str n_len, g23, k23, b23⟩
    have LW : DefT l.prog w K mg base "_law_whole" 1 f24 _ _ (spLWhole) := ⟨ok_lwhole F24 n_isinstance n_int n_bool, g24, k24, b24⟩
    have EN : DefT l.prog w K mg base "_law_ends" 2 f25 _ _ (spEnds) := ⟨ok_ends F25 ON n_isinstance n_str, g25, k25, b25⟩
    have LI : DefT l.prog w K mg base "_law_is_entry" 3 f26 _ _ (spLIsE) := ⟨ok_lisE F26 ON LW EN n_isinstance n_tuple n_len n_str, g26, k26, b26⟩
    have LL : DefT l.prog w K mg base "_law_line" 1 f27 _ _ (spLine) := ⟨ok_line F27 n_str, g27, k27, b27⟩
    have LN : DefT l.prog w K mg base "_law_number" 1 f28 _ _ (spLNumber) := ⟨ok_lnumber F28 n_len n_int, g28, k28, b28⟩
    have LE : DefT l.prog w K mg base "_law_entry_in" 4 f29 _ _ (spLEntryIn) := ⟨ok_lentryIn F29 LN LI n_len n_tuple n_int, g29, k29, b29⟩
    have LR : DefT l.prog w K mg base "_law_row_in" 5 f31 _ _ (spLRowIn) := ⟨ok_lrowIn F31 LE ON LN n_len n_int, g31, k31, b31⟩
    have BE : DefT l.prog w K mg base "_law_bent" 2 f32 _ _ (spBent) := ⟨ok_bent F32 TT n_len, g32, k32, b32⟩
    have R1 : DefG l.prog w K mg base "_law_row_right" 10 f33 _ _ (spRight qRow [T1, T3, T6, T8, T9] T33) := ⟨ok_rowRight l33 c_33 B33 nPt1 RF LR RT RX RR n_repr n_isinstance n_int n_ValueError, g33, k33, b33⟩
    have R2 : DefG l.prog w K mg base "_law_entry_right" 9 f34 _ _ (spRight qEnt [T1, T3, T6, T8, T9] T34) := ⟨ok_entRight l34 c_34 B34 nPt2 RF LE ET EX ER n_repr n_isinstance n_int n_ValueError, g34, k34, b34⟩
    have LS : DefT l.prog w K mg base "_law_rows" 4 f35 _ _ (spRows) := ⟨ok_lrows F35 TT WD MO EO n_range, g35, k35, b35⟩
    exact ok_law l36 c_36 B36 ⟨nPt1, nPt2, nPt3, ne3334, ne3336, ne3436⟩ RF GP LS LL RT RX RR EX BE R1 R2 n_repr n_isinstance n_int n_ValueError n_str n_range
end Shelf
open PySem PySem.W PyProof.Rows
set_option maxHeartbeats 0 in
theorem PySem.Challenge.cw_shelfcounts_k75_rows_of_a_log_written_an_holds : PySem.Challenge.rw_shelfcounts_k75_rows_of_a_log_written_an.Holds := by
  w_on; o_law; k_head; (case hw => w_witness2)
  k_fill
  refine Shelf.end_G (l := PySem.Challenge.rw_shelfcounts_k75_rows_of_a_log_written_an) (n := 63) (k := 11) (x := "_law_script") rfl (by decide) rfl ⟨rfl, by decide, by decide⟩ (fun w h Y => PySem.W.km_in_of Y) ?F
  case F =>
    intro w s0 mg mb fa h G KX hmg
    refine' Shelf.all_mk G KX hmg ?a1 ?l1 ?c_1 ?k1 ?lc1 ?hv1 ?nT1 ?r1 ?a2 ?l2 ?c_2 ?k2 ?a3 ?l3 ?c_3 ?k3 ?lc3 ?hv3 ?nT3 ?r3 ?a4 ?l4 ?c_4 ?k4 ?a5 ?l5 ?c_5 ?k5 ?a6 ?l6 ?c_6 ?k6 ?lc6 ?hv6 ?nT6 ?r6 ?a7 ?l7 ?c_7 ?k7 ?a8 ?l8 ?c_8 ?k8 ?lc8 ?hv8 ?nT8 ?r8 ?a9 ?l9 ?c_9 ?k9 ?lc9 ?hv9 ?nT9 ?r9 ?a10 ?l10 ?c_10 ?k10 ?a11 ?l11 ?c_11 ?k11 ?a12 ?l12 ?c_12 ?k12 ?a13 ?l13 ?c_13 ?k13 ?a14 ?l14 ?c_14 ?k14 ?a15 ?l15 ?c_15 ?k15 ?a16 ?l16 ?c_16 ?k16 ?a17 ?l17 ?c_17 ?k17 ?a18 ?l18 ?c_18 ?k18 ?a19 ?l19 ?c_19 ?k19 ?a20 ?l20 ?c_20 ?k20 ?a21 ?l21 ?c_21 ?k21 ?a23 ?l23 ?c_23 ?k23 ?a24 ?l24 ?c_24 ?k24 ?a25 ?l25 ?c_25 ?k25 ?a26 ?l26 ?c_26 ?k26 ?a27 ?l27 ?c_27 ?k27 ?a28 ?l28 ?c_28 ?k28 ?a29 ?l29 ?c_29 ?k29 ?a30 ?l30 ?c_30 ?k30 ?a31 ?l31 ?c_31 ?k31 ?a32 ?l32 ?c_32 ?k32 ?a33 ?l33 ?c_33 ?k33 ?lc33 ?hv33 ?nT33 ?r33 ?a34 ?l34 ?c_34 ?k34 ?lc34 ?hv34 ?nT34 ?r34 ?a35 ?l35 ?c_35 ?k35 ?a36 ?l36 ?c_36 ?k36 ?lc36 ?hv36 ?nT36 ?r36 ?ne13 ?ne16 ?ne36 ?ne18 ?ne38 ?ne68 ?ne19 ?ne39 ?ne69 ?ne89 ?ne133 ?ne333 ?ne633 ?ne833 ?ne933 ?ne134 ?ne334 ?ne634 ?ne834 ?ne934 ?ne3334 ?ne136 ?ne336 ?ne636 ?ne836 ?ne936 ?ne3336 ?ne3436 ?AFo ?LFo ?litFo ?lowFo ?gFo1 ?LFo1 ?zFo1 ?vFo1 ?gFo2 ?LFo2 ?zFo2 ?vFo2 ?gFo3 ?LFo3 ?zFo3 ?vFo3 ?gFo4 ?LFo4 ?zFo4 ?vFo4 ?gFo5 ?LFo5 ?zFo5 ?vFo5 ?gFo6 ?LFo6 ?zFo6 ?vFo6 ?gFo7 ?LFo7 ?zFo7 ?vFo7 ?ABo ?LBo ?litBo ?lowBo ?gBo1 ?LBo1 ?zBo1 ?vBo1 ?gBo2 ?LBo2 ?zBo2 ?vBo2 ?gBo3 ?LBo3 ?zBo3 ?vBo3 ?gBo4 ?LBo4 ?zBo4 ?vBo4 ?zL ?zN ?zO ?zFG ?zMF ?zLD ?xFo ?smF ?HMD ?LMD ?zMD ?vMD ?HE ?HX ?Hcl ?Hcd ?Hnd ?Hne ?Hnf ?Hng ?Hngd ?Hnh ?Hnm ?Hnn ?Hnp ?Hnr ?Hnth ?Hnti ?Htm ?Htw ?e6 ?e7 ?xL ?saX ?iX ?tI ?lI ?c_I ?kI ?nlX ?kpX ?sbX ?tyX ?e1X ?e2X ?e4X ?e5X ?e8X ?cmX ?o1X ?o2X ?ntX ?vX ?y_abs ?y_all ?y_bool ?y_int ?y_isinstance ?y_len ?y_list ?y_range ?y_repr ?y_set ?y_str ?y_tuple ?y_zip ?y_ValueError
    (case a1 => k_is); (case l1 => k_is); (case c_1 => k_is); (case k1 => k_is); (case lc1 => k_is); (case hv1 => rfl)
    (case nT1 => kernel_rfl); (case r1 => rfl); (case a2 => k_is); (case l2 => k_is); (case c_2 => k_is); (case k2 => k_is)
    (case a3 => k_is); (case l3 => k_is); (case c_3 => k_is); (case k3 => k_is); (case lc3 => k_is); (case hv3 => rfl)
    (case nT3 => kernel_rfl); (case r3 => rfl); (case a4 => k_is); (case l4 => k_is); (case c_4 => k_is); (case k4 => k_is)
    (case a5 => k_is); (case l5 => k_is); (case c_5 => k_is); (case k5 => k_is); (case a6 => k_is); (case l6 => k_is)
    (case c_6 => k_is); (case k6 => k_is); (case lc6 => k_is); (case hv6 => rfl); (case nT6 => kernel_rfl); (case r6 => rfl)
    (case a7 => k_is); (case l7 => k_is); (case c_7 => k_is); (case k7 => k_is); (case a8 => k_is); (case l8 => k_is)
    (case c_8 => k_is); (case k8 => k_is); (case lc8 => k_is); (case hv8 => rfl); (case nT8 => kernel_rfl); (case r8 => rfl)
    (case a9 => k_is); (case l9 => k_is); (case c_9 => k_is); (case k9 => k_is); (case lc9 => k_is); (case hv9 => rfl)
    (case nT9 => kernel_rfl); (case r9 => rfl); (case a10 => k_is); (case l10 => k_is); (case c_10 => k_is); (case k10 => k_is)
    (case a11 => k_is); (case l11 => k_is); (case c_11 => k_is); (case k11 => k_is); (case a12 => k_is); (case l12 => k_is)
    (case c_12 => k_is); (case k12 => k_is); (case a13 => k_is); (case l13 => k_is); (case c_13 => k_is); (case k13 => k_is)
    (case a14 => k_is); (case l14 => k_is); (case c_14 => k_is); (case k14 => k_is); (case a15 => k_is); (case l15 => k_is)
    (case c_15 => k_is); (case k15 => k_is); (case a16 => k_is); (case l16 => k_is); (case c_16 => k_is); (case k16 => k_is)
    (case a17 => k_is); (case l17 => k_is); (case c_17 => k_is); (case k17 => k_is); (case a18 => k_is); (case l18 => k_is)
    (case c_18 => k_is); (case k18 => k_is); (case a19 => k_is); (case l19 => k_is); (case c_19 => k_is); (case k19 => k_is)
    (case a20 => k_is); (case l20 => k_is); (case c_20 => k_is); (case k20 => k_is); (case a21 => k_is); (case l21 => k_is)
    (case c_21 => k_is); (case k21 => k_is); (case a23 => k_is); (case l23 => k_is); (case c_23 => k_is); (case k23 => k_is)
    (case a24 => k_is); (case l24 => k_is); (case c_24 => k_is); (case k24 => k_is); (case a25 => k_is); (case l25 => k_is)
    (case c_25 => k_is); (case k25 => k_is); (case a26 => k_is); (case l26 => k_is); (case c_26 => k_is); (case k26 => k_is)
    (case a27 => k_is); (case l27 => k_is); (case c_27 => k_is); (case k27 => k_is); (case a28 => k_is); (case l28 => k_is)
    (case c_28 => k_is); (case k28 => k_is); (case a29 => k_is); (case l29 => k_is); (case c_29 => k_is); (case k29 => k_is)
    (case a30 => k_is); (case l30 => k_is); (case c_30 => k_is); (case k30 => k_is); (case a31 => k_is); (case l31 => k_is)
    (case c_31 => k_is); (case k31 => k_is); (case a32 => k_is); (case l32 => k_is); (case c_32 => k_is); (case k32 => k_is)
    (case a33 => k_is); (case l33 => k_is); (case c_33 => k_is); (case k33 => k_is); (case lc33 => k_is); (case hv33 => rfl)
    (case nT33 => kernel_rfl); (case r33 => rfl); (case a34 => k_is); (case l34 => k_is); (case c_34 => k_is); (case k34 => k_is)
    (case lc34 => k_is); (case hv34 => rfl); (case nT34 => kernel_rfl); (case r34 => rfl); (case a35 => k_is); (case l35 => k_is)
    (case c_35 => k_is); (case k35 => k_is); (case a36 => k_is); (case l36 => k_is); (case c_36 => k_is); (case k36 => k_is)
    (case lc36 => k_is); (case hv36 => rfl); (case nT36 => kernel_rfl); (case r36 => rfl); (case ne13 => decide); (case ne16 => decide)
    (case ne36 => decide); (case ne18 => decide); (case ne38 => decide); (case ne68 => decide); (case ne19 => decide); (case ne39 => decide)
    (case ne69 => decide); (case ne89 => decide); (case ne133 => decide); (case ne333 => decide); (case ne633 => decide); (case ne833 => decide)
    (case ne933 => decide); (case ne134 => decide); (case ne334 => decide); (case ne634 => decide); (case ne834 => decide); (case ne934 => decide)
    (case ne3334 => decide); (case ne136 => decide); (case ne336 => decide); (case ne636 => decide); (case ne836 => decide); (case ne936 => decide)
    (case ne3336 => decide); (case ne3436 => decide); (case AFo => k_is); (case LFo => k_is); (case litFo => repeat' (first | exact True.intro | refine ⟨⟨_, _, rfl, rfl⟩, ?_⟩)); (case lowFo => rfl)
    (case gFo1 => k_is); (case LFo1 => k_is); (case zFo1 => decide); (case vFo1 => repeat' (first | exact .nil | refine .cons ⟨_, rfl⟩ ?_)); (case gFo2 => k_is); (case LFo2 => k_is)
    (case zFo2 => decide); (case vFo2 => repeat' (first | exact .nil | refine .cons ⟨_, rfl⟩ ?_)); (case gFo3 => k_is); (case LFo3 => k_is); (case zFo3 => decide); (case vFo3 => repeat' (first | exact .nil | refine .cons ⟨_, rfl⟩ ?_))
    (case gFo4 => k_is); (case LFo4 => k_is); (case zFo4 => decide); (case vFo4 => repeat' (first | exact .nil | refine .cons ⟨_, rfl⟩ ?_)); (case gFo5 => k_is); (case LFo5 => k_is)
    (case zFo5 => decide); (case vFo5 => repeat' (first | exact .nil | refine .cons ⟨_, rfl⟩ ?_)); (case gFo6 => k_is); (case LFo6 => k_is); (case zFo6 => decide); (case vFo6 => repeat' (first | exact .nil | refine .cons ⟨_, rfl⟩ ?_))
    (case gFo7 => k_is); (case LFo7 => k_is); (case zFo7 => decide); (case vFo7 => repeat' (first | exact .nil | refine .cons ⟨_, rfl⟩ ?_)); (case ABo => k_is); (case LBo => k_is)
    (case litBo => repeat' (first | exact True.intro | refine ⟨⟨_, _, rfl, rfl⟩, ?_⟩)); (case lowBo => rfl); (case gBo1 => k_is); (case LBo1 => k_is); (case zBo1 => decide); (case vBo1 => repeat' (first | exact .nil | refine .cons ⟨_, rfl⟩ ?_))
    (case gBo2 => k_is); (case LBo2 => k_is); (case zBo2 => decide); (case vBo2 => repeat' (first | exact .nil | refine .cons ⟨_, rfl⟩ ?_)); (case gBo3 => k_is); (case LBo3 => k_is)
    (case zBo3 => decide); (case vBo3 => repeat' (first | exact .nil | refine .cons ⟨_, rfl⟩ ?_)); (case gBo4 => k_is); (case LBo4 => k_is); (case zBo4 => decide); (case vBo4 => repeat' (first | exact .nil | refine .cons ⟨_, rfl⟩ ?_))
    (case zL => k_is); (case zN => k_is); (case zO => k_is); (case zFG => k_is); (case zMF => k_is); (case zLD => k_is)
    (case xFo => rfl); (case smF => rfl); (case HMD => k_is); (case LMD => k_is); (case zMD => decide); (case vMD => repeat' (first | exact .nil | refine .cons ⟨_, rfl⟩ ?_))
    (case HE => k_is); (case HX => k_is); (case Hcl => k_is); (case Hcd => k_is); (case Hnd => k_is); (case Hne => k_is)
    (case Hnf => k_is); (case Hng => k_is); (case Hngd => k_is); (case Hnh => k_is); (case Hnm => k_is); (case Hnn => k_is)
    (case Hnp => k_is); (case Hnr => k_is); (case Hnth => k_is); (case Hnti => k_is); (case Htm => k_is); (case Htw => k_is)
    (case e6 => k_is); (case e7 => k_is); (case xL => k_is); (case saX => k_is); (case iX => k_is); (case tI => k_is)
    (case lI => k_is); (case c_I => k_is); (case kI => k_is); (case nlX => k_is); (case kpX => k_is); (case sbX => k_is)
    (case tyX => k_is); (case e1X => k_is); (case e2X => k_is); (case e4X => k_is); (case e5X => k_is); (case e8X => k_is)
    (case cmX => kernel_rfl); (case o1X => kernel_rfl); (case o2X => kernel_rfl); (case ntX => kernel_rfl); (case vX => kernel_rfl); (case y_abs => k_is)
    (case y_all => k_is); (case y_bool => k_is); (case y_int => k_is); (case y_isinstance => k_is); (case y_len => k_is); (case y_list => k_is)
    (case y_range => k_is); (case y_repr => k_is); (case y_set => k_is); (case y_str => k_is); (case y_tuple => k_is); (case y_zip => k_is)
    (case y_ValueError => k_is)

import PyProof.Rows.All
import Wide.All
import OpenK.AllK
import Wide.FinOn
import HandS.ForMost
import HandS.AnyAll
import HandS.IsInst
import HandS.Style
import HandS.EndTab
import HandS.Codes
import HandS.GenOver
import HandS.Strs
import HandS.Zip
import HandS.Walk
import HandS.More
import KE.KEqSeq
import HandS.SortKw
import HandS.Keys
import HandS.ExcValue
import HandS.ExcIs
import HandS.ForExc
import HandS.Lambda
import HandS.TupAny
import HandS.DictComp
import KE.SortKeyHeap
import KE.KRevSl
import PyProof.DictUpdate
import PyProof.DictDisplay
import PyProof.DictValues
import HandS.SetTxt0
import HandS.Set
import KE.KDictList
import PyProof.MeetsDict
import HandS.JoinGen
import HandS.Text
import HandS.Star
import KE.KUnpackStar
import KE.KIntText
import KE.IntTextLaws
import KE.GoesEnum
import HandS.StrMore
import HandS.MapJoin
import HandS.Zip0
import HandS.Iter
import PySem.Challenge.RW_shelfcounts_k74_what_writes_no_house
import HandS.Conv
import KE.GoesZip
import KE.GoesMore
import HandS.RaiseMore
import KE.DataCmp
import HandS.ExcInit
import HandS.ExcField
import KE.KExcIs
import HandS.Replace
import HandS.ReplaceLit
import HandS.ReplaceList
set_option Elab.async false
set_option linter.all false
set_option maxRecDepth 100000
namespace Shelf
open PySem PySem.Spec PyProof.Rows L2
def topS (i : Nat) : Stmt := PySem.Challenge.pw_shelfcounts_k74_what_writes_no_house.main.body.getD i (.Pass ⟨0, 0, 0, 0⟩)
abbrev sName : Stmt := topS 3
abbrev sWhole : Stmt := topS 4
abbrev sAreRising : Stmt := topS 5
abbrev sIsEntry : Stmt := topS 10
abbrev sFits : Stmt := topS 11
abbrev sIsEntryOf : Stmt := topS 12
abbrev sGood : Stmt := topS 13
abbrev sPlacesOf : Stmt := topS 14
abbrev sOrd : Stmt := topS 15
abbrev sAhead : Stmt := topS 16
abbrev sNumberOf : Stmt := topS 39
abbrev sEntryText : Stmt := topS 45
abbrev sHouseText : Stmt := topS 46
abbrev sEntryIn : Stmt := topS 48
abbrev sPartIn : Stmt := topS 49
abbrev sReadHouse : Stmt := topS 50
abbrev sNamesIn : Stmt := topS 51
abbrev sEntriesIn : Stmt := topS 52
abbrev sGoesBehind : Stmt := topS 53
abbrev sPen : Stmt := topS 55
abbrev sTake : Stmt := topS 56
abbrev sNames : Stmt := topS 57
abbrev sWords : Stmt := topS 58
abbrev sMoments : Stmt := topS 59
abbrev sOwn : Stmt := topS 60
abbrev sHouse : Stmt := topS 61
abbrev sMany : Stmt := topS 62
abbrev sEntryOf : Stmt := topS 63
abbrev sEntry : Stmt := topS 64
abbrev sOwnN : Stmt := topS 65
abbrev sLWhole : Stmt := topS 66
abbrev sEnds : Stmt := topS 67
abbrev sLIsEntry : Stmt := topS 68
abbrev sLine : Stmt := topS 69
abbrev sText : Stmt := topS 70
abbrev sLNumber : Stmt := topS 71
abbrev sLEntryIn : Stmt := topS 72
abbrev sLNamesIn : Stmt := topS 73
abbrev sLFits : Stmt := topS 74
abbrev sBadLine : Stmt := topS 75
abbrev sWordBent : Stmt := topS 76
abbrev sBent : Stmt := topS 77
abbrev sLineTold : Stmt := topS 78
abbrev sLRight : Stmt := topS 79
abbrev sLaw : Stmt := topS 80
/-! ### the pen: what a script is drawn from -/
theorem same_new {H : Hp} {p : Addr} {o : HO} (h : H p = none) : Same H (upd H p o) := fun b x e => (upd_ne (ne_of_none e h)).trans e
/-- all but the object at p is as it was -/
def But (p : Addr) (H H' : Hp) : Prop := ∀ b o, H b = some o → b ≠ p → H' b = some o
theorem But.refl (p : Addr) (H : Hp) : But p H H := fun _ _ e _ => e
theorem But.of {p : Addr} {H H' : Hp} (h : Same H H') : But p H H' := fun b o e _ => h b o e
theorem But.tr {p : Addr} {H H1 H2 : Hp} (a : But p H H1) (b : But p H1 H2) : But p H H2 := fun c o e n => b c o (a c o e n) n
theorem But.to {p : Addr} {H H1 : Hp} (a : But p H H1) {l : Addr} {o : HO} (h : H l = none) (n : H p ≠ none) : But p H (upd H1 l o) := fun c u e nc => (upd_ne (ne_of_none e h)).trans (a c u e nc)
theorem dget_s {H : Hp} {p : Addr} {kvs : List (Key × V)} {x : Str} {v : V} (h : H p = some (.dK kvs)) (e : valV kvs (Sum.inr x) = some v) : DGet H p (.str x) (some v) := .inl ⟨kvs, Sum.inr x, .inl h, rfl, e.symm⟩
theorem dput_s {H : Hp} {p : Addr} {kvs : List (Key × V)} {x : Str} {v : V} (h : H p = some (.dK kvs)) (hl : kvs.length < sizeLine) : DPut H p (.str x) v (upd H p (.dK (putK kvs (Sum.inr x) v))) := .inl ⟨kvs, Sum.inr x, h, rfl, hl, rfl⟩
theorem put_len {kvs : List (Key × V)} {k : Key} {v u : V} (e : valV kvs k = some u) : (putK kvs k v).length = kvs.length := by
  have h := valV_any k kvs
  rw [e] at h
  have h' : (kvs.any fun kv => decide (kv.1 = k)) = true := h
  unfold putK
  rw [if_pos h', List.length_map]
abbrev kCells : Key := Sum.inr "cells"
abbrev kAt : Key := Sum.inr "at"
abbrev kLeft : Key := Sum.inr "left"
theorem nCA : ¬ kCells = kAt := by decide +kernel
theorem nCL : ¬ kCells = kLeft := by decide +kernel
theorem nAL : ¬ kAt = kLeft := by decide +kernel
theorem nLA : ¬ kLeft = kAt := by decide +kernel
/-- a pen stands at p, its cells at c; at most n have been drawn -/
structure PenAt (H : Hp) (p c : Addr) (n : Nat) : Prop where
  ex : ∃ (kvs : List (Key × V)) (ns : List Int) (a l : Int), H p = some (.dK kvs) ∧ kvs.length ≤ 3 ∧ valV kvs kCells = some (.ref c) ∧ valV kvs kAt = some (.int a) ∧ valV kvs kLeft = some (.int l) ∧ H c = some (.lst (ns.map V.int)) ∧ 0 ≤ a ∧ a ≤ n ∧ 0 ≤ l
theorem PenAt.same {H H' : Hp} {p c : Addr} {n : Nat} (P : PenAt H p c n) (h : Same H H') : PenAt H' p c n := by
  obtain ⟨kvs, ns, a, l, h1, h2, h3, h4, h5, h6, h7⟩ := P.ex
  exact ⟨kvs, ns, a, l, h _ _ h1, h2, h3, h4, h5, h _ _ h6, h7⟩
theorem PenAt.there {H : Hp} {p c : Addr} {n : Nat} (P : PenAt H p c n) : H p ≠ none := by
  obtain ⟨kvs, ns, a, l, h1, _⟩ := P.ex
  rw [h1]
  exact fun z => nomatch z
theorem PenAt.cells {H : Hp} {p c : Addr} {n : Nat} (P : PenAt H p c n) : H c ≠ none := by
  obtain ⟨kvs, ns, a, l, _, _, _, _, _, h1, _⟩ := P.ex
  rw [h1]
  exact fun z => nomatch z
theorem PenAt.upd {H : Hp} {p c l : Addr} {n : Nat} {o : HO} (P : PenAt H p c n) (h1 : l ≠ p) (h2 : l ≠ c) : PenAt (L2.upd H l o) p c n := by
  obtain ⟨kvs, ns, a, x, g1, g2, g3, g4, g5, g6, g7⟩ := P.ex
  exact ⟨kvs, ns, a, x, (upd_ne h1.symm).trans g1, g2, g3, g4, g5, (upd_ne h2.symm).trans g6, g7⟩
theorem PenAt.mono {H : Hp} {p c : Addr} {n m : Nat} (P : PenAt H p c n) (h : n ≤ m) : PenAt H p c m := by
  obtain ⟨kvs, ns, a, l, g1, g2, g3, g4, g5, g6, g7, g8, g9⟩ := P.ex
  exact ⟨kvs, ns, a, l, g1, g2, g3, g4, g5, g6, g7, by omega, g9⟩
theorem dp_ints {K : PySem.W.Frag} {H : Hp} : ∀ ns : List Int, DpAll K H (ns.map V.int) (ns.map PyData.int)
  | [] => .nil
  | n :: r => .cons (.int n) (dp_ints r)
/-- what a draw promises: a number below many, the pen drawn once more, nothing else touched -/
def spTake : Sp := fun vs H Q _ => ∃ (p c : Addr) (n : Nat) (m : Int), vs = [.ref p, .int m] ∧ PenAt H p c n ∧ n ≤ 100000 ∧ 1 ≤ m ∧ m ≤ 1000000000 ∧
  ∀ (r : Int) (H' : Hp), 0 ≤ r → r < m → PenAt H' p c (n + 1) → But p H H' → Q (.int r) H'
def spPen (K : PySem.W.Frag) : Sp := fun vs H Q _ => ∃ (a : Addr) (ns : List Int), vs = [.ref a] ∧ SqL K H a (ns.map V.int) ∧
  ∀ (p c : Addr) (H' : Hp), H p = none → H c = none → PenAt H' p c 0 → Same H H' → Q (.ref p) H'
theorem mem_cut {α : Type} {xs : List α} {lo hi : Nat} : ∀ x ∈ (xs.drop lo).take hi, x ∈ xs := fun x h => List.mem_of_mem_drop (List.mem_of_mem_take h)
theorem cut_ints (ns : List Int) (lo hi : Option Int) : ∃ ms : List Int, cutV (ns.map V.int) lo hi = ms.map V.int := by
  unfold cutV
  rw [← List.map_drop, ← List.map_take]
  exact ⟨_, rfl⟩
section
variable {P : Program} {w : World} {K : PySem.W.Frag} {mg : Str → Option Value} {base : Heap}
theorem scPen : FnScope ["_law_script"] ["_law_script"] (defScope sPen) := ⟨rfl, rfl, rfl, by decide +kernel, rfl, by decide +kernel, by decide +kernel⟩
theorem scTake : FnScope ["_law_pen_here", "_law_many_here", "_law_found", "_law_at", "_law_cells", "_law_cell", "_law_one", "_law_two"] ["_law_pen_here", "_law_many_here"] (defScope sTake) := ⟨rfl, rfl, rfl, by decide +kernel, rfl, by decide +kernel, by decide +kernel⟩
theorem ok_pen {f : Addr} {fd : FuncData} (F : Fun K "_law_pen" "_law_pen" sPen f fd) (ml : mg "list" = none) : FnOk P w K mg base CX0 1 f fd ["_law_script"] (spPen K) := by
  refine F.ok scPen (fun vs H Q E h => ?_) (fun cdv A outer s H vs Q E hr h => ?_)
  · obtain ⟨a, ns, rfl, _⟩ := h
    rfl
  · obtain ⟨a, ns, rfl, hS, q⟩ := h
    refine ⟨_, pss_one (ps_ret (pe_disp (pps_cons pe_str (pe_callTy call_list_of (by rfl) ml (by decide +kernel) (pa_cons (pe_slice sl_list (pv 0) po_none (po_some pe_int)) pa_nil))
      (pps_cons pe_str pe_int (pps_cons pe_str pe_int pps_nil))) (by rfl) (by rfl) (fun z => by cases z) (by decide))), ?_⟩
    refine fun p np => ?_
    have s1 : Same H (upd H p (.dK [])) := same_new np
    refine ⟨.ref a, rfl, 63, rfl, a, ns.map V.int, rfl, s1.seq hS, fun t nt => ?_⟩
    obtain ⟨ms, em⟩ := cut_ints ns none (some 63)
    have s2 : Same (upd H p (.dK [])) (upd (upd H p (.dK [])) t (.lst (cutV (ns.map V.int) none (some 63)))) := same_new nt
    refine ⟨t, _, rfl, .inl (SqL.of upd_same), fun c nc => ?_⟩
    have s3 := @same_new _ _ (.lst (cutV (ns.map V.int) none (some 63))) nc
    have hp := s3 _ _ (s2 _ _ upd_same)
    refine ⟨hp, [(kCells, .ref c), (kAt, .int 0), (kLeft, .int 0)], rfl, (by show 3 ≤ 15; decide), ?_⟩
    have s4 := s1.trans (s2.trans s3)
    have npc : p ≠ c := ne_of_none (s2 _ _ upd_same) nc
    refine q p c _ np (s1.free (s2.free nc)) ⟨_, ms, 0, 0, upd_same, (by exact Nat.le_refl 3), ?_, ?_, ?_, ?_, Int.le_refl _, Int.le_refl _, Int.le_refl _⟩ fun b o e => (upd_ne (ne_of_none e np)).trans (s4 b o e)
    · rfl
    · rfl
    · rfl
    · rw [upd_ne npc.symm, upd_same, em]
theorem ok_take {f : Addr} {fd : FuncData} (F : Fun K "_law_take" "_law_take" sTake f fd) (mlen : mg "len" = none) (mabs : mg "abs" = none) : FnOk P w K mg base CX0 1 f fd ["_law_pen_here", "_law_many_here"] spTake := by
  refine F.ok scTake (fun vs H Q E h => ?_) (fun cdv A outer s H vs Q E hr h => ?_)
  · obtain ⟨p, c, n, m, rfl, _⟩ := h
    rfl
  · obtain ⟨p, c, n, m, rfl, pen, hn, m1, m2, q⟩ := h
    have hu := hu_of hr
    have nd := scTake.nd
    refine ⟨_, pss_cons (ps_if (pt_cmpR op_gt (pe_dget hu (pv 0) pe_str (fun _ _ => rfl)) pe_int (nomark _))
        (pss_cons (ps_set (i := 2) nd rfl (Or.inl rfl) (pe_op op_mod (pe_dget hu (pv 0) pe_str (fun _ _ => rfl)) (pv 1)))
        (pss_cons (ps_dput hu (pv 0) pe_str (pe_op op_fdiv (pe_dget hu (pv 0) pe_str (fun _ _ => rfl)) (pv 1)) rfl)
        (pss_one (ps_ret (pv 2))))) pss_nil)
      (pss_cons (ps_set (i := 3) nd rfl (Or.inl rfl) (pe_dget hu (pv 0) pe_str (fun _ _ => rfl)))
      (pss_cons (ps_dput hu (pv 0) pe_str (pe_op op_add (pv 3) pe_int) rfl)
      (pss_cons (ps_set (i := 4) nd rfl (Or.inl rfl) (pe_dget hu (pv 0) pe_str (fun _ _ => rfl)))
      (pss_cons (ps_set (i := 5) nd rfl (Or.inl rfl) (pe_op op_add (pe_op op_add (pe_op op_mul (pe_op op_mul pe_int (pv 3)) (pv 3)) (pe_op op_mul pe_int (pv 3))) pe_int))
      (C8.pss_cut (ps_if (pt_cmpR (op_neD hr.units) (pv 4) (pe_lst pa_nil) (nomark _))
        (pss_one (ps_set (i := 5) nd rfl (Or.inl rfl) (pe_ix ix_list (pv 4) (pe_op op_mod (pv 3) (pe_callB call_len_seq (by rfl) mlen PySem.boot_len (pa_cons (pv 4) pa_nil))) (fun _ _ => rfl)))) pss_nil)
      (C8.pss_cut (ps_if (PW.pt (pw_and (pt_cmpR op_lt (pv 3) (pe_callB call_len_seq (by rfl) mlen PySem.boot_len (pa_cons (pv 4) pa_nil)) (nomark _))
          (pw_and1 (pt_cmpR op_ge (pe_callB call_abs (by rfl) mabs (by decide +kernel) (pa_cons (pv 5) pa_nil)) (pe_op op_pow pe_int pe_int) (nomark _)))))
        (pss_cons (ps_dput hu (pv 0) pe_str (pe_op op_fdiv (pe_callB call_abs (by rfl) mabs (by decide +kernel) (pa_cons (pv 5) pa_nil)) (pv 1)) rfl)
        (pss_one (ps_ret (pe_op op_mod (pe_callB call_abs (by rfl) mabs (by decide +kernel) (pa_cons (pv 5) pa_nil)) (pv 1))))) pss_nil)
      (pss_cons (ps_set (i := 6) nd rfl (Or.inl rfl) (pe_op op_mod (pe_op op_pow (pe_op op_add (pe_op op_add (pe_op op_mod (pv 5) pe_int) (pe_op op_mul pe_int (pv 3))) pe_int) pe_int) pe_int))
      (pss_cons (ps_set (i := 7) nd rfl (Or.inl rfl) (pe_op op_mod (pe_op op_pow (pe_op op_add (pe_op op_add (pv 6) (pe_op op_mul (pe_op op_mul pe_int (pv 3)) (pv 3))) pe_int) pe_int) pe_int))
      (pss_one (ps_ret (pe_op op_mod (pe_op op_fdiv (pe_op op_mod (pe_op op_mul (pv 7) (pe_op op_add (pe_op op_mod (pv 6) pe_int) pe_int)) pe_int) pe_int) (pv 1)))))))))))), ?_⟩
    obtain ⟨kvs, ns, a, l, g1, g2, g3, g4, g5, g6, g7, g8, g9⟩ := pen.ex
    have hsz : kvs.length < sizeLine := small1000 (by omega)
    have npc : p ≠ c := ne_of g1 g6 (by intro z; cases z)
    -- the left
    refine ⟨_, rfl, p, _, rfl, dget_s g1 g5, l, 0, rfl, rfl, _, rfl, ite2 (fun e => ?_) (fun e => ?_)⟩
    · have e' : 0 < l := of_decide_eq_true e
      refine ⟨_, rfl, p, _, rfl, dget_s g1 g5, _, rfl, l, m, rfl, rfl, (by show (0 : Int) < m; omega), ?_⟩
      refine ⟨_, rfl, p, _, rfl, dget_s g1 g5, _, rfl, l, m, rfl, rfl, ⟨by omega, by omega⟩, _, rfl, p, _, rfl, dput_s g1 hsz, _, rfl, ?_⟩
      refine q _ _ (Int.emod_nonneg _ (by omega)) (Int.emod_lt_of_pos _ (by omega)) ⟨_, ns, a, l / m, upd_same, (by rw [put_len g5]; exact g2), ?_, ?_, ?_, ?_, g7, by omega, Int.ediv_nonneg (by omega) (by omega)⟩ fun b o z nb => (upd_ne nb).trans z
      · rw [valV_put, if_neg nCL]; exact g3
      · rw [valV_put, if_neg nAL]; exact g4
      · rw [valV_put, if_pos rfl]
      · rw [upd_ne npc.symm]; exact g6
    · -- a new cell
      refine ⟨_, rfl, p, _, rfl, dget_s g1 g4, ?_⟩
      refine ⟨_, rfl, a, 1, rfl, rfl, _, rfl, p, _, rfl, dput_s g1 hsz, ?_⟩
      have k1 : (upd H p (.dK (putK kvs kAt (.int (a + 1))))) p = some (.dK (putK kvs kAt (.int (a + 1)))) := upd_same
      have v3 : valV (putK kvs kAt (.int (a + 1))) kCells = some (.ref c) := by rw [valV_put, if_neg nCA]; exact g3
      have v4 : valV (putK kvs kAt (.int (a + 1))) kAt = some (.int (a + 1)) := by rw [valV_put, if_pos rfl]
      have v5 : valV (putK kvs kAt (.int (a + 1))) kLeft = some (.int l) := by rw [valV_put, if_neg nLA]; exact g5
      have k2 : (putK kvs kAt (.int (a + 1))).length ≤ 3 := by rw [put_len g4]; exact g2
      have k6 : (upd H p (.dK (putK kvs kAt (.int (a + 1))))) c = some (.lst (ns.map V.int)) := by rw [upd_ne npc.symm]; exact g6
      generalize putK kvs kAt (.int (a + 1)) = kw at k1 k2 k6 v3 v4 v5
      refine ⟨_, rfl, p, _, rfl, dget_s k1 v3, ?_⟩
      refine ⟨_, rfl, 70207, a, rfl, rfl, .inl ⟨by decide, by decide⟩, _, rfl, _, a, rfl, rfl, .inr ⟨by omega, by omega⟩, _, rfl, 131, a, rfl, rfl, .inl ⟨by decide, by decide⟩, _, _, rfl, rfl, _, 29, rfl, rfl, ?_⟩
      refine ⟨fun σ' H' => ∃ x : Int, σ' = [some (.ref p), some (.int m), none, some (.int a), some (.ref c), some (.int x), none, none] ∧ Same (upd H p (.dK kw)) H', ?_, ?_⟩
      · refine ⟨_, rfl, Nat.zero_le _, fun t nt => ?_⟩
        have s1 := @same_new _ _ (.lst []) nt
        refine ⟨.list (ns.map PyData.int), .list [], .lst (SqL.of (s1 _ _ k6)) (dp_ints ns), .lst (SqL.of upd_same) .nil, PySem.W.ke_shaped_ints ns, PySem.W.ke_shaped_ints [], _, rfl, ?_⟩
        cases e2 : (!PyData.eqv (.list (ns.map PyData.int)) (.list [])) with
        | false => exact iteF ⟨_, rfl, s1⟩
        | true =>
          refine iteT ?_
          have hne : ns ≠ [] := fun z => by
            subst z
            rw [show PyData.eqv (.list (([] : List Int).map PyData.int)) (.list []) = true from rfl] at e2
            cases e2
          have hlen : 0 < ns.length := List.length_pos_iff.mpr hne
          have hlt : (a % (ns.length : Int)).toNat < ns.length := by
            have h1 := Int.emod_nonneg a (show (ns.length : Int) ≠ 0 by omega)
            have h2 := Int.emod_lt_of_pos a (show (0 : Int) < ns.length by omega)
            omega
          refine ⟨_, rfl, _, rfl, _, rfl, c, _, rfl, .inl (SqL.of (s1 _ _ k6)), a, _, rfl, rfl, ?_, c, _, _, .int ns[(a % (ns.length : Int)).toNat], rfl, rfl, SqL.of (s1 _ _ k6), ?_, _, rfl, s1⟩
          · show (0 : Int) < ((ns.map V.int).length : Int)
            rw [List.length_map]; omega
          · rw [List.length_map]
            refine at_of (j := (a % (ns.length : Int)).toNat) (Int.toNat_of_nonneg (Int.emod_nonneg a (show (ns.length : Int) ≠ 0 by omega))).symm ?_
            rw [List.getElem?_map, List.getElem?_eq_getElem hlt]
            rfl
      · rintro σ' H2 ⟨x, rfl, s1⟩
        have j1 := s1 _ _ k1
        have j6 := s1 _ _ k6
        have bt : But p H H2 := fun b o z nb => s1 _ _ ((upd_ne nb).trans z)
        have absn : (0 : Int) ≤ if x < 0 then -x else x := by split <;> omega
        have fin : ∀ r : Int, 0 ≤ r → r < m → Q (.int r) H2 := fun r r1 r2 => q r H2 r1 r2 ⟨kw, ns, a + 1, l, j1, k2, v3, v4, v5, j6, by omega, by omega, g9⟩ bt
        have a2 : 0 ≤ 1213 * a * a ∧ 1213 * a * a ≤ 121300000 * 100000 := ⟨Int.mul_nonneg (by omega) g7, Int.mul_le_mul (by omega) (by omega) g7 (by decide)⟩
        refine ⟨fun σ' H' => σ' = [some (.ref p), some (.int m), none, some (.int a), some (.ref c), some (.int x), none, none] ∧ H' = H2, ?_, ?_⟩
        · refine ⟨_, rfl, _, rfl, c, _, rfl, .inl (SqL.of j6), a, _, rfl, rfl, _, rfl, ?_⟩
          refine ite2 (fun _ => ?_) (fun _ => ?_)
          · refine ⟨_, rfl, x, rfl, 10, 18, rfl, rfl, ⟨by decide, by decide, by decide⟩, _, _, rfl, rfl, _, rfl, ite2 (fun _ => ?_) (fun _ => ⟨rfl, rfl⟩)⟩
            refine ⟨_, rfl, x, rfl, _, rfl, _, m, rfl, rfl, ⟨by omega, by omega⟩, _, rfl, p, _, rfl, dput_s j1 (small1000 (by omega)), ?_⟩
            refine ⟨_, rfl, x, rfl, _, rfl, _, m, rfl, rfl, (by show (0 : Int) < m; omega), ?_⟩
            refine q _ _ (Int.emod_nonneg _ (by omega)) (Int.emod_lt_of_pos _ (by omega)) ⟨_, ns, a + 1, (if x < 0 then -x else x) / m, upd_same, (by rw [put_len v5]; exact k2), ?_, ?_, ?_, ?_, by omega, by omega, Int.ediv_nonneg absn (by omega)⟩ fun b o z nb => (upd_ne nb).trans (bt b o z nb)
            · rw [valV_put, if_neg nCL]; exact v3
            · rw [valV_put, if_neg nAL]; exact v4
            · rw [valV_put, if_pos rfl]
            · rw [upd_ne npc.symm]; exact j6
          · exact iteF ⟨rfl, rfl⟩
        · rintro σ' H' ⟨rfl, rfl⟩
          have b1 := Int.emod_nonneg x (show (2147483587 : Int) ≠ 0 by decide)
          have b2 := Int.emod_lt_of_pos x (show (0 : Int) < 2147483587 by decide)
          refine ⟨_, rfl, x, _, rfl, rfl, (by show (0 : Int) < 2147483587; decide), _, rfl, 45007, a, rfl, rfl, .inl ⟨by decide, by decide⟩, _, _, rfl, rfl, _, 11, rfl, rfl, _, 3, rfl, rfl, ⟨by decide, by decide, ?_⟩, _, 2147483629, rfl, rfl, (by show (0 : Int) < 2147483629; decide), ?_⟩
          · generalize x % 2147483587 = y at b1 b2
            show (y + 45007 * a + 11).natAbs < 2 ^ 64
            omega
          · generalize (x % 2147483587 + 45007 * a + 11) ^ (3 : Int).toNat = z
            have d1 := Int.emod_nonneg z (show (2147483629 : Int) ≠ 0 by decide)
            have d2 := Int.emod_lt_of_pos z (show (0 : Int) < 2147483629 by decide)
            obtain ⟨o, ho⟩ : ∃ o, z % 2147483629 = o := ⟨_, rfl⟩
            rw [ho] at d1 d2
            show tSeq _ _ _ [some (.ref p), some (.int m), none, some (.int a), some (.ref c), some (.int x), some (.int (z % 2147483629)), none] _
            rw [ho]
            have f1 := Int.emod_nonneg o (show (64007 : Int) ≠ 0 by decide)
            have f2 := Int.emod_lt_of_pos o (show (0 : Int) < 64007 by decide)
            refine ⟨_, rfl, _, rfl, 1213, a, rfl, rfl, .inl ⟨by decide, by decide⟩, _, rfl, _, a, rfl, rfl, .inr ⟨by omega, by omega⟩, o, _, rfl, rfl, _, 3, rfl, rfl, _, 5, rfl, rfl, ⟨by decide, by decide, ?_⟩, _, 2147483543, rfl, rfl, (by show (0 : Int) < 2147483543; decide), ?_⟩
            · show (o + 1213 * a * a + 3).natAbs < 2 ^ 64
              omega
            · refine ⟨_, rfl, _, rfl, o, 64007, rfl, rfl, (by show (0 : Int) < 64007; decide), _, 1, rfl, rfl, _, _, rfl, rfl, .inr ⟨by omega, by omega⟩, _, 2147483579, rfl, rfl, (by show (0 : Int) < 2147483579; decide), _, 64, rfl, rfl, ⟨by decide, by decide⟩, _, rfl, _, m, rfl, rfl, (by show (0 : Int) < m; omega), ?_⟩
              exact fin _ (Int.emod_nonneg _ (by omega)) (Int.emod_lt_of_pos _ (by omega))
end
/-! ### texts as lists of signs -/
abbrev sc (l : List Nat) : Str := ⟨l.toArray⟩
theorem sc_list (z : Str) : sc z.cps.toList = z := rfl
theorem sc_len (l : List Nat) : (sc l).length = l.length := by
  show l.toArray.size = l.length
  simp
theorem sc_app (a b : List Nat) : (sc a ++ sc b : Str) = sc (a ++ b) := by
  have h : TL.tl (sc a ++ sc b) = TL.tl (sc (a ++ b)) := by
    rw [TL.tl_append]
  have h2 := congrArg sc h
  exact h2
theorem sc_take (l : List Nat) {k : Nat} (hk : k ≤ l.length) : cutS (sc l) none (some (k : Int)) = sc (l.take k) := by
  unfold cutS
  rw [HT.sIx_none, HT.sIx_nat, sc_len, Nat.min_eq_left hk]
  show sc ((l.toArray.toList.drop 0).take (k - 0)) = sc (l.take k)
  simp
theorem sc_drop (l : List Nat) {k : Nat} (hk : k ≤ l.length) : cutS (sc l) (some (k : Int)) none = sc (l.drop k) := by
  unfold cutS
  rw [HT.sIx_none, HT.sIx_nat, sc_len, Nat.min_eq_left hk]
  show sc ((l.toArray.toList.drop k).take (l.length - k)) = sc (l.drop k)
  rw [List.take_of_length_le (by simp)]
theorem sc_join (ls : List (List Nat)) : Txt.join "" (ls.map sc) = sc ls.flatten := by
  have h : ∀ l : List (List Nat), TL.joinL [] l = l.flatten := by
    intro l
    induction l with
    | nil => rfl
    | cons p r ih =>
      cases r with
      | nil => show p = [p].flatten; simp
      | cons q r => show p ++ ([] ++ TL.joinL [] (q :: r)) = _; rw [List.nil_append, ih]; rfl
  have e := TL.tl_join "" (ls.map sc)
  rw [show TL.tl ("" : Str) = [] from rfl, h, List.map_map] at e
  rw [TL.join_eq]
  have e2 : ls.map (TL.tl ∘ sc) = ls := by
    have : (TL.tl ∘ sc) = id := funext fun l => by show l.toArray.toList = l; simp
    rw [this, List.map_id]
  rw [e2] at e
  exact congrArg sc e
abbrev abc : Str := "abcdefghijklmnopqrstuvwxyz"
def Lc (i : Nat) : Nat := abc.cps.toList.getD i 0
theorem abc_len : abc.cps.toList.length = 26 := by decide +kernel
theorem at_abc {r : Int} (h0 : 0 ≤ r) (h1 : r < 26) : atI abc.cps.toList r = some (Lc r.toNat) := by
  have h : r.toNat < abc.cps.toList.length := by rw [abc_len]; omega
  have e : ((r.toNat : Nat) : Int) = r := by omega
  have q := atI_nat (List.getElem?_eq_getElem h)
  rw [e] at q
  rw [q, Lc, List.getD_eq_getElem?_getD, List.getElem?_eq_getElem h]
  rfl
theorem Lc_in {i : Nat} (h : i < 26) : Lc i ∈ abc.cps.toList := by
  rw [Lc, List.getD_eq_getElem?_getD, List.getElem?_eq_getElem (by rw [abc_len]; exact h)]
  exact List.getElem_mem _
/-! ### the names that a law draws -/
def nmPair (t k : Nat) : List Nat := [Lc ((t + 7 * k) % 26), Lc ((t + k / 26) % 26)]
def bij (t : Nat) : Nat → List Nat
  | 0 => []
  | r + 1 => bij t (r / 2) ++ [Lc ((t + 9 * ((r + 1) % 2)) % 26)]
def nm (way t : Nat) (B : List Nat) (sp k : Nat) : List Nat := if way = 1 then bij t (k + 1) else B.take sp ++ nmPair t k ++ B.drop sp
def nmStr (way t : Nat) (B : List Nat) (sp k : Nat) : Str := sc (nm way t B sp k)
structure NmOk (way t : Nat) (B : List Nat) (sp : Nat) : Prop where
  t26 : t < 26
  b6 : B.length ≤ 6
  bl : ∀ c ∈ B, c ∈ abc.cps.toList
  s : sp ≤ B.length
/-- a list of names at l -/
def NmAt (H : Hp) (l : Addr) (m : Nat) : Prop := ∃ way t B sp, NmOk way t B sp ∧ H l = some (.lst ((List.range m).map fun k => V.str (nmStr way t B sp k)))
theorem bij_len (t : Nat) : ∀ r, (bij t r).length = if r = 0 then 0 else (bij t ((r - 1) / 2)).length + 1
  | 0 => by rw [bij]; rfl
  | r + 1 => by rw [bij, List.length_append, if_neg (by omega)]; rfl
theorem bij_le (t : Nat) : ∀ r, (bij t r).length ≤ r
  | 0 => by rw [bij]; exact Nat.le_refl _
  | r + 1 => by
    rw [bij, List.length_append]
    have := bij_le t (r / 2)
    show _ + 1 ≤ _
    omega
theorem flat_one : ∀ B : List Nat, (B.map fun c => [c]).flatten = B
  | [] => rfl
  | b :: r => by rw [List.map_cons, List.flatten_cons, flat_one r]; rfl
theorem sum_one : ∀ B : List Nat, (((B.map fun c => [c]).map sc).map (·.length)).sum = B.length
  | [] => rfl
  | b :: r => by
    rw [List.map_cons, List.map_cons, List.map_cons, List.sum_cons, sum_one r, List.length_cons, sc_len]
    exact Nat.add_comm _ _
def restOf (σ : L2.St) (_ : Hp) : Nat := match σ[10]? with
  | some (some (V.int r)) => r.toNat
  | _ => 0
/-- what _law_names promises -/
def spNames : Sp := fun vs H Q _ => ∃ (p c : Addr) (n : Nat) (m : Int), vs = [.ref p, .int m] ∧ PenAt H p c n ∧ n ≤ 50000 ∧ 0 ≤ m ∧ m ≤ 31 ∧
  ∀ (l : Addr) (H' : Hp), H l = none → NmAt H' l m.toNat → PenAt H' p c (n + 10) → But p H H' → Q (.ref l) H'
theorem yesT {σ : L2.St} {H : Hp} {A B : Hp → Prop} (h : A H) : tYes σ H fun b H3 => if b = true then A H3 else B H3 := iteT (A := A H) (B := B H) h
theorem small_sz {n : Nat} (h : n ≤ 1000) : n ≤ sizeLine := Nat.le_of_lt (small1000 h)
theorem at_ex {α : Type} {xs : List α} {r : Int} (h0 : 0 ≤ r) (h1 : r < (xs.length : Int)) : ∃ v, atI xs r = some v ∧ v ∈ xs := by
  have h : r.toNat < xs.length := by omega
  have e : ((r.toNat : Nat) : Int) = r := by omega
  have q := atI_nat (List.getElem?_eq_getElem h)
  rw [e] at q
  exact ⟨_, q, List.getElem_mem h⟩
/-- the def _law_take, as its callers need it -/
structure TakeT (P : Program) (w : World) (K : PySem.W.Frag) (mg : Str → Option Value) (base : Heap) (f : Addr) (fd : FuncData) : Prop where
  ok : FnOk P w K mg base CX0 1 f fd ["_law_pen_here", "_law_many_here"] spTake
  g : mg "_law_take" = some (.ref f)
  kp : PySem.W.keepIn K (.ref f) = true
  b : Binds K fd ["_law_pen_here", "_law_many_here"] []
/-- any def, as its callers need it -/
structure DefT (P : Program) (w : World) (K : PySem.W.Frag) (mg : Str → Option Value) (base : Heap) (x : Str) (k : Nat) (f : Addr) (fd : FuncData) (ps : List Str) (sp : Sp) : Prop where
  ok : FnOk P w K mg base CX0 k f fd ps sp
  g : mg x = some (.ref f)
  kp : PySem.W.keepIn K (.ref f) = true
  b : Binds K fd ps []
abbrev namesN : List Str := ["_law_pen_here", "_law_many_here", "_law_letters", "_law_way", "_law_turn", "_law_k", "_law_base", "_law_spot", "_law_found", "_law_word", "_law_rest"]
section
variable {P : Program} {w : World} {K : PySem.W.Frag} {mg : Str → Option Value} {base : Heap}
theorem scNames : FnScope namesN ["_law_pen_here", "_law_many_here"] (defScope sNames) := ⟨rfl, rfl, rfl, by decide +kernel, rfl, by decide +kernel, by decide +kernel⟩
set_option maxHeartbeats 4000000 in
theorem ok_names {f fT : Addr} {fd fdT : FuncData} (F : Fun K "_law_names" "_law_names" sNames f fd) (T : TakeT P w K mg base fT fdT) (ml : mg "len" = none) (mr : mg "range" = none) :
    FnOk P w K mg base CX0 2 f fd ["_law_pen_here", "_law_many_here"] spNames := by
  refine F.ok scNames (fun vs H Q E h => ?_) (fun cdv A outer s H vs Q E hr h => ?_)
  · obtain ⟨p, c, n, m, rfl, _⟩ := h
    rfl
  · obtain ⟨p, c, n, m, rfl, pen, hn, m0, m31, q⟩ := h
    have nd := scNames.nd
    refine ⟨_, pss_cons (ps_set (i := 2) nd rfl (Or.inr rfl) pe_str)
      (pss_cons (ps_set (i := 3) nd rfl (Or.inl rfl) (pe_call T.ok hr (by rfl) T.g T.kp T.b .nil pass0 (pa_cons (pv 0) (pa_cons pe_int pa_nil))))
      (pss_cons (ps_set (i := 4) nd rfl (Or.inl rfl) (pe_call T.ok hr (by rfl) T.g T.kp T.b .nil pass0 (pa_cons (pv 0) (pa_cons pe_int pa_nil))))
      (pss_cons (ps_set (i := 6) nd rfl (Or.inl rfl) (pe_join pe_str (pe_lc (own := [("_law_k", 5)]) (g := gName 5) (tt := tYes) rfl nd
          (pi_range1 rfl mr (pa_cons (pe_ix ix_list (pe_lst (pa_cons (pe_call T.ok hr (by rfl) T.g T.kp T.b .nil pass0 (pa_cons (pv 0) (pa_cons pe_int pa_nil))) (pa_cons pe_int (pa_cons pe_int pa_nil)))) (pv 3) (fun _ _ => rfl)) pa_nil))
          (blkOk_by (N := namesN) (sc := defScope sNames) (by decide +kernel))
          (fun _ _ _ _ _ => pg_name (i := 5) nd rfl (Or.inl rfl)) (fun _ _ _ _ _ => pts_nil)
          (fun _ _ _ _ _ => pe_ix ix_str (pv 2) (pe_call T.ok hr (by rfl) T.g T.kp T.b .nil pass0 (pa_cons (pv 0) (pa_cons pe_int pa_nil))) (fun _ _ => rfl)))))
      (pss_cons (ps_set (i := 7) nd rfl (Or.inl rfl) (pe_call T.ok hr (by rfl) T.g T.kp T.b .nil pass0 (pa_cons (pv 0) (pa_cons (pe_op op_add (pe_callB call_len_str (by rfl) ml PySem.boot_len (pa_cons (pv 6) pa_nil)) pe_int) pa_nil))))
      (pss_cons (ps_set (i := 8) nd rfl (Or.inl rfl) (pe_lst pa_nil))
      (pss_cons (ps_for PassesOwn.never rfl (pi_range1 rfl mr (pa_cons (pv 1) pa_nil)) (pg_name (i := 5) nd rfl (Or.inl rfl))
        (pss_cons (ps_set (i := 9) nd rfl (Or.inl rfl) (pe_op op_add_str (pe_ix ix_str (pv 2) (pe_op op_mod (pe_op op_add (pv 4) (pe_op op_mul pe_int (pv 5))) pe_int) (fun _ _ => rfl)) (pe_ix ix_str (pv 2) (pe_op op_mod (pe_op op_add (pv 4) (pe_op op_fdiv (pv 5) pe_int)) pe_int) (fun _ _ => rfl))))
        (pss_cons (ps_set (i := 9) nd rfl (Or.inl rfl) (pe_op op_add_str (pe_op op_add_str (pe_slice sl_str (pv 6) po_none (po_some (pv 7))) (pv 9)) (pe_slice sl_str (pv 6) (po_some (pv 7)) po_none)))
        (C8.pss_cut (ps_if (pt_cmpR op_eq (pv 3) pe_int (nomark _))
            (pss_cons (ps_set (i := 9) nd rfl (Or.inl rfl) pe_str)
            (pss_cons (ps_set (i := 10) nd rfl (Or.inl rfl) (pe_op op_add (pv 5) pe_int))
            (pss_one (ps_while PassesOwn.never (pt_cmpR op_gt (pv 10) pe_int (nomark _))
              (pss_cons (ps_set (i := 9) nd rfl (Or.inl rfl) (pe_op op_add_str (pe_ix ix_str (pv 2) (pe_op op_mod (pe_op op_add (pv 4) (pe_op op_mul pe_int (pe_op op_mod (pv 10) pe_int))) pe_int) (fun _ _ => rfl)) (pv 9)))
              (pss_one (ps_set (i := 10) nd rfl (Or.inl rfl) (pe_op op_fdiv (pe_op op_sub (pv 10) pe_int) pe_int)))))))) pss_nil)
        (pss_one (ps_expr (pe_bm PySem.F.plainAttrs_list PySem.F.slot_list_append PySem.F.type_list_append mt_append (pv 8) (pa_cons (pv 9) pa_nil))))))))
      (pss_one (ps_ret (pv 8))))))))), ?_⟩
    -- way, turn
    refine ⟨_, rfl, p, c, n, 3, rfl, pen, by omega, by decide, by decide, fun r1 H1 a1 b1 pen1 bt1 => ?_⟩
    refine ⟨_, rfl, p, c, n + 1, 26, rfl, pen1, by omega, by decide, by decide, fun r2 H2 a2 b2 pen2 bt2 => ?_⟩
    -- the base's size
    refine ⟨⟨_, rfl⟩, _, rfl, p, c, n + 2, 7, rfl, pen2, by omega, by decide, by decide, fun r3 H3 a3 b3 pen3 bt3 => ?_⟩
    refine ⟨(by show 3 ≤ sizeLine; decide), fun l nl => ?_⟩
    have s4 := @same_new _ _ (.lst [V.int r3, .int 0, .int 6]) nl
    obtain ⟨kk, hkk, k0, k6⟩ : ∃ kk : Int, atI [V.int r3, .int 0, .int 6] r1 = some (.int kk) ∧ 0 ≤ kk ∧ kk ≤ 6 := by
      have w3 : r1 = 0 ∨ r1 = 1 ∨ r1 = 2 := by omega
      rcases w3 with rfl | rfl | rfl
      · exact ⟨r3, atI_nat (j := 0) rfl, a3, by omega⟩
      · exact ⟨0, atI_nat (j := 1) rfl, by decide, by decide⟩
      · exact ⟨6, atI_nat (j := 2) rfl, by decide, by decide⟩
    have pen4 := pen3.same s4
    have bt4 : But p H (upd H3 l (.lst [V.int r3, .int 0, .int 6])) := (bt1.tr (bt2.tr bt3)).tr (.of s4)
    refine ⟨_, rfl, l, _, r1, _, rfl, rfl, SqL.of upd_same, hkk, kk, rfl, by omega, by omega, fun D nD => ?_⟩
    generalize upd H3 l (.lst [V.int r3, .int 0, .int 6]) = H4 at pen4 bt4 nD
    have nDp : D ≠ p := fun z => pen4.there (z ▸ nD)
    have nDc : D ≠ c := fun z => pen4.cells (z ▸ nD)
    refine lc_range (lo := 0) (n := kk.toNat) (fun j H' => PenAt H' p c (n + 3 + j) ∧ But p H H' ∧ ∃ B : List Nat, H' D = some (.lst (((B.map fun c => [c]).map sc).map V.str)) ∧ B.length = j ∧ ∀ c ∈ B, c ∈ abc.cps.toList)
      ⟨pen4.same (same_new nD), bt4.tr (.of (same_new nD)), [], upd_same, rfl, fun y hy => nomatch hy⟩ ?_ ?_
    · rintro j H6 hj ⟨pen6, bt6, B, hD6, ly, one⟩
      refine ⟨rfl, yesT ?_⟩
      refine ⟨_, rfl, _, rfl, p, c, _, 26, rfl, pen6, by omega, by decide, by decide, fun r H7 a7 b7 pen7 bt7 => ?_⟩
      have hD7 := bt7 D _ hD6 nDp
      have hDn : H D = none := by
        cases e : H D with
        | none => rfl
        | some o => rw [bt4 D o e nDp] at nD; cases nD
      refine ⟨abc, r, _, rfl, rfl, (by decide +kernel), at_abc a7 b7, _, hD7, (by simp only [List.length_map]; exact small1000 (by omega)), pen7.upd nDp nDc, fun b o e nb => (upd_ne (ne_of_none e hDn)).trans ((bt6.tr bt7) b o e nb), B ++ [Lc r.toNat], ?_, by simp [ly], ?_⟩
      · rw [upd_same, List.map_append, List.map_append, List.map_append]
        rfl
      · intro y hy
        rcases List.mem_append.mp hy with h | h
        · exact one y h
        · rw [List.mem_singleton.mp h]
          exact Lc_in (by omega)
    · rintro H6 ⟨pen6, bt6, B, hD6, ly, one⟩
      have bl : B.length ≤ 6 := by omega
      have ej : Txt.join "" ((B.map fun c => [c]).map sc) = sc B := by rw [sc_join, flat_one]
      refine ⟨"", D, (B.map fun c => [c]).map sc, rfl, rfl, .inl (SqL.of hD6), (by rw [sum_one]; simp only [List.length_map]; show B.length + B.length * 0 ≤ 16777216; omega), ?_⟩
      rw [ej]
      -- the spot
      refine ⟨_, rfl, _, rfl, sc B, rfl, (by rw [sc_len]; exact small_sz (by omega)), _, 1, rfl, rfl, p, c, n + 9, (B.length : Int) + 1, (by rw [sc_len]; rfl), pen6.mono (by omega), by omega, by omega, by omega, fun r4 H7 a4 b4 pen7 bt7 => ?_⟩
      refine ⟨Nat.zero_le _, fun Fd nFd => ?_⟩
      have nFp : Fd ≠ p := fun z => pen7.there (z ▸ nFd)
      have nFc : Fd ≠ c := fun z => pen7.cells (z ▸ nFd)
      have bt8 := bt6.tr bt7
      have hFn : H Fd = none := by
        cases e : H Fd with
        | none => rfl
        | some o => rw [bt8 Fd o e nFp] at nFd; cases nFd
      have nmok : NmOk r1.toNat r2.toNat B r4.toNat := ⟨by omega, bl, one, by omega⟩
      refine ⟨_, rfl, m, rfl, by omega, by omega, for_range (lo := 0) (n := m.toNat) (fun j σ H' => ∃ y5 y9 y10, σ = [some (.ref p), some (.int m), some (.str abc), some (.int r1), some (.int r2), y5, some (.str (sc B)), some (.int r4), some (.ref Fd), y9, y10] ∧
        PenAt H' p c (n + 10) ∧ But p H H' ∧ H' Fd = some (.lst ((List.range j).map fun k => V.str (nmStr r1.toNat r2.toNat B r4.toNat k)))) ⟨_, _, _, rfl, pen7.same (same_new nFd), bt8.tr (.of (same_new nFd)), upd_same⟩ ?_ ?_⟩
      · rintro j σ H9 hj ⟨y5, y9, y10, rfl, pen9, bt9, hF9⟩
        have i1 : 0 ≤ (r2 + 7 * (0 + (j : Int))) % 26 := Int.emod_nonneg _ (by decide)
        have i2 : (r2 + 7 * (0 + (j : Int))) % 26 < 26 := Int.emod_lt_of_pos _ (by decide)
        have i3 : 0 ≤ (r2 + (0 + (j : Int)) / 26) % 26 := Int.emod_nonneg _ (by decide)
        have i4 : (r2 + (0 + (j : Int)) / 26) % 26 < 26 := Int.emod_lt_of_pos _ (by decide)
        refine ⟨_, rfl, _, rfl, _, rfl, 7, 0 + (j : Int), rfl, rfl, .inl ⟨by decide, by decide⟩, r2, _, rfl, rfl, _, 26, rfl, rfl, (by show (0 : Int) < 26; decide), abc, _, _, rfl, rfl, (by decide +kernel), at_abc i1 i2, ?_⟩
        refine ⟨_, rfl, _, rfl, _, rfl, 0 + (j : Int), 26, rfl, rfl, ⟨by decide, by decide⟩, r2, _, rfl, rfl, _, 26, rfl, rfl, (by show (0 : Int) < 26; decide), abc, _, _, rfl, rfl, (by decide +kernel), at_abc i3 i4, _, _, rfl, rfl, (by show 1 + 1 ≤ sizeLine; decide), ?_⟩
        have q1 : ((r2 + 7 * (0 + (j : Int))) % 26).toNat = (r2.toNat + 7 * j) % 26 := by omega
        have q2 : ((r2 + (0 + (j : Int)) / 26) % 26).toNat = (r2.toNat + j / 26) % 26 := by
          have h : (0 + (j : Int)) / 26 = ((j / 26 : Nat) : Int) := by omega
          rw [h]
          generalize j / 26 = u
          omega
        have wd : ((⟨#[Lc ((r2 + 7 * (0 + (j : Int))) % 26).toNat]⟩ : Str) ++ ⟨#[Lc ((r2 + (0 + (j : Int)) / 26) % 26).toNat]⟩ : Str) = sc (nmPair r2.toNat j) := by
          rw [q1, q2]
          exact sc_app [_] [_]
        have e4 : ((r4.toNat : Nat) : Int) = r4 := by omega
        have c1 : cutS (sc B) none (some r4) = sc (B.take r4.toNat) := by rw [← e4]; exact sc_take B (by omega)
        have c2 : cutS (sc B) (some r4) none = sc (B.drop r4.toNat) := by rw [← e4]; exact sc_drop B (by omega)
        have szB : (sc B).length ≤ sizeLine := by rw [sc_len]; exact small_sz (by omega)
        refine ⟨_, rfl, _, rfl, r4, rfl, sc B, rfl, szB, _, rfl, _, _, rfl, rfl, ?_, _, rfl, _, rfl, r4, rfl, sc B, rfl, szB, _, _, rfl, rfl, ?_, ?_⟩
        · rw [wd, c1, sc_len, sc_len]
          refine small_sz ?_
          rw [List.length_take]
          show _ + 2 ≤ _
          omega
        · rw [wd, c1, c2, sc_app, sc_len, sc_len, List.length_append, List.length_take, List.length_drop]
          refine small_sz ?_
          show _ + 2 + _ ≤ _
          omega
        rw [wd, c1, c2, sc_app, sc_app]
        refine ⟨fun σ' H' => ∃ y10, σ' = [some (.ref p), some (.int m), some (.str abc), some (.int r1), some (.int r2), some (.int (0 + (j : Int))), some (.str (sc B)), some (.int r4), some (.ref Fd), some (.str (nmStr r1.toNat r2.toNat B r4.toNat j)), y10] ∧ H' = H9, ?_, ?_⟩
        · refine ⟨_, rfl, rfl, _, rfl, ite2 (fun e => ?_) (fun e => ?_)⟩
          · have e1 : r1 = 1 := V.int.inj (of_decide_eq_true e)
            subst e1
            refine ⟨_, rfl, _, 1, rfl, rfl, ?_⟩
            have el : (bij r2.toNat (j + 1)).length ≤ 100 := Nat.le_trans (bij_le _ _) (by omega)
            refine while_by (fun σ' H' => ∃ (L : List Nat) (r : Int), σ' = [some (.ref p), some (.int m), some (.str abc), some (.int 1), some (.int r2), some (.int (0 + (j : Int))), some (.str (sc B)), some (.int r4), some (.ref Fd), some (.str (sc L)), some (.int r)] ∧ H' = H9 ∧ 0 ≤ r ∧ bij r2.toNat (j + 1) = bij r2.toNat r.toNat ++ L)
              restOf ⟨[], _, rfl, rfl, by omega, ?_⟩ ?_ ?_
            · rw [List.append_nil, show (0 + (j : Int) + 1).toNat = j + 1 by omega]
            · rintro σ' H' ⟨L, r, rfl, rfl, r0, hb⟩
              have lL : L.length ≤ 100 := by
                have := congrArg List.length hb
                rw [List.length_append] at this
                omega
              refine ⟨_, rfl, r, 0, rfl, rfl, _, rfl, ite2 (fun er => ?_) (fun er => ?_)⟩
              · have er' : 0 < r := of_decide_eq_true er
                have d1 : 0 ≤ (r2 + 9 * (r % 2)) % 26 := Int.emod_nonneg _ (by decide)
                have d2 : (r2 + 9 * (r % 2)) % 26 < 26 := Int.emod_lt_of_pos _ (by decide)
                refine ⟨_, rfl, _, rfl, _, rfl, r, 2, rfl, rfl, (by show (0 : Int) < 2; decide), 9, _, rfl, rfl, .inl ⟨by decide, by decide⟩, r2, _, rfl, rfl, _, 26, rfl, rfl, (by show (0 : Int) < 26; decide), abc, _, _, rfl, rfl, (by decide +kernel), at_abc d1 d2, _, rfl, _, sc L, rfl, rfl, ?_, ?_⟩
                · show 1 + (sc L).length ≤ sizeLine
                  rw [sc_len]
                  exact small_sz (by omega)
                · refine ⟨_, rfl, r, 1, rfl, rfl, r - 1, 2, rfl, rfl, ⟨by decide, by decide⟩, ⟨Lc ((r2 + 9 * (r % 2)) % 26).toNat :: L, (r - 1) / 2, ?_, rfl, by omega, ?_⟩, ?_⟩
                  · rw [show ((⟨#[Lc ((r2 + 9 * (r % 2)) % 26).toNat]⟩ : Str) ++ sc L : Str) = sc (Lc ((r2 + 9 * (r % 2)) % 26).toNat :: L) from sc_app [_] L]
                    rfl
                  · rw [hb]
                    obtain ⟨u, rfl⟩ : ∃ u : Nat, r = ((u + 1 : Nat) : Int) := ⟨(r - 1).toNat, by omega⟩
                    rw [Int.toNat_natCast, bij, List.append_assoc, show ((((u + 1 : Nat) : Int) - 1) / 2).toNat = u / 2 by omega, show ((r2 + 9 * ((((u + 1 : Nat) : Int)) % 2)) % 26).toNat = (r2.toNat + 9 * ((u + 1) % 2)) % 26 by omega]
                    rfl
                  · show ((r - 1) / 2).toNat < r.toNat
                    omega
              · have er' : ¬ 0 < r := fun h => er (decide_eq_true h)
                have : r = 0 := by omega
                subst this
                refine ⟨some (.int 0), ?_, rfl⟩
                rw [show nmStr (1 : Int).toNat r2.toNat B r4.toNat j = sc L by
                  show sc (if 1 = 1 then bij r2.toNat (j + 1) else _) = sc L
                  rw [if_pos rfl, hb, show (0 : Int).toNat = 0 from rfl, bij, List.nil_append]]
            · rintro σ' H' Q1 Q2 hq ⟨v, hv, i, k, x1, x2, b, x3, x4⟩
              exact ⟨v, hv, i, k, x1, x2, b, x3, hq _ _ x4⟩
          · have e1 : ¬ r1 = 1 := fun h => e (decide_eq_true (congrArg V.int h))
            refine ⟨y10, ?_, rfl⟩
            rw [show nmStr r1.toNat r2.toNat B r4.toNat j = sc (B.take r4.toNat ++ nmPair r2.toNat j ++ B.drop r4.toNat) by
              show sc (if r1.toNat = 1 then _ else _) = _
              rw [if_neg (by omega)]]
            rfl
        · rintro σ' H' ⟨z10, rfl, rfl⟩
          refine ⟨_, rfl, .inl ⟨rfl, _, SqL.of hF9⟩, _, rfl, Fd, _, _, rfl, rfl, hF9, (by simp only [List.length_map, List.length_range]; exact small1000 (by omega)), ⟨_, _, _, rfl, pen9.upd nFp nFc, fun b o e nb => (upd_ne (ne_of_none e hFn)).trans (bt9 b o e nb), ?_⟩⟩
          rw [upd_same, List.range_succ, List.map_append]
          rfl
      · rintro σ H9 ⟨y5, y9, y10, rfl, pen9, bt9, hF9⟩
        exact ⟨_, rfl, q Fd H9 hFn ⟨_, _, _, _, nmok, hF9⟩ pen9 bt9⟩
end
/-! ### entries -/
inductive Ent where
  | come (nm : Str) (mo : Int) (g pl : Str) (many price : Int)
  | go (nm : Str) (mo : Int) (g pl : Str) (many : Int)
  | move (nm : Str) (mo : Int) (g one other : Str) (many : Int)
  | some_ (nm : Str) (mo : Int) (g one other : Str)
  | swap (nm : Str) (mo : Int) (one other : Str)
  | count (nm : Str) (mo : Int) (g pl : Str) (many : Int) (hand : Str)
  | look (nm : Str) (mo : Int) (g pl : Str)
namespace Ent
def word : Ent → Str
  | come .. => "come" | go .. => "go" | move .. => "move" | some_ .. => "some" | swap .. => "swap" | count .. => "count" | look .. => "look"
def name : Ent → Str
  | come n .. => n | go n .. => n | move n .. => n | some_ n .. => n | swap n .. => n | count n .. => n | look n .. => n
def moment : Ent → Int
  | come _ m .. => m | go _ m .. => m | move _ m .. => m | some_ _ m .. => m | swap _ m .. => m | count _ m .. => m | look _ m .. => m
def rest : Ent → List V
  | come _ _ g p m r => [.str g, .str p, .int m, .int r]
  | go _ _ g p m => [.str g, .str p, .int m]
  | move _ _ g o t m => [.str g, .str o, .str t, .int m]
  | some_ _ _ g o t => [.str g, .str o, .str t]
  | swap _ _ o t => [.str o, .str t]
  | count _ _ g p m h => [.str g, .str p, .int m, .str h]
  | look _ _ g p => [.str g, .str p]
def vals (e : Ent) : List V := .str e.word :: .str e.name :: .int e.moment :: e.rest
/-- its parts are drawn from these places, goods and hands -/
def From (PL GL HL : List Str) : Ent → Prop
  | come _ _ g p m r => g ∈ GL ∧ p ∈ PL ∧ 1 ≤ m ∧ m ≤ 1000000000 ∧ 0 ≤ r ∧ r ≤ 1000000000
  | go _ _ g p m => g ∈ GL ∧ p ∈ PL ∧ 1 ≤ m ∧ m ≤ 1000000000
  | move _ _ g o t m => g ∈ GL ∧ o ∈ PL ∧ t ∈ PL ∧ (PL.Nodup → o ≠ t) ∧ 1 ≤ m ∧ m ≤ 1000000000
  | some_ _ _ g o t => g ∈ GL ∧ o ∈ PL ∧ (t = "" ∨ (t ∈ PL ∧ (PL.Nodup → o ≠ t)))
  | swap _ _ o t => o ∈ PL ∧ t ∈ PL ∧ (PL.Nodup → o ≠ t)
  | count _ _ g p m h => g ∈ GL ∧ p ∈ PL ∧ 0 ≤ m ∧ m ≤ 1000000000 ∧ h ∈ HL
  | look _ _ g p => g ∈ GL ∧ p ∈ PL
end Ent
def words7 : List Str := ["come", "go", "move", "some", "swap", "count", "look"]
abbrev words10 : List Str := ["come", "go", "move", "some", "swap", "count", "look", "count", "swap", "move"]
theorem Ent.word_in (e : Ent) : e.word ∈ words7 := by
  cases e <;> simp [Ent.word, words7]
abbrev StrsAt (H : Hp) (l : Addr) (ys : List Str) : Prop := H l = some (.lst (ys.map V.str))
def spMany : Sp := fun vs H Q _ => ∃ (p c : Addr) (n : Nat), vs = [.ref p] ∧ PenAt H p c n ∧ n ≤ 90000 ∧
  ∀ (r : Int) (H' : Hp), 1 ≤ r → r ≤ 1000000000 → PenAt H' p c (n + 4) → But p H H' → Q (.int r) H'
def spEntryOf : Sp := fun vs H Q _ => ∃ (p c : Addr) (n : Nat) (wd nme : Str) (mo : Int) (a1 a2 a3 : Addr) (PL GL HL : List Str), vs = [.ref p, .str wd, .str nme, .int mo, .ref a1, .ref a2, .ref a3] ∧ PenAt H p c n ∧ n ≤ 80000 ∧ wd ∈ words7 ∧
  StrsAt H a1 PL ∧ StrsAt H a2 GL ∧ StrsAt H a3 HL ∧ PL ≠ [] ∧ GL ≠ [] ∧ HL ≠ [] ∧ PL.length ≤ 100 ∧ GL.length ≤ 100 ∧ HL.length ≤ 100 ∧
  ∀ (tp : Addr) (e : Ent) (H' : Hp), H tp = none → H' tp = some (.tup e.vals) → e.name = nme → e.moment = mo → e.From PL GL HL → PenAt H' p c (n + 20) → But p H H' → Q (.ref tp) H'
def spEntry : Sp := fun vs H Q _ => ∃ (p c : Addr) (n : Nat) (nme : Str) (mo : Int) (a1 a2 a3 : Addr) (PL GL HL : List Str), vs = [.ref p, .str nme, .int mo, .ref a1, .ref a2, .ref a3] ∧ PenAt H p c n ∧ n ≤ 70000 ∧
  StrsAt H a1 PL ∧ StrsAt H a2 GL ∧ StrsAt H a3 HL ∧ PL ≠ [] ∧ GL ≠ [] ∧ HL ≠ [] ∧ PL.length ≤ 100 ∧ GL.length ≤ 100 ∧ HL.length ≤ 100 ∧
  ∀ (tp : Addr) (e : Ent) (H' : Hp), H tp = none → H' tp = some (.tup e.vals) → e.name = nme → e.moment = mo → e.From PL GL HL → PenAt H' p c (n + 30) → But p H H' → Q (.ref tp) H'
theorem pen_strs {H H' : Hp} {p c l : Addr} {n : Nat} {ys : List Str} (pen : PenAt H p c n) (b : But p H H') (h : StrsAt H l ys) : StrsAt H' l ys := by
  obtain ⟨kvs, ns, a, x, g1, _⟩ := pen.ex
  exact b l _ h (ne_of h g1 (by intro z; cases z))
theorem pen_free {H H' : Hp} {p c l : Addr} {n : Nat} (pen : PenAt H p c n) (b : But p H H') (h : H' l = none) (pen' : PenAt H' p c n) : H l = none := by
  cases e : H l with
  | none => rfl
  | some o =>
    have nl : l ≠ p := fun z => pen'.there (z ▸ h)
    rw [b l o e nl] at h
    cases h
theorem But.free {H H' : Hp} {p l : Addr} (b : But p H H') (h : H' l = none) (hp : H' p ≠ none) : H l = none := by
  cases e : H l with
  | none => rfl
  | some o =>
    have nl : l ≠ p := fun z => hp (z ▸ h)
    rw [b l o e nl] at h
    cases h
theorem at_strs {ys : List Str} {r : Int} (h0 : 0 ≤ r) (h1 : r < (ys.length : Int)) : ∃ y, atI (ys.map V.str) r = some (.str y) ∧ ys[r.toNat]? = some y ∧ y ∈ ys := by
  have h : r.toNat < ys.length := by omega
  have e : ((r.toNat : Nat) : Int) = r := by omega
  have q := atI_nat (xs := ys.map V.str) (j := r.toNat) (v := .str ys[r.toNat]) (by rw [List.getElem?_map, List.getElem?_eq_getElem h]; rfl)
  rw [e] at q
  exact ⟨_, q, List.getElem?_eq_getElem h, List.getElem_mem h⟩
section
variable {P : Program} {w : World} {K : PySem.W.Frag} {mg : Str → Option Value} {base : Heap}
theorem scMany : FnScope ["_law_pen_here", "_law_way"] ["_law_pen_here"] (defScope sMany) := ⟨rfl, rfl, rfl, by decide +kernel, rfl, by decide +kernel, by decide +kernel⟩
theorem ok_many {f fT : Addr} {fd fdT : FuncData} (F : Fun K "_law_many" "_law_many" sMany f fd) (T : TakeT P w K mg base fT fdT) : FnOk P w K mg base CX0 2 f fd ["_law_pen_here"] spMany := by
  refine F.ok scMany (fun vs H Q E h => ?_) (fun cdv A outer s H vs Q E hr h => ?_)
  · obtain ⟨p, c, n, rfl, _⟩ := h
    rfl
  · obtain ⟨p, c, n, rfl, pen, hn, q⟩ := h
    have nd := scMany.nd
    refine ⟨_, pss_cons (ps_set (i := 1) nd rfl (Or.inl rfl) (pe_call T.ok hr (by rfl) T.g T.kp T.b .nil pass0 (pa_cons (pv 0) (pa_cons pe_int pa_nil))))
      (pss_one (ps_ret (pe_ix ix_list (pe_lst (pa_cons pe_int (pa_cons (pe_op op_add pe_int (pe_call T.ok hr (by rfl) T.g T.kp T.b .nil pass0 (pa_cons (pv 0) (pa_cons pe_int pa_nil))))
        (pa_cons (pe_op op_sub (pe_op op_pow pe_int pe_int) (pe_call T.ok hr (by rfl) T.g T.kp T.b .nil pass0 (pa_cons (pv 0) (pa_cons pe_int pa_nil))))
        (pa_cons (pe_op op_add pe_int (pe_call T.ok hr (by rfl) T.g T.kp T.b .nil pass0 (pa_cons (pv 0) (pa_cons (pe_op op_pow pe_int pe_int) pa_nil)))) pa_nil))))) (pv 1) (fun _ _ => rfl)))), ?_⟩
    refine ⟨_, rfl, p, c, n, 4, rfl, pen, by omega, by decide, by decide, fun r1 H1 a1 b1 pen1 bt1 => ?_⟩
    refine ⟨_, rfl, p, c, n + 1, 9, rfl, pen1, by omega, by decide, by decide, fun r2 H2 a2 b2 pen2 bt2 => ?_⟩
    refine ⟨1, r2, rfl, rfl, 10, 9, rfl, rfl, ⟨by decide, by decide, by decide⟩, _, rfl, p, c, n + 2, 3, rfl, pen2, by omega, by decide, by decide, fun r3 H3 a3 b3 pen3 bt3 => ?_⟩
    refine ⟨_, r3, rfl, rfl, _, rfl, 10, 9, rfl, rfl, ⟨by decide, by decide, by decide⟩, p, c, n + 3, 10 ^ (9 : Int).toNat, rfl, pen3, by omega, by decide, by decide, fun r4 H4 a4 b4 pen4 bt4 => ?_⟩
    have b4' : r4 < 1000000000 := b4
    refine ⟨1, r4, rfl, rfl, (by show 4 ≤ sizeLine; decide), fun l nl => ?_⟩
    have fin : ∀ r : Int, 1 ≤ r → r ≤ 1000000000 → Q (.int r) (upd H4 l (.lst [.int 1, .int (1 + r2), .int (10 ^ (9 : Int).toNat - r3), .int (1 + r4)])) := fun r h1 h2 => q r _ h1 h2 (pen4.same (same_new nl)) ((bt1.tr (bt2.tr (bt3.tr bt4))).tr (.of (same_new nl)))
    have w4 : r1 = 0 ∨ r1 = 1 ∨ r1 = 2 ∨ r1 = 3 := by omega
    rcases w4 with rfl | rfl | rfl | rfl
    · exact ⟨_, rfl, l, _, 0, _, rfl, rfl, SqL.of upd_same, atI_nat (j := 0) rfl, fin _ (by decide) (by decide)⟩
    · exact ⟨_, rfl, l, _, 1, _, rfl, rfl, SqL.of upd_same, atI_nat (j := 1) rfl, fin _ (by omega) (by omega)⟩
    · exact ⟨_, rfl, l, _, 2, _, rfl, rfl, SqL.of upd_same, atI_nat (j := 2) rfl, fin _ (by show (1 : Int) ≤ 1000000000 - r3; omega) (by show (1000000000 : Int) - r3 ≤ 1000000000; omega)⟩
    · exact ⟨_, rfl, l, _, 3, _, rfl, rfl, SqL.of upd_same, atI_nat (j := 3) rfl, fin _ (by omega) (by omega)⟩
abbrev entN : List Str := ["_law_pen_here", "_law_word", "_law_name", "_law_moment", "_law_places", "_law_goods", "_law_hands", "_law_at", "_law_one", "_law_good", "_law_other"]
theorem scEntryOf : FnScope entN ["_law_pen_here", "_law_word", "_law_name", "_law_moment", "_law_places", "_law_goods", "_law_hands"] (defScope sEntryOf) := ⟨rfl, rfl, rfl, by decide +kernel, rfl, by decide +kernel, by decide +kernel⟩
set_option maxHeartbeats 4000000 in
theorem ok_entryOf {f fT fM : Addr} {fd fdT fdM : FuncData} (F : Fun K "_law_entry_of" "_law_entry_of" sEntryOf f fd) (T : TakeT P w K mg base fT fdT) (M : DefT P w K mg base "_law_many" 2 fM fdM ["_law_pen_here"] spMany) (ml : mg "len" = none) :
    FnOk P w K mg base CX0 3 f fd ["_law_pen_here", "_law_word", "_law_name", "_law_moment", "_law_places", "_law_goods", "_law_hands"] spEntryOf := by
  refine F.ok scEntryOf (fun vs H Q E h => ?_) (fun cdv A outer s H vs Q E hr h => ?_)
  · obtain ⟨p, c, n, wd, nme, mo, a1, a2, a3, PL, GL, HL, rfl, _⟩ := h
    rfl
  · obtain ⟨p, c, n, wd, nme, mo, a1, a2, a3, PL, GL, HL, rfl, pen, hn, hw, h1, h2, h3, ne1, ne2, ne3, lp, lg, lh, q⟩ := h
    have nd := scEntryOf.nd
    have hr1 : Room 1 _ := hr.mono (by decide)
    refine ⟨_, pss_cons (ps_set (i := 7) nd rfl (Or.inl rfl) (pe_call T.ok hr1 (by rfl) T.g T.kp T.b .nil pass0 (pa_cons (pv 0) (pa_cons (pe_callB call_len_seq (by rfl) ml PySem.boot_len (pa_cons (pv 4) pa_nil)) pa_nil))))
      (pss_cons (ps_set (i := 8) nd rfl (Or.inl rfl) (pe_ix ix_list (pv 4) (pv 7) (fun _ _ => rfl)))
      (pss_cons (ps_set (i := 9) nd rfl (Or.inl rfl) (pe_ix ix_list (pv 5) (pe_call T.ok hr1 (by rfl) T.g T.kp T.b .nil pass0 (pa_cons (pv 0) (pa_cons (pe_callB call_len_seq (by rfl) ml PySem.boot_len (pa_cons (pv 5) pa_nil)) pa_nil))) (fun _ _ => rfl)))
      (pss_cons (ps_set (i := 10) nd rfl (Or.inl rfl) pe_str)
      (C8.pss_cut (ps_if (pt_cmpR op_gt (pe_callB call_len_seq (by rfl) ml PySem.boot_len (pa_cons (pv 4) pa_nil)) pe_int (nomark _))
        (pss_one (ps_set (i := 10) nd rfl (Or.inl rfl) (pe_ix ix_list (pv 4) (pe_op op_mod (pe_op op_add (pe_op op_add (pv 7) pe_int) (pe_call T.ok hr1 (by rfl) T.g T.kp T.b .nil pass0 (pa_cons (pv 0) (pa_cons (pe_op op_sub (pe_callB call_len_seq (by rfl) ml PySem.boot_len (pa_cons (pv 4) pa_nil)) pe_int) pa_nil)))) (pe_callB call_len_seq (by rfl) ml PySem.boot_len (pa_cons (pv 4) pa_nil))) (fun _ _ => rfl)))) pss_nil)
      (pss_cons (ps_if (pt_cmpR op_eq (pv 1) pe_str (nomark _)) (pss_one (ps_ret (pe_tup (pa_cons (pv 1) (pa_cons (pv 2) (pa_cons (pv 3) (pa_cons (pv 9) (pa_cons (pv 8) (pa_cons (pe_call M.ok hr (by rfl) M.g M.kp M.b .nil pass0 (pa_cons (pv 0) pa_nil)) (pa_cons (pe_op op_sub (pe_call M.ok hr (by rfl) M.g M.kp M.b .nil pass0 (pa_cons (pv 0) pa_nil)) (pe_call T.ok hr1 (by rfl) T.g T.kp T.b .nil pass0 (pa_cons (pv 0) (pa_cons pe_int pa_nil)))) pa_nil)))))))))) pss_nil)
      (pss_cons (ps_if (pt_cmpR op_eq (pv 1) pe_str (nomark _)) (pss_one (ps_ret (pe_tup (pa_cons (pv 1) (pa_cons (pv 2) (pa_cons (pv 3) (pa_cons (pv 9) (pa_cons (pv 8) (pa_cons (pe_call M.ok hr (by rfl) M.g M.kp M.b .nil pass0 (pa_cons (pv 0) pa_nil)) pa_nil))))))))) pss_nil)
      (C8.pss_cut (ps_if (PW.pt (pw_and (pt_cmpR op_eq (pv 1) pe_str (nomark _)) (pw_and1 (pt_cmpR op_ne (pv 10) pe_str (nomark _))))) (pss_one (ps_ret (pe_tup (pa_cons (pv 1) (pa_cons (pv 2) (pa_cons (pv 3) (pa_cons (pv 9) (pa_cons (pv 8) (pa_cons (pv 10) (pa_cons (pe_call M.ok hr (by rfl) M.g M.kp M.b .nil pass0 (pa_cons (pv 0) pa_nil)) pa_nil)))))))))) pss_nil)
      (pss_cons (ps_if (pt_cmpR op_eq (pv 1) pe_str (nomark _)) (pss_one (ps_ret (pe_tup (pa_cons (pv 1) (pa_cons (pv 2) (pa_cons (pv 3) (pa_cons (pv 9) (pa_cons (pv 8) (pa_cons (pe_ix ix_list (pe_lst (pa_cons (pv 10) (pa_cons (pv 10) (pa_cons pe_str pa_nil)))) (pe_call T.ok hr1 (by rfl) T.g T.kp T.b .nil pass0 (pa_cons (pv 0) (pa_cons pe_int pa_nil))) (fun _ _ => rfl)) pa_nil))))))))) pss_nil)
      (C8.pss_cut (ps_if (PW.pt (pw_and (pt_cmpR op_eq (pv 1) pe_str (nomark _)) (pw_and1 (pt_cmpR op_ne (pv 10) pe_str (nomark _))))) (pss_one (ps_ret (pe_tup (pa_cons (pv 1) (pa_cons (pv 2) (pa_cons (pv 3) (pa_cons (pv 8) (pa_cons (pv 10) pa_nil)))))))) pss_nil)
      (pss_cons (ps_if (pt_cmpR op_eq (pv 1) pe_str (nomark _)) (pss_one (ps_ret (pe_tup (pa_cons (pv 1) (pa_cons (pv 2) (pa_cons (pv 3) (pa_cons (pv 9) (pa_cons (pv 8) (pa_cons (pe_op op_sub (pe_call M.ok hr (by rfl) M.g M.kp M.b .nil pass0 (pa_cons (pv 0) pa_nil)) (pe_call T.ok hr1 (by rfl) T.g T.kp T.b .nil pass0 (pa_cons (pv 0) (pa_cons pe_int pa_nil)))) (pa_cons (pe_ix ix_list (pv 6) (pe_call T.ok hr1 (by rfl) T.g T.kp T.b .nil pass0 (pa_cons (pv 0) (pa_cons (pe_callB call_len_seq (by rfl) ml PySem.boot_len (pa_cons (pv 6) pa_nil)) pa_nil))) (fun _ _ => rfl)) pa_nil)))))))))) pss_nil)
      (pss_one (ps_ret (pe_tup (pa_cons pe_str (pa_cons (pv 2) (pa_cons (pv 3) (pa_cons (pv 9) (pa_cons (pv 8) pa_nil)))))))))))))))))), ?_⟩
    have p1 : 0 < PL.length := List.length_pos_iff.mpr ne1
    have g1 : 0 < GL.length := List.length_pos_iff.mpr ne2
    have k1 : 0 < HL.length := List.length_pos_iff.mpr ne3
    have lmap : ∀ ys : List Str, ((ys.map V.str).length : Int) = (ys.length : Int) := fun ys => by rw [List.length_map]
    -- at, one
    refine ⟨_, rfl, _, rfl, a1, _, rfl, .inl (SqL.of h1), p, c, n, _, rfl, pen, by omega, by rw [lmap]; omega, by rw [lmap]; omega, fun r1 H1 b1 d1 pen1 bt1 => ?_⟩
    rw [lmap] at d1
    have h11 := pen_strs pen bt1 h1
    have h12 := pen_strs pen bt1 h2
    have h13 := pen_strs pen bt1 h3
    obtain ⟨one, ho, ho2, ho3⟩ := at_strs b1 d1
    refine ⟨_, rfl, _, rfl, a1, _, r1, _, rfl, rfl, SqL.of h11, ho, ?_⟩
    refine ⟨_, rfl, _, rfl, _, rfl, a2, _, rfl, .inl (SqL.of h12), p, c, n + 1, _, rfl, pen1, by omega, by rw [lmap]; omega, by rw [lmap]; omega, fun r2 H2 b2 d2 pen2 bt2 => ?_⟩
    rw [lmap] at d2
    have h21 := pen_strs pen1 bt2 h11
    have h22 := pen_strs pen1 bt2 h12
    have h23 := pen_strs pen1 bt2 h13
    obtain ⟨good, hg, _, hg3⟩ := at_strs b2 d2
    have bt02 := bt1.tr bt2
    refine ⟨a2, _, r2, _, rfl, rfl, SqL.of h22, hg, ?_⟩
    refine ⟨fun σ' H' => ∃ other : Str, σ' = [some (.ref p), some (.str wd), some (.str nme), some (.int mo), some (.ref a1), some (.ref a2), some (.ref a3), some (.int r1), some (.str one), some (.str good), some (.str other)] ∧ (other = "" ∨ (other ∈ PL ∧ (PL.Nodup → one ≠ other))) ∧
      PenAt H' p c (n + 3) ∧ But p H H' ∧ StrsAt H' a1 PL ∧ StrsAt H' a2 GL ∧ StrsAt H' a3 HL, ?_, ?_⟩
    · refine ⟨_, rfl, a1, _, rfl, .inl (SqL.of h21), _, 1, rfl, rfl, _, rfl, ite2 (fun e => ?_) (fun e => ⟨"", rfl, .inl rfl, pen2.mono (by omega), bt02, h21, h22, h23⟩)⟩
      have e' : 1 < ((PL.map V.str).length : Int) := of_decide_eq_true e
      rw [lmap] at e'
      refine ⟨_, rfl, _, rfl, r1, 1, rfl, rfl, _, rfl, _, rfl, a1, _, rfl, .inl (SqL.of h21), _, 1, rfl, rfl, p, c, n + 2, _, rfl, pen2, by omega, by rw [lmap]; omega, by rw [lmap]; omega, fun r3 H3 b3 d3 pen3 bt3 => ?_⟩
      rw [lmap] at d3
      have h31 := pen_strs pen2 bt3 h21
      have h32 := pen_strs pen2 bt3 h22
      have h33 := pen_strs pen2 bt3 h23
      have x1 : 0 ≤ (r1 + 1 + r3) % (PL.length : Int) := Int.emod_nonneg _ (by omega)
      have x2 : (r1 + 1 + r3) % (PL.length : Int) < (PL.length : Int) := Int.emod_lt_of_pos _ (by omega)
      obtain ⟨other, hp, hp2, hp3⟩ := at_strs x1 x2
      refine ⟨r1 + 1, r3, rfl, rfl, _, rfl, a1, _, rfl, .inl (SqL.of h31), _, (PL.length : Int), rfl, by rw [lmap], (by show (0 : Int) < PL.length; omega), a1, _, _, .str other, rfl, rfl, SqL.of h31, hp, other, rfl, .inr ⟨hp3, fun nod z => ?_⟩, pen3, bt02.tr bt3, h31, h32, h33⟩
      subst z
      have := (List.getElem?_inj (show r1.toNat < PL.length by omega) nod).mp (ho2.trans hp2.symm)
      have x3 : (r1 + 1 + r3) % (PL.length : Int) = r1 + 1 + r3 ∨ (r1 + 1 + r3) % (PL.length : Int) = r1 + 1 + r3 - PL.length := by
        by_cases h : r1 + 1 + r3 < PL.length
        · exact .inl (Int.emod_eq_of_lt (by omega) h)
        · right
          rw [← Int.sub_emod_right]
          exact Int.emod_eq_of_lt (by omega) (by omega)
      omega
    · rintro σ' H3 ⟨other, rfl, oth, pen3, bt3, h31, h32, h33⟩
      have fin : ∀ (tp : Addr) (e : Ent) (H4 : Hp) (k : Nat), H4 tp = none → But p H3 H4 → PenAt H4 p c (n + 3 + k) → k ≤ 17 → e.name = nme → e.moment = mo → e.From PL GL HL → Q (.ref tp) (upd H4 tp (.tup e.vals)) := fun tp e H4 k ntp bt4 pen4 hk e1 e2 e3 =>
        q tp e _ ((bt3.tr bt4).free ntp pen4.there) upd_same e1 e2 e3 ((pen4.mono (by omega)).same (same_new ntp)) ((bt3.tr bt4).tr (.of (same_new ntp)))
      refine ⟨_, rfl, rfl, _, rfl, ite2 (fun e => ?_) (fun e1 => ?_)⟩
      · have e' : wd = "come" := V.str.inj (of_decide_eq_true e)
        subst e'
        refine ⟨_, rfl, _, rfl, _, rfl, _, rfl, _, rfl, _, rfl, p, c, n + 3, rfl, pen3, by omega, fun m1 H4 c1 d1 pen4 bt4 => ?_⟩
        refine ⟨_, rfl, p, c, _, rfl, pen4, by omega, fun m2 H5 c2 d2 pen5 bt5 => ?_⟩
        refine ⟨_, rfl, p, c, _, 2, rfl, pen5, by omega, by decide, by decide, fun r6 H6 c6 d6 pen6 bt6 => ?_⟩
        refine ⟨m2, r6, rfl, rfl, (by show 7 ≤ sizeLine; decide), fun tp ntp => ?_⟩
        exact fin tp (.come nme mo good one m1 (m2 - r6)) H6 9 ntp (bt4.tr (bt5.tr bt6)) pen6 (by decide) rfl rfl ⟨hg3, ho3, c1, d1, by omega, by omega⟩
      refine ⟨_, rfl, rfl, _, rfl, ite2 (fun e => ?_) (fun e2 => ?_)⟩
      · have e' : wd = "go" := V.str.inj (of_decide_eq_true e)
        subst e'
        refine ⟨_, rfl, _, rfl, _, rfl, _, rfl, _, rfl, _, rfl, p, c, n + 3, rfl, pen3, by omega, fun m1 H4 c1 d1 pen4 bt4 => ?_⟩
        refine ⟨(by show 6 ≤ sizeLine; decide), fun tp ntp => ?_⟩
        exact fin tp (.go nme mo good one m1) H4 4 ntp bt4 pen4 (by decide) rfl rfl ⟨hg3, ho3, c1, d1⟩
      have mv : ∀ (A B : Prop), (other ≠ "" → A) → B → (if (!decide (V.str other = V.str "")) = true then A else B) := fun A B hA hB => by
        by_cases z : other = ""
        · subst z
          rw [decide_eq_true rfl]
          exact iteF hB
        · rw [decide_eq_false fun h => z (V.str.inj h)]
          exact iteT (hA z)
      have oin : other ≠ "" → other ∈ PL ∧ (PL.Nodup → one ≠ other) := fun z => oth.resolve_left z
      refine ⟨fun σ' H' => σ' = [some (.ref p), some (.str wd), some (.str nme), some (.int mo), some (.ref a1), some (.ref a2), some (.ref a3), some (.int r1), some (.str one), some (.str good), some (.str other)] ∧ H' = H3, ?_, ?_⟩
      · refine ⟨_, rfl, rfl, _, rfl, ite2 (fun e => ?_) (fun _ => iteF ⟨rfl, rfl⟩)⟩
        have e' : wd = "move" := V.str.inj (of_decide_eq_true e)
        subst e'
        refine ⟨_, rfl, rfl, _, rfl, mv _ _ (fun z => ?_) ⟨rfl, rfl⟩⟩
        refine ⟨_, rfl, _, rfl, _, rfl, _, rfl, _, rfl, _, rfl, _, rfl, p, c, n + 3, rfl, pen3, by omega, fun m1 H4 c1 d1 pen4 bt4 => ?_⟩
        refine ⟨(by show 7 ≤ sizeLine; decide), fun tp ntp => ?_⟩
        exact fin tp (.move nme mo good one other m1) H4 4 ntp bt4 pen4 (by decide) rfl rfl ⟨hg3, ho3, (oin z).1, (oin z).2, c1, d1⟩
      rintro σ' H' ⟨rfl, rfl⟩
      refine ⟨_, rfl, rfl, _, rfl, ite2 (fun e => ?_) (fun e3 => ?_)⟩
      · have e' : wd = "some" := V.str.inj (of_decide_eq_true e)
        subst e'
        refine ⟨_, rfl, _, rfl, _, rfl, _, rfl, _, rfl, _, rfl, _, rfl, (by show 3 ≤ sizeLine; decide), fun l nl => ?_⟩
        have sl := @same_new _ _ (.lst [V.str other, .str other, .str ""]) nl
        have nlp : l ≠ p := fun z => pen3.there (z ▸ nl)
        refine ⟨_, rfl, p, c, n + 3, 3, rfl, pen3.same sl, by omega, by decide, by decide, fun r4 H4 c4 d4 pen4 bt4 => ?_⟩
        have hl := bt4 l _ upd_same nlp
        obtain ⟨to, ht, hto⟩ : ∃ to : Str, atI [V.str other, .str other, .str ""] r4 = some (.str to) ∧ (to = "" ∨ (to ∈ PL ∧ (PL.Nodup → one ≠ to))) := by
          have w3 : r4 = 0 ∨ r4 = 1 ∨ r4 = 2 := by omega
          rcases w3 with rfl | rfl | rfl
          · exact ⟨other, atI_nat (j := 0) rfl, oth⟩
          · exact ⟨other, atI_nat (j := 1) rfl, oth⟩
          · exact ⟨"", atI_nat (j := 2) rfl, .inl rfl⟩
        refine ⟨l, _, r4, _, rfl, rfl, SqL.of hl, ht, (by show 6 ≤ sizeLine; decide), fun tp ntp => ?_⟩
        exact fin tp (.some_ nme mo good one to) H4 1 ntp ((But.of sl).tr bt4) pen4 (by decide) rfl rfl ⟨hg3, ho3, hto⟩
      refine ⟨fun σ' H1 => σ' = [some (.ref p), some (.str wd), some (.str nme), some (.int mo), some (.ref a1), some (.ref a2), some (.ref a3), some (.int r1), some (.str one), some (.str good), some (.str other)] ∧ H1 = H', ?_, ?_⟩
      · refine ⟨_, rfl, rfl, _, rfl, ite2 (fun e => ?_) (fun _ => iteF ⟨rfl, rfl⟩)⟩
        have e' : wd = "swap" := V.str.inj (of_decide_eq_true e)
        subst e'
        refine ⟨_, rfl, rfl, _, rfl, mv _ _ (fun z => ?_) ⟨rfl, rfl⟩⟩
        refine ⟨_, rfl, _, rfl, _, rfl, _, rfl, _, rfl, (by show 5 ≤ sizeLine; decide), fun tp ntp => ?_⟩
        exact fin tp (.swap nme mo one other) H' 0 ntp (.refl _ _) pen3 (by decide) rfl rfl ⟨ho3, (oin z).1, (oin z).2⟩
      rintro σ' H2 ⟨rfl, rfl⟩
      refine ⟨_, rfl, rfl, _, rfl, ite2 (fun e => ?_) (fun e5 => ?_)⟩
      · have e' : wd = "count" := V.str.inj (of_decide_eq_true e)
        subst e'
        refine ⟨_, rfl, _, rfl, _, rfl, _, rfl, _, rfl, _, rfl, p, c, n + 3, rfl, pen3, by omega, fun m1 H4 c1 d1 pen4 bt4 => ?_⟩
        refine ⟨_, rfl, p, c, _, 2, rfl, pen4, by omega, by decide, by decide, fun r5 H5 c5 d5 pen5 bt5 => ?_⟩
        have h43 := pen_strs pen4 bt5 (pen_strs pen3 bt4 h33)
        refine ⟨m1, r5, rfl, rfl, _, rfl, _, rfl, _, rfl, a3, _, rfl, .inl (SqL.of h43), p, c, _, _, rfl, pen5, by omega, by rw [lmap]; omega, by rw [lmap]; omega, fun r6 H6 c6 d6 pen6 bt6 => ?_⟩
        rw [lmap] at d6
        obtain ⟨hand, hh, _, hh3⟩ := at_strs c6 d6
        refine ⟨a3, _, r6, _, rfl, rfl, SqL.of (pen_strs pen5 bt6 h43), hh, (by show 7 ≤ sizeLine; decide), fun tp ntp => ?_⟩
        exact fin tp (.count nme mo good one (m1 - r5) hand) H6 6 ntp (bt4.tr (bt5.tr bt6)) pen6 (by decide) rfl rfl ⟨hg3, ho3, by omega, by omega, hh3⟩
      refine ⟨_, rfl, _, rfl, _, rfl, _, rfl, (by show 5 ≤ sizeLine; decide), fun tp ntp => ?_⟩
      exact fin tp (.look nme mo good one) H2 0 ntp (.refl _ _) pen3 (by decide) rfl rfl ⟨hg3, ho3⟩
abbrev entryN : List Str := ["_law_pen_here", "_law_name", "_law_moment", "_law_places", "_law_goods", "_law_hands", "_law_words_here"]
theorem scEntry : FnScope entryN ["_law_pen_here", "_law_name", "_law_moment", "_law_places", "_law_goods", "_law_hands"] (defScope sEntry) := ⟨rfl, rfl, rfl, by decide +kernel, rfl, by decide +kernel, by decide +kernel⟩
theorem ok_entry {f fT fE : Addr} {fd fdT fdE : FuncData} (F : Fun K "_law_entry" "_law_entry" sEntry f fd) (T : TakeT P w K mg base fT fdT)
    (EO : DefT P w K mg base "_law_entry_of" 3 fE fdE ["_law_pen_here", "_law_word", "_law_name", "_law_moment", "_law_places", "_law_goods", "_law_hands"] spEntryOf) :
    FnOk P w K mg base CX0 4 f fd ["_law_pen_here", "_law_name", "_law_moment", "_law_places", "_law_goods", "_law_hands"] spEntry := by
  refine F.ok scEntry (fun vs H Q E h => ?_) (fun cdv A outer s H vs Q E hr h => ?_)
  · obtain ⟨p, c, n, nme, mo, a1, a2, a3, PL, GL, HL, rfl, _⟩ := h
    rfl
  · obtain ⟨p, c, n, nme, mo, a1, a2, a3, PL, GL, HL, rfl, pen, hn, h1, h2, h3, ne1, ne2, ne3, lp, lg, lh, q⟩ := h
    have nd := scEntry.nd
    have hr1 : Room 1 _ := hr.mono (by decide)
    refine ⟨_, pss_cons (ps_set (i := 6) nd rfl (Or.inl rfl) (pe_lst (pa_cons pe_str (pa_cons pe_str (pa_cons pe_str (pa_cons pe_str (pa_cons pe_str (pa_cons pe_str (pa_cons pe_str (pa_cons pe_str (pa_cons pe_str (pa_cons pe_str pa_nil))))))))))))
      (pss_one (ps_ret (pe_call EO.ok hr (by rfl) EO.g EO.kp EO.b .nil pass0 (pa_cons (pv 0) (pa_cons (pe_ix ix_list (pv 6) (pe_call T.ok hr1 (by rfl) T.g T.kp T.b .nil pass0 (pa_cons (pv 0) (pa_cons pe_int pa_nil))) (fun _ _ => rfl)) (pa_cons (pv 1) (pa_cons (pv 2) (pa_cons (pv 3) (pa_cons (pv 4) (pa_cons (pv 5) pa_nil)))))))))), ?_⟩
    refine ⟨(by show 10 ≤ sizeLine; decide), fun l nl => ?_⟩
    have sl := @same_new _ _ (.lst (words10.map V.str)) nl
    have nlp : l ≠ p := fun z => pen.there (z ▸ nl)
    have pen' := pen.same sl
    refine ⟨_, rfl, _, rfl, _, rfl, p, c, n, 10, rfl, pen', by omega, by decide, by decide, fun r1 H1 b1 d1 pen1 bt1 => ?_⟩
    obtain ⟨wd, hw, _, hw3⟩ := at_strs (ys := words10) b1 d1
    have hl : StrsAt H1 l words10 := bt1 l _ upd_same nlp
    have w7 : wd ∈ words7 := by
      simp only [List.mem_cons, List.not_mem_nil, or_false] at hw3
      rcases hw3 with rfl | rfl | rfl | rfl | rfl | rfl | rfl | rfl | rfl | rfl <;> simp [words7]
    refine ⟨l, _, r1, _, rfl, rfl, SqL.of hl, hw, _, rfl, _, rfl, _, rfl, _, rfl, _, rfl, p, c, n + 1, wd, nme, mo, a1, a2, a3, PL, GL, HL, rfl, pen1, by omega, w7, pen_strs pen' bt1 (sl _ _ h1), pen_strs pen' bt1 (sl _ _ h2), pen_strs pen' bt1 (sl _ _ h3), ne1, ne2, ne3, lp, lg, lh, fun tp e H2 ntp ht en em ef pen2 bt2 => ?_⟩
    exact q tp e H2 (sl.free ((bt1.free ntp pen1.there))) ht en em ef (pen2.mono (by omega)) ((But.of sl).tr (bt1.tr bt2))
end
/-! ### words and moments -/
def NmL (ys : List Str) (m : Nat) : Prop := ∃ way t B sp, NmOk way t B sp ∧ ys = (List.range m).map (nmStr way t B sp)
theorem nmAt_strs {H : Hp} {l : Addr} {m : Nat} (h : NmAt H l m) : ∃ ys, StrsAt H l ys ∧ NmL ys m := by
  obtain ⟨way, t, B, sp, ok, e⟩ := h
  refine ⟨(List.range m).map (nmStr way t B sp), ?_, way, t, B, sp, ok, rfl⟩
  show H l = _
  rw [e, List.map_map]
  rfl
theorem NmL.len {ys : List Str} {m : Nat} (h : NmL ys m) : ys.length = m := by
  obtain ⟨way, t, B, sp, ok, rfl⟩ := h
  simp
theorem NmL.take {ys : List Str} {m k : Nat} (h : NmL ys m) (hk : k ≤ m) : NmL (ys.take k) k := by
  obtain ⟨way, t, B, sp, ok, rfl⟩ := h
  refine ⟨way, t, B, sp, ok, ?_⟩
  rw [← List.map_take, List.take_range, Nat.min_eq_left hk]
theorem cut_take {xs : List V} {k : Nat} : cutV xs none (some (k : Int)) = xs.take k := by
  unfold cutV
  rw [HT.sIx_none, HT.sIx_nat]
  show (xs.drop 0).take (min k xs.length - 0) = xs.take k
  rw [List.drop_zero, Nat.sub_zero]
  by_cases h : k ≤ xs.length
  · rw [Nat.min_eq_left h]
  · rw [Nat.min_eq_right (by omega), List.take_length, List.take_of_length_le (by omega)]
def spWords : Sp := fun vs H Q _ => ∃ (p c : Addr) (n : Nat) (a b e : Nat), vs = [.ref p, .int a, .int b, .int e] ∧ PenAt H p c n ∧ n ≤ 40000 ∧ a ≤ 31 ∧ b ≤ 31 ∧ e ≤ 31 ∧
  ∀ (tp l1 l2 l3 l4 : Addr) (PL GL HL EL : List Str) (H' : Hp), H tp = none → H' tp = some (.tup [.ref l1, .ref l2, .ref l3, .ref l4]) → StrsAt H' l1 PL → StrsAt H' l2 GL → StrsAt H' l3 HL → StrsAt H' l4 EL →
    NmL PL a → NmL GL b → NmL HL 3 → NmL EL e → PenAt H' p c (n + 50) → But p H H' → Q (.ref tp) H'
def spMoments : Sp := fun vs H Q _ => ∃ (p c : Addr) (n : Nat) (m : Nat), vs = [.ref p, .int m] ∧ PenAt H p c n ∧ n ≤ 60000 ∧ m ≤ 31 ∧
  ∀ (l : Addr) (ns : List Int) (H' : Hp), H l = none → H' l = some (.lst (ns.map V.int)) → ns.length = m → (∀ x ∈ ns, 0 ≤ x ∧ x ≤ 9999) → PenAt H' p c (n + 100) → But p H H' → Q (.ref l) H'
section
variable {P : Program} {w : World} {K : PySem.W.Frag} {mg : Str → Option Value} {base : Heap}
abbrev wordsN : List Str := ["_law_pen_here", "_law_places", "_law_goods", "_law_entries", "_law_some", "_law_hands"]
theorem scWords : FnScope wordsN ["_law_pen_here", "_law_places", "_law_goods", "_law_entries"] (defScope sWords) := ⟨rfl, rfl, rfl, by decide +kernel, rfl, by decide +kernel, by decide +kernel⟩
theorem ok_words {f fT fN : Addr} {fd fdT fdN : FuncData} (F : Fun K "_law_words" "_law_words" sWords f fd) (T : TakeT P w K mg base fT fdT) (N : DefT P w K mg base "_law_names" 2 fN fdN ["_law_pen_here", "_law_many_here"] spNames) :
    FnOk P w K mg base CX0 3 f fd ["_law_pen_here", "_law_places", "_law_goods", "_law_entries"] spWords := by
  refine F.ok scWords (fun vs H Q E h => ?_) (fun cdv A outer s H vs Q E hr h => ?_)
  · obtain ⟨p, c, n, a, b, e, rfl, _⟩ := h
    rfl
  · obtain ⟨p, c, n, a, b, e, rfl, pen, hn, ha, hb, he, q⟩ := h
    have nd := scWords.nd
    have hr1 : Room 1 _ := hr.mono (by decide)
    refine ⟨_, pss_cons (ps_if (pt_cmpR op_eq (pe_call T.ok hr1 (by rfl) T.g T.kp T.b .nil pass0 (pa_cons (pv 0) (pa_cons pe_int pa_nil))) pe_int (nomark _))
        (pss_cons (ps_set (i := 4) nd rfl (Or.inl rfl) (pe_call N.ok hr (by rfl) N.g N.kp N.b .nil pass0 (pa_cons (pv 0) (pa_cons pe_int pa_nil))))
        (pss_one (ps_ret (pe_tup (pa_cons (pe_slice sl_list (pv 4) po_none (po_some (pv 1))) (pa_cons (pe_slice sl_list (pv 4) po_none (po_some (pv 2))) (pa_cons (pe_slice sl_list (pv 4) po_none (po_some pe_int)) (pa_cons (pe_slice sl_list (pv 4) po_none (po_some (pv 3))) pa_nil)))))))) pss_nil)
      (pss_cons (ps_set (i := 5) nd rfl (Or.inl rfl) (pe_call N.ok hr (by rfl) N.g N.kp N.b .nil pass0 (pa_cons (pv 0) (pa_cons pe_int pa_nil))))
      (pss_one (ps_ret (pe_tup (pa_cons (pe_call N.ok hr (by rfl) N.g N.kp N.b .nil pass0 (pa_cons (pv 0) (pa_cons (pv 1) pa_nil))) (pa_cons (pe_call N.ok hr (by rfl) N.g N.kp N.b .nil pass0 (pa_cons (pv 0) (pa_cons (pv 2) pa_nil))) (pa_cons (pv 5) (pa_cons (pe_call N.ok hr (by rfl) N.g N.kp N.b .nil pass0 (pa_cons (pv 0) (pa_cons (pv 3) pa_nil))) pa_nil)))))))), ?_⟩
    refine ⟨_, rfl, p, c, n, 4, rfl, pen, by omega, by decide, by decide, fun r1 H1 b1 d1 pen1 bt1 => ⟨rfl, _, rfl, ite2 (fun _ => ?_) (fun _ => ?_)⟩⟩
    · refine ⟨_, rfl, p, c, n + 1, 31, rfl, pen1, by omega, by decide, by decide, fun l H2 nl hl pen2 bt2 => ?_⟩
      obtain ⟨ys, hy, ny⟩ := nmAt_strs hl
      have tk : ∀ k : Nat, cutV (ys.map V.str) none (some (k : Int)) = (ys.take k).map V.str := fun k => by rw [cut_take, List.map_take]
      refine ⟨_, rfl, _, rfl, (a : Int), rfl, l, _, rfl, SqL.of hy, fun l1 n1 => ?_⟩
      have s1 := @same_new _ _ (.lst (cutV (ys.map V.str) none (some (a : Int)))) n1
      refine ⟨_, rfl, _, rfl, (b : Int), rfl, l, _, rfl, SqL.of (s1 _ _ hy), fun l2 n2 => ?_⟩
      have s2 := @same_new _ _ (.lst (cutV (ys.map V.str) none (some (b : Int)))) n2
      refine ⟨_, rfl, 3, rfl, l, _, rfl, SqL.of (s2 _ _ (s1 _ _ hy)), fun l3 n3 => ?_⟩
      have s3 := @same_new _ _ (.lst (cutV (ys.map V.str) none (some (3 : Int)))) n3
      refine ⟨_, rfl, _, rfl, (e : Int), rfl, l, _, rfl, SqL.of (s3 _ _ (s2 _ _ (s1 _ _ hy))), fun l4 n4 => ?_⟩
      have s4 := @same_new _ _ (.lst (cutV (ys.map V.str) none (some (e : Int)))) n4
      refine ⟨(by show 4 ≤ sizeLine; decide), fun tp ntp => ?_⟩
      have s5 := @same_new _ _ (.tup [V.ref l1, .ref l2, .ref l3, .ref l4]) ntp
      have u4 := s4.trans s5
      have u3 := s3.trans u4
      have u2 := s2.trans u3
      have u1 := s1.trans u2
      have bt := (bt1.tr bt2).tr (.of u1)
      have f0 : H tp = none := (bt1.tr bt2).free (s1.free (s2.free (s3.free (s4.free ntp)))) pen2.there
      refine q tp l1 l2 l3 l4 (ys.take a) (ys.take b) (ys.take 3) (ys.take e) _ f0 upd_same ?_ ?_ ?_ ?_ (ny.take ha) (ny.take hb) (ny.take (by decide)) (ny.take he) ((pen2.mono (by omega)).same u1) bt
      · exact u2 _ _ (by rw [upd_same, tk])
      · exact u3 _ _ (by rw [upd_same, tk])
      · exact u4 _ _ (by rw [upd_same]; exact congrArg (fun z => some (HO.lst z)) (tk 3))
      · exact s5 _ _ (by rw [upd_same, tk])
    · refine ⟨_, rfl, p, c, n + 1, 3, rfl, pen1, by omega, by decide, by decide, fun l3 H2 nl3 hl3 pen2 bt2 => ?_⟩
      obtain ⟨ys3, hy3, ny3⟩ := nmAt_strs hl3
      refine ⟨_, rfl, _, rfl, p, c, n + 11, (a : Int), rfl, pen2, by omega, by omega, by omega, fun l1 H3 nl1 hl1 pen3 bt3 => ?_⟩
      obtain ⟨ys1, hy1, ny1⟩ := nmAt_strs hl1
      refine ⟨_, rfl, _, rfl, p, c, n + 21, (b : Int), rfl, pen3, by omega, by omega, by omega, fun l2 H4 nl2 hl2 pen4 bt4 => ?_⟩
      obtain ⟨ys2, hy2, ny2⟩ := nmAt_strs hl2
      refine ⟨_, rfl, _, rfl, _, rfl, p, c, n + 31, (e : Int), rfl, pen4, by omega, by omega, by omega, fun l4 H5 nl4 hl4 pen5 bt5 => ?_⟩
      obtain ⟨ys4, hy4, ny4⟩ := nmAt_strs hl4
      refine ⟨(by show 4 ≤ sizeLine; decide), fun tp ntp => ?_⟩
      have s5 := @same_new _ _ (.tup [V.ref l1, .ref l2, .ref l3, .ref l4]) ntp
      have bt := bt1.tr (bt2.tr (bt3.tr (bt4.tr bt5)))
      exact q tp l1 l2 l3 l4 ys1 ys2 ys3 ys4 _ (bt.free ntp pen5.there) upd_same (s5 _ _ (pen_strs pen4 bt5 (pen_strs pen3 bt4 hy1))) (s5 _ _ (pen_strs pen4 bt5 hy2)) (s5 _ _ (pen_strs pen4 bt5 (pen_strs pen3 bt4 (pen_strs pen2 bt3 hy3)))) (s5 _ _ hy4)
        (by rw [Int.toNat_natCast] at ny1; exact ny1) (by rw [Int.toNat_natCast] at ny2; exact ny2) ny3 (by rw [Int.toNat_natCast] at ny4; exact ny4) ((pen5.mono (by omega)).same s5) (bt.tr (.of s5))
abbrev momN : List Str := ["_law_pen_here", "_law_many_here", "_law_way", "_law_some", "_law_k", "_law_few", "_law_found"]
theorem scMom : FnScope momN ["_law_pen_here", "_law_many_here"] (defScope sMoments) := ⟨rfl, rfl, rfl, by decide +kernel, rfl, by decide +kernel, by decide +kernel⟩
theorem at_ints {ns : List Int} {r : Int} (h0 : 0 ≤ r) (h1 : r < (ns.length : Int)) : ∃ y, atI (ns.map V.int) r = some (.int y) ∧ y ∈ ns := by
  have h : r.toNat < ns.length := by omega
  have e : ((r.toNat : Nat) : Int) = r := by omega
  have q := atI_nat (xs := ns.map V.int) (j := r.toNat) (v := .int ns[r.toNat]) (by rw [List.getElem?_map, List.getElem?_eq_getElem h]; rfl)
  rw [e] at q
  exact ⟨_, q, List.getElem_mem h⟩
set_option maxHeartbeats 4000000 in
theorem ok_moments {f fT : Addr} {fd fdT : FuncData} (F : Fun K "_law_moments" "_law_moments" sMoments f fd) (T : TakeT P w K mg base fT fdT) (ml : mg "len" = none) (mr : mg "range" = none) (mi : mg "int" = none) :
    FnOk P w K mg base CX0 2 f fd ["_law_pen_here", "_law_many_here"] spMoments := by
  refine F.ok scMom (fun vs H Q E h => ?_) (fun cdv A outer s H vs Q E hr h => ?_)
  · obtain ⟨p, c, n, m, rfl, _⟩ := h
    rfl
  · obtain ⟨p, c, n, m, rfl, pen, hn, hm, q⟩ := h
    have nd := scMom.nd
    refine ⟨_, pss_cons (ps_set (i := 2) nd rfl (Or.inl rfl) (pe_call T.ok hr (by rfl) T.g T.kp T.b .nil pass0 (pa_cons (pv 0) (pa_cons pe_int pa_nil))))
      (pss_cons (ps_set (i := 3) nd rfl (Or.inr rfl) (pe_lst (pa_cons pe_int (pa_cons pe_int (pa_cons pe_int (pa_cons pe_int (pa_cons (pe_call T.ok hr (by rfl) T.g T.kp T.b .nil pass0 (pa_cons (pv 0) (pa_cons pe_int pa_nil))) (pa_cons (pe_call T.ok hr (by rfl) T.g T.kp T.b .nil pass0 (pa_cons (pv 0) (pa_cons pe_int pa_nil))) pa_nil))))))))
      (pss_cons (ps_setLc (i := 5) (own := [("_law_k", 4)]) (g := gName 4) (tt := tYes) (te := tOp (rIxL K) (tVar 3) (tCall spTake [] E0 (tCons (tVar 0) (tCons (tC (V.int 6)) tNil)))) rfl nd rfl rfl (sw_true rfl rfl rfl (by decide +kernel))
          (pi_range1 rfl mr (pa_cons (pe_op op_add pe_int (pe_call T.ok hr (by rfl) T.g T.kp T.b .nil pass0 (pa_cons (pv 0) (pa_cons pe_int pa_nil)))) pa_nil))
          (blkOk_by (N := momN) (sc := defScope sMoments) (by decide +kernel))
          (fun _ _ _ _ _ => pg_name (i := 4) nd rfl (Or.inl rfl)) (fun _ _ _ _ _ => pts_nil)
          (fun _ _ _ _ _ => pe_ix ix_list (pv 3) (pe_call T.ok hr (by rfl) T.g T.kp T.b .nil pass0 (pa_cons (pv 0) (pa_cons pe_int pa_nil))) (fun _ _ => rfl)))
      (pss_cons (ps_set (i := 6) nd rfl (Or.inl rfl) (pe_lst pa_nil))
      (pss_cons (ps_for PassesOwn.never rfl (pi_range1 rfl mr (pa_cons (pv 1) pa_nil)) (pg_name (i := 4) nd rfl (Or.inl rfl))
        (pss_one (ps_expr (pe_bm PySem.F.plainAttrs_list PySem.F.slot_list_append PySem.F.type_list_append mt_append (pv 6) (pa_cons (pe_ix ix_list
          (pe_lst (pa_cons (pe_ix ix_list (pv 5) (pe_call T.ok hr (by rfl) T.g T.kp T.b .nil pass0 (pa_cons (pv 0) (pa_cons (pe_callB call_len_seq (by rfl) ml PySem.boot_len (pa_cons (pv 5) pa_nil)) pa_nil))) (fun _ _ => rfl)) (pa_cons (pe_call T.ok hr (by rfl) T.g T.kp T.b .nil pass0 (pa_cons (pv 0) (pa_cons pe_int pa_nil))) pa_nil)))
          (pe_callTy call_int1 (by rfl) mi (by decide +kernel) (pa_cons (pe_cmpR op_eq (pv 2) pe_int (nomark _)) pa_nil)) (fun _ _ => rfl)) pa_nil)))))
      (pss_one (ps_ret (pv 6))))))), ?_⟩
    refine ⟨_, rfl, p, c, n, 4, rfl, pen, by omega, by decide, by decide, fun r1 H1 b1 d1 pen1 bt1 => ?_⟩
    refine ⟨_, rfl, p, c, n + 1, 10000, rfl, pen1, by omega, by decide, by decide, fun r2 H2 b2 d2 pen2 bt2 => ?_⟩
    refine ⟨_, rfl, p, c, n + 2, 10000, rfl, pen2, by omega, by decide, by decide, fun r3 H3 b3 d3 pen3 bt3 => ?_⟩
    refine ⟨(by show 6 ≤ sizeLine; decide), fun S nS => ?_⟩
    have sS := @same_new _ _ (.lst (([0, 99, 100, 9999, r2, r3] : List Int).map V.int)) nS
    have penS := pen3.same sS
    have nSp : S ≠ p := fun z => pen3.there (z ▸ nS)
    have btS : But p H (upd H3 S (.lst (([0, 99, 100, 9999, r2, r3] : List Int).map V.int))) := (bt1.tr (bt2.tr bt3)).tr (.of sS)
    have hS : (upd H3 S (.lst (([0, 99, 100, 9999, r2, r3] : List Int).map V.int))) S = some (.lst (([0, 99, 100, 9999, r2, r3] : List Int).map V.int)) := upd_same
    refine ⟨_, rfl, p, c, n + 3, 4, rfl, penS, by omega, by decide, by decide, fun r4 H4 b4 d4 pen4 bt4 => ?_⟩
    have hS4 := bt4 S _ hS nSp
    refine ⟨1, r4, rfl, rfl, 1 + r4, rfl, by omega, by omega, fun D nD => ?_⟩
    have nDp : D ≠ p := fun z => pen4.there (z ▸ nD)
    have nDc : D ≠ c := fun z => pen4.cells (z ▸ nD)
    have nSD : S ≠ D := ne_of_none hS4 nD
    have hDn : H D = none := (btS.tr bt4).free nD pen4.there
    refine lc_range (lo := 0) (n := (1 + r4).toNat) (fun j H' => PenAt H' p c (n + 4 + j) ∧ But p H H' ∧ H' S = some (.lst (([0, 99, 100, 9999, r2, r3] : List Int).map V.int)) ∧ ∃ fs : List Int, H' D = some (.lst (fs.map V.int)) ∧ fs.length = j ∧ ∀ x ∈ fs, 0 ≤ x ∧ x ≤ 9999)
      ⟨pen4.same (same_new nD), (btS.tr bt4).tr (.of (same_new nD)), (upd_ne nSD).trans hS4, [], upd_same, rfl, fun y hy => nomatch hy⟩ ?_ ?_
    · rintro j H6 hj ⟨pen6, bt6, hS6, fs, hD6, lf, bd⟩
      refine ⟨rfl, yesT ?_⟩
      refine ⟨_, rfl, _, rfl, p, c, _, 6, rfl, pen6, by omega, by decide, by decide, fun r H7 b7 d7 pen7 bt7 => ?_⟩
      obtain ⟨y, hy, my⟩ := at_ints (ns := [0, 99, 100, 9999, r2, r3]) b7 d7
      have hD7 := bt7 D _ hD6 nDp
      have hS7 := bt7 S _ hS6 nSp
      refine ⟨S, _, r, _, rfl, rfl, SqL.of hS7, hy, _, hD7, (by rw [List.length_map]; exact small1000 (by omega)), pen7.upd nDp nDc, fun b o e nb => (upd_ne (ne_of_none e hDn)).trans ((bt6.tr bt7) b o e nb), (upd_ne nSD).trans hS7, fs ++ [y], ?_, by simp [lf], ?_⟩
      · rw [upd_same, List.map_append]
        rfl
      · intro x hx
        rcases List.mem_append.mp hx with h | h
        · exact bd x h
        · rw [List.mem_singleton.mp h]
          simp only [List.mem_cons, List.not_mem_nil, or_false] at my
          rcases my with rfl | rfl | rfl | rfl | rfl | rfl <;> constructor <;> omega
    · rintro H6 ⟨pen6, bt6, hS6, fs, hD6, lf, bd⟩
      refine ⟨Nat.zero_le _, fun Fd nFd => ?_⟩
      have nFp : Fd ≠ p := fun z => pen6.there (z ▸ nFd)
      have nFc : Fd ≠ c := fun z => pen6.cells (z ▸ nFd)
      have nDF : D ≠ Fd := ne_of_none hD6 nFd
      have hFn : H Fd = none := bt6.free nFd pen6.there
      refine ⟨_, rfl, (m : Int), rfl, by omega, by omega, for_range (lo := 0) (n := (m : Int).toNat) (fun j σ H' => ∃ y4, σ = [some (.ref p), some (.int (m : Int)), some (.int r1), some (.ref S), y4, some (.ref D), some (.ref Fd)] ∧ PenAt H' p c (n + 8 + 2 * j) ∧ But p H H' ∧ H' D = some (.lst (fs.map V.int)) ∧
        ∃ ns : List Int, H' Fd = some (.lst (ns.map V.int)) ∧ ns.length = j ∧ ∀ x ∈ ns, 0 ≤ x ∧ x ≤ 9999) ⟨_, rfl, (pen6.mono (by omega)).same (same_new nFd), bt6.tr (.of (same_new nFd)), (upd_ne nDF).trans hD6, [], upd_same, rfl, fun y hy => nomatch hy⟩ ?_ ?_⟩
      · rintro j σ H9 hj ⟨y4, rfl, pen9, bt9, hD9, ns, hF9, ln, bn⟩
        have lfs : ((fs.map V.int).length : Int) = (fs.length : Int) := by rw [List.length_map]
        refine ⟨_, rfl, .inl ⟨rfl, _, SqL.of hF9⟩, _, rfl, _, rfl, _, rfl, D, _, rfl, .inl (SqL.of hD9), p, c, _, _, rfl, pen9, by omega, by rw [lfs]; omega, by rw [lfs]; omega, fun r5 H10 b5 d5 pen10 bt10 => ?_⟩
        rw [lfs] at d5
        obtain ⟨y, hy, my⟩ := at_ints b5 d5
        have hD10 := bt10 D _ hD9 nDp
        refine ⟨D, _, r5, _, rfl, rfl, SqL.of hD10, hy, _, rfl, p, c, _, 10000, rfl, pen10, by omega, by decide, by decide, fun r6 H11 b6 d6 pen11 bt11 => ?_⟩
        refine ⟨(by show 2 ≤ sizeLine; decide), fun L nL => ?_⟩
        have sL := @same_new _ _ (.lst (([y, r6] : List Int).map V.int)) nL
        refine ⟨_, rfl, rfl, .inr ⟨decide (V.int r1 = V.int 0), rfl, ?_⟩⟩
        have z01 : (0 : Int) ≤ (if decide (V.int r1 = V.int 0) = true then 1 else 0) ∧ (if decide (V.int r1 = V.int 0) = true then (1 : Int) else 0) < 2 := by
          cases decide (V.int r1 = V.int 0) <;> decide
        obtain ⟨x, hx, mx⟩ := at_ints (ns := [y, r6]) z01.1 z01.2
        have hF12 := sL _ _ (bt11 Fd _ (bt10 Fd _ hF9 nFp) nFp)
        have bt12 := (bt9.tr (bt10.tr bt11)).tr (.of sL)
        refine ⟨L, _, _, _, rfl, rfl, SqL.of upd_same, hx, Fd, _, _, rfl, rfl, hF12, (by rw [List.length_map]; exact small1000 (by omega)), _, rfl, (((pen11.mono (by omega)).same sL).upd nFp nFc), fun b o e nb => (upd_ne (ne_of_none e hFn)).trans (bt12 b o e nb), (upd_ne nDF).trans (sL _ _ (bt11 D _ hD10 nDp)), ns ++ [x], ?_, by simp [ln], ?_⟩
        · rw [upd_same, List.map_append]
          rfl
        · intro z hz
          rcases List.mem_append.mp hz with h | h
          · exact bn z h
          · rw [List.mem_singleton.mp h]
            have by_ := bd y my
            simp only [List.mem_cons, List.not_mem_nil, or_false] at mx
            rcases mx with rfl | rfl <;> constructor <;> omega
      · rintro σ H9 ⟨y4, rfl, pen9, bt9, hD9, ns, hF9, ln, bn⟩
        exact ⟨_, rfl, q Fd ns H9 hFn hF9 (by omega) bn (pen9.mono (by omega)) bt9⟩
end
/-! ### generator expressions whose element reads the module's names and the def's cells -/
section
variable {X : Cx} {pins : List (Addr × Obj)} {σ : L2.St} {H : Hp} {s : Shared}
/-- walking u makes one new object and reads fp alone; n items, the i-th one as Pf says -/
def GSrc (X : Cx) (T : Addr) (u : Value) (s1 : Shared) (n : Nat) (Pf : Nat → Value → Prop) : Prop :=
  ∀ (Q : Value → Shared → Prop) (E : Value → Shared → Prop),
    (∀ (o : Obj) (fp : List Addr) (St : Nat → Heap → Prop),
      (∀ A' : Around, A'.handled = none → Walks X.prog X.w A' s1.heap.objs.size fp [s1.heap.objs.size] n Pf St) →
      St 0 (s1.heap.push o) → (∀ b ∈ fp, b ≤ s1.heap.objs.size ∧ b ≠ T) →
      Q (.ref s1.heap.objs.size) { s1 with heap := s1.heap.push o }) →
    wpAny (model X.prog X.w) X.A (pyIter u) Q E s1
/-- the tests and the element at the item v: nothing that stood is changed -/
structure GElt (X : Cx) (T : Addr) (scope : Scope) (x : Str) (ifs : List Expr) (elt : Expr) (s1 : Shared) (Pf : Nat → Value → Prop) (pz : Nat → Bool) (F : Nat → Value → Prop) : Prop where
  run : ∀ (ce : Env) (A' : Around) (E' : Value → Shared → Prop) (i : Nat) (v : Value) (s2 : Shared) (m2 : Str → Option Value),
    ce.scope = scope → ce.globals = mainGlobals → ce.cells = cloFrom X.env.cells scope.names [] → A'.handled = none → Pf i v → s2.heap.Ns ce.locals m2 → m2 x = some v →
    (∀ b u, b ≠ T → s1.heap.get? b = some u → s2.heap.get? b = some u) →
    wpAny (model X.prog X.w) A' (forIn ifs true fun c r => if r = true then do let ok ← isTrue c ce (eval c ce); pure (ForInStep.yield ok) else pure (ForInStep.yield r)) (fun ok s3 => ok = pz i ∧ Keeps s2 s3) E' s2 ∧
    (pz i = true → wpAny (model X.prog X.w) A' (eval elt ce) (fun y s3 => F i y ∧ Keeps s2 s3) E' s2)
/-- the generator g is ready to be walked in s5 -/
def GReady (X : Cx) (pins : List (Addr × Obj)) (σ : L2.St) (H1 : Hp) (T : Addr) (n : Nat) (pz : Nat → Bool) (F : Nat → Value → Prop) (g : Addr) (s5 : Shared) : Prop :=
  ∃ (fp wr : List Addr) (G : Array GenState → Array GenState → Prop) (St : Nat → Shared → Prop),
    WalksS X.prog X.w X.A.in1 g fp wr G (passing pz n 0).length (fun j y => ∃ i, (passing pz n 0)[j]? = some i ∧ F i y) St ∧ St 0 s5 ∧
    ∀ s', Moved wr G s5 s' → ∃ H2, GxR.Tabbed T H1 H2 ∧ Inv X pins σ H2 s'
theorem gen_mk {c T : Addr} {elt iter : Expr} {x : Str} {px gpos : Pos} {ifs : List Expr} {scope : Scope} {te : TE} {k : Nat} {Q' : Value → Shared → Prop} {R : V → Hp → Prop}
    (hr : Room k X.A) (TB : GxR.TabB X.base X.mg c T) (hcode : X.env.code = .ref c) (S : GxR.GenS X.env scope x) (hi : PE X iter te)
    (hs : ∀ v, genFold iter X.env v = pure v) (I : Inv X pins σ H s) (h : te σ H fun v H1 => GxR.TabG H1 T ∧ R v H1)
    (hQ : ∀ v u H1 s1, Inv X pins σ H1 s1 → RelV v u → GxR.TabG H1 T → R v H1 → ∃ n Pf pz F, GSrc X T u s1 n Pf ∧ GElt X T scope x ifs elt s1 Pf pz F ∧
      ∀ g s5, GReady X pins σ H1 T n pz F g s5 → Q' (.ref g) s5) :
    wpAny (model X.prog X.w) X.A (eval (.GeneratorExp elt [⟨.Name x px, iter, ifs, 0⟩] scope gpos) X.env) Q' X.xe s := by
  refine wpAny_GeneratorExp_walksQ hr.hd S.co (closure_ok S.free) S.cell S.dot S.loc S.kind (Nat.lt_of_le_of_lt (by omega : X.A.depth ≤ X.A.depth + 3 * k + 5) hr.dp) ?_ hs
  refine thn (hi.run pins s σ H _ I h) fun u s1 ⟨v, H1, J, rv, ⟨ps, hT, hok⟩, hR⟩ => ?_
  obtain ⟨n, Pf, pz, F, src, el, fin⟩ := hQ v u H1 s1 J rv ⟨ps, hT, hok⟩ hR
  refine src _ _ fun o fp St W st0 hfp => ?_
  have gT : s1.heap.get? T = some (PySem.W.tabObj ps) := J.hok T _ hT
  have ltT := Heap.lt_size gT
  have sz : (s1.heap.push o).objs.size = s1.heap.objs.size + 1 := Heap.size_push ..
  have cd : PySem.W.CodeHd (s1.heap.push o) c T := TB.code.keeps fun b z e => Heap.get?_push_of_some _ (J.bk b z e)
  have pT : (s1.heap.push o).get? T = some (PySem.W.tabObj ps) := Heap.get?_push_of_some _ gT
  have lim : (s1.heap.push o).NoLimit := J.nolimit.push o
  obtain ⟨mc, nsC, _⟩ := id J.nolimit
  have ltC : cStatics < s1.heap.objs.size := nsC.lt
  have neC : cStatics ≠ T := fun e => by
    obtain ⟨oo, es, ep, go, dd, _⟩ := nsC
    rw [e, gT] at go
    cases go
    cases dd
  refine ⟨lim, ?_⟩
  -- behind the code object: the generator is made and handed on
  have on : ∀ (code : Value) (h3 : Heap) (tk : Nat) (ps' : Array Value), Heap.ExtBut T (s1.heap.push o) h3 → (s1.heap.push o).objs.size ≤ h3.objs.size →
      h3.get? T = some (PySem.W.tabObj ps') → (∃ more, ps' = ps ++ more) → TriplesOk ps'.toList →
      wpAny (model X.prog X.w) X.A (builtinsFor X.env.globals X.env.builtins) (fun bi s4 =>
        ∃ I' fp' wr n0 P' St' pz' F', Value.ref s1.heap.objs.size = .ref I' ∧ (∀ A' : Around, A'.handled = none → Walks X.prog X.w A' I' fp' wr n0 P' St') ∧ St' 0 s4.heap ∧ (∀ b ∈ fp', b < s4.heap.objs.size) ∧
          s4.heap.NoLimit ∧ cStatics ∉ wr ∧
          (∀ href : Heap, (∀ b z, s4.heap.get? b = some z → href.get? b = some z) →
            QuietGen X.prog X.w (genEnv scope (cloFrom X.env.cells scope.names []) s4.heap.objs.size code bi X.env) x ifs elt (List.range s4.heap.objs.size) wr P' pz' F' href) ∧
          (∀ a h5 tk5 gs, gs.bare = true → s4.heap.objs.size < a → h5.objs.size = a + 1 → (∀ b z, s4.heap.get? b = some z → h5.get? b = some z) →
            WalksS X.prog X.w X.A.in4 a (a :: s4.heap.objs.size :: List.range s4.heap.objs.size) (s4.heap.objs.size :: wr) (GenOnlyQ s4.gens.size) (passing pz' n0 0).length
              (fun j y => ∃ i, (passing pz' n0 0)[j]? = some i ∧ F' i y) (GenAt X.prog X.w X.A.in4 a s4.gens.size s4.heap.objs.size (List.range s4.heap.objs.size) wr pz' n0 F') →
            GenAt X.prog X.w X.A.in4 a s4.gens.size s4.heap.objs.size (List.range s4.heap.objs.size) wr pz' n0 F' 0 { s4 with gens := s4.gens.push gs, toks := tk5, heap := h5 } →
            Q' (.ref a) { s4 with gens := s4.gens.push gs, toks := tk5, heap := h5 })) X.xe { s1 with heap := h3, toks := tk } := by
    intro code h3 tk ps' ext ge3 gT3 mo ok3
    have stay : ∀ b z, b ≠ T → s1.heap.get? b = some z → h3.get? b = some z := fun b z nb e => ext b z nb (Heap.get?_push_of_some _ e)
    have glo : ∀ h4 : Heap, (∀ b z, b ≠ T → s1.heap.get? b = some z → h4.get? b = some z) → h4.Ns mainGlobals X.mg := fun h4 st => by
      obtain ⟨oo, es, ep, go, r⟩ := J.mod.glob
      exact ⟨oo, es, ep, st _ _ TB.gP (J.bk _ _ go), r⟩
    obtain ⟨bm, ob, e1, e2, _, e4, e5, e6, e7, e8⟩ := TB.bm
    refine wpAny_builtinsFor (m := X.mg) (by rw [J.ok.glob]; exact glo h3 stay) e1 e2 (stay _ _ e4 (J.bk _ _ e5)) e6 e7 e8 ?_
    refine ⟨s1.heap.objs.size, fp, [s1.heap.objs.size], n, Pf, St, pz, F, rfl, W, ?_, fun b hb => ?_, lim.extBut ext neC, fun z => ?_, fun href keepR => ⟨?_, ?_⟩, ?_⟩
    · exact (W X.A hr.hd).frame _ _ _ st0 fun b hb z e => ext b z (hfp b hb).2 e
    · have l1 := (hfp b hb).1
      have l2 := ge3
      rw [sz] at l2
      exact Nat.lt_of_lt_of_le (Nat.lt_succ_of_le l1) l2
    · rw [List.mem_singleton] at z
      exact absurd z (Nat.ne_of_lt ltC)
    · intro A' E' i v2 s2 m2 hA hP hn hm hk
      refine (el.run (genEnv scope (cloFrom X.env.cells scope.names []) h3.objs.size code builtinsNs X.env) A' E' i v2 s2 m2 rfl J.ok.glob rfl hA hP hn hm fun b z nb e => ?_).1
      have hb := Heap.lt_size e
      refine hk b (List.mem_range.mpr ?_) (fun q => ?_) z (keepR b z (stay b z nb e))
      · have := ge3
        rw [sz] at this
        exact Nat.lt_of_lt_of_le (Nat.lt_succ_of_lt hb) this
      · rw [List.mem_singleton] at q
        exact absurd q (Nat.ne_of_lt hb)
    · intro A' E' i v2 s2 m2 hA hP hz hn hm hk
      refine (el.run (genEnv scope (cloFrom X.env.cells scope.names []) h3.objs.size code builtinsNs X.env) A' E' i v2 s2 m2 rfl J.ok.glob rfl hA hP hn hm fun b z nb e => ?_).2 hz
      have hb := Heap.lt_size e
      refine hk b (List.mem_range.mpr ?_) (fun q => ?_) z (keepR b z (stay b z nb e))
      · have := ge3
        rw [sz] at this
        exact Nat.lt_of_lt_of_le (Nat.lt_succ_of_lt hb) this
      · rw [List.mem_singleton] at q
        exact absurd q (Nat.ne_of_lt hb)
    · intro g h5 tk5 gs bare ltg sz5 keep5 W5 at5
      refine fin g _ ⟨_, _, _, _, W5.in4_1, at5, fun s' mv => ?_⟩
      obtain ⟨more, em⟩ := mo
      have out : ∀ b z, s1.heap.get? b = some z → b ∉ h3.objs.size :: [s1.heap.objs.size] := fun b z e hb => by
        have l1 := Heap.lt_size e
        have l3 := ge3
        rw [sz] at l3
        rcases List.mem_cons.mp hb with q | q
        · rw [q] at l1
          exact Nat.lt_irrefl _ (Nat.lt_trans l1 l3)
        · rw [List.mem_singleton] at q
          rw [q] at l1
          exact Nat.lt_irrefl _ l1
      have K5 := GxR.inv_tab (more := more) (h' := s'.heap) (g' := s'.gens) (d' := s'.drawn) (t' := s'.toks) J hT
        (fun b z nb e => mv.heap b z (out b z e) (keep5 b z (stay b z nb e))) (by rw [← em]; exact mv.heap T _ (out T _ gT) (keep5 T _ gT3)) (AllBare.movedS (J.bare.push bare) mv)
      rw [GxR.sh_eta s1 s' mv.os] at K5
      exact ⟨upd H1 T (.tbl (ps ++ more)), ⟨⟨_, upd_same, by rw [← em]; exact ok3⟩, fun b nb => upd_ne nb⟩, K5⟩
  cases among : codeAmong gpos ps.toList with
  | some cv =>
    refine wpAny_genexprCode_hit hcode (cd.code pT hok) among ?_
    exact on cv _ s1.toks ps (Heap.ExtBut.refl _ _) (Nat.le_refl _) pT ⟨#[], (Array.append_empty).symm⟩ hok
  | none =>
    refine wpAny_genexprCodeX hcode (cd.code pT hok) (cd.tab pT) among fun c' h' tk hx hge hlt isC _ tab' _ => ?_
    obtain ⟨_, _, _, _, _, _, _, _, _, _, _, _, _, _, _, _, _, _, _, ok', _⟩ := isC
    exact on _ h' tk _ hx (Nat.le_trans hge (Nat.le_of_lt hlt)) tab'.2 ⟨_, rfl⟩ ok'
/-- a text's signs as what is walked -/
theorem gsrc_str {T : Addr} {a : Str} {t : Tok} {s1 : Shared} (hT : T < s1.heap.objs.size) : GSrc X T (.str a t) s1 a.cps.size (SignAt a) := fun Q E h =>
  wpAny_pyIter_str fun o St W st0 => h o _ St W st0 fun b hb => by
    rw [List.mem_singleton] at hb
    subst hb
    exact ⟨Nat.le_refl _, Nat.ne_of_gt hT⟩
theorem pass_all (n : Nat) : passing (fun _ => true) n 0 = List.range n := by
  simp [passing]
/-- all(test for x in e), e a text -/
def tAllT (T : Addr) (pb : Nat → Bool) (te : TE) : TE := fun σ H Q => te σ H fun v H1 => GxR.TabG H1 T ∧ ∃ a : Str, v = .str a ∧ ∀ H2, GxR.Tabbed T H1 H2 → Q (.bl (a.cps.toList.all pb)) H2
theorem pe_allT {c T : Addr} {elt iter : Expr} {x : Str} {px p pos gpos : Pos} {scope : Scope} {pb : Nat → Bool} {te : TE} {k : Nat}
    (hr : Room k X.A) (hg : Gl X "all") (hm : X.mg "all" = none) (TB : GxR.TabB X.base X.mg c T) (hcode : X.env.code = .ref c) (S : GxR.GenS X.env scope x) (hi : PE X iter te)
    (hel : ∀ pins s1 σ H1 a, Inv X pins σ H1 s1 → GElt X T scope x [] elt s1 (SignAt a) (fun _ => true) (fun i y => ∃ cc, a.cps[i]? = some cc ∧ y = .bool (pb cc)))
    (hs : ∀ v, genFold iter X.env v = pure v)
    (he : starEach [.GeneratorExp elt [⟨.Name x px, iter, [], 0⟩] scope gpos] X.env = (false, eval (.GeneratorExp elt [⟨.Name x px, iter, [], 0⟩] scope gpos) X.env) :: starEach [] X.env := by rfl) :
    PE X (.Call (.Name "all" p) [.GeneratorExp elt [⟨.Name x px, iter, [], 0⟩] scope gpos] [] pos) (tAllT T pb te) := by
  refine ⟨fun pins s σ H Q I h => wpAny_Call_Name_kw (ld_blt I hg hm (show bootBuiltins "all" = some (.builtin "all") by decide +kernel) ?_)⟩
  refine PyProof.Rows.callWith_builtin1 ?_ he (by rfl)
  rw [he]
  refine Calls.spliced_cons (gen_mk hr TB hcode S hi hs I h fun v u H1 s1 J rv tg hR => ?_)
  obtain ⟨a, rfl, hR⟩ := hR
  obtain ⟨t, rfl⟩ := id rv
  refine ⟨_, _, fun _ => true, _, gsrc_str ?_, hel pins s1 σ H1 a J, fun g s5 rdy => ?_⟩
  · obtain ⟨ps, e, _⟩ := tg
    exact J.hok.lt e
  obtain ⟨fp, wr, G, St, W, st0, back⟩ := rdy
  rw [pass_all] at W
  refine Calls.spliced_nil (call_all_walkS (W.self 0 _ _ _ st0 ⟨g, fp, wr, G, _, _, St, GxR.trF pb a.cps.toList, rfl, W, st0, ?_, fun s' mv => ?_⟩))
  · intro j y sj Qj Ej hy hq
    obtain ⟨i, ij, cc, hc, rfl⟩ := hy
    obtain ⟨hj, ej⟩ := List.getElem?_eq_some_iff.mp ij
    rw [List.getElem_range] at ej
    subst ej
    refine wpAny_truthy_bool ?_
    rw [← GxR.trF_some (pb := pb) (show a.cps.toList[j]? = some cc by rw [Array.getElem?_toList]; exact hc)]
    exact hq
  · obtain ⟨H2, tab, K2⟩ := back s' mv
    refine ⟨.bl _, H2, K2, rfl, ?_⟩
    rw [List.length_range, GxR.all_signs a pb]
    exact hR H2 tab
end
/-! ### is_name -/
def signB (c : Nat) : Bool := decide (c ∈ abc.cps.toList)
def nameB (z : Str) : Bool := decide (1 ≤ z.length) && decide (z.length ≤ 8) && z.cps.toList.all signB
theorem nameB_in {z : Str} (h1 : (1 : Int) ≤ (z.length : Int)) (h2 : (z.length : Int) ≤ 8) : nameB z = z.cps.toList.all signB := by
  unfold nameB
  rw [decide_eq_true (show 1 ≤ z.length by omega), decide_eq_true (show z.length ≤ 8 by omega)]
  rfl
theorem nameB_long {z : Str} (h : ¬ (z.length : Int) ≤ 8) : nameB z = false := by
  unfold nameB
  rw [decide_eq_false (show ¬ z.length ≤ 8 by omega), Bool.and_false]
  rfl
theorem nameB_short {z : Str} (h : ¬ (1 : Int) ≤ (z.length : Int)) : nameB z = false := by
  unfold nameB
  rw [decide_eq_false (show ¬ 1 ≤ z.length by omega)]
  rfl
/-- what is_name is told: a text, or what is of another built-in kind -/
def spName (K : PySem.W.Frag) (T : Addr) : Sp := fun vs H Q _ => ∃ v : V, vs = [v] ∧ GxR.TabG H T ∧
  ((∃ z : Str, v = .str z ∧ z.length ≤ sizeLine ∧ ∀ H2, GxR.Tabbed T H H2 → Q (.bl (nameB z)) H2) ∨
   ∃ t : String, TyX K H v (.type t) ∧ kitB t "str" = some false ∧ Q (.bl false) H)
section
variable {P : Program} {w : World} {K : PySem.W.Frag} {mg : Str → Option Value} {base : Heap}
theorem scName : FnScope ["thing"] ["thing"] (defScope sName) := ⟨rfl, rfl, rfl, by decide +kernel, rfl, by decide +kernel, by decide +kernel⟩
theorem ok_name {f c T : Addr} {oc kV doc pm ct : Value} {od an : Option Addr} {osl : Array (Option Value)}
    (lk : K.lookup f = some ⟨oc, od, .func (PySem.W.fnOf "is_name" "is_name" (defArgs sName) (defBody sName) (defScope sName) .none kV doc pm an (.ref c) ct), osl⟩) (cdI : PySem.W.codeIn K (.ref c) "is_name" = true)
    (TB : GxR.TabB base mg c T) (mi : mg "isinstance" = none) (mst : mg "str" = none) (ml : mg "len" = none) (ma : mg "all" = none) (mL : ∃ t, mg "LETTERS" = some (.str abc t)) (mN : ∃ t, mg "LONGEST_NAME" = some (.int 8 t)) :
    FnOk P w K mg base CX0 1 f (PySem.W.fnOf "is_name" "is_name" (defArgs sName) (defBody sName) (defScope sName) .none kV doc pm an (.ref c) ct) ["thing"] (spName K T) := by
  refine fn_of lk cdI scName (fun vs H Q E h => ?_) (fun A outer s H vs Q E hr h => ?_)
  · obtain ⟨v, rfl, _⟩ := h
    rfl
  · obtain ⟨v, rfl, tg, h⟩ := h
    obtain ⟨tL, mL⟩ := mL
    obtain ⟨tN, mN⟩ := mN
    refine ⟨_, pss_cons (ps_if (pt_not (pt_val (pe_callB call_isi (by rfl) mi (by decide +kernel) (pa_cons (pv 0) (pa_cons (pe_bltn (v := .ty "str") (u := .type "str") (by rfl) mst (by decide +kernel) rfl) pa_nil)))))
        (pss_one (ps_ret pe_bl)) pss_nil)
      (pss_one (ps_ret (pe_and (pe_chain op_le op_le pe_int (pe_callB call_len_str (by rfl) ml PySem.boot_len (pa_cons (pv 0) pa_nil)) (pe_glob (v := .int 8) rfl mN ⟨_, rfl⟩))
        (pe_one (pe_allT (T := T) (c := c) (pb := signB) hr (by rfl) ma TB rfl ⟨rfl, rfl, by decide +kernel, rfl, rfl, by intro y hy e; simp only [List.mem_cons, List.not_mem_nil, or_false] at hy; rcases hy with rfl | rfl | rfl <;> cases e⟩ (pv 0) ?_ (fun _ => rfl)))))), ?_⟩
    · intro pins s1 σ H1 a J
      refine ⟨fun ce A' E' i v s2 m2 e1 e2 e3 hA hP hn hm hk => ⟨?_, fun _ => ?_⟩⟩
      · simp only [List.forIn_nil]
        exact wpAny_pure ⟨rfl, GxR.keeps_refl _⟩
      · obtain ⟨cc, u, hc, rfl⟩ := hP
        refine wpAny_Compare1 ?_
        refine wpAny_Name (wpAny_loadName_local (by rw [e1]) (show ce.scope.names.lookup _ = some .local by rw [e1]; rfl) hn hm ?_) (by decide)
        refine Calls.Name_function_global (by rw [e1]) (show ce.scope.names.lookup _ = some .globalImplicit by rw [e1]; rfl) ?_
        have G : s2.heap.Ns mainGlobals mg := by
          obtain ⟨oo, es, ep, go, r⟩ := J.mod.glob
          exact ⟨oo, es, ep, hk _ _ TB.gP (J.bk _ _ go), r⟩
        refine Calls.loadGlobal_global (by rw [e2]; exact G) mL ?_
        exact PyProof.Rows.in_str ⟨⟨cc, hc, congrArg Value.bool (PySem.StrLaws.found_one abc cc)⟩, GxR.keeps_refl _⟩
    · refine ⟨v, rfl, ?_⟩
      rcases h with ⟨z, rfl, hz, q⟩ | ⟨t, ty, kt, q⟩
      · refine ⟨_, _, _, _, true, rfl, .ty "str", .base (.str z), kit_ty (by decide +kernel), _, rfl, iteF ?_⟩
        refine ⟨_, rfl, z, rfl, hz, 1, _, rfl, rfl, _, rfl, ite2 (fun e1 => ?_) (fun e1 => ?_)⟩
        · refine ⟨_, 8, rfl, rfl, _, rfl, ite2 (fun e2 => ?_) (fun e2 => ?_)⟩
          · refine ⟨_, rfl, tg, z, rfl, fun H2 tb => ?_⟩
            have e3 := q H2 tb
            rw [nameB_in (of_decide_eq_true e1) (of_decide_eq_true e2)] at e3
            exact e3
          · have e3 := q H ⟨tg, fun _ _ => rfl⟩
            rw [nameB_long fun h => e2 (decide_eq_true h)] at e3
            exact e3
        · have e3 := q H ⟨tg, fun _ _ => rfl⟩
          rw [nameB_short fun h => e1 (decide_eq_true h)] at e3
          exact ⟨_, rfl, iteF e3⟩
      · exact ⟨_, _, _, _, false, rfl, .ty "str", ty, kit_ty kt, _, rfl, iteT q⟩
end
/-! ### the drawn names are names, unlike ones -/
theorem bij_pow (t : Nat) : ∀ (j r : Nat), r + 1 ≤ 2 ^ j → (bij t r).length ≤ j
  | 0, r, h => by
    have : r = 0 := by simp at h; exact h
    subst this
    rw [bij]
    exact Nat.le_refl _
  | j + 1, 0, _ => by
    rw [bij]
    exact Nat.zero_le _
  | j + 1, r + 1, h => by
    rw [bij, List.length_append]
    have h2 : 2 ^ (j + 1) = 2 * 2 ^ j := by rw [Nat.pow_succ]; omega
    have := bij_pow t j (r / 2) (by rw [h2] at h; omega)
    show _ + 1 ≤ _
    omega
theorem bij_in (t : Nat) : ∀ (r : Nat), ∀ c ∈ bij t r, c ∈ abc.cps.toList
  | 0, c, h => by
    rw [bij] at h
    cases h
  | r + 1, c, h => by
    rw [bij] at h
    rcases List.mem_append.mp h with h | h
    · exact bij_in t (r / 2) c h
    · rw [List.mem_singleton.mp h]
      exact Lc_in (Nat.mod_lt _ (by decide))
theorem nm_in {way t : Nat} {B : List Nat} {sp : Nat} (ok : NmOk way t B sp) (k : Nat) : ∀ c ∈ nm way t B sp k, c ∈ abc.cps.toList := by
  intro c h
  unfold nm at h
  split at h
  · exact bij_in _ _ c h
  · rcases List.mem_append.mp h with h | h
    · rcases List.mem_append.mp h with h | h
      · exact ok.bl c (List.mem_of_mem_take h)
      · simp only [nmPair, List.mem_cons, List.not_mem_nil, or_false] at h
        rcases h with rfl | rfl <;> exact Lc_in (Nat.mod_lt _ (by decide))
    · exact ok.bl c (List.mem_of_mem_drop h)
theorem nm_len {way t : Nat} {B : List Nat} {sp : Nat} (ok : NmOk way t B sp) {k : Nat} (hk : k ≤ 30) : 1 ≤ (nm way t B sp k).length ∧ (nm way t B sp k).length ≤ 8 := by
  unfold nm
  split
  · have h := bij_pow t 5 (k + 1) (by show k + 1 + 1 ≤ 32; omega)
    refine ⟨?_, by omega⟩
    rw [bij, List.length_append]
    show 1 ≤ _ + 1
    omega
  · have := ok.b6
    have := ok.s
    rw [List.length_append, List.length_append, List.length_take, List.length_drop]
    show 1 ≤ _ + 2 + _ ∧ _ + 2 + _ ≤ 8
    constructor <;> omega
theorem nm_name {way t : Nat} {B : List Nat} {sp : Nat} (ok : NmOk way t B sp) {k : Nat} (hk : k ≤ 30) : nameB (nmStr way t B sp k) = true := by
  have h := nm_len ok hk
  have e : (nmStr way t B sp k).length = (nm way t B sp k).length := sc_len _
  unfold nameB
  rw [e, decide_eq_true h.1, decide_eq_true h.2]
  show (nmStr way t B sp k).cps.toList.all signB = true
  rw [List.all_eq_true]
  intro c hc
  exact decide_eq_true (nm_in ok k c (by simpa [nmStr] using hc))
theorem Lc_inj : ∀ i < 26, ∀ j < 26, Lc i = Lc j → i = j := by decide +kernel
theorem bij_inj {t : Nat} : ∀ (r q : Nat), bij t r = bij t q → r = q := by
  intro r
  induction r using Nat.strongRecOn with
  | ind r ih =>
    intro q h
    cases r with
    | zero =>
      cases q with
      | zero => rfl
      | succ q =>
        have := congrArg List.length h
        rw [bij, bij, List.length_append] at this
        simp at this
    | succ r =>
      cases q with
      | zero =>
        have := congrArg List.length h
        rw [bij, bij, List.length_append] at this
        simp at this
      | succ q =>
        rw [bij, bij] at h
        have h1 := List.append_inj_left' h rfl
        have h2 := List.append_inj_right' h rfl
        have e := ih (r / 2) (by omega) (q / 2) h1
        have e2 : Lc ((t + 9 * ((r + 1) % 2)) % 26) = Lc ((t + 9 * ((q + 1) % 2)) % 26) := List.head_eq_of_cons_eq h2
        have e3 := Lc_inj _ (Nat.mod_lt _ (by decide)) _ (Nat.mod_lt _ (by decide)) e2
        omega
theorem nm_inj {way t : Nat} {B : List Nat} {sp : Nat} {k j : Nat} (hk : k ≤ 30) (hj : j ≤ 30) (h : nm way t B sp k = nm way t B sp j) : k = j := by
  unfold nm at h
  split at h
  · have := bij_inj _ _ h
    omega
  · have h1 := List.append_inj_left' h rfl
    have h2 := List.append_inj_right h1 rfl
    unfold nmPair at h2
    have a := List.head_eq_of_cons_eq h2
    have b := List.head_eq_of_cons_eq (List.tail_eq_of_cons_eq h2)
    have a' := Lc_inj _ (Nat.mod_lt _ (by decide)) _ (Nat.mod_lt _ (by decide)) a
    have b' := Lc_inj _ (Nat.mod_lt _ (by decide)) _ (Nat.mod_lt _ (by decide)) b
    clear h h1 h2 a b
    have u1 : k / 26 ≤ 1 := by omega
    have u2 : j / 26 ≤ 1 := by omega
    have e1 : k / 26 = j / 26 := by
      generalize k / 26 = u at b' u1
      generalize j / 26 = v at b' u2
      omega
    clear b' u1 u2
    have e2 : (7 * k) % 26 = (7 * j) % 26 := by omega
    have e3 : k % 26 = j % 26 := by
      clear a'
      omega
    omega
theorem NmL.names {ys : List Str} {m : Nat} (h : NmL ys m) (hm : m ≤ 31) : ∀ y ∈ ys, nameB y = true := by
  obtain ⟨way, t, B, sp, ok, rfl⟩ := h
  intro y hy
  obtain ⟨k, hk, rfl⟩ := List.mem_map.mp hy
  exact nm_name ok (by have := List.mem_range.mp hk; omega)
theorem NmL.nodup {ys : List Str} {m : Nat} (h : NmL ys m) (hm : m ≤ 31) : ys.Nodup := by
  obtain ⟨way, t, B, sp, ok, rfl⟩ := h
  rw [List.Nodup, List.pairwise_map]
  refine List.Pairwise.imp_of_mem ?_ (List.nodup_range (n := m))
  intro a b ha hb ne e
  have ha' := List.mem_range.mp ha
  have hb' := List.mem_range.mp hb
  have e2 : nm way t B sp a = nm way t B sp b := by
    have := congrArg (fun z : Str => z.cps.toList) e
    simpa [nmStr] using this
  exact ne (nm_inj (by omega) (by omega) e2)
/-! ### defs that are called while nothing is being shown: the guards are known -/
structure FnG (P : Program) (w : World) (K : PySem.W.Frag) (mg : Str → Option Value) (base : Heap) (k : Nat) (f : Addr) (fd : FuncData) (ps : List Str) (sp : Sp) : Prop where
  many : ∀ vs H Q E, sp vs H Q E → vs.length = ps.length
  goes : ∀ (B : Around) (st : List Env) (s : Shared) (H : Hp) (as : Args) (us : List Value) (vs : List V) (Q : VK) (E : XK), B.guards = some [] → Room k B → Env0 P w K mg base B st s H →
    BindsTo s fd as (ps.zip us) → Vals vs us → sp vs H Q E → codeAny (model P w) B (.call (.ref f) as) (CR CX0 st P w H s Q E) s
section
variable {P : Program} {w : World} {K : PySem.W.Frag} {mg : Str → Option Value} {base : Heap}
theorem FnG.of {k : Nat} {f : Addr} {fd : FuncData} {ps : List Str} {sp : Sp} (F : FnOk P w K mg base CX0 k f fd ps sp) : FnG P w K mg base k f fd ps sp :=
  ⟨F.len, fun B st s H as us vs Q E _ => F.run B st s H as us vs Q E⟩
theorem Fun.okG {x qual : Str} {st : Stmt} {f : Addr} {fd : FuncData} {N ps : List Str} {k : Nat} {sp : Sp} (F : Fun K x qual st f fd) (S : FnScope N ps (defScope st)) (many : ∀ vs H Q E, sp vs H Q E → vs.length = ps.length)
    (body : ∀ (cdv : Value) (B : Around) (fs : List Env) (s : Shared) (H : Hp) (vs : List V) (Q : VK) (E : XK), B.guards = some [] → Room k (B.deeper (envOfC qual (defScope st) s.heap.objs.size f cdv)) → sp vs H Q E →
      ∃ t, PSs (cxOf CX0 P w K mg base N qual (defScope st) f cdv B fs s H E).nox (defBody st) t ∧ t { nx := fun _ H' => Q .non H', rt := Q } (start N vs) H) : FnG P w K mg base (k + 1) f fd ps sp := by
  obtain ⟨oc, od, kV, doc, pm, an, cdv, ct, osl, rfl, lk, hcd⟩ := F.ex
  refine ⟨many, fun B fs s H as us vs Q E hg hr e0 hb r hsp => ?_⟩
  have old : ∀ b o, base.get? b = some o → s.heap.get? b = some o := fun b o e => (e0.bs b o e).1
  have KX := e0.mod.kin.keeps old
  obtain ⟨t, pt, ht⟩ := body cdv B fs s H vs Q E hg (hr.deeper _) hsp
  refine codeAny_call_function hr.depth (KX _ _ lk) rfl S.co S.gen rfl (PySem.W.codeRec_of KX hcd) (hb _ _ _ _ ?_)
  refine wpAny_newFunctionEnv_cells S.kind ?_ ?_
  · rintro ⟨n, v⟩ hy
    have hn := (List.of_mem_zip hy).1
    exact (S.par n hn).imp id fun q => ⟨q, PySem.W.cellsFrom_some _ _ _ (.inl q)⟩
  · rintro env rfl s1 x
    have I := inv_start (CX := CX0) (E := E) S hr.hd e0 (many _ _ _ _ hsp) r x
    refine ⟨(e0.mod.nolimit.keeps old).keeps x.toInCall.keep, codeAny_func (wpAny_mono (pt.nox.run [] s1 _ H _ I ht) ?_ fun e s' hs => hs)⟩
    rintro fl s' hs
    cases fl with
    | ret u =>
      obtain ⟨v, σ', H', J, rv, q⟩ := hs
      exact ⟨v, H', J.os, J.bare, J.base, J.hok, rv, q⟩
    | next =>
      obtain ⟨σ', H', J, q⟩ := hs
      exact ⟨.non, H', J.os, J.bare, J.base, J.hok, rfl, q⟩
    | brk =>
      obtain ⟨_, _, _, q⟩ := hs
      exact False.elim q
    | cont =>
      obtain ⟨_, _, _, q⟩ := hs
      exact False.elim q
end
/-- f(e, ..): a def of this kind -/
theorem pe_callG {X : Cx} {k : Nat} {f : Addr} {fd : FuncData} {ps : List Str} {sp : Sp} {x : Str} {p pos : Pos} {e : Expr} {es : List Expr} {t : TA} (F : FnG X.prog X.w X.K X.mg X.base k f fd ps sp) (hG : X.A.guards = some []) (hr : Room k X.A) (hg : Gl X x) (hm : X.mg x = some (.ref f))
    (hk : PySem.W.keepIn X.K (.ref f) = true) (hb : Binds X.K fd ps []) (ha : PA X (e :: es) t) (hdb : (x == ("__debug__" : Str)) = false := by decide) (he : starEach (e :: es) X.env = (false, eval e X.env) :: starEach es X.env := by rfl)
    (hpl : (backTo pos (starEach es X.env)).any (·.1) = false := by rfl) : PE X (.Call (.Name x p) (e :: es) [] pos) (tCall sp [] E0 t) := by
  refine ⟨fun pins s σ H Q I h => wpAny_Call_Name_kw (ld_glob I hg hm ?_ hdb)⟩
  refine PySem.W.callWith_K (h₀ := X.base) I.ok.mod.kin hk (thn (ha.run pos pins s σ H _ I h) ?_) he hpl
  rintro us s1 ⟨vs, H1, I1, r, q⟩
  rw [List.append_nil] at q
  have hl : us.length = ps.length := r.length.symm.trans (F.many _ _ _ _ q)
  have bd := hb s1 us I1.kIn (by rw [List.append_nil]; exact hl)
  rw [List.append_nil] at bd
  refine ⟨I1.kIn, wpAny_call (codeAny_mono (F.goes X.A X.stack s1 H1 ⟨us, []⟩ us vs Q E0 hG hr I1.env0 bd r q) ?_)⟩
  rintro r2 s2 hq
  cases r2 with
  | error e => exact False.elim hq
  | ok fl =>
    cases fl with
    | ret u => exact I1.after hq
    | next => exact False.elim hq
    | brk => exact False.elim hq
    | cont => exact False.elim hq
/-! ### the top's call of the law, for a law that shows things -/
def topH (K : PySem.W.Frag) (a : Addr) (o : Obj) (xs : List V) (cs : List (Addr × Addr)) : Hp := fun b =>
  if b ∈ cs.map (·.2) then some (.tbl #[]) else if b = a ∧ K.lookup a = none then some (.frz o (.lst xs)) else none
section
variable {P : Program} {w : World} {K : PySem.W.Frag} {mg mb : Str → Option Value} {a : Addr} {o : Obj} {cs : List (Addr × Addr)} {s₁ : Shared} {vs : List Value} {ns : List Int}
theorem topH_tab {xs : List V} {p : Addr × Addr} (hp : p ∈ cs) : topH K a o xs cs p.2 = some (.tbl #[]) := if_pos (List.mem_map.mpr ⟨p, hp, rfl⟩)
theorem topH_cases {xs : List V} {b : Addr} {u : HO} (h : topH K a o xs cs b = some u) : (b ∈ cs.map (·.2) ∧ u = .tbl #[]) ∨ (b = a ∧ K.lookup a = none ∧ u = .frz o (.lst xs)) := by
  unfold topH at h
  split at h
  · rename_i hb
    exact .inl ⟨hb, (Option.some.inj h).symm⟩
  · split at h
    · rename_i hb
      exact .inr ⟨hb.1, hb.2, (Option.some.inj h).symm⟩
    · cases h
theorem top_call {fa : Addr} {k : Nat} {fd : FuncData} {x : Str} {sp : Sp}
    (KX : K.In s₁.heap) (hns : s₁.heap.Ns mainGlobals mg) (hb : s₁.heap.Ns builtinsNs mb) (hbb : ∀ x : Str, x ≠ "__name__" → mb x = bootBuiltins x) (hlim : s₁.heap.NoLimit) (hg : s₁.gens = #[])
    (hT : ∀ p ∈ cs, s₁.heap.get? p.2 = some { cls := .none, data := .fields #[] }) (nT : ∀ p ∈ cs, K.lookup p.2 = none) (C : ∀ p ∈ cs, PySem.W.CodeHd s₁.heap p.1 p.2)
    (hbm : ∃ (bm : Addr) (ob : Obj), mg "__builtins__" = some (.ref bm) ∧ bm ≠ builtinsNs ∧ s₁.heap.get? bm = some ob ∧ ob.cls = .type "module" ∧ ob.dict = some builtinsNs ∧ ob.data = .plain)
    (ha : s₁.heap.get? a = some { cls := .type "list", data := .seq vs.toArray }) (hi : IntsAre vs ns) (hl : ns.length ≤ sizeLine) (hr : Room k callerA)
    (F : ∀ base : Heap, K.In base → base.Ns mainGlobals mg → (∀ p ∈ cs, LamX.TabB base mg p.1 p.2) → FnG P w K mg base k fa fd [x] sp) (hbind : ∀ (s : Shared) (u : Value), BindsTo s fd ⟨[u], []⟩ [(x, u)])
    (hsp : ∀ H : Hp, (∀ p ∈ cs, H p.2 = some (.tbl #[])) → SqL K H a (ns.map V.int) → sp [.ref a] H (fun v _ => v = .bl true) fun _ _ _ => False) :
    codeAny (model P w) callerA (.call (.ref fa) ⟨[.ref a], []⟩) (fun r s' => r = .ok (.ret (.bool true)) ∧ OldK s₁.heap s'.heap ∧ s'.os = s₁.os ∧ AllBare s'.gens) s₁ := by
  have tabAt : ∀ b : Addr, b ∈ cs.map (·.2) → s₁.heap.get? b = some { cls := .none, data := .fields #[] } := fun b hb => by
    obtain ⟨p, hp, rfl⟩ := List.mem_map.mp hb
    exact hT p hp
  have naT : a ∉ cs.map (·.2) := fun z => by
    have q := (tabAt a z).symm.trans ha
    cases q
  have rv := vals_ints hi
  let H : Hp := topH K a { cls := .type "list", data := .seq vs.toArray } (ns.map V.int) cs
  have hH : ∀ p ∈ cs, H p.2 = some (.tbl #[]) := fun p hp => topH_tab hp
  -- what is tracked is a list or a table
  have free : ∀ {b : Addr} {ob : Obj}, s₁.heap.get? b = some ob → (∀ us n, ob.data ≠ .seq us n) → ob.data ≠ .fields #[] → H b = none := fun {b ob} e h1 h2 => by
    cases q : H b with
    | none => rfl
    | some u =>
      rcases topH_cases q with ⟨hb, _⟩ | ⟨rfl, _, _⟩
      · rw [tabAt b hb] at e
        cases e
        exact absurd rfl h2
      · rw [ha] at e
        cases e
        exact absurd rfl (h1 _ _)
  have dic : ∀ {b : Addr} {m : Str → Option Value}, s₁.heap.Ns b m → (hidT s₁.heap H).Ns b m := fun {b m} ⟨ob, es, ep, e, d, r⟩ =>
    ⟨ob, es, ep, hidT_get e (free e (fun us n z => by rw [d] at z; cases z) fun z => by rw [d] at z; cases z), d, r⟩
  have hK : K.In (hidT s₁.heap H) := fun b ob e => hidT_get (KX b ob e) (by
    cases q : H b with
    | none => rfl
    | some u =>
      rcases topH_cases q with ⟨hb, _⟩ | ⟨rfl, n, _⟩
      · obtain ⟨p, hp, rfl⟩ := List.mem_map.mp hb
        rw [nT p hp] at e
        cases e
      · rw [n] at e
        cases e)
  have hok : HOk P w H s₁.heap := fun b u q => by
    rcases topH_cases q with ⟨hb, rfl⟩ | ⟨rfl, _, rfl⟩
    · exact tabAt b hb
    · exact ⟨ha, by rw [List.length_map]; exact hl, vs, _, rv, ha⟩
  have hS : SqL K H a (ns.map V.int) := by
    cases hk : K.lookup a with
    | some ob =>
      have e := (KX a ob hk).symm.trans ha
      cases e
      exact .inr ⟨_, vs.toArray, _, hk, rfl, rfl, rfl, by rw [List.size_toArray, hi.length]; exact hl, by simpa using rv⟩
    | none => exact .inl (.inr ⟨{ cls := .type "list", data := .seq vs.toArray }, (if_neg naT).trans (if_pos ⟨rfl, hk⟩)⟩)
  have hM : L2.Mod K mg (hidT s₁.heap H) := ⟨hK, dic hns, ⟨mb, dic hb, hbb⟩, let ⟨mc, h1, h2⟩ := hlim; ⟨mc, dic h1, h2⟩⟩
  have TB : ∀ p ∈ cs, LamX.TabB (hidT s₁.heap H) mg p.1 p.2 := fun p hp => by
    have hTp := hT p hp
    obtain ⟨og, eg, pg, g1, g2, _⟩ := hns
    refine ⟨?_, ?_, fun z => ?_⟩
    · obtain ⟨ob, us, file, tf, flags, tg, inF, text, tt, e1, r1, r2, r3, r4⟩ := C p hp
      refine ⟨ob, us, file, tf, flags, tg, inF, text, tt, hidT_get e1 (free e1 (fun us n z => ?_) fun z => ?_), r1, r2, r3, r4⟩
      · rw [r2] at z
        cases z
      · rw [r2] at z
        cases z
        simp at r3
    · obtain ⟨bm, ob, b1, b2, b3, b4, b5, b6⟩ := hbm
      refine ⟨bm, ob, b1, b2, fun z => ?_, fun z => ?_, hidT_get b3 (free b3 (fun us n z => by rw [b6] at z; cases z) fun z => by rw [b6] at z; cases z), b4, b5, b6⟩
      · rw [z, g1] at b3
        cases b3
        rw [g2] at b6
        cases b6
      · rw [z, hTp] at b3
        cases b3
        cases b6
    · rw [z, hTp] at g1
      cases g1
      cases g2
  have e0 : Env0 P w K mg (hidT s₁.heap H) callerA [] s₁ H := ⟨rfl, hM, fun b ob e => of_hidT e, Nat.le_of_eq (hidT_size _ _), trivial, (fun b hb => nomatch (show b ∈ ([] : List Addr) from hb)), hok, .of_eq hg⟩
  refine codeAny_mono ((F _ hK (dic hns) TB).goes callerA [] s₁ H ⟨[.ref a], []⟩ [.ref a] [.ref a] _ _ rfl hr e0 (hbind s₁ (.ref a)) (.cons rfl .nil) (hsp H hH hS)) ?_
  rintro r s' h
  cases r with
  | error e => exact False.elim h
  | ok fl =>
    cases fl with
    | next => exact False.elim h
    | brk => exact False.elim h
    | cont => exact False.elim h
    | ret u =>
      obtain ⟨v, H', os, bare, un, hok', r', rfl⟩ := h
      obtain rfl : u = Value.bool true := r'
      have stays : ∀ b ob, b ∉ cs.map (·.2) → s₁.heap.get? b = some ob → s'.heap.get? b = some ob := fun b ob nb e => by
        cases q : H b with
        | none => exact un.keep b ob e q (fun z => nomatch (show b ∈ ([] : List Addr) from z)) (by simp)
        | some u =>
          rcases topH_cases q with ⟨z, _⟩ | ⟨rfl, _, rfl⟩
          · exact absurd z nb
          · rw [ha] at e
            cases e
            exact (hok' _ _ (un.frzs _ _ _ q)).1
      have grown : ∀ b ∈ cs.map (·.2), ∃ p ∈ cs, b = p.2 ∧ ∃ more : Array Value, s'.heap.get? b = some { cls := .none, data := .fields more } := fun b hb => by
        obtain ⟨p, hp, rfl⟩ := List.mem_map.mp hb
        obtain ⟨more, z⟩ := un.tbls p.2 #[] (hH p hp)
        exact ⟨p, hp, rfl, _, hok' p.2 _ z⟩
      refine ⟨rfl, ⟨fun b ob e => ?_, fun b ob e => ?_⟩, os, bare⟩
      · by_cases hb : b ∈ cs.map (·.2)
        · obtain ⟨p, hp, rfl, more, hm⟩ := grown b hb
          rw [hT p hp] at e
          cases e
          exact .inr (.inl ⟨((C p hp).tab (hT p hp)).isCodeTable, rfl, #[], more, rfl, by rw [Array.empty_append]; exact hm⟩)
        · exact .inl (stays b ob hb e)
      · by_cases hb : b ∈ cs.map (·.2)
        · obtain ⟨p, hp, rfl, more, hm⟩ := grown b hb
          exact ⟨_, hm⟩
        · exact ⟨ob, stays b ob hb e⟩
end
/-- what is known of a law that shows things -/
def LawG (l : PySem.W.OpenLaw) (w : World) (K : PySem.W.Frag) (k n : Nat) (x : Str) (mg : Str → Option Value) (fa : Addr) (h : Heap) : Prop :=
  ∃ (fd : FuncData) (cs : List (Addr × Addr)) (sp : Sp), ((∀ p ∈ cs, h.get? p.2 = some { cls := .none, data := .fields #[] }) ∧ (∀ p ∈ cs, K.lookup p.2 = none) ∧ ∀ p ∈ cs, PySem.W.CodeHd h p.1 p.2) ∧ (∀ (s : Shared) (u : Value), BindsTo s fd ⟨[u], []⟩ [(x, u)]) ∧
    (∀ (H : Hp) (a : Addr) (ns : List Int), ns.length ≤ n → (∀ p ∈ cs, H p.2 = some (.tbl #[])) → SqL K H a (ns.map V.int) → sp [.ref a] H (fun v _ => v = .bl true) fun _ _ _ => False) ∧
    ∀ base : Heap, K.In base → base.Ns mainGlobals mg → (∀ p ∈ cs, LamX.TabB base mg p.1 p.2) → FnG l.prog w K mg base k fa fd [x] sp
theorem end_G {l : PySem.W.OpenLaw} {n k : Nat} {q : Program} {loose : List Str} {XP : (Str → Option Value) → Heap → Prop} {YP : World → Heap → Prop} {d : PySem.DefRec} {K : Params → PySem.W.Frag} {x : Str}
    (hn : l.most = some n) (hn2 : n ≤ sizeLine) (hdf : d.params.defaults = []) (hr : Room k callerA)
    (hY : ∀ (w : World) (h : Heap), YP w h → (K w.params).In h)
    (F : ∀ (w : World) (s0 : Shared) (mg mb : Str → Option Value) (fa : Addr) (h : Heap), PySem.W.Ground q loose [] XP w s0 mg mb h → (K w.params).In h → mg d.name = some (.ref fa) → LawG l w (K w.params) k n x mg fa h) :
    PySem.W.WalkO q loose XP YP l.row.toRowW d [] (fun f vs => PySem.call f vs) := by
  refine Att.attach_callB hn hdf fun w s0 s1 mg mb fa o pm cd doc a vs ns G Y ho hd hcd hmg hobj hints hlen hbits hg => ?_
  have KX := hY w _ Y
  obtain ⟨fd, cs, sp, ⟨hT, nT, C⟩, hb, hsp, hF⟩ := F w s0 mg mb fa _ G KX hmg
  exact top_call KX G.T.g G.T.b G.T.builtins G.T.nolimit hg hT nT C G.T.bmain hobj hints (Nat.le_trans hlen hn2) hr hF hb (fun H hH hS => hsp H a ns hlen hH hS)
/-! ### repr of data -/
theorem cr_repr {X : Cx} (hG : X.A.guards = some []) (hu : X.A.units + 64 < cLine) : CallR X (.builtin "repr") (fun vs H Q => ∃ (a : Addr) (d : PyData), vs = [.ref a] ∧ Dp X.K H (.ref a) d ∧ d.showable = true ∧ d.hasDict = false ∧ d.depth ≤ 60 ∧ d.shown.length ≤ sizeLine ∧ Q (.str d.shown) H) := by
  rintro pins s σ H vs us Q I r ⟨a, d, rfl, hd, sh, nd, dp, sz, q⟩
  rw [Vals.ref1 r]
  obtain ⟨as, rd⟩ := Dp.reads I d (.ref a) (.ref a) hd rfl
  exact repr_of_reads' rd sh (PyData.noDict_hsm nd) hG (by omega) (fun _ _ e => e) (fun h' u tk hk => ⟨.str d.shown, H, I.kept hk, ⟨_, rfl⟩, q⟩) sz
/-! ### sorted(xs, key=f), f a def whose answers are data -/
mutual
theorem Dp.on {K : PySem.W.Frag} {H H' : Hp} (s : Same H H') : ∀ {v : V} {d : PyData}, Dp K H v d → Dp K H' v d
  | _, _, .non => .non
  | _, _, .bl b => .bl b
  | _, _, .int i => .int i
  | _, _, .str x => .str x
  | _, _, .lst h r => .lst (h.imp (fun z => z.imp (s _ _) fun ⟨o, e⟩ => ⟨o, s _ _ e⟩) id) (DpAll.on s r)
  | _, _, .tup h r => .tup (h.imp (fun z => z.imp (s _ _) fun ⟨o, e⟩ => ⟨o, s _ _ e⟩) id) (DpAll.on s r)
theorem DpAll.on {K : PySem.W.Frag} {H H' : Hp} (s : Same H H') : ∀ {vs : List V} {ds : List PyData}, DpAll K H vs ds → DpAll K H' vs ds
  | _, _, .nil => .nil
  | _, _, .cons h r => .cons (Dp.on s h) (DpAll.on s r)
end
theorem DpAll.snoc {K : PySem.W.Frag} {H : Hp} {v : V} {d : PyData} : ∀ {vs : List V} {ds : List PyData}, DpAll K H vs ds → Dp K H v d → DpAll K H (vs ++ [v]) (ds ++ [d])
  | _, _, .nil, h => .cons h .nil
  | _, _, .cons a r, h => .cons a (DpAll.snoc r h)
theorem DpAll.len {K : PySem.W.Frag} {H : Hp} : ∀ {vs : List V} {ds : List PyData}, DpAll K H vs ds → vs.length = ds.length
  | _, _, .nil => rfl
  | _, _, .cons _ r => congrArg Nat.succ (DpAll.len r)
theorem vals_snoc {v : V} {u : Value} : ∀ {vs : List V} {us : List Value}, Vals vs us → RelV v u → Vals (vs ++ [v]) (us ++ [u])
  | _, _, .nil, h => .cons h .nil
  | _, _, .cons a r, h => .cons a (vals_snoc r h)
theorem vals_get {vs : List V} {us : List Value} (h : Vals vs us) : ∀ {i : Nat} {u : Value}, us[i]? = some u → ∃ v, vs[i]? = some v ∧ RelV v u := by
  induction h with
  | nil => intro i u e; cases e
  | cons a r ih =>
    intro i u e
    cases i with
    | zero => exact ⟨_, rfl, by rw [← Option.some.inj e]; exact a⟩
    | succ n => exact ih (i := n) e
theorem each_dp {X : Cx} {pins : List (Addr × Obj)} {σ : L2.St} {H : Hp} {s : Shared} (I : Inv X pins σ H s) : ∀ {vs : List V} {ds : List PyData} {us : List Value}, DpAll X.K H vs ds → Vals vs us → PySem.W.EachIs (fun v d => ∃ as, Reads s.heap v d as) us ds
  | _, _, _, .nil, .nil => .nil
  | _, _, _, .cons h r, .cons a t => .cons (Dp.reads I _ _ _ h a) (each_dp I r t)
theorem each_pairs : ∀ {es : List (V × PyData)} {us : List Value}, Vals (es.map (·.1)) us → PySem.W.EachIs (fun v (e : V × PyData) => RelV e.1 v) us es
  | [], _, .nil => .nil
  | _ :: _, _, .cons a t => .cons a (each_pairs t)
theorem pairs_each : ∀ {es : List (V × PyData)} {us : List Value}, PySem.W.EachIs (fun v (e : V × PyData) => RelV e.1 v) us es → Vals (es.map (·.1)) us
  | [], _, .nil => .nil
  | _ :: _, _, .cons a t => .cons a (pairs_each t)
abbrev keyed (es : List (V × PyData)) : List (V × PyData) := es.mergeSort (PySem.W.dataLe false fun e => e.2)
def rSortK (K : PySem.W.Frag) (f : Addr) (sp : Sp) : List V → List V → Hp → VK → Prop := fun vs zs H Q => ∃ (l : Addr) (es : List (V × PyData)), vs = [.ref l] ∧ zs = [.ref f] ∧ SqL K H l (es.map (·.1)) ∧ PySem.W.AllAlike (es.map (·.2)) ∧ PySem.W.Sortable (es.map (·.2)) ∧ (∀ e ∈ es, e.2.depth ≤ 60) ∧
  (∀ e ∈ es, ∀ H1, Same H H1 → ∀ Q1 : VK, (∀ v H2, Same H1 H2 → Dp K H2 v e.2 → Q1 v H2) → sp [e.1] H1 Q1 E0) ∧ ∀ (p : Addr) (H1 : Hp), H p = none → Same H H1 → H1 p = some (.lst ((keyed es).map (·.1))) → Q (.ref p) H1
theorem cr_sortK {X : Cx} {k : Nat} {f : Addr} {fd : FuncData} {p1 : Str} {sp : Sp} (F : FnOk X.prog X.w X.K X.mg X.base CX0 k f fd [p1] sp) (hr : Room (k + 2) X.A) (hb : Binds X.K fd [p1] []) : CallRK X (.builtin "sorted") [Str.ofString "key"] (rSortK X.K f sp) := by
  rintro pins s σ H vs zs us ws Q I r rz ⟨l, es, rfl, rfl, hs, al, so, dp, key, q⟩
  obtain rfl := Vals.ref1 r
  obtain rfl := Vals.ref1 rz
  obtain ⟨its, rv, hl, hz⟩ := I.list hs
  have hlen : its.length = es.length := by rw [← rv.length, List.length_map]
  have hZ : its.length ≤ sizeLine := by rw [← rv.length]; exact hz
  have rB : Room k X.A.in1.in1 := hr.in1.in1
  have uB : X.A.in1.in1.units + 64 < cLine := rB.units
  refine PySem.W.sorted_of_sort (vs := its) hl.isList hZ (PyProof.Rows.ksk_s1 _ _) (fun _ => PyProof.Rows.ksk_l1 _ _) fun E' => ?_
  show wpAny _ X.A.in1.in1 (Builtin.«list.sort» ⟨[.ref (s.heap.objs.size + 1)], [(Str.ofString "key", .ref f)]⟩) _ _ _
  rw [PyProof.Rows.ksk_t1]
  generalize ha : s.heap.objs.size + 1 = a
  have ho : (PySem.W.copyHeap s.heap its).get? a = some (seqObj "list" its.toArray 0) := by rw [← ha]; exact PySem.W.copyHeap_at s.heap its
  obtain ⟨e1, ho1⟩ : ∃ e1, ((PySem.W.copyHeap s.heap its).update a (Obj.mapSeq fun _ => (#[] : Array Value))).get? a = some (seqObj "list" #[] e1) := ⟨_, get?_update_seq ho fun _ => #[]⟩
  have hsz0 : a < (PySem.W.copyHeap s.heap its).objs.size := Heap.lt_size ho
  unfold PyProof.Rows.ksk_tree
  refine wpAny_bind (listItems_at ho rfl ?_)
  refine wpAny_bind (listUpdate_at ho rfl ?_ (by rw [List.size_toArray]; exact hZ) (Nat.zero_le _))
  refine wpAny_bind (seqEpoch_at ho1 rfl ?_)
  refine wpAny_bind (wpAny_newTuple ?_ hZ)
  refine wpAny_bind (wpAny_newList ?_ (Nat.zero_le _))
  refine wpAny_holding ?_
  generalize hk : (((PySem.W.copyHeap s.heap its).update a (Obj.mapSeq fun _ => (#[] : Array Value))).push (seqObj "tuple" its.toArray 0)).objs.size = kS
  generalize hg : (((PySem.W.copyHeap s.heap its).update a (Obj.mapSeq fun _ => (#[] : Array Value))).push (seqObj "tuple" its.toArray 0)).push (seqObj "list" #[] 0) = g
  have size_g : s.heap.objs.size < kS := by
    rw [← hk, size_push', Heap.size_update]
    omega
  have hka : kS ≠ a := by
    rw [← hk, size_push', Heap.size_update]
    omega
  have old : ∀ b o, s.heap.get? b = some o → g.get? b = some o := fun b o e => by
    rw [← hg]
    refine Heap.get?_push_of_some _ (Heap.get?_push_of_some _ ((Heap.get?_update_ne _ _ _ _ (Nat.ne_of_lt ?_)).trans (PySem.W.copyHeap_old e)))
    exact Nat.lt_of_lt_of_le (Heap.lt_size e) (by omega)
  have ga : g.get? a = some (seqObj "list" #[] e1) := by
    rw [← hg]
    exact Heap.get?_push_of_some _ (Heap.get?_push_of_some _ ho1)
  have gk : g.get? kS = some (seqObj "list" #[] 0) := by
    rw [← hg, ← hk]
    exact Heap.get?_push_size _ rfl
  have fa : ∀ {H1 : Hp}, H1 a = none → FpOk X pins H1 a := fun n => I.fpOk (by omega) n
  have fk : ∀ {H1 : Hp}, H1 kS = none → FpOk X pins H1 kS := fun n => I.fpOk (by omega) n
  -- the two lists of the sort are held as pins
  have pin : ∀ {H1 : Hp} {s1 : Shared} {kA : Array Value} {n : Nat}, Inv X pins σ H1 s1 → H1 a = none → H1 kS = none → s1.heap.get? a = some (seqObj "list" #[] e1) → s1.heap.get? kS = some (seqObj "list" kA n) → Inv X (pins ++ [(a, seqObj "list" #[] e1), (kS, seqObj "list" kA n)]) σ H1 s1 := fun {H1 s1 kA n} J na nk ea ek => by
    refine J.pins_of fun p hp => ?_
    rcases List.mem_append.mp hp with h | h
    · exact J.pin p (List.mem_append_right _ h)
    · rcases List.mem_cons.mp h with rfl | h
      · exact ⟨ea, na, (fa na).2.1, (fa na).2.2.1, fun v z => by cases z⟩
      · rw [List.mem_singleton.mp h]
        exact ⟨ek, nk, (fk nk).2.1, (fk nk).2.2.1, fun v z => by cases z⟩
  have I0 : Inv X pins σ H { s with heap := g } := I.kept (t' := s.toks) old
  have na0 : H a = none := I.hok.fresh (by omega)
  have nk0 : H kS = none := I.hok.fresh (by omega)
  unfold PyProof.Rows.ksk_rest
  refine wpAny_bind (wpAny_rule ?_)
  first
    | rw [List.forIn_toArray]
    | (rw [← Array.forIn_toList]; simp only [List.toList_toArray])
  refine wpAny_bind (PyProof.Rows.ksk_fold (fun i s' => ∃ H1 kA n kv, Same H H1 ∧ Inv X (pins ++ [(a, seqObj "list" #[] e1), (kS, seqObj "list" kA n)]) σ H1 s' ∧ Vals kv kA.toList ∧ DpAll X.K H1 kv ((es.take i).map (·.2))) its 0 _
    ⟨H, #[], 0, [], fun _ _ e => e, pin I0 na0 nk0 ga gk, .nil, .nil⟩ ?step ?done)
  case step =>
    rintro j u s1 hu ⟨H1, kA, n, kv, sm, J, vk, dk⟩
    rw [Nat.zero_add] at dk ⊢
    obtain ⟨v, hv, rel⟩ := vals_get rv hu
    rw [List.getElem?_map] at hv
    obtain ⟨e, he, rfl⟩ := Option.map_eq_some_iff.mp hv
    have pa := J.pin (a, seqObj "list" #[] e1) (by simp)
    have pk := J.pin (kS, seqObj "list" kA n) (by simp)
    have hj : j < its.length := (List.getElem?_eq_some_iff.mp hu).1
    have ck : kA.size ≤ its.length := by
      have h1 : kv.length = kA.size := vk.length.trans Array.length_toList
      have h2 := DpAll.len dk
      rw [List.length_map, List.length_take] at h2
      omega
    have E1 := J.env0
    have sp1 := key e (List.mem_of_getElem? he) H1 sm (fun v H2 => Same H1 H2 ∧ Dp X.K H2 v e.2) fun v H2 h1 h2 => ⟨h1, h2⟩
    refine wpAny_bind (wpAny_attempt ?_)
    refine wpAny_call (codeAny_mono (F.run X.A.in1.in1 X.stack s1 H1 ⟨[u], []⟩ [u] [e.1] _ E0 rB ⟨E1.frames, E1.mod, E1.bs, E1.bsz, E1.funs, E1.frf, E1.hok, E1.bare⟩ (hb s1 [u] J.kIn rfl) (.cons rel .nil) sp1) ?_)
    rintro r s2 hq
    cases r with
    | error e => exact False.elim hq
    | ok fl =>
      cases fl with
      | next => exact False.elim hq
      | brk => exact False.elim hq
      | cont => exact False.elim hq
      | ret x =>
        obtain ⟨v2, H2, J2, rel2, sm2, dp2⟩ := J.after hq
        have pa2 := J2.pin (a, seqObj "list" #[] e1) (by simp)
        have pk2 := J2.pin (kS, seqObj "list" kA n) (by simp)
        have J3 : Inv X pins σ H2 s2 := J2.unpinned
        obtain ⟨c2, hc2⟩ : ∃ c2, (s2.heap.update kS (Obj.mapSeq (·.push x))).get? kS = some (seqObj "list" (kA.push x) c2) := ⟨_, get?_update_seq pk2.1 (·.push x)⟩
        have sb := Heap.SameBut.update s2.heap kS (Obj.mapSeq (·.push x))
        show wpAny _ _ _ _ _ _
        refine wpAny_bind (listUpdate_at pk2.1 rfl ?_ (Nat.le_trans ck hZ) (Nat.le_trans (Nat.le_of_eq (Array.size_push ..)) (Nat.succ_le_succ (Nat.le_trans ck hZ))))
        have J4 : Inv X pins σ H2 { s2 with heap := s2.heap.update kS (Obj.mapSeq (·.push x)), toks := s2.toks } := J3.turnedL (ch := [kS]) (fun b o hb e => (sb.2 b (fun z => hb (by simp [z]))).trans e) fun b hb => by rw [List.mem_singleton.mp hb]; exact fk pk2.2.1
        refine wpAny_pure ⟨rfl, H2, kA.push x, c2, kv ++ [v2], fun b o e => sm2 b o (sm b o e), pin J4 pa2.2.1 pk2.2.1 ((sb.2 a hka.symm).trans pa2.1) hc2, ?_, ?_⟩
        · rw [Array.toList_push]
          exact vals_snoc vk rel2
        · rw [List.take_add_one, he, List.map_append]
          exact DpAll.snoc (DpAll.on sm2 dk) dp2
  case done =>
    rintro s1 ⟨H1, kA, n, kv, sm, J, vk, dk⟩
    have pa := J.pin (a, seqObj "list" #[] e1) (by simp)
    have pk := J.pin (kS, seqObj "list" kA n) (by simp)
    have J1 : Inv X pins σ H1 s1 := J.unpinned
    rw [Nat.zero_add, hlen, List.take_length] at dk
    have hk1 := each_dp J dk vk
    have sz : kA.size = its.length := by
      have h1 : kv.length = kA.size := vk.length.trans Array.length_toList
      have h2 := DpAll.len dk
      rw [List.length_map] at h2
      omega
    have hu : ∀ d, d ∈ es.map (·.2) → X.A.in1.in1.units + d.depth < cLine := fun d hd => by
      obtain ⟨e, he, rfl⟩ := List.mem_map.mp hd
      have := dp e he
      omega
    obtain ⟨G, g1, g2⟩ := L2.restrict s1.heap fun b => decide (b ≠ kS)
    have kp : PySem.W.KeepsBut a G s1.heap := fun b o _ e => by
      by_cases z : b = kS
      · rw [g2 b (decide_eq_false fun h => h z)] at e
        cases e
      · rw [g1 b (decide_eq_true z)] at e
        exact e
    refine wpAny_bind (listItems_at pk.1 rfl ?_)
    refine PySem.W.keyH_end (κ := PySem.W.dataKind s1.heap (es.map (·.2))) (h₁ := G) kp (g2 kS (decide_eq_false fun h => h rfl)) pk.1 pa.1 hka (PySem.W.SortsAt.data hk1 al so hu) sz hZ fun h3 tk3 c k3 n3 => ⟨rfl, ?_⟩
    have ko : PySem.W.KeyedOut false (es.map (·.2)) its (PySem.W.sortVals (PySem.W.dataKind s1.heap (es.map (·.2))) false kA.toList its) := ⟨s1.heap, kA.toList, al, rfl, hk1⟩
    have out := pairs_each (PySem.W.keyedOut_each (fun e : V × PyData => e.2) ko (each_pairs rv))
    have J2 : Inv X pins σ H1 { s1 with heap := h3, toks := tk3 } := J1.turnedL (ch := [a, kS]) (fun b o hb e => k3 b o (fun z => hb (by simp [z])) ((g1 b (decide_eq_true fun z => hb (by simp [z]))).trans e)) fun b hb => by
      rcases List.mem_cons.mp hb with rfl | h
      · exact fa pa.2.1
      · rw [List.mem_singleton.mp h]
        exact fk pk.2.1
    have lo : ((keyed es).map (·.1)).length ≤ sizeLine := by
      rw [List.length_map, List.length_mergeSort, ← hlen]
      exact hZ
    refine ⟨.ref a, upd H1 a (.lst ((keyed es).map (·.1))), J2.take (it := a) (fun b o _ e => e) (fa pa.2.1) ⟨lo, _, c, out, n3⟩, rfl, q a _ na0 (fun b o e => (upd_ne (ne_of_none e na0)).trans (sm b o e)) upd_same⟩
/-! ### generator expressions whose parts may call: the generator's own frame as a context -/
abbrev gxc (X : Cx) (A' : Around) (s : Shared) (H : Hp) (ce : Env) (fp : List Addr) : Cx :=
  { X with A := A', s_0 := s, H_0 := H, env := ce, outer := X.stack, stack := ce :: X.stack, ex := fp, fn := fun _ => false, calm := true, pn := [], xe := fun _ _ => False }
abbrev genE (X : Cx) (scope : Scope) (C : Addr) (code : Value) : Env := genEnv scope (cloFrom X.env.cells scope.names []) C code builtinsNs X.env
structure GOk (N : List Str) (sc scope : Scope) (own : List (Str × Nat)) : Prop where
  blk : BlkOk N sc scope own
  co : scope.isCoroutine = false
  cell : ∀ y ∈ scope.names, y.2 ≠ .cell
  dot : scope.names.lookup (".0" : Str) = some NameKind.local
section
variable {X : Cx} {pins : List (Addr × Obj)} {σ : L2.St} {H : Hp} {s : Shared}
theorem gx_free {N : List Str} {scope : Scope} {own : List (Str × Nat)} (I : Inv X pins σ H s) (ok : GOk N X.env.scope scope own) : ∀ y ∈ scope.names, y.2 = .free → ∃ c, X.env.cells.lookup y.1 = some c := fun y hy e => by
  rcases ok.blk.free y hy e with k | k
  · exact I.ok.has _ (.inl k)
  · exact I.ok.has _ (.inr k)
/-- the generator's frame and the generator itself have come -/
theorem gx_start {scope : Scope} {own : List (Str × Nat)} {fp : List Addr} {A' : Around} {code it : Value} {h' : Heap} {oG : Obj} {g' : Array GenState} {t' : Nat} (I : Inv X pins σ H s) (ok : GOk X.N X.env.scope scope own) (hN : X.N.Nodup)
    (hfp : ∀ b ∈ fp, FpOk X pins H b ∧ b < s.heap.objs.size) (hA : A'.handled = none) (hfr : A'.frames = some (genE X scope s.heap.objs.size code :: X.stack))
    (hn : h'.Ns s.heap.objs.size (fun y => if y = ".0" then some it else none)) (hs : Heap.SameBut s.heap.objs.size (s.heap.push { cls := .type "frame", data := .dict #[] }) h')
    (hG : ∀ v, oG.data ≠ .cell v) (hb : AllBare g') (fG : oG.isFreed = false) :
    Inv (gxc X A' s H (genE X scope s.heap.objs.size code) fp) [(h'.objs.size, oG)] (wipe σ (own.map (·.2))) H { s with gens := g', toks := t', heap := h'.push oG } := by
  have sz : h'.objs.size = s.heap.objs.size + 1 := by rw [hs.1, Heap.size_push]
  have k1 : ∀ b o, s.heap.get? b = some o → h'.get? b = some o := fun b o e => hs.extBut b o (Nat.ne_of_lt (Heap.lt_size e)) (Heap.get?_push_of_some _ e)
  have kp : ∀ b o, s.heap.get? b = some o → (h'.push oG).get? b = some o := fun b o e => Heap.get?_push_of_some _ (k1 b o e)
  have fr := gx_free I ok
  have cm : ∀ {y c}, (cloFrom X.env.cells scope.names []).lookup y = some c → X.env.cells.lookup y = some c ∧ c < s.heap.objs.size ∧ (y, NameKind.free) ∈ scope.names := fun {y c} e => by
    rcases cloFrom_mem (PySem.mem_of_lookup e) with hm | ⟨h1, rfl⟩
    · cases hm
    · obtain ⟨c, hc⟩ := fr _ h1 rfl
      rw [hc]
      obtain ⟨w, z⟩ := I.cell _ _ hc
      exact ⟨rfl, z.lt, h1⟩
  have has : ∀ {y}, (y, NameKind.free) ∈ scope.names → ∃ c, (cloFrom X.env.cells scope.names []).lookup y = some c := fun {y} hy => mem_lookup (cloFrom_has (cells := X.env.cells) (acc := []) hy)
  have uq : ∀ {y k}, (y, k) ∈ scope.names → scope.names.lookup y = some k := fun {y k} h => ok.blk.uniq _ h
  have okG : (gxc X A' s H (genE X scope s.heap.objs.size code) fp).Ok := by
    refine ⟨I.ok.mod, ok.blk.kind, I.ok.glob, rfl, Nat.le_refl _, fun y z c e1 e2 => I.ok.inj y z c (cm e1).1 (cm e2).1, fun y hy => ?_, fun y c z _ => (nomatch z), fun _ => hA, hfr, .inr ⟨rfl, rfl⟩,
      fun b hb => ⟨Nat.ne_of_lt (hfp b hb).2, fun y c e z => (hfp b hb).1.2.2.2.2.1 y c (cm e).1 z⟩, I.bs, Nat.le_trans I.ok.bsz I.sz, fun b o e hb => ?_, fun b hb z => ?_, I.stack, I.stkFree⟩
    · rcases hy with hy | hy
      · exact absurd rfl (ok.cell _ (PySem.mem_of_lookup (show scope.names.lookup y = some .cell from hy)))
      · exact has (PySem.mem_of_lookup (show scope.names.lookup y = some .free from hy))
    · rcases (hfp b hb).1.2.2.2.1 with z | z
      · exact I.ok.noex b o e z
      · exact absurd (Nat.lt_of_lt_of_le (Heap.lt_size e) (Nat.le_trans I.ok.bsz z)) (Nat.lt_irrefl _)
    · rcases List.mem_cons.mp (I.stkSub b z) with z | z
      · exact (hfp b hb).1.2.1 z
      · exact (hfp b hb).1.2.2.1 z
  refine ⟨okG, rfl, hb, Un.kept kp, ⟨_, hn.push oG, fun i y v e1 e2 e3 => ?_⟩, fun y c e => ?_, I.hok.fresh (Nat.le_refl _), fun y c e => I.freeC y c (cm e).1, fun p hp => ?_, I.hok.kept kp, by rw [wipe_length]; exact I.len⟩
  · obtain ⟨e2, hne⟩ := wipe_some e2
    have key : scope.names.lookup y = some .free := by
      have no : ∀ k, scope.names.lookup y = some k → ¬ (k = .local ∨ k = .cell) := fun k hk hh => by
        rcases ok.blk.own _ (PySem.mem_of_lookup hk) hh with e' | e'
        · obtain ⟨p, hp, hpy⟩ := List.mem_map.mp e'
          have e4 := ok.blk.ix p hp
          have : p.1 = y := hpy
          rw [this] at e4
          exact hne (List.mem_map.mpr ⟨p, hp, nodup_ix hN e4 e1⟩)
        · exact e' (List.mem_of_getElem? e1)
      rcases (show Vis scope y from e3) with e3 | e3 | e3
      · exact absurd (.inl rfl) (no _ e3)
      · exact absurd (.inr rfl) (no _ e3)
      · exact e3
    obtain ⟨m, _, hl⟩ := I.loc
    have fy := PySem.mem_of_lookup key
    have hvis : Vis X.env.scope y := (ok.blk.free _ fy rfl).elim (fun k => .inr (.inl k)) (fun k => .inr (.inr k))
    obtain ⟨u, r, q⟩ := hl i y v e1 e2 hvis
    refine ⟨u, r, .inr ⟨.inr key, ?_⟩⟩
    obtain ⟨c, h1⟩ := has fy
    rcases q with ⟨k, _⟩ | ⟨_, c', e', z⟩
    · have k : X.env.scope.names.lookup y = some .local := k
      rcases ok.blk.free _ fy rfl with k' | k' <;> rw [show X.env.scope.names.lookup y = _ from k'] at k <;> cases k
    · have h2 := (cm h1).1
      rw [h2] at e'
      cases e'
      exact ⟨c, h1, z.keeps kp⟩
  · obtain ⟨v, z⟩ := I.cell y c (cm e).1
    exact ⟨v, z.keeps kp⟩
  · have hp' : p = (h'.objs.size, oG) := by simpa using hp
    subst hp'
    have nl : s.heap.objs.size ≤ h'.objs.size := by omega
    refine ⟨Heap.get?_push_size _ fG, I.hok.fresh nl, by show h'.objs.size ≠ s.heap.objs.size; omega, fun z => ?_, hG⟩
    rcases List.mem_cons.mp (I.stkSub _ z) with z | z
    · have := I.lt
      rw [← z] at this
      exact Nat.lt_irrefl _ (Nat.lt_of_lt_of_le this nl)
    · exact I.nofs nl z
end
/-! ### the generator's turns -/
abbrev gxl (X : Cx) (Ag : Around) (elt tg iter : Expr) (ifs : List Expr) (scope : Scope) (gpos : Pos) (it : Addr) (ce : Env) (s3 : Shared) (H3 : Hp) (fp : List Addr) : Cx :=
  gxc X (Ag.over (.compLoop (.GeneratorExp elt [⟨tg, iter, ifs, 0⟩] scope gpos) 0 (.ref it) .none ce) []) s3 H3 ce fp
/-- what stands between two turns: at most m turns are left, the i-th is next -/
def GTurns (J : It) (g : TG) (tt : TT) (te : TE) (vs : List Nat) (σ : L2.St) (W : Nat → Nat → Hp → Prop) (Out : Nat → Nat → V → Hp → Prop) (Fin : Hp → Prop) : Prop :=
  ∀ i m H, W i m H → (J.stop i H ∧ Fin H) ∨ (J.go i H ∧ ∀ x H', J.yld i H x H' → g x (wipe σ vs) H' fun σ2 H2 => wipe σ2 vs = wipe σ vs ∧ tt σ2 H2 fun b H3 =>
    if b = true then te σ2 H3 fun y H4 => Out i m y H4 else ∃ m', m' < m ∧ W (i + 1) m' H3)
def gxY (IG : Hp → Shared → Prop) (tn : Nat → Heap → Prop) (fp : List Addr) (W : Nat → Nat → Hp → Prop) (Out : Nat → Nat → V → Hp → Prop) (gn : Nat) : Protocol := fun n _ v s kap =>
  ∃ i m y H, RelV y v ∧ IG H s ∧ tn (i + 1) s.heap ∧ (∀ b ∈ fp, H b = none) ∧ Out i m y H ∧ gn < s.gens.size ∧ m ≤ n ∧
    ∀ m', m' < m → W (i + 1) m' H → ∀ s'' : Shared, IG H s'' → tn (i + 1) s''.heap → gn < s''.gens.size → kap (.send .none) s''
def gxR (IG : Hp → Shared → Prop) (Fin : Hp → Prop) : Nat → Shared → Shared → Prop := fun _ _ s1 => ∃ H, IG H s1 ∧ Fin H
section
variable {X : Cx} {σ : L2.St} {Ag : Around} {tg elt iter : Expr} {ifs : List Expr} {scope : Scope} {gpos : Pos} {it a : Addr} {oG : Obj} {ce : Env} {fp : List Addr} {s3 : Shared} {H3 : Hp} {tn : Nat → Heap → Prop} {J : It} {vs : List Nat} {gn : Nat}
  {g : TG} {tt : TT} {te : TE} {W : Nat → Nat → Hp → Prop} {Out : Nat → Nat → V → Hp → Prop} {Fin : Hp → Prop}
theorem gx_stat {σ' : L2.St} {H' : Hp} {s' : Shared} {A' : Around} (I' : Inv (gxc X A' s3 H3 ce fp) [(a, oG)] σ' H' s') (na : a ∉ fp) (hn : ∀ b ∈ fp, H' b = none) : ∀ b ∈ fp, FpOk (gxc X A' s3 H3 ce fp) [(a, oG)] H' b := fun b hb => by
  refine ⟨hn b hb, (I'.ok.exf b hb).1, I'.ok.exfs b hb, .inl hb, fun x c e => (I'.ok.exf b hb).2 x c e, fun p hp z => ?_⟩
  have hp' : p = (a, oG) := by simpa using hp
  subst hp'
  have z' : a = b := z
  exact na (z' ▸ hb)
theorem gx_seg (T : Turn X.prog X.w X.K tg J fp it tn) (na : a ∉ fp) (hco : ce.scope.isCoroutine = false)
    (pg : PG (gxl X Ag elt tg iter ifs scope gpos it ce s3 H3 fp) tg g)
    (pt : PTs (gxl X Ag elt tg iter ifs scope gpos it ce s3 H3 fp) ifs tt)
    (pe : PE (gxl X Ag elt tg iter ifs scope gpos it ce s3 H3 fp) elt te)
    (turn : GTurns J g tt te vs σ W Out Fin) (IG : Hp → Shared → Prop)
    (hIG : IG = fun H s => Inv (gxl X Ag elt tg iter ifs scope gpos it ce s3 H3 fp) [(a, oG)] (wipe σ vs) H s) :
    ∀ (m n i : Nat) (H : Hp) (s s0 : Shared), m < n → IG H s → tn i s.heap → (∀ b ∈ fp, H b = none) → W i m H → gn < s.gens.size →
      Seg (model X.prog X.w) Ag (fun n s0 r s1 => r = .ok .next ∧ gxR IG Fin n s0 s1) (gxY IG tn fp W Out gn) n s0
        (.compLoop (.GeneratorExp elt [⟨tg, iter, ifs, 0⟩] scope gpos) 0 (.ref it) .none ce)
        ((model X.prog X.w).den (.compLoop (.GeneratorExp elt [⟨tg, iter, ifs, 0⟩] scope gpos) 0 (.ref it) .none ce)) [] s := by
  intro m
  induction m using Nat.strongRecOn with
  | ind m ih =>
  intro n i H s s0 hmn I0 st n0 w0 hg
  have I : Inv (gxl X Ag elt tg iter ifs scope gpos it ce s3 H3 fp) [(a, oG)] (wipe σ vs) H s := by
    rw [hIG] at I0
    exact I0
  show Seg _ Ag _ _ _ s0 _ ((compTurn (.GeneratorExp elt [⟨tg, iter, ifs, 0⟩] scope gpos) 0 (.ref it) .none ce).onRaise (leaving ce)) [] s
  rw [compTurn_gen, Sem.onRaise_eq_wrap]
  refine seg_bind_wrap (wpAny_standAt ?_)
  rcases turn i m H w0 with ⟨stop, fin⟩ | ⟨go, step⟩
  · refine seg_bind_wrap (thnF (T.done (gxl X Ag elt tg iter ifs scope gpos it ce s3 H3 fp) rfl rfl rfl rfl i [(a, oG)] s _ H (fun _ _ => False) I (gx_stat I na n0) st stop) fun r s6 ⟨hr, I6⟩ => ?_)
    subst hr
    exact seg_end (.ok .next) ⟨rfl, H, by rw [hIG]; exact I6, fin⟩
  · refine seg_bind_wrap (GenW.wpAny_gsz hg (thnF (T.item (gxl X Ag elt tg iter ifs scope gpos it ce s3 H3 fp) rfl rfl rfl rfl i [(a, oG)] s _ H (fun _ _ => False) I (gx_stat I na n0) st go) fun r s6 ⟨u, hr, h6⟩ hg6 => ?_))
    subst hr
    refine seg_bind_wrap (GenW.wpAny_gsz hg6 (thnF h6 fun _ s7 ⟨x, H7, I7, r7, y7, st7, n7⟩ hg7 => ?_))
    have I7' := I7.pinned (gx_stat I7 na n7) (T.obj _ _ st7)
    refine seg_bind_wrap (GenW.wpAny_gsz hg7 (thnF (pg.run _ s7 _ H7 x u _ I7' r7 (step x H7 y7)) fun _ s8 ⟨σ8, H8, I8, hw8, q8⟩ hg8 => ?_))
    refine seg_bind_wrap (GenW.wpAny_gsz hg8 (thnF (pt.run _ s8 σ8 H8 _ I8 q8) fun b s9 ⟨H9, I9, q9⟩ hg9 => ?_))
    have hl : (wipe σ vs).length = σ8.length := by rw [← hw8, wipe_length]
    have back : ∀ {s' : Shared} {H' : Hp}, Inv (gxl X Ag elt tg iter ifs scope gpos it ce s3 H3 fp) ([(a, oG)] ++ pinsAt fp s7.heap) σ8 H' s' →
        IG H' s' ∧ tn (i + 1) s'.heap ∧ ∀ b ∈ fp, H' b = none := fun {s' H'} I' => by
      have pin' : ∀ b ∈ fp, ∀ o, s7.heap.get? b = some o → s'.heap.get? b = some o ∧ H' b = none := fun b hb o e =>
        let z := I'.pin (b, o) (List.mem_append_right _ (List.mem_append_right _ (mem_pinsAt hb e)))
        ⟨z.1, z.2.1⟩
      refine ⟨?_, T.keep _ _ _ st7 fun b hb o e => (pin' b hb o e).1, fun b hb => ?_⟩
      · rw [hIG]
        refine I'.unpinned.weak hl fun j v e => ?_
        rw [← hw8] at e
        exact (wipe_some e).1
      · obtain ⟨o, e, _⟩ := T.obj _ _ st7 b hb
        exact (pin' b hb o e).2
    cases b with
    | false =>
      simp only [Bool.false_eq_true, if_false] at q9 ⊢
      obtain ⟨m', hm, w'⟩ := q9
      obtain ⟨b1, b2, b3⟩ := back I9
      exact seg_again rfl (ih m' hm n (i + 1) H9 s9 s0 (Nat.lt_trans hm hmn) b1 b2 b3 w' hg9)
    | true =>
      simp only [if_true] at q9 ⊢
      have hy : ∀ v, yieldOut ce v = yieldValue v := fun v => by simp only [yieldOut, hco, Bool.false_eq_true, if_false]
      simp only [hy]
      rw [Sem.bind_eq_wrap', Sem.bind_eq_wrap', Sem.wrap_wrap, Sem.wrap_wrap]
      obtain ⟨n', rfl⟩ : ∃ n', n = n' + 1 := ⟨n - 1, by omega⟩
      refine seg_wrap (GenW.wpAny_gsz hg9 (thnF (pe.run _ s9 σ8 H9 _ I9 q9) fun z s10 ⟨yv, H10, I10, r10, out⟩ hg10 => ?_))
      obtain ⟨b1, b2, b3⟩ := back I10
      refine seg_at (seg_yield rfl rfl rfl ⟨i, m, yv, H10, r10, b1, b2, b3, out, hg10, by omega, fun m' hm w' s'' I'' st'' hg'' => ?_⟩)
      exact seg_again rfl (ih m' hm n' (i + 1) H10 s'' s'' (by omega) I'' st'' b3 w' hg'')
theorem gx_seg0 (T : Turn X.prog X.w X.K tg J fp it tn) {n : Nat} {s0 s : Shared} {R : GenEnd} {Y : Protocol} (st : tn 0 s.heap)
    (loop : Seg (model X.prog X.w) Ag R Y n s0 (.compLoop (.GeneratorExp elt [⟨tg, iter, ifs, 0⟩] scope gpos) 0 (.ref it) .none ce)
        ((model X.prog X.w).den (.compLoop (.GeneratorExp elt [⟨tg, iter, ifs, 0⟩] scope gpos) 0 (.ref it) .none ce)) [] s) :
    Seg (model X.prog X.w) Ag R Y n s0 (.compStart (.GeneratorExp elt [⟨tg, iter, ifs, 0⟩] scope gpos) 0 (.ref it) .none ce)
      ((model X.prog X.w).den (.compStart (.GeneratorExp elt [⟨tg, iter, ifs, 0⟩] scope gpos) 0 (.ref it) .none ce)) [] s := by
  show Seg _ Ag _ _ _ s0 _ ((compStart (.GeneratorExp elt [⟨tg, iter, ifs, 0⟩] scope gpos) 0 (.ref it) .none ce).onRaise (leaving ce)) [] s
  unfold compStart
  rw [Sem.onRaise_eq_wrap]
  show Seg _ Ag _ _ _ s0 _ ((ask >>= _).wrap _ _ _ _) [] s
  refine seg_bind_wrap (wpAny_askSetting ?_)
  split
  · exact seg_again rfl loop
  · refine seg_bind_wrap (wpAny_rule ?_)
    show Seg _ Ag _ _ _ s0 _ ((standAt iter.pos >>= _).wrap _ _ _ _) [] s
    exact seg_bind_wrap (wpAny_standAt (seg_bind_wrap (T.self _ 0 s _ _ st (seg_again rfl loop))))
end
/-! ### the generator asked for its next -/
structure IGok (X : Cx) (pins : List (Addr × Obj)) (σ : L2.St) (a : Addr) (gn : Nat) (IG : Hp → Shared → Prop) : Prop where
  bare : ∀ {H s}, IG H s → AllBare s.gens
  gens : ∀ {H s g'}, IG H s → AllBare g' → IG H { s with gens := g' }
  kept : ∀ {H : Hp} {s : Shared} {h' : Heap} {tk : Nat}, IG H s → (∀ b o, s.heap.get? b = some o → h'.get? b = some o) → IG H { s with heap := h', toks := tk }
  isgen : ∀ {H s}, IG H s → s.heap.IsGen a gn
  nolim : ∀ {H s}, IG H s → s.heap.NoLimit
  back : ∀ {H s}, IG H s → Inv X pins σ H s
def GRun (X : Cx) (Ac : Around) (IG : Hp → Shared → Prop) (tn : Nat → Heap → Prop) (fp : List Addr) (W : Nat → Nat → Hp → Prop) (Out : Nat → Nat → V → Hp → Prop) (Fin : Hp → Prop) (gn i m n : Nat) (H : Hp) (s : Shared) : Prop :=
  IG H s ∧ tn i s.heap ∧ (∀ b ∈ fp, H b = none) ∧ W i m H ∧ ∃ gs, s.gens[gn]? = some gs ∧ m < n ∧ ∀ s'' : Shared, IG H s'' → tn i s''.heap → gn < s''.gens.size →
    gs.Goes (model X.prog X.w) Ac.in1 (fun n s0 r s1 => r = .ok .next ∧ gxR IG Fin n s0 s1) (gxY IG tn fp W Out gn) n (.send .none) s''
theorem bare_set {s : Shared} {gn : Nat} {x : GenState} (h : AllBare s.gens) (hx : x.bare = true) : AllBare (s.setGen gn x).gens := by
  intro y hy
  have hy' : y ∈ s.gens.setIfInBounds gn x := hy
  rcases Array.mem_or_eq_of_mem_setIfInBounds hy' with h1 | h1
  · exact h y h1
  · rw [h1]; exact hx
section
variable {X : Cx} {pins : List (Addr × Obj)} {σ : L2.St} {Ac : Around} {IG : Hp → Shared → Prop} {tn : Nat → Heap → Prop} {fp : List Addr} {W : Nat → Nat → Hp → Prop} {Out : Nat → Nat → V → Hp → Prop} {Fin : Hp → Prop} {a : Addr} {gn : Nat}
theorem GRun.lt {i m n : Nat} {H : Hp} {s : Shared} (G : GRun X Ac IG tn fp W Out Fin gn i m n H s) : gn < s.gens.size := by
  obtain ⟨_, _, _, _, gs, h, _⟩ := G
  exact (Array.getElem?_eq_some_iff.mp h).1
/-- what a consumer lays beside it changes nothing -/
theorem GRun.kept (ig : IGok X pins σ a gn IG) (hk : ∀ i h h', tn i h → (∀ b o, h.get? b = some o → h'.get? b = some o) → tn i h') {i m n : Nat} {H : Hp} {s : Shared} {h' : Heap} {tk : Nat} (G : GRun X Ac IG tn fp W Out Fin gn i m n H s)
    (k : ∀ b o, s.heap.get? b = some o → h'.get? b = some o) : GRun X Ac IG tn fp W Out Fin gn i m n H { s with heap := h', toks := tk } := by
  obtain ⟨g1, g2, g3, g4, gs, g5, g6, g7⟩ := G
  exact ⟨ig.kept g1 k, hk _ _ _ g2 k, g3, g4, gs, g5, g6, g7⟩
theorem gx_next {E : Value → Shared → Prop} {Q : Option Value → Shared → Prop} {i m n : Nat} {H : Hp} {s : Shared} (ig : IGok X pins σ a gn IG) (hA : Ac.handled = none) (hd : Ac.depth < recursionLimit) (G : GRun X Ac IG tn fp W Out Fin gn i m n H s)
    (hout : ∀ v y H' s' i' m', RelV y v → Out i' m' y H' → IG H' s' → (∀ m'', m'' < m' → W (i' + 1) m'' H' → GRun X Ac IG tn fp W Out Fin gn (i' + 1) m'' (n - 1) H' s') → Q (some v) s')
    (hfin : ∀ H' s', Fin H' → IG H' s' → Q none s') : wpAny (model X.prog X.w) Ac (pyNext (.ref a)) Q E s := by
  have lt := G.lt
  obtain ⟨g1, g2, g3, g4, gs, g5, g6, g7⟩ := G
  have run : IG H (s.setGen gn .running) := ig.gens g1 (bare_set (ig.bare g1) rfl)
  refine wpAny_pyNext_genexpQ (P := gxR IG Fin) hA (ig.nolim g1) hd (ig.isgen g1) g5 (g7 _ run g2 (by rw [GenW.setGen_size]; exact lt)) (fun v s1 gs' hb hv => ?_) fun s1 hp h' hk => ?_
  · obtain ⟨i', m', y, H', r, I1, st1, nf, out, hg1, hmn, kap⟩ := hv
    have I2 : IG H' (s1.setGen gn gs') := ig.gens I1 (bare_set (ig.bare I1) hb)
    refine hout v y H' _ i' m' r out I2 fun m'' hm w' => ⟨I2, st1, nf, w', gs', ?_, by omega, fun s'' J'' st'' hg'' => ?_⟩
    · show (s1.gens.setIfInBounds gn gs')[gn]? = some gs'
      rw [Array.getElem?_setIfInBounds_self_of_lt hg1]
    · have q := kap m'' hm w' s'' J'' st'' hg''
      cases n with
      | zero => exact q.elim
      | succ n => exact q
  · obtain ⟨H', I1, fin⟩ := hp
    exact hfin H' _ fin (ig.kept (tk := (s1.setGen gn .finished).toks) (ig.gens I1 (bare_set (ig.bare I1) rfl)) hk)
end
/-! ### the generator made -/
section
variable {X : Cx} {pins : List (Addr × Obj)} {σ : L2.St} {H : Hp} {s : Shared}
theorem over_gen {Ag : Around} {stack : List Env} {elt tg iter : Expr} {ifs : List Expr} {scope : Scope} {gpos : Pos} {it : Value} {ce : Env} (hf : Ag.frames = some stack) :
    (Ag.over (.compLoop (.GeneratorExp elt [⟨tg, iter, ifs, 0⟩] scope gpos) 0 it .none ce) []).frames = some (ce :: stack) := by
  show pushEnvs [ce] (pushEnvs [] Ag.frames) = _
  rw [hf]
  rfl
theorem room_gen {Ag : Around} {k : Nat} {elt tg iter : Expr} {ifs : List Expr} {scope : Scope} {gpos : Pos} {it : Value} {ce : Env} (h1 : Ag.handled = none) (h2 : Ag.depth + 1 + 3 * k + 5 < recursionLimit) (h3 : Ag.units + 3 + 16 * k + 200 < cLine) :
    Room k (Ag.over (.compLoop (.GeneratorExp elt [⟨tg, iter, ifs, 0⟩] scope gpos) 0 it .none ce) []) := by
  refine ⟨h1, ?_, ?_⟩
  · show Ag.depth + 0 + 1 + 3 * k + 5 < _
    omega
  · show Ag.units + 0 + 3 + 16 * k + 200 < _
    omega
/-- a generator expression is made; Ac: where it will be asked -/
theorem gx_mk {c T : Addr} {elt tg iter : Expr} {ifs : List Expr} {scope : Scope} {own : List (Str × Nat)} {gpos : Pos} {wi : TI} {g : TG} {tt : TT} {te : TE} {k : Nat} {Q' : Value → Shared → Prop} {Outf : (Nat → Nat → Hp → Prop) → Nat → Nat → V → Hp → Prop} {Fin : Hp → Prop}
    (Ac : Around) (hA : Ac.handled = none) (hfr : Ac.frames = some X.stack) (hd : Ac.depth ≤ X.A.depth) (hu : Ac.units ≤ X.A.units + 8) (hr : Room (k + 1) X.A) (hc : X.calm = true) (hN : X.N.Nodup) (TB : GxR.TabB X.base X.mg c T) (hcode : X.env.code = .ref c) (ok : GOk X.N X.env.scope scope own) (hi : PI X tg iter wi)
    (hg : ∀ (A' : Around) (s3 : Shared) (H3 : Hp) (C : Addr) (code : Value) (fp : List Addr), PG (gxc X A' s3 H3 (genE X scope C code) fp) tg g)
    (ht : ∀ (A' : Around) (s3 : Shared) (H3 : Hp) (C : Addr) (code : Value) (fp : List Addr), Room k A' → PTs (gxc X A' s3 H3 (genE X scope C code) fp) ifs tt)
    (he : ∀ (A' : Around) (s3 : Shared) (H3 : Hp) (C : Addr) (code : Value) (fp : List Addr), Room k A' → PE (gxc X A' s3 H3 (genE X scope C code) fp) elt te)
    (hs : ∀ v, genFold iter X.env v = pure v) (I : Inv X pins σ H s)
    (h : wi σ H fun J H1 => GxR.TabG H1 T ∧ ∀ H2, GxR.Tabbed T H1 H2 → ∃ W, (∃ m, W 0 m H2) ∧ GTurns J g tt te (own.map (·.2)) σ W (Outf W) Fin)
    (hQ : ∀ (IG : Hp → Shared → Prop) (tn : Nat → Heap → Prop) (fp : List Addr) W (a : Addr) (gn m : Nat) (H2 : Hp) (s5 : Shared), IGok X pins σ a gn IG → (∀ i h h', tn i h → (∀ b o, h.get? b = some o → h'.get? b = some o) → tn i h') →
      GRun X Ac IG tn fp W (Outf W) Fin gn 0 m (m + 1) H2 s5 → Q' (.ref a) s5) :
    wpAny (model X.prog X.w) X.A (eval (.GeneratorExp elt [⟨tg, iter, ifs, 0⟩] scope gpos) X.env) Q' X.xe s := by
  have free := gx_free I ok
  refine wpAny_GeneratorExp_make ok.co (closure_ok free) ok.cell ok.dot ok.blk.kind (Nat.lt_of_le_of_lt (by omega : X.A.depth ≤ X.A.depth + 3 * (k + 1) + 5) hr.dp) ?_ hs
  refine thn (hi.run pins s σ H _ I h) fun xv s1 h1 => thn h1 fun itv s2 h2 => ?_
  obtain ⟨it, fp, tn, J, H1, rfl, J1, TU, st2, f2, ⟨ps, hT, hok⟩, q⟩ := h2
  have gT : s2.heap.get? T = some (PySem.W.tabObj ps) := J1.hok T _ hT
  have cd : PySem.W.CodeHd s2.heap c T := TB.code.keeps J1.bk
  refine ⟨J1.nolimit, ?_⟩
  have lts : ∀ b ∈ fp, b < s2.heap.objs.size := fun b hb => by
    obtain ⟨o, e, _⟩ := TU.obj _ _ st2 b hb
    exact Heap.lt_size e
  have nfT : ∀ b ∈ fp, b ≠ T := fun b hb z => by
    have := (f2 b hb).1
    rw [z, hT] at this
    cases this
  -- behind the code object
  have on : ∀ (code : Value) (h3 : Heap) (tk : Nat) (more : Array Value), Heap.ExtBut T s2.heap h3 → s2.heap.objs.size ≤ h3.objs.size → h3.get? T = some (PySem.W.tabObj (ps ++ more)) → TriplesOk (ps ++ more).toList →
      wpAny (model X.prog X.w) X.A (builtinsFor X.env.globals X.env.builtins) (fun bi s4 =>
        ∀ h', h'.Ns s4.heap.objs.size (fun y => if y = ".0" then some (.ref it) else none) → Heap.SameBut s4.heap.objs.size (s4.heap.push { cls := .type "frame", data := .dict #[] }) h' →
          Q' (.ref h'.objs.size) { s4 with
            gens := s4.gens.push (.fresh (.compStart (.GeneratorExp elt [⟨tg, iter, ifs, 0⟩] scope gpos) 0 (.ref it) .none (genEnv scope (cloFrom X.env.cells scope.names []) s4.heap.objs.size code bi X.env))),
            toks := s4.toks + 1 + 1 + 1,
            heap := h'.push { cls := .type "generator", data := .fields #[.int s4.gens.size 0, .str "<genexpr>" (s4.toks + 1), .str (X.env.qual ++ "<genexpr>") (s4.toks + 1 + 1)] } }) X.xe { s2 with heap := h3, toks := tk } := by
    intro code h3 tk more ext ge3 gT3 ok3
    have J3 : Inv X pins σ (upd H1 T (.tbl (ps ++ more))) { s2 with heap := h3, toks := tk } := GxR.inv_tab (g' := s2.gens) (d' := s2.drawn) J1 hT ext gT3 J1.bare
    have tb : GxR.Tabbed T H1 (upd H1 T (.tbl (ps ++ more))) := ⟨⟨_, upd_same, ok3⟩, fun b nb => upd_ne nb⟩
    obtain ⟨W, ⟨m0, w0⟩, turn⟩ := q _ tb
    obtain ⟨bm, ob, e1, e2, _, e4, e5, e6, e7, e8⟩ := TB.bm
    refine wpAny_builtinsFor (m := X.mg) (by rw [J3.ok.glob]; exact J3.mod.glob.keeps J3.bk) e1 e2 (ext _ _ e4 (J1.bk _ _ e5)) e6 e7 e8 ?_
    intro h' hn hsb
    have f3 : ∀ b ∈ fp, FpOk X pins (upd H1 T (.tbl (ps ++ more))) b ∧ b < h3.objs.size := fun b hb => by
      refine ⟨⟨?_, (f2 b hb).2⟩, Nat.lt_of_lt_of_le (lts b hb) ge3⟩
      rw [upd_ne (nfT b hb)]
      exact (f2 b hb).1
    have st3 : tn 0 h3 := TU.keep _ _ _ st2 fun b hb o e => ext b o (nfT b hb) e
    have nf3 : ∀ b ∈ fp, (upd H1 T (.tbl (ps ++ more))) b = none := fun b hb => (f3 b hb).1.1
    generalize hH3 : upd H1 T (.tbl (ps ++ more)) = H3 at J3 w0 f3 nf3
    generalize hs3 : ({ s2 with heap := h3, toks := tk } : Shared) = s3 at J3 hn hsb ⊢
    have eh : s3.heap = h3 := by rw [← hs3]
    have szh : h'.objs.size = s3.heap.objs.size + 1 := by rw [hsb.1, Heap.size_push]
    have kp : ∀ b o, s3.heap.get? b = some o → h'.get? b = some o := fun b o e => hsb.extBut b o (Nat.ne_of_lt (Heap.lt_size e)) (Heap.get?_push_of_some _ e)
    generalize hoG : ({ cls := .type "generator", data := .fields #[.int s3.gens.size 0, .str "<genexpr>" (s3.toks + 1), .str (X.env.qual ++ "<genexpr>") (s3.toks + 1 + 1)] } : Obj) = oG
    have na : h'.objs.size ∉ fp := fun z => by
      have := (f3 _ z).2
      rw [← eh] at this
      exact Nat.lt_irrefl _ (Nat.lt_of_lt_of_le this (by rw [szh]; exact Nat.le_succ _))
    have start := gx_start (A' := Ac.in1.over (.compLoop (.GeneratorExp elt [⟨tg, iter, ifs, 0⟩] scope gpos) 0 (.ref it) .none (genE X scope s3.heap.objs.size code)) []) (code := code) (it := .ref it) (oG := oG)
      (g' := s3.gens.push (.fresh (.compStart (.GeneratorExp elt [⟨tg, iter, ifs, 0⟩] scope gpos) 0 (.ref it) .none (genE X scope s3.heap.objs.size code)))) (t' := s3.toks + 1 + 1 + 1) J3 ok hN (fun b hb => ⟨(f3 b hb).1, by rw [eh]; exact (f3 b hb).2⟩) hA (over_gen hfr) hn hsb
      (fun v => by rw [← hoG]; exact fun z => nomatch z) (J3.bare.push rfl) (by rw [← hoG]; rfl)
    have rm : Room k (Ac.in1.over (.compLoop (.GeneratorExp elt [⟨tg, iter, ifs, 0⟩] scope gpos) 0 (.ref it) .none (genE X scope s3.heap.objs.size code)) []) :=
      room_gen hA (by have := hr.dp; show Ac.depth + 1 + 3 * k + 5 < _; omega) (by have := hr.un; show Ac.units + 1 + 3 + 16 * k + 200 < _; omega)
    refine hQ (fun H' s' => Inv (gxl X Ac.in1 elt tg iter ifs scope gpos it (genE X scope s3.heap.objs.size code) s3 H3 fp) [(h'.objs.size, oG)] (wipe σ (own.map (·.2))) H' s') tn fp W h'.objs.size s3.gens.size m0 H3 _ ?_ (fun i h h' st kk => TU.keep _ _ _ st fun b _ o e => kk b o e) ?_
    · refine ⟨fun I' => I'.bare, fun I' hb => ⟨I'.ok, I'.os, hb, I'.base, I'.loc, I'.cell, I'.free, I'.freeC, I'.pin, I'.hok, I'.len⟩, fun I' kk => I'.kept kk, fun I' => ?_, fun I' => I'.nolimit, fun I' => ?_⟩
      · have z := (I'.pin (h'.objs.size, oG) (by simp)).1
        rw [← hoG] at z
        exact ⟨_, _, _, z, rfl, rfl, rfl⟩
      · exact J3.call' (ch := fp) I'.os I'.base I'.hok I'.bare fun b hb => ⟨(f3 b hb).1.2.2.2.1, (f3 b hb).1.2.1, (f3 b hb).1.2.2.2.2.1, (f3 b hb).1.2.2.2.2.2⟩
    · refine ⟨start, TU.keep _ _ _ st3 fun b hb o e => Heap.get?_push_of_some _ (kp b o (by rw [eh]; exact e)), nf3, w0, _, Array.getElem?_push_size .., Nat.lt_succ_self _, fun s'' I'' st'' hg'' => ⟨rfl, ?_⟩⟩
      exact gx_seg0 TU st'' (gx_seg TU na ok.co (hg _ s3 H3 _ code fp) (ht _ s3 H3 _ code fp rm) (he _ s3 H3 _ code fp rm) turn _ rfl m0 (m0 + 1) 0 H3 s'' s'' (Nat.lt_succ_self _) I'' st'' nf3 w0 hg'')
  cases among : codeAmong gpos ps.toList with
  | some cv =>
    refine wpAny_genexprCode_hit hcode (cd.code gT hok) among ?_
    exact on cv s2.heap s2.toks #[] (Heap.ExtBut.refl _ _) (Nat.le_refl _) (by rw [Array.append_empty]; exact gT) (by rw [Array.append_empty]; exact hok)
  | none =>
    refine wpAny_genexprCodeX hcode (cd.code gT hok) (cd.tab gT) among fun c' h' tk hx hge hlt isC _ tab' _ => ?_
    obtain ⟨_, _, _, _, _, _, _, _, _, _, _, _, _, _, _, _, _, _, _, ok', _⟩ := isC
    exact on _ h' tk _ hx (Nat.le_trans hge (Nat.le_of_lt hlt)) tab'.2 ok'
end
/-! ### all(..) of a generator expression -/
def tAllG (T : Addr) (wi : TI) (g : TG) (tt : TT) (te : TE) (vs : List Nat) : TE := fun σ H Q => wi σ H fun J H1 => GxR.TabG H1 T ∧ ∀ H2, GxR.Tabbed T H1 H2 → ∃ W : Nat → Nat → Hp → Prop, (∃ m, W 0 m H2) ∧
  GTurns J g tt te vs σ W (fun i m y H' => ∃ k, y = .bl k ∧ (if k = true then ∃ m', m' < m ∧ W (i + 1) m' H' else Q (.bl false) H')) (fun H' => Q (.bl true) H')
section
variable {X : Cx} {pins : List (Addr × Obj)} {σ : L2.St}
theorem all_loop {IG : Hp → Shared → Prop} {tn : Nat → Heap → Prop} {fp : List Addr} {W : Nat → Nat → Hp → Prop} {a : Addr} {gn : Nat} {Q : VK} {R : Result → Shared → Prop} (ig : IGok X pins σ a gn IG) (hA : X.A.handled = none) (hd : X.A.depth < recursionLimit)
    (hR : ∀ b H s, Q (.bl b) H → IG H s → R (.ok (.ret (.bool b))) s) : ∀ (n i m : Nat) (H : Hp) (s : Shared),
    GRun X X.A.in1 IG tn fp W (fun i m y H' => ∃ k, y = .bl k ∧ (if k = true then ∃ m', m' < m ∧ W (i + 1) m' H' else Q (.bl false) H')) (fun H' => Q (.bl true) H') gn i m n H s →
    codeAny (model X.prog X.w) X.A (.builtin "all.loop" ⟨[.ref a], []⟩) R s := by
  intro n
  induction n with
  | zero =>
    intro i m H s G
    obtain ⟨_, _, _, _, gs, _, h, _⟩ := G
    exact absurd h (Nat.not_lt_zero _)
  | succ n ih =>
    intro i m H s G
    refine codeAny_builtin F.entry_all_loop ?_
    rw [Around.under_plainId F.plain_all_loop _]
    show wpAny _ X.A.in1 (pyNext (.ref a) >>= _) _ _ s
    refine wpAny_bind (gx_next ig hA hd G (fun v y H' s' i' m' r out I' cont => ?_) fun H' s' fin I' => ?_)
    · obtain ⟨k, rfl, hk⟩ := out
      obtain rfl : v = .bool k := r
      refine wpAny_bind (wpAny_holding (wpAny_truthy_bool ?_))
      refine wpAny_bind (wpAny_letGo ?_)
      cases k with
      | true =>
        obtain ⟨m'', hm, w'⟩ := hk
        exact wpAny_pure ⟨plainId_quiet F.plain_all_loop _, ih (i' + 1) m'' H' s' (cont m'' hm w')⟩
      | false =>
        refine wpAny_bind (wpAny_rule (wpAny_pure ?_))
        exact hR false H' s' hk I'
    · refine wpAny_bind (wpAny_rule (wpAny_pure ?_))
      exact hR true H' s' fin I'
theorem pe_allG {c T : Addr} {elt tg iter : Expr} {ifs : List Expr} {scope : Scope} {own : List (Str × Nat)} {gpos p pos : Pos} {wi : TI} {g : TG} {tt : TT} {te : TE} {k : Nat}
    (hr : Room (k + 1) X.A) (hgl : Gl X "all") (hm : X.mg "all" = none) (hc : X.calm = true) (hN : X.N.Nodup) (TB : GxR.TabB X.base X.mg c T) (hcode : X.env.code = .ref c) (ok : GOk X.N X.env.scope scope own) (hi : PI X tg iter wi)
    (hg : ∀ (A' : Around) (s3 : Shared) (H3 : Hp) (C : Addr) (code : Value) (fp : List Addr), PG (gxc X A' s3 H3 (genE X scope C code) fp) tg g)
    (ht : ∀ (A' : Around) (s3 : Shared) (H3 : Hp) (C : Addr) (code : Value) (fp : List Addr), Room k A' → PTs (gxc X A' s3 H3 (genE X scope C code) fp) ifs tt)
    (he : ∀ (A' : Around) (s3 : Shared) (H3 : Hp) (C : Addr) (code : Value) (fp : List Addr), Room k A' → PE (gxc X A' s3 H3 (genE X scope C code) fp) elt te)
    (hs : ∀ v, genFold iter X.env v = pure v := by intro _; rfl)
    (hst : starEach [.GeneratorExp elt [⟨tg, iter, ifs, 0⟩] scope gpos] X.env = (false, eval (.GeneratorExp elt [⟨tg, iter, ifs, 0⟩] scope gpos) X.env) :: starEach [] X.env := by rfl) :
    PE X (.Call (.Name "all" p) [.GeneratorExp elt [⟨tg, iter, ifs, 0⟩] scope gpos] [] pos) (tAllG T wi g tt te (own.map (·.2))) := by
  refine ⟨fun pins s σ H Q I h => wpAny_Call_Name_kw (ld_blt I hgl hm (show bootBuiltins "all" = some (.builtin "all") by decide +kernel) ?_)⟩
  refine PyProof.Rows.callWith_builtin1 ?_ hst (by rfl)
  rw [hst]
  have hA := I.ok.hd hc
  have hf := I.ok.frames
  refine Calls.spliced_cons (gx_mk (Outf := fun W i m y H' => ∃ k, y = .bl k ∧ (if k = true then ∃ m', m' < m ∧ W (i + 1) m' H' else Q (.bl false) H')) (Fin := fun H' => Q (.bl true) H')
    X.A.in1 hA hf (Nat.le_refl _) (by show X.A.units + 1 ≤ _; omega) hr hc hN TB hcode ok hi hg ht he hs I h ?_)
  · intro IG tn fp W a gn m H2 s5 ig hk G
    refine Calls.spliced_nil ?_
    refine call_function_tree F.kind_all F.plain_all F.entry_all (F.args_all1 _) ?_
    unfold Builtin.«all»
    refine wpAny_bind (m := oneArg "all" _) (wpAny_pure ?_)
    refine wpAny_bind (wpAny_pyIter_gen (ig.isgen G.1) ?_)
    exact wpAny_pure ⟨plainId_quiet F.plain_all_loop _, all_loop ig hA (Nat.lt_of_le_of_lt (by omega : X.A.depth ≤ X.A.depth + 3 * (k + 1) + 5) hr.dp) (fun b H s q I' => ⟨.bl b, H, ig.back I', rfl, q⟩) _ _ _ _ _ G⟩
end
/-! ### len(set(t)) of a tuple of texts -/
/-- the texts, each once -/
def once : List Str → List Str := fun xs => xs.foldl (fun acc x => if acc.contains x = true then acc else acc ++ [x]) []
theorem once_snoc (xs : List Str) (x : Str) : once (xs ++ [x]) = if (once xs).contains x = true then once xs else once xs ++ [x] := by
  unfold once
  rw [List.foldl_append]
  rfl
theorem once_le (l : List Str) : (once l).length ≤ l.length := by
  have more : ∀ (l acc : List Str), (l.foldl (fun acc x => if acc.contains x = true then acc else acc ++ [x]) acc).length ≤ acc.length + l.length := by
    intro l
    induction l with
    | nil => intro acc; exact Nat.le_refl _
    | cons x r ih =>
      intro acc
      refine Nat.le_trans (ih _) ?_
      show (if acc.contains x = true then acc else acc ++ [x]).length + r.length ≤ acc.length + (r.length + 1)
      by_cases h : acc.contains x = true
      · rw [if_pos h]; omega
      · rw [if_neg h, List.length_append]; show acc.length + 1 + r.length ≤ _; omega
  have h := more l []
  have z : (once l).length ≤ ([] : List Str).length + l.length := h
  simpa using z
section
variable {prog : Program} {w : World} {A : Around}
theorem set_texts_loop {R : Result → Shared → Prop} {it : Addr} {fp wr : List Addr} {G : Array GenState → Array GenState → Prop} {n : Nat} {P : Nat → Value → Prop} {St : Nat → Shared → Prop} (W : WalksS prog w A.in1 it fp wr G n P St) (S : Addr) (nS : S ∉ fp) (xs : List Str)
    (len : xs.length = n) (big : n + 1 < scanBound) (val : ∀ i v, P i v → ∃ t, v = .str (xs.getD i Str.empty) t) :
    ∀ (k i : Nat) (s : Shared), n - i = k → i ≤ n → St i s → s.heap.SetOf (PySem.strKind prog w) S (fun x => (once (xs.take i)).contains x) (once (xs.take i)).length →
      (∀ s', Moved (S :: wr) G s s' → s'.heap.SetOf (PySem.strKind prog w) S (fun x => (once xs).contains x) (once xs).length → R (.ok (.ret .none)) s') →
      codeAny (model prog w) A (.builtin "set.update.loop" ⟨[.ref S, .ref it], []⟩) R s := by
  have nW : S ∉ wr := fun h => nS (W.sub _ h)
  have up : ∀ b ∈ wr, b ∈ S :: wr := fun b hb => List.mem_cons_of_mem _ hb
  have stay : ∀ {s s' : Shared} {f : Str → Bool} {c : Nat}, Moved wr G s s' → s.heap.SetOf (PySem.strKind prog w) S f c → s'.heap.SetOf (PySem.strKind prog w) S f c := fun mv ⟨o, es, ep, t, ho, r⟩ => ⟨o, es, ep, t, mv.heap S _ nW ho, r⟩
  have most := once_le
  intro k
  induction k with
  | zero =>
    intro i s hk hi st hS hR
    obtain rfl : i = n := by omega
    refine codeAny_builtin PyProof.Rows.F.entry_set_update_loop ?_
    rw [Around.under_plainId PyProof.Rows.F.plain_set_update_loop _]
    show wpAny _ A.in1 (pyNext (.ref it) >>= _) _ _ s
    refine wpAny_bind (W.done s _ _ st fun s' mv => ?_)
    rw [List.take_of_length_le (Nat.le_of_eq len)] at hS
    exact wpAny_pure (hR s' (mv.mono up) (stay mv hS))
  | succ k ih =>
    intro i s hk hi st hS hR
    have lt : i < n := by omega
    refine codeAny_builtin PyProof.Rows.F.entry_set_update_loop ?_
    rw [Around.under_plainId PyProof.Rows.F.plain_set_update_loop _]
    show wpAny _ A.in1 (pyNext (.ref it) >>= _) _ _ s
    refine wpAny_bind (W.item i s _ _ lt st fun v s' hP st' mv => ?_)
    obtain ⟨t, rfl⟩ := val i v hP
    show wpAny _ A.in1 (holding [Value.str (xs.getD i Str.empty) t] (setAdd S (.str (xs.getD i Str.empty) t)) >>= _) _ _ s'
    refine wpAny_bind (wpAny_holding ?_)
    unfold setAdd
    refine wpAny_holding (wpAny_bind ((PySem.strKind prog w).pyHash (k := xs.getD i Str.empty) (strKind_is _ _ _ _) ?_))
    have small : (once (xs.take i)).length + 1 < scanBound := by
      have h := most (xs.take i)
      rw [List.length_take] at h
      omega
    refine wpAny_setAddHashed_of (knd := PySem.strKind prog w) (s := { s' with toks := s'.toks + 1 }) (strKind_is _ _ _ _) rfl (show s'.heap.SetOf _ S _ _ from stay mv hS) small fun h' sb hS2 => ?_
    have hx : xs.take (i + 1) = xs.take i ++ [xs.getD i Str.empty] := by
      have hl : i < xs.length := by omega
      rw [List.take_add_one, List.getElem?_eq_getElem hl, List.getD_eq_getElem?_getD, List.getElem?_eq_getElem hl]
      rfl
    have hS3 : h'.SetOf (PySem.strKind prog w) S (fun x => (once (xs.take (i + 1))).contains x) (once (xs.take (i + 1))).length := by
      rw [hx, once_snoc]
      revert hS2
      generalize xs.getD i Str.empty = z
      generalize once (xs.take i) = L
      intro hS2
      by_cases e : L.contains z = true
      · rw [if_pos e] at hS2 ⊢
        refine SetOf_congr hS2 (fun y => ?_) rfl
        by_cases q : y = z
        · rw [q, e]; rfl
        · rw [decide_eq_false q, Bool.or_false]
      · rw [if_neg e] at hS2 ⊢
        refine SetOf_congr hS2 (fun y => ?_) (by rw [List.length_append]; rfl)
        rw [List.contains_append]
        by_cases q : y = z
        · rw [q, decide_eq_true rfl]; simp
        · rw [decide_eq_false q]; simp [q]
    refine wpAny_pure ⟨plainId_quiet PyProof.Rows.F.plain_set_update_loop _, ih (i + 1) _ (by omega) lt (W.frame _ s' _ _ st' (Nat.le_succ _) fun b hb o e => ?_) hS3 fun s'' mv'' hS'' => ?_⟩
    · rw [sb.2 b (fun z : b = S => nS (by rw [← z]; exact hb))]
      exact e
    · refine hR s'' (Moved.trans W.gtrans ((mv.mono up).then_heap (Nat.le_succ _) fun b o hb e => ?_) mv'') hS''
      rw [sb.2 b (fun z : b = S => hb (by rw [z]; exact List.mem_cons_self))]
      exact e
abbrev set0 (led : Bool) : Obj := { cls := .type "set", dict := none, data := .set #[] 0 (.fresh 0 0 led) }
set_option maxHeartbeats 3200000 in
theorem set_of_texts {E : Value → Shared → Prop} {s : Shared} {l : Addr} {items : Array Value} {xs : List Str} {Q : Value → Shared → Prop} (hh : A.handled = none) (hl : s.heap.IsTuple l items) (hi : PyProof.Rows.StrsAre items.toList xs) (big : xs.length + 1 < scanBound)
    (h : ∀ (h' : Heap) (tk : Nat), h'.SetOf (PySem.strKind prog w) s.heap.objs.size (fun x => (once xs).contains x) (once xs).length →
      (∀ b o, b < s.heap.objs.size → s.heap.get? b = some o → h'.get? b = some o) → Q (.ref s.heap.objs.size) { s with heap := h', toks := tk }) :
    wpAny (model prog w) A (call (.type "set") [.ref l]) Q E s := by
  obtain ⟨c, tl, hmro⟩ := PySem.F.called_set.mro
  have hmade := PySem.F.called_set.made
  have hsub := PySem.F.called_set.sub
  refine wpAny_call (codeAny_of_tree ?_)
  show wpAny _ _ (callAny (.type "set") _) _ _ _
  refine wpAny_pure ⟨Code.quiet_builtin _ (by decide +kernel), codeAny_builtin PySem.F.entry_type_call ?_⟩
  rw [Around.under_plain (weight_type_call_type "set" [.ref l] []) rfl]
  have h1 := PySem.F.called_set.notType
  have h2 := PySem.F.called_set.canCreate
  have hct := PySem.F.typeCall_set_1 (.ref l)
  repeat (any_goals (first | assumption | wp_step))
  refine codeAny_mono (code_set_new_1 (.ref l) (E := E) (Q₁ := fun obj s₁ => ∃ led : Bool, obj = .ref s.heap.objs.size ∧ s₁ = { s with heap := s.heap.push { cls := .type "set", dict := none, data := .set #[] 0 (.fresh 0 0 led) } }) fun led => ⟨led, rfl, rfl⟩) fun r s₁ hr => ?_
  cases r with
  | error e => exact hr
  | ok fl =>
    cases fl with
    | ret obj =>
      obtain ⟨led, rfl, rfl⟩ := hr
      have fresh : (set0 led).isFreed = false := rfl
      have hS : (s.heap.push (set0 led)).get? s.heap.objs.size = some (set0 led) := Heap.get?_push_size _ fresh
      have hT : Shared.TypeIs { s with heap := s.heap.push (set0 led) } (.ref s.heap.objs.size) "set" := ⟨_, hS, rfl⟩
      have hli := PySem.F.called_set.init.lookup
      have hbi := PySem.F.called_set.init.bind (.ref s.heap.objs.size)
      repeat (any_goals (first | assumption | wp_step))
      refine codeAny_mono (codeAny_call_builtin (R := wants (fun r s₂ => r = .none ∧ ∃ h' tk, s₂ = { s with heap := h', toks := tk } ∧
          h'.SetOf (PySem.strKind prog w) s.heap.objs.size (fun x => (once xs).contains x) (once xs).length ∧
          (∀ b o, b < s.heap.objs.size → s.heap.get? b = some o → h'.get? b = some o)) E) PySem.F.called_set.init.plain PySem.F.entry_set_init (check_set_init_1 hT ?_)) fun r₂ s₂ hr₂ => ?_
      · obtain ⟨⟨ocls, odict, odata, oslots⟩, hol, hcl, nl, hdl⟩ := hl
        simp only at hcl hdl
        subst hcl; subst hdl
        have hol' : (s.heap.push (set0 led)).get? l = some { cls := .type "tuple", dict := odict, data := .seq items nl, slots := oslots } := Heap.get?_push_of_some _ hol
        have hsls := PySem.F.sub_tuple_set
        have hslf := PySem.F.sub_tuple_frozenset
        have hne : (Value.type "tuple" == Value.type "dict") = false := by decide
        have hl1 : (s.heap.push (set0 led)).IsTuple l items := ⟨_, hol', rfl, nl, rfl⟩
        unfold Builtin.«set.__init__» noKeywords Builtin.Frozenset.updateFrom
        generalize hPI : pyIter = PI
        wp_walk
        subst hPI
        refine wpAny_pyIter_tuple hl1 ?_
        refine wpAny_bind (wpAny_runValue ?_)
        have ltl : l < s.heap.objs.size := Heap.lt_size hol
        have szP : (s.heap.push (set0 led)).objs.size = s.heap.objs.size + 1 := Heap.size_push ..
        have hh3 : A.in1.in1.in1.handled = none := hh
        have neI : l ≠ (s.heap.push (set0 led)).objs.size := by rw [szP]; exact Nat.ne_of_lt (Nat.lt_succ_of_lt ltl)
        have len : xs.length = items.size := by rw [← StrsAre.len_eq hi, Array.length_toList]
        refine set_texts_loop ((Walks.tuple hh3 _ l neI items).toS) s.heap.objs.size ?n xs len (by rw [← len]; exact big)
          (fun i v hv => SS.strs_at hi i v (by rw [Array.getElem?_toList]; exact hv)) (items.size - 0) 0 _ (by omega) (Nat.zero_le _) ⟨⟨_, Heap.get?_push_size _ rfl, rfl, rfl⟩, (hl1.push _)⟩ ?z ?r
        case n =>
          rw [szP]
          simp only [List.mem_cons, List.not_mem_nil, or_false, not_or]
          exact ⟨Nat.ne_of_lt (Nat.lt_succ_self _), Nat.ne_of_gt ltl⟩
        case z =>
          refine PyProof.Rows.SetOf_congr ((PyProof.Rows.setObjOf_fresh (knd := PySem.strKind prog w) led).setOf (Heap.get?_push_of_some _ hS) (by unfold scanBound; omega)) (fun _ => rfl) rfl
        case r =>
          intro s' mv hS'
          obtain ⟨h', g', d', tk', os'⟩ := s'
          obtain rfl : g' = s.gens := mv.gens
          obtain rfl : d' = s.drawn := mv.drawn
          obtain rfl : os' = s.os := mv.os
          refine wpAny_pure ?_
          show wpAny _ _ (ret Value.none) _ _ _
          refine wpAny_pure ⟨rfl, h', tk', rfl, hS', fun b o hb e => mv.heap b o ?_ (Heap.get?_push_of_some _ (Heap.get?_push_of_some _ e))⟩
          rw [szP]
          simp only [List.mem_cons, List.not_mem_nil, or_false, not_or]
          exact ⟨Nat.ne_of_lt hb, Nat.ne_of_lt (Nat.lt_succ_of_lt hb)⟩
      · cases r₂ with
        | error e => exact hr₂
        | ok fl₂ =>
          cases fl₂ with
          | ret r =>
            obtain ⟨rfl, h', tk, rfl, hS', hk'⟩ := hr₂
            repeat (any_goals (first | assumption | wp_step))
            exact h _ _ hS' hk'
          | _ => exact hr₂.elim
    | _ => exact hr.elim
end
def tLenSetX (K : PySem.W.Frag) (ta : TE) : TE := fun σ H Q => ta σ H fun x H1 => ∃ l, ∃ xs : List Str, x = .ref l ∧ SqT K H1 l (xs.map V.str) ∧ xs.length ≤ 1000 ∧ Q (.int (once xs).length) H1
theorem pe_lenSetX {X : Cx} {a : Expr} {ta : TE} {p p2 q pos : Pos} (hc : X.calm = true) (hg : Gl X "len") (hm : X.mg "len" = none) (hg2 : Gl X "set") (hm2 : X.mg "set" = none) (ha : PE X a ta)
    (na : starEach [a] X.env = (false, eval a X.env) :: starEach [] X.env := by rfl) : PE X (.Call (.Name "len" p) [.Call (.Name "set" p2) [a] [] q] [] pos) (tLenSetX X.K ta) := by
  refine ⟨fun pins s σ H Q I h => Call_ (ld_blt I hg hm boot_len (PyProof.Rows.callWith_builtin1 (PyProof.Rows.args_cons ?_ rfl) rfl rfl))⟩
  refine Call_ (ld_blt I hg2 hm2 boot_set (PyProof.Rows.callWith_type1 (PyProof.Rows.args_cons (thn (ha.run pins s σ H _ I h) fun v s1 ⟨x, H1, I1, r1, q1⟩ => PyProof.Rows.args_nil ?_) na) na rfl))
  obtain ⟨l, xs, rfl, hq, le, q1⟩ := q1
  cases r1
  obtain ⟨its, r, pl, hz⟩ := I1.tuple hq
  refine set_of_texts (I1.ok.hd hc) pl (by simpa using strsAre_of r) (by unfold scanBound; omega) fun h' tk hS hk => PyProof.Rows.args_nil ?_
  obtain ⟨o, es, ep, t, ho, hex, hd, _, _, _, hf, hn⟩ := hS
  have I2 : Inv X pins σ H1 { s1 with heap := h', toks := tk } := I1.kept fun b o e => hk b o (Heap.lt_size e) e
  have most := once_le xs
  exact call_len_set ho hex hd hf (by rw [hn] <;> omega) ⟨.int (once xs).length, H1, I2.tok _, ⟨_, by rw [hn]⟩, q1⟩
/-! ### generators whose consumer keeps an object of its own -/
abbrev Pins := List (Addr × Obj)
def GTurnsL (J : It) (g : TG) (tt : TT) (te : TE) (vs : List Nat) (σ : L2.St) (W : Nat → Nat → List V → Hp → Prop) (Out : Nat → Nat → List V → V → Hp → Prop) (Fin : List V → Hp → Prop) : Prop :=
  ∀ i m ys H, W i m ys H → (J.stop i H ∧ Fin ys H) ∨ (J.go i H ∧ ∀ x H', J.yld i H x H' → g x (wipe σ vs) H' fun σ2 H2 => wipe σ2 vs = wipe σ vs ∧ tt σ2 H2 fun b H3 =>
    if b = true then te σ2 H3 fun y H4 => Out i m ys y H4 else ∃ m', m' < m ∧ W (i + 1) m' ys H3)
def gxYL (IG : Pins → Hp → Shared → Prop) (PX : List V → Pins → Prop) (tn : Nat → Heap → Prop) (fp : List Addr) (W : Nat → Nat → List V → Hp → Prop) (Out : Nat → Nat → List V → V → Hp → Prop) (gn : Nat) : Protocol := fun n s₀ v s kap =>
  ∃ i m ys y H px, (∀ p ∈ px, s₀.heap.get? p.1 = some p.2) ∧ RelV y v ∧ PX ys px ∧ IG px H s ∧ tn (i + 1) s.heap ∧ (∀ b ∈ fp, H b = none) ∧ Out i m ys y H ∧ gn < s.gens.size ∧ m ≤ n ∧
    ∀ m' px', m' < m → W (i + 1) m' (ys ++ [y]) H → PX (ys ++ [y]) px' → ∀ s'' : Shared, IG px' H s'' → tn (i + 1) s''.heap → gn < s''.gens.size → kap (.send .none) s''
def gxRL (IG : Pins → Hp → Shared → Prop) (PX : List V → Pins → Prop) (Fin : List V → Hp → Prop) : Nat → Shared → Shared → Prop := fun _ s₀ s1 => ∃ ys H px, (∀ p ∈ px, s₀.heap.get? p.1 = some p.2) ∧ PX ys px ∧ IG px H s1 ∧ Fin ys H
section
variable {X : Cx} {σ : L2.St} {Ag : Around} {tg elt iter : Expr} {ifs : List Expr} {scope : Scope} {gpos : Pos} {it a : Addr} {oG : Obj} {ce : Env} {fp : List Addr} {s3 : Shared} {H3 : Hp} {tn : Nat → Heap → Prop} {J : It} {vs : List Nat} {gn : Nat}
  {g : TG} {tt : TT} {te : TE} {W : Nat → Nat → List V → Hp → Prop} {Out : Nat → Nat → List V → V → Hp → Prop} {Fin : List V → Hp → Prop} {PX : List V → Pins → Prop}
theorem gx_statL {σ' : L2.St} {H' : Hp} {s' : Shared} {A' : Around} {px : Pins} (I' : Inv (gxc X A' s3 H3 ce fp) ((a, oG) :: px) σ' H' s') (na : a ∉ fp) (hpx : ∀ p ∈ px, p.1 ∉ fp) (hn : ∀ b ∈ fp, H' b = none) : ∀ b ∈ fp, FpOk (gxc X A' s3 H3 ce fp) ((a, oG) :: px) H' b := fun b hb => by
  refine ⟨hn b hb, (I'.ok.exf b hb).1, I'.ok.exfs b hb, .inl hb, fun x c e => (I'.ok.exf b hb).2 x c e, fun p hp z => ?_⟩
  have hp' : p ∈ (a, oG) :: px := by simpa using hp
  rcases List.mem_cons.mp hp' with e | e
  · subst e
    have z' : a = b := z
    exact na (z' ▸ hb)
  · exact hpx p e (z ▸ hb)
theorem gx_segL (T : Turn X.prog X.w X.K tg J fp it tn) (na : a ∉ fp) (hco : ce.scope.isCoroutine = false)
    (pg : PG (gxl X Ag elt tg iter ifs scope gpos it ce s3 H3 fp) tg g)
    (pt : PTs (gxl X Ag elt tg iter ifs scope gpos it ce s3 H3 fp) ifs tt)
    (pe : PE (gxl X Ag elt tg iter ifs scope gpos it ce s3 H3 fp) elt te)
    (turn : GTurnsL J g tt te vs σ W Out Fin) (IG : Pins → Hp → Shared → Prop) (Px : Pins → Prop) (hPx : ∀ px, Px px → ∀ p ∈ px, p.1 ∉ fp)
    (hIG : IG = fun px H s => Px px ∧ Inv (gxl X Ag elt tg iter ifs scope gpos it ce s3 H3 fp) ((a, oG) :: px) (wipe σ vs) H s) :
    ∀ (m n i : Nat) (ys : List V) (px : Pins) (H : Hp) (s s0 : Shared), m < n → (∀ p ∈ px, s0.heap.get? p.1 = some p.2) → PX ys px → IG px H s → tn i s.heap → (∀ b ∈ fp, H b = none) → W i m ys H → gn < s.gens.size →
      Seg (model X.prog X.w) Ag (fun n s0 r s1 => r = .ok .next ∧ gxRL IG PX Fin n s0 s1) (gxYL IG PX tn fp W Out gn) n s0
        (.compLoop (.GeneratorExp elt [⟨tg, iter, ifs, 0⟩] scope gpos) 0 (.ref it) .none ce)
        ((model X.prog X.w).den (.compLoop (.GeneratorExp elt [⟨tg, iter, ifs, 0⟩] scope gpos) 0 (.ref it) .none ce)) [] s := by
  intro m
  induction m using Nat.strongRecOn with
  | ind m ih =>
  intro n i ys px H s s0 hmn h00 hX I0 st n0 w0 hg
  have I1 : Px px ∧ Inv (gxl X Ag elt tg iter ifs scope gpos it ce s3 H3 fp) ((a, oG) :: px) (wipe σ vs) H s := by
    rw [hIG] at I0
    exact I0
  obtain ⟨hP, I⟩ := I1
  have hpx := hPx px hP
  show Seg _ Ag _ _ _ s0 _ ((compTurn (.GeneratorExp elt [⟨tg, iter, ifs, 0⟩] scope gpos) 0 (.ref it) .none ce).onRaise (leaving ce)) [] s
  rw [compTurn_gen, Sem.onRaise_eq_wrap]
  refine seg_bind_wrap (wpAny_standAt ?_)
  rcases turn i m ys H w0 with ⟨stop, fin⟩ | ⟨go, step⟩
  · refine seg_bind_wrap (thnF (T.done (gxl X Ag elt tg iter ifs scope gpos it ce s3 H3 fp) rfl rfl rfl rfl i ((a, oG) :: px) s _ H (fun _ _ => False) I (gx_statL I na hpx n0) st stop) fun r s6 ⟨hr, I6⟩ => ?_)
    subst hr
    exact seg_end (.ok .next) ⟨rfl, ys, H, px, h00, hX, by rw [hIG]; exact ⟨hP, I6⟩, fin⟩
  · refine seg_bind_wrap (GenW.wpAny_gsz hg (thnF (T.item (gxl X Ag elt tg iter ifs scope gpos it ce s3 H3 fp) rfl rfl rfl rfl i ((a, oG) :: px) s _ H (fun _ _ => False) I (gx_statL I na hpx n0) st go) fun r s6 ⟨u, hr, h6⟩ hg6 => ?_))
    subst hr
    refine seg_bind_wrap (GenW.wpAny_gsz hg6 (thnF h6 fun _ s7 ⟨x, H7, I7, r7, y7, st7, n7⟩ hg7 => ?_))
    have I7' := I7.pinned (gx_statL I7 na hpx n7) (T.obj _ _ st7)
    refine seg_bind_wrap (GenW.wpAny_gsz hg7 (thnF (pg.run _ s7 _ H7 x u _ I7' r7 (step x H7 y7)) fun _ s8 ⟨σ8, H8, I8, hw8, q8⟩ hg8 => ?_))
    refine seg_bind_wrap (GenW.wpAny_gsz hg8 (thnF (pt.run _ s8 σ8 H8 _ I8 q8) fun b s9 ⟨H9, I9, q9⟩ hg9 => ?_))
    have hl : (wipe σ vs).length = σ8.length := by rw [← hw8, wipe_length]
    have back : ∀ {s' : Shared} {H' : Hp}, Inv (gxl X Ag elt tg iter ifs scope gpos it ce s3 H3 fp) (((a, oG) :: px) ++ pinsAt fp s7.heap) σ8 H' s' →
        IG px H' s' ∧ tn (i + 1) s'.heap ∧ ∀ b ∈ fp, H' b = none := fun {s' H'} I' => by
      have pin' : ∀ b ∈ fp, ∀ o, s7.heap.get? b = some o → s'.heap.get? b = some o ∧ H' b = none := fun b hb o e =>
        let z := I'.pin (b, o) (List.mem_append_right _ (List.mem_append_right _ (mem_pinsAt hb e)))
        ⟨z.1, z.2.1⟩
      refine ⟨?_, T.keep _ _ _ st7 fun b hb o e => (pin' b hb o e).1, fun b hb => ?_⟩
      · rw [hIG]
        refine ⟨hP, I'.unpinned.weak hl fun j v e => ?_⟩
        rw [← hw8] at e
        exact (wipe_some e).1
      · obtain ⟨o, e, _⟩ := T.obj _ _ st7 b hb
        exact (pin' b hb o e).2
    cases b with
    | false =>
      simp only [Bool.false_eq_true, if_false] at q9 ⊢
      obtain ⟨m', hm, w'⟩ := q9
      obtain ⟨b1, b2, b3⟩ := back I9
      exact seg_again rfl (ih m' hm n (i + 1) ys px H9 s9 s0 (Nat.lt_trans hm hmn) h00 hX b1 b2 b3 w' hg9)
    | true =>
      simp only [if_true] at q9 ⊢
      have hy : ∀ v, yieldOut ce v = yieldValue v := fun v => by simp only [yieldOut, hco, Bool.false_eq_true, if_false]
      simp only [hy]
      rw [Sem.bind_eq_wrap', Sem.bind_eq_wrap', Sem.wrap_wrap, Sem.wrap_wrap]
      obtain ⟨n', rfl⟩ : ∃ n', n = n' + 1 := ⟨n - 1, by omega⟩
      refine seg_wrap (GenW.wpAny_gsz hg9 (thnF (pe.run _ s9 σ8 H9 _ I9 q9) fun z s10 ⟨yv, H10, I10, r10, out⟩ hg10 => ?_))
      obtain ⟨b1, b2, b3⟩ := back I10
      refine seg_at (seg_yield rfl rfl rfl ⟨i, m, ys, yv, H10, px, h00, r10, hX, b1, b2, b3, out, hg10, by omega, fun m' px' hm w' hX' s'' I'' st'' hg'' => ?_⟩)
      exact seg_again rfl (ih m' hm n' (i + 1) _ px' H10 s'' s'' (by omega) (fun p hp => by rw [hIG] at I''; exact (I''.2.pin p (by simp [hp])).1) hX' I'' st'' b3 w' hg'')
end
structure IGokL (X : Cx) (pins : List (Addr × Obj)) (σ : L2.St) (a : Addr) (gn : Nat) (tn : Nat → Heap → Prop) (IG : Pins → Hp → Shared → Prop) : Prop where
  bare : ∀ {px H s}, IG px H s → AllBare s.gens
  gens : ∀ {px H s g'}, IG px H s → AllBare g' → IG px H { s with gens := g' }
  kept : ∀ {px : Pins} {H : Hp} {s : Shared} {h' : Heap} {tk : Nat}, IG px H s → (∀ b o, s.heap.get? b = some o → h'.get? b = some o) → IG px H { s with heap := h', toks := tk }
  isgen : ∀ {px H s}, IG px H s → s.heap.IsGen a gn
  nolim : ∀ {px H s}, IG px H s → s.heap.NoLimit
  back : ∀ {px H s}, IG px H s → Inv X pins σ H s
  add : ∀ {H : Hp} {s : Shared} {h' : Heap} {tk : Nat} {S : Addr} {o : Obj}, IG [] H s → (∀ b u, s.heap.get? b = some u → h'.get? b = some u) → s.heap.objs.size ≤ S → h'.get? S = some o → (∀ v, o.data ≠ .cell v) → IG [(S, o)] H { s with heap := h', toks := tk }
  put : ∀ {H : Hp} {s : Shared} {h' : Heap} {tk : Nat} {S : Addr} {o o' : Obj}, IG [(S, o)] H s → (∀ b u, b ≠ S → s.heap.get? b = some u → h'.get? b = some u) → h'.get? S = some o' → (∀ v, o'.data ≠ .cell v) → IG [(S, o')] H { s with heap := h', toks := tk }
  own : ∀ {H s S o}, IG [(S, o)] H s → s.heap.get? S = some o
  tnk : ∀ {i h h'}, tn i h → (∀ b o, h.get? b = some o → h'.get? b = some o) → tn i h'
  tnp : ∀ {H s S o i h'}, IG [(S, o)] H s → tn i s.heap → (∀ b u, b ≠ S → s.heap.get? b = some u → h'.get? b = some u) → tn i h'
def GRunL (X : Cx) (Ac : Around) (IG : Pins → Hp → Shared → Prop) (PX : List V → Pins → Prop) (tn : Nat → Heap → Prop) (fp : List Addr) (W : Nat → Nat → List V → Hp → Prop) (Out : Nat → Nat → List V → V → Hp → Prop) (Fin : List V → Hp → Prop) (gn i m n : Nat) (ys : List V) (px : Pins) (H : Hp) (s : Shared) : Prop :=
  PX ys px ∧ IG px H s ∧ tn i s.heap ∧ (∀ b ∈ fp, H b = none) ∧ W i m ys H ∧ ∃ gs, s.gens[gn]? = some gs ∧ m < n ∧ ∀ (px' : Pins) (s'' : Shared), PX ys px' → IG px' H s'' → tn i s''.heap → gn < s''.gens.size →
    gs.Goes (model X.prog X.w) Ac.in1 (fun n s0 r s1 => r = .ok .next ∧ gxRL IG PX Fin n s0 s1) (gxYL IG PX tn fp W Out gn) n (.send .none) s''
def GStartL (X : Cx) (Ac : Around) (IG : Pins → Hp → Shared → Prop) (tn : Nat → Heap → Prop) (fp : List Addr) (W : Nat → Nat → List V → Hp → Prop) (Out : Nat → Nat → List V → V → Hp → Prop) (Fin : List V → Hp → Prop) (gn m : Nat) (H : Hp) (s : Shared) : Prop :=
  IG [] H s ∧ tn 0 s.heap ∧ (∀ b ∈ fp, H b = none) ∧ W 0 m [] H ∧ ∃ gs, s.gens[gn]? = some gs ∧ ∀ (PX : List V → Pins → Prop) (px' : Pins) (s'' : Shared), PX [] px' → IG px' H s'' → tn 0 s''.heap → gn < s''.gens.size →
    gs.Goes (model X.prog X.w) Ac.in1 (fun n s0 r s1 => r = .ok .next ∧ gxRL IG PX Fin n s0 s1) (gxYL IG PX tn fp W Out gn) (m + 1) (.send .none) s''
section
variable {X : Cx} {pins : List (Addr × Obj)} {σ : L2.St} {Ac : Around} {IG : Pins → Hp → Shared → Prop} {PX : List V → Pins → Prop} {tn : Nat → Heap → Prop} {fp : List Addr} {W : Nat → Nat → List V → Hp → Prop} {Out : Nat → Nat → List V → V → Hp → Prop} {Fin : List V → Hp → Prop} {a : Addr} {gn : Nat}
theorem gx_nextL {E : Value → Shared → Prop} {Q : Option Value → Shared → Prop} {i m n : Nat} {ys : List V} {px : Pins} {H : Hp} {s : Shared} (ig : IGokL X pins σ a gn tn IG) (hA : Ac.handled = none) (hd : Ac.depth < recursionLimit) (G : GRunL X Ac IG PX tn fp W Out Fin gn i m n ys px H s)
    (hout : ∀ v y H' s' i' m' ys' px', (∀ p ∈ px', s.heap.get? p.1 = some p.2) → RelV y v → Out i' m' ys' y H' → PX ys' px' → IG px' H' s' → tn (i' + 1) s'.heap →
      (∀ m'' px'' h' tk, m'' < m' → W (i' + 1) m'' (ys' ++ [y]) H' → PX (ys' ++ [y]) px'' → IG px'' H' { s' with heap := h', toks := tk } → tn (i' + 1) h' → GRunL X Ac IG PX tn fp W Out Fin gn (i' + 1) m'' (n - 1) (ys' ++ [y]) px'' H' { s' with heap := h', toks := tk }) → Q (some v) s')
    (hfin : ∀ ys' H' s' px', (∀ p ∈ px', s.heap.get? p.1 = some p.2) → Fin ys' H' → PX ys' px' → IG px' H' s' → Q none s') : wpAny (model X.prog X.w) Ac (pyNext (.ref a)) Q E s := by
  obtain ⟨g0, g1, g2, g3, g4, gs, g5, g6, g7⟩ := G
  have lt := (Array.getElem?_eq_some_iff.mp g5).1
  have run : IG px H (s.setGen gn .running) := ig.gens g1 (bare_set (ig.bare g1) rfl)
  refine wpAny_pyNext_genexpQ (P := gxRL IG PX Fin) hA (ig.nolim g1) hd (ig.isgen g1) g5 (g7 px _ g0 run g2 (by rw [GenW.setGen_size]; exact lt)) (fun v s1 gs' hb hv => ?_) fun s1 hp h' hk => ?_
  · obtain ⟨i', m', ys', y, H', px', h00, r, hX, I1, st1, nf, out, hg1, hmn, kap⟩ := hv
    have I2 : IG px' H' (s1.setGen gn gs') := ig.gens I1 (bare_set (ig.bare I1) hb)
    refine hout v y H' _ i' m' ys' px' h00 r out hX I2 st1 fun m'' px'' h' tk hm w' hX' I3 st3 => ⟨hX', I3, st3, nf, w', gs', ?_, by omega, fun pz s'' hXz J'' st'' hg'' => ?_⟩
    · show (s1.gens.setIfInBounds gn gs')[gn]? = some gs'
      rw [Array.getElem?_setIfInBounds_self_of_lt hg1]
    · have q := kap m'' pz hm w' hXz s'' J'' st'' hg''
      cases n with
      | zero => exact q.elim
      | succ n => exact q
  · obtain ⟨ys', H', px', h00, hX, I1, fin⟩ := hp
    exact hfin ys' H' _ px' h00 fin hX (ig.kept (tk := (s1.setGen gn .finished).toks) (ig.gens I1 (bare_set (ig.bare I1) rfl)) hk)
/-- from the start on, with what the consumer keeps -/
theorem GStartL.run {m : Nat} {H : Hp} {s : Shared} {px : Pins} {h' : Heap} {tk : Nat} (G : GStartL X Ac IG tn fp W Out Fin gn m H s) (hX : PX [] px) (I : IG px H { s with heap := h', toks := tk }) (st : tn 0 h') : GRunL X Ac IG PX tn fp W Out Fin gn 0 m (m + 1) [] px H { s with heap := h', toks := tk } := by
  obtain ⟨g1, g2, g3, g4, gs, g5, g7⟩ := G
  exact ⟨hX, I, st, g3, g4, gs, g5, Nat.lt_succ_self _, fun px' s'' hX' I' st' hg => g7 PX px' s'' hX' I' st' hg⟩
end
section
variable {X : Cx} {pins : List (Addr × Obj)} {σ : L2.St} {H : Hp} {s : Shared}
theorem gx_mkL {c T : Addr} {elt tg iter : Expr} {ifs : List Expr} {scope : Scope} {own : List (Str × Nat)} {gpos : Pos} {wi : TI} {g : TG} {tt : TT} {te : TE} {k : Nat} {Q' : Value → Shared → Prop} {Outf : (Nat → Nat → List V → Hp → Prop) → Nat → Nat → List V → V → Hp → Prop} {Fin : List V → Hp → Prop}
    (Ac : Around) (hA : Ac.handled = none) (hfr : Ac.frames = some X.stack) (hd : Ac.depth ≤ X.A.depth) (hu : Ac.units ≤ X.A.units + 8) (hr : Room (k + 1) X.A) (hc : X.calm = true) (hN : X.N.Nodup) (TB : GxR.TabB X.base X.mg c T) (hcode : X.env.code = .ref c) (ok : GOk X.N X.env.scope scope own) (hi : PI X tg iter wi)
    (hg : ∀ (A' : Around) (s3 : Shared) (H3 : Hp) (C : Addr) (code : Value) (fp : List Addr), PG (gxc X A' s3 H3 (genE X scope C code) fp) tg g)
    (ht : ∀ (A' : Around) (s3 : Shared) (H3 : Hp) (C : Addr) (code : Value) (fp : List Addr), Room k A' → PTs (gxc X A' s3 H3 (genE X scope C code) fp) ifs tt)
    (he : ∀ (A' : Around) (s3 : Shared) (H3 : Hp) (C : Addr) (code : Value) (fp : List Addr), Room k A' → PE (gxc X A' s3 H3 (genE X scope C code) fp) elt te)
    (hs : ∀ v, genFold iter X.env v = pure v) (I : Inv X pins σ H s)
    (h : wi σ H fun J H1 => GxR.TabG H1 T ∧ ∀ H2, GxR.Tabbed T H1 H2 → ∃ W, (∃ m, W 0 m [] H2) ∧ GTurnsL J g tt te (own.map (·.2)) σ W (Outf W) Fin)
    (hQ : ∀ (IG : Pins → Hp → Shared → Prop) (tn : Nat → Heap → Prop) (fp : List Addr) W (a : Addr) (gn m : Nat) (H2 : Hp) (s5 : Shared), IGokL X pins σ a gn tn IG →
      GStartL X Ac IG tn fp W (Outf W) Fin gn m H2 s5 → Q' (.ref a) s5) :
    wpAny (model X.prog X.w) X.A (eval (.GeneratorExp elt [⟨tg, iter, ifs, 0⟩] scope gpos) X.env) Q' X.xe s := by
  have free := gx_free I ok
  refine wpAny_GeneratorExp_make ok.co (closure_ok free) ok.cell ok.dot ok.blk.kind (Nat.lt_of_le_of_lt (by omega : X.A.depth ≤ X.A.depth + 3 * (k + 1) + 5) hr.dp) ?_ hs
  refine thn (hi.run pins s σ H _ I h) fun xv s1 h1 => thn h1 fun itv s2 h2 => ?_
  obtain ⟨it, fp, tn, J, H1, rfl, J1, TU, st2, f2, ⟨ps, hT, hok⟩, q⟩ := h2
  have gT : s2.heap.get? T = some (PySem.W.tabObj ps) := J1.hok T _ hT
  have cd : PySem.W.CodeHd s2.heap c T := TB.code.keeps J1.bk
  refine ⟨J1.nolimit, ?_⟩
  have lts : ∀ b ∈ fp, b < s2.heap.objs.size := fun b hb => by
    obtain ⟨o, e, _⟩ := TU.obj _ _ st2 b hb
    exact Heap.lt_size e
  have nfT : ∀ b ∈ fp, b ≠ T := fun b hb z => by
    have := (f2 b hb).1
    rw [z, hT] at this
    cases this
  -- behind the code object
  have on : ∀ (code : Value) (h3 : Heap) (tk : Nat) (more : Array Value), Heap.ExtBut T s2.heap h3 → s2.heap.objs.size ≤ h3.objs.size → h3.get? T = some (PySem.W.tabObj (ps ++ more)) → TriplesOk (ps ++ more).toList →
      wpAny (model X.prog X.w) X.A (builtinsFor X.env.globals X.env.builtins) (fun bi s4 =>
        ∀ h', h'.Ns s4.heap.objs.size (fun y => if y = ".0" then some (.ref it) else none) → Heap.SameBut s4.heap.objs.size (s4.heap.push { cls := .type "frame", data := .dict #[] }) h' →
          Q' (.ref h'.objs.size) { s4 with
            gens := s4.gens.push (.fresh (.compStart (.GeneratorExp elt [⟨tg, iter, ifs, 0⟩] scope gpos) 0 (.ref it) .none (genEnv scope (cloFrom X.env.cells scope.names []) s4.heap.objs.size code bi X.env))),
            toks := s4.toks + 1 + 1 + 1,
            heap := h'.push { cls := .type "generator", data := .fields #[.int s4.gens.size 0, .str "<genexpr>" (s4.toks + 1), .str (X.env.qual ++ "<genexpr>") (s4.toks + 1 + 1)] } }) X.xe { s2 with heap := h3, toks := tk } := by
    intro code h3 tk more ext ge3 gT3 ok3
    have J3 : Inv X pins σ (upd H1 T (.tbl (ps ++ more))) { s2 with heap := h3, toks := tk } := GxR.inv_tab (g' := s2.gens) (d' := s2.drawn) J1 hT ext gT3 J1.bare
    have tb : GxR.Tabbed T H1 (upd H1 T (.tbl (ps ++ more))) := ⟨⟨_, upd_same, ok3⟩, fun b nb => upd_ne nb⟩
    obtain ⟨W, ⟨m0, w0⟩, turn⟩ := q _ tb
    obtain ⟨bm, ob, e1, e2, _, e4, e5, e6, e7, e8⟩ := TB.bm
    refine wpAny_builtinsFor (m := X.mg) (by rw [J3.ok.glob]; exact J3.mod.glob.keeps J3.bk) e1 e2 (ext _ _ e4 (J1.bk _ _ e5)) e6 e7 e8 ?_
    intro h' hn hsb
    have f3 : ∀ b ∈ fp, FpOk X pins (upd H1 T (.tbl (ps ++ more))) b ∧ b < h3.objs.size := fun b hb => by
      refine ⟨⟨?_, (f2 b hb).2⟩, Nat.lt_of_lt_of_le (lts b hb) ge3⟩
      rw [upd_ne (nfT b hb)]
      exact (f2 b hb).1
    have st3 : tn 0 h3 := TU.keep _ _ _ st2 fun b hb o e => ext b o (nfT b hb) e
    have nf3 : ∀ b ∈ fp, (upd H1 T (.tbl (ps ++ more))) b = none := fun b hb => (f3 b hb).1.1
    generalize hH3 : upd H1 T (.tbl (ps ++ more)) = H3 at J3 w0 f3 nf3
    generalize hs3 : ({ s2 with heap := h3, toks := tk } : Shared) = s3 at J3 hn hsb ⊢
    have eh : s3.heap = h3 := by rw [← hs3]
    have szh : h'.objs.size = s3.heap.objs.size + 1 := by rw [hsb.1, Heap.size_push]
    have kp : ∀ b o, s3.heap.get? b = some o → h'.get? b = some o := fun b o e => hsb.extBut b o (Nat.ne_of_lt (Heap.lt_size e)) (Heap.get?_push_of_some _ e)
    generalize hoG : ({ cls := .type "generator", data := .fields #[.int s3.gens.size 0, .str "<genexpr>" (s3.toks + 1), .str (X.env.qual ++ "<genexpr>") (s3.toks + 1 + 1)] } : Obj) = oG
    have na : h'.objs.size ∉ fp := fun z => by
      have := (f3 _ z).2
      rw [← eh] at this
      exact Nat.lt_irrefl _ (Nat.lt_of_lt_of_le this (by rw [szh]; exact Nat.le_succ _))
    have start := gx_start (A' := Ac.in1.over (.compLoop (.GeneratorExp elt [⟨tg, iter, ifs, 0⟩] scope gpos) 0 (.ref it) .none (genE X scope s3.heap.objs.size code)) []) (code := code) (it := .ref it) (oG := oG)
      (g' := s3.gens.push (.fresh (.compStart (.GeneratorExp elt [⟨tg, iter, ifs, 0⟩] scope gpos) 0 (.ref it) .none (genE X scope s3.heap.objs.size code)))) (t' := s3.toks + 1 + 1 + 1) J3 ok hN (fun b hb => ⟨(f3 b hb).1, by rw [eh]; exact (f3 b hb).2⟩) hA (over_gen hfr) hn hsb
      (fun v => by rw [← hoG]; exact fun z => nomatch z) (J3.bare.push rfl) (by rw [← hoG]; rfl)
    have rm : Room k (Ac.in1.over (.compLoop (.GeneratorExp elt [⟨tg, iter, ifs, 0⟩] scope gpos) 0 (.ref it) .none (genE X scope s3.heap.objs.size code)) []) :=
      room_gen hA (by have := hr.dp; show Ac.depth + 1 + 3 * k + 5 < _; omega) (by have := hr.un; show Ac.units + 1 + 3 + 16 * k + 200 < _; omega)
    let Px : Pins → Prop := fun px => ∀ p ∈ px, h'.objs.size + 1 ≤ p.1
    have hPx : ∀ px, Px px → ∀ p ∈ px, p.1 ∉ fp := fun px z p hp q => by
      have l1 : h'.objs.size + 1 ≤ p.1 := z p hp
      have l2 := (f3 _ q).2
      rw [← eh] at l2
      have l0 : s3.heap.objs.size ≤ h'.objs.size + 1 := by omega
      exact Nat.lt_irrefl _ (Nat.lt_of_lt_of_le l2 (Nat.le_trans l0 l1))
    refine hQ (fun px H' s' => Px px ∧ Inv (gxl X Ac.in1 elt tg iter ifs scope gpos it (genE X scope s3.heap.objs.size code) s3 H3 fp) ((h'.objs.size, oG) :: px) (wipe σ (own.map (·.2))) H' s') tn fp W h'.objs.size s3.gens.size m0 H3 _ ?_ ?_
    · have bk : ∀ {px : Pins} {H' : Hp} {s' : Shared}, Inv (gxl X Ac.in1 elt tg iter ifs scope gpos it (genE X scope s3.heap.objs.size code) s3 H3 fp) ((h'.objs.size, oG) :: px) (wipe σ (own.map (·.2))) H' s' → Inv X pins σ H' s' := fun I' =>
        J3.call' (ch := fp) I'.os I'.base I'.hok I'.bare fun b hb => ⟨(f3 b hb).1.2.2.2.1, (f3 b hb).1.2.1, (f3 b hb).1.2.2.2.2.1, (f3 b hb).1.2.2.2.2.2⟩
      refine ⟨fun I' => I'.2.bare, fun I' hb => ⟨I'.1, I'.2.ok, I'.2.os, hb, I'.2.base, I'.2.loc, I'.2.cell, I'.2.free, I'.2.freeC, I'.2.pin, I'.2.hok, I'.2.len⟩, fun I' kk => ⟨I'.1, I'.2.kept kk⟩, fun I' => ?_, fun I' => I'.2.nolimit, fun I' => bk I'.2, ?_, ?_, ?_, ?_, ?_⟩
      · have z := (I'.2.pin (h'.objs.size, oG) (by simp)).1
        rw [← hoG] at z
        exact ⟨_, _, _, z, rfl, rfl, rfl⟩
      · intro H' s' h2' tk' S o I' kk hS e nc
        have g0 := (I'.2.pin (h'.objs.size, oG) (by simp)).1
        have l0 := Heap.lt_size g0
        refine ⟨fun p hp => ?_, ?_⟩
        · rw [List.mem_singleton.mp hp]
          exact Nat.le_trans l0 hS
        · have K1 := I'.2.kept (t' := tk') kk
          have F := I'.2.fpOk (b := S) hS (I'.2.hok.fresh hS)
          refine K1.pins_of fun p hp => ?_
          rcases List.mem_cons.mp hp with z | z
          · rw [z]
            exact K1.pin _ (by simp)
          · rw [List.mem_singleton.mp z]
            exact ⟨e, F.1, F.2.1, F.2.2.1, nc⟩
      · intro H' s' h2' tk' S o o' I' kk e nc
        obtain ⟨p1, I1⟩ := I'
        obtain ⟨q1, q2, q3, q4, q5⟩ := I1.pin (S, o) (by simp)
        have lS : h'.objs.size + 1 ≤ S := p1 (S, o) (by simp)
        have Iu : Inv (gxl X Ac.in1 elt tg iter ifs scope gpos it (genE X scope s3.heap.objs.size code) s3 H3 fp) [(h'.objs.size, oG)] (wipe σ (own.map (·.2))) H' s' := I1.pins_of fun p hp => I1.pin p (by rw [List.mem_singleton.mp hp]; simp)
        have K1 := Iu.turned (t' := tk') (it := S) kk q2 q3 (.inr (by show s3.heap.objs.size ≤ S; omega)) (fun y cc ec z => ?_) (fun p hp z => ?_)
        · refine ⟨fun p hp => by rw [List.mem_singleton.mp hp]; exact lS, K1.pins_of fun p hp => ?_⟩
          rcases List.mem_cons.mp hp with z | z
          · rw [z]
            exact K1.pin _ (by simp)
          · rw [List.mem_singleton.mp z]
            exact ⟨e, q2, q3, q4, nc⟩
        · obtain ⟨v, zc⟩ := J3.cell y cc (by
            have ec' : (cloFrom X.env.cells scope.names []).lookup y = some cc := ec
            rcases cloFrom_mem (PySem.mem_of_lookup ec') with hm | ⟨h1, rfl⟩
            · cases hm
            · obtain ⟨c0, hc0⟩ := free _ h1 rfl
              rw [hc0]
              rfl)
          have l0 : s3.heap.objs.size ≤ h'.objs.size + 1 := by omega
          have l4 := zc.lt
          rw [z] at l4
          exact Nat.lt_irrefl _ (Nat.lt_of_lt_of_le l4 (Nat.le_trans l0 lS))
        · have hp' : p = (h'.objs.size, oG) := by simpa using hp
          rw [hp'] at z
          have z' : h'.objs.size = S := z
          omega
      · intro H' s' S o I'
        exact (I'.2.pin (S, o) (by simp)).1
      · exact fun st kk => TU.keep _ _ _ st fun b _ o e => kk b o e
      · intro H' s' S o i h2' I' st kk
        refine TU.keep _ _ _ st fun b hb ob e => kk b ob (fun z => ?_) e
        exact hPx _ I'.1 (S, o) (by simp) (z ▸ hb)
    · refine ⟨⟨fun p hp => (nomatch hp), start⟩, TU.keep _ _ _ st3 fun b hb o e => Heap.get?_push_of_some _ (kp b o (by rw [eh]; exact e)), nf3, w0, _, Array.getElem?_push_size .., fun PX px s'' hX I'' st'' hg'' => ⟨rfl, ?_⟩⟩
      exact gx_seg0 TU st'' (gx_segL TU na ok.co (hg _ s3 H3 _ code fp) (ht _ s3 H3 _ code fp rm) (he _ s3 H3 _ code fp rm) turn _ Px hPx rfl m0 (m0 + 1) 0 [] px H3 s'' s'' (Nat.lt_succ_self _) (fun p hp => (I''.2.pin p (by simp [hp])).1) hX I'' st'' nf3 w0 hg'')
  cases among : codeAmong gpos ps.toList with
  | some cv =>
    refine wpAny_genexprCode_hit hcode (cd.code gT hok) among ?_
    exact on cv s2.heap s2.toks #[] (Heap.ExtBut.refl _ _) (Nat.le_refl _) (by rw [Array.append_empty]; exact gT) (by rw [Array.append_empty]; exact hok)
  | none =>
    refine wpAny_genexprCodeX hcode (cd.code gT hok) (cd.tab gT) among fun c' h' tk hx hge hlt isC _ tab' _ => ?_
    obtain ⟨_, _, _, _, _, _, _, _, _, _, _, _, _, _, _, _, _, _, _, ok', _⟩ := isC
    exact on _ h' tk _ hx (Nat.le_trans hge (Nat.le_of_lt hlt)) tab'.2 ok'
end
/-! ### tuple(..) of a generator expression -/
abbrev lsO (acc : Array Value) (c : Nat) : Obj := { cls := .type "list", dict := none, data := .seq acc c, slots := #[] }
def pxL (S : Addr) : List V → Pins → Prop := fun ys px => ∃ acc c, px = [(S, lsO acc c)] ∧ Vals ys acc.toList
abbrev outL (W : Nat → Nat → List V → Hp → Prop) : Nat → Nat → List V → V → Hp → Prop := fun i m ys y H' => ys.length < sizeLine ∧ ∃ m', m' < m ∧ W (i + 1) m' (ys ++ [y]) H'
section
variable {X : Cx} {pins : List (Addr × Obj)} {σ : L2.St} {IG : Pins → Hp → Shared → Prop} {tn : Nat → Heap → Prop} {fp : List Addr} {W : Nat → Nat → List V → Hp → Prop} {Fin : List V → Hp → Prop} {a : Addr} {gn : Nat} {B : Around}
theorem vals_lenG {ys : List V} {acc : Array Value} (h : Vals ys acc.toList) : acc.size = ys.length := by
  rw [← Array.length_toList]
  exact h.length.symm
theorem gx_extend {S : Addr} {res : Value} {R : Result → Shared → Prop} (ig : IGokL X pins σ a gn tn IG) (hA : B.handled = none) (hd : B.depth < recursionLimit)
    (hR : ∀ ys acc c H s, Vals ys acc.toList → Fin ys H → IG [(S, lsO acc c)] H s → R (.ok (.ret res)) s) : ∀ (n i m : Nat) (ys : List V) (px : Pins) (H : Hp) (s : Shared),
    GRunL X B.in1 IG (pxL S) tn fp W (outL W) Fin gn i m n ys px H s → codeAny (model X.prog X.w) B (.builtin "list.extend.loop" ⟨[.ref S, .ref a, res], []⟩) R s := by
  intro n
  induction n with
  | zero =>
    intro i m ys px H s G
    obtain ⟨_, _, _, _, _, gs, _, h, _⟩ := G
    exact absurd h (Nat.not_lt_zero _)
  | succ n ih =>
    intro i m ys px H s G
    refine codeAny_builtin F.entry_extend_loop (Around.under_plainId (A := B) F.plain_extend_loop _ ▸ ?_)
    show wpAny _ B.in1 (pyNext (.ref a) >>= _) _ _ s
    refine wpAny_bind (gx_nextL ig hA hd G (fun v y H' s' i' m' ys' px' _ r out hX I' st' cont => ?_) fun ys' H' s' px' _ fin hX I' => ?_)
    · obtain ⟨acc, c, rfl, hv⟩ := hX
      obtain ⟨hlt, m'', hm, w'⟩ := out
      have own := ig.own I'
      have ln := vals_lenG hv
      have oth : ∀ b u, b ≠ S → s'.heap.get? b = some u → (s'.heap.update S (Obj.mapSeq (·.push v))).get? b = some u := fun b u nb e => (Heap.get?_update_other _ _ (Ne.symm nb)).trans e
      have self := Heap.get?_update_self (Obj.mapSeq (·.push v)) own rfl
      show wpAny _ B.in1 (updateSeq S (·.push v) >>= _) _ _ _
      refine wpAny_bind (wpAny_updateSeq own rfl (wpAny_pure ⟨plainId_quiet F.plain_extend_loop _, ih (i' + 1) m'' _ _ H' _ (cont m'' _ _ s'.toks hm w' ⟨acc.push v, _, rfl, ?_⟩ (ig.put I' oth self fun u z => nomatch z) (ig.tnp I' st' oth))⟩) (by omega)
        (by show (acc.push v).size ≤ sizeLine + 1; rw [Array.size_push]; omega))
      rw [Array.toList_push]
      exact Paired.snoc hv r
    · obtain ⟨acc, c, rfl, hv⟩ := hX
      exact wpAny_pure (hR ys' acc c H' s' hv fin I')
/-- what is collected from it -/
theorem gx_collect {Q : List Value → Shared → Prop} {E : Value → Shared → Prop} {m : Nat} {H : Hp} {s : Shared} (ig : IGokL X pins σ a gn tn IG) (hA : B.handled = none) (hd : B.depth < recursionLimit)
    (G : GStartL X B.in1 IG tn fp W (outL W) Fin gn m H s) (hQ : ∀ ys (acc : Array Value) H' s', Vals ys acc.toList → Fin ys H' → Inv X pins σ H' s' → Q acc.toList s') : wpAny (model X.prog X.w) B (collect (.ref a)) Q E s := by
  have g0 := ig.isgen G.1
  have lt : (a : Nat) < s.heap.objs.size := by
    obtain ⟨o, nm, qn, ho, _⟩ := g0
    exact Heap.lt_size ho
  have nSa : s.heap.objs.size ≠ a := Nat.ne_of_gt lt
  unfold collect
  refine wpAny_bind (wpAny_runValue (codeAny_builtin F.entry_proto_collect (Around.under_plainId (A := B) F.plain_proto_collect _ ▸ ?_)))
  show wpAny _ B.in1 (newList [] >>= fun l => again (.builtin "list.__iadd__" ⟨[l, .ref a], []⟩)) _ _ s
  refine wpAny_bind (wpAny_newObj_type (wpAny_pure ⟨plainId_quiet F.plain_list_iadd _, codeAny_builtin F.entry_list_iadd (Around.under_plainId (A := B) F.plain_list_iadd _ ▸ ?_)⟩))
  have k1 : ∀ b u, s.heap.get? b = some u → (s.heap.push { cls := .type "list", data := .seq ([] : List Value).toArray }).get? b = some u := fun b u e => Heap.get?_push_of_some _ e
  have gS : (s.heap.push { cls := .type "list", data := .seq ([] : List Value).toArray }).get? s.heap.objs.size = some (lsO #[] 0) := Heap.get?_push_size _ rfl
  generalize s.heap.push { cls := .type "list", data := .seq ([] : List Value).toArray } = h1 at k1 gS
  have ty : Shared.TypeIs { s with heap := h1 } (.ref a) "generator" := Heap.IsGen.typeIs (s := { s with heap := h1 }) (g0.keeps k1)
  show wpAny _ B.in1 (Builtin.List.listExtendWith (.ref s.heap.objs.size) (.ref a) (.ref s.heap.objs.size)) _ _ _
  unfold Builtin.List.listExtendWith
  refine wpAny_bind (wpAny_typeOf ty ?_)
  simp only [show Builtin.List.listSameRef (.ref s.heap.objs.size) (.ref a) = false by simp [Builtin.List.listSameRef, nSa], show (Value.type "generator" == Value.type "list") = false by decide, show (Value.type "generator" == Value.type "tuple") = false by decide, Bool.or_false, Bool.false_eq_true, if_false]
  refine wpAny_bind (wpAny_pyIter_gen (s := { s with heap := h1 }) (g0.keeps k1) (wpAny_bind (wpAny_holding ?_)))
  unfold Builtin.List.listLengthHint
  refine wpAny_bind (wpAny_specialOf ty F.gen_no_len ?_)
  show wpAny _ B.in1 (specialOf (Value.ref a) (Str.ofString "__length_hint__") >>= _) _ _ _
  refine wpAny_bind (wpAny_specialOf ty F.gen_no_hint (wpAny_pure ?_))
  show wpAny _ B.in1 (rule "list.extend.makes-room" >>= fun _ => Builtin.List.listTouch (.ref s.heap.objs.size) >>= fun _ => again (.builtin "list.extend.loop" ⟨[.ref s.heap.objs.size, .ref a, .ref s.heap.objs.size], []⟩)) _ _ _
  refine wpAny_bind (wpAny_rule (wpAny_bind ?_))
  show wpAny _ B.in1 (updateSeq s.heap.objs.size (·.push .none) >>= fun _ => updateSeq s.heap.objs.size (·.pop)) _ _ _
  refine wpAny_bind (wpAny_updateSeq gS rfl ?_)
  have gS2 := Heap.get?_update_self (Obj.mapSeq (·.push Value.none)) gS rfl
  refine wpAny_updateSeq gS2 rfl ?_
  have gS3 := Heap.get?_update_self (Obj.mapSeq (·.pop)) gS2 rfl
  have oth : ∀ b u, b ≠ s.heap.objs.size → h1.get? b = some u → ((h1.update s.heap.objs.size (Obj.mapSeq (·.push Value.none))).update s.heap.objs.size (Obj.mapSeq (·.pop))).get? b = some u := fun b u nb e =>
    (Heap.get?_update_other _ _ (Ne.symm nb)).trans ((Heap.get?_update_other _ _ (Ne.symm nb)).trans e)
  have I1 := ig.add (tk := s.toks) G.1 k1 (Nat.le_refl _) gS fun u z => nomatch z
  have st1 := ig.tnk G.2.1 k1
  have I3 := ig.put (tk := s.toks) I1 oth gS3 fun u z => nomatch z
  have st3 := ig.tnp I1 st1 oth
  refine wpAny_pure ⟨plainId_quiet F.plain_extend_loop _, gx_extend ig hA hd (fun ys acc c H' s' hv fin I' => ?_) (m + 1) 0 m [] _ H _ (G.run (PX := pxL s.heap.objs.size) ⟨#[], _, rfl, .nil⟩ I3 st3)⟩
  show wpAny _ B (load s.heap.objs.size >>= _) _ _ s'
  exact wpAny_bind (wpAny_load (ig.own I') (wpAny_pure (hQ ys acc H' s' hv fin (ig.back I'))))
theorem gx_tuple {A : Around} {Q : Value → Shared → Prop} {E : Value → Shared → Prop} {m : Nat} {H : Hp} {s : Shared} (ig : IGokL X pins σ a gn tn IG) (hA : A.handled = none) (hd : A.depth < recursionLimit)
    (G : GStartL X A.in1.in1.in1 IG tn fp W (outL W) Fin gn m H s) (hz : ∀ ys H', Fin ys H' → ys.length ≤ sizeLine)
    (hQ : ∀ ys (acc : Array Value) H' s', Vals ys acc.toList → Fin ys H' → Inv X pins σ H' s' → Q (.ref s'.heap.objs.size) { s' with heap := s'.heap.push { cls := .type "tuple", data := .seq acc } }) :
    wpAny (model X.prog X.w) A (call (.type "tuple") [.ref a]) Q E s := by
  refine callType_codes (Q₁ := fun obj s1 => s1.TypeIs obj "tuple" ∧ Q obj s1) F.called_tuple (F.typeCall_tuple_1 _) F.entry_object_init (codeAny_of_tree ?_) fun obj s1 h1 =>
    ⟨h1.1, F.args_object_init_2 obj _, object_init_meets F.called_tuple.init.lookup F.called_tuple.made (by decide) X.prog X.w A.in1 _ s1 ⟨h1.1, rfl, h1.2⟩⟩
  show wpAny _ A.in1.in1 (do checkBuiltinCall "tuple.__new__" ⟨[.type "tuple", .ref a], []⟩; again (.builtin "tuple.__new__" ⟨[.type "tuple", .ref a], []⟩)) _ _ s
  refine wpAny_bind (wpAny_of_eq (F.newCall_tuple_1 _) (wpAny_pure ⟨plainId_quiet F.plain_tuple_new _, codeAny_builtin F.entry_tuple_new (Around.under_plainId (A := A.in1) F.plain_tuple_new _ ▸ ?_)⟩))
  have e1 := sub_tuple_self
  have e2 := init_tuple_lookup
  have e3 := madeHere_tuple
  have ty : s.TypeIs (.ref a) "generator" := Heap.IsGen.typeIs (ig.isgen G.1)
  wp_walk using wpAny_typeOf ty, gx_collect (B := A.in1.in1) ig hA hd G
  intro ys acc H' s' hv fin I'
  show wpAny _ _ (Builtin.Tuple.tupleExact acc.toList.toArray >>= fun v => ret v) _ _ _
  unfold Builtin.Tuple.tupleExact
  rw [show acc.toList.toArray = acc by simp]
  exact wpAny_bind (wpAny_newObj_type (wpAny_pure ⟨⟨_, Heap.get?_push_size _ rfl, rfl⟩, hQ ys acc H' s' hv fin I'⟩) (by show acc.size ≤ sizeLine; rw [vals_lenG hv]; exact hz ys H' fin))
end
def tTupG (T : Addr) (wi : TI) (g : TG) (tt : TT) (te : TE) (vs : List Nat) : TE := fun σ H Q => wi σ H fun J H1 => GxR.TabG H1 T ∧ ∀ H2, GxR.Tabbed T H1 H2 → ∃ W : Nat → Nat → List V → Hp → Prop, (∃ m, W 0 m [] H2) ∧
  GTurnsL J g tt te vs σ W (outL W) (fun ys H' => ys.length ≤ sizeLine ∧ ∀ p, H' p = none → Q (.ref p) (upd H' p (.tup ys)))
section
variable {X : Cx} {pins : List (Addr × Obj)} {σ : L2.St}
theorem pe_tupG {c T : Addr} {elt tg iter : Expr} {ifs : List Expr} {scope : Scope} {own : List (Str × Nat)} {gpos p pos : Pos} {wi : TI} {g : TG} {tt : TT} {te : TE} {k : Nat}
    (hr : Room (k + 1) X.A) (hgl : Gl X "tuple") (hm : X.mg "tuple" = none) (hc : X.calm = true) (hN : X.N.Nodup) (TB : GxR.TabB X.base X.mg c T) (hcode : X.env.code = .ref c) (ok : GOk X.N X.env.scope scope own) (hi : PI X tg iter wi)
    (hg : ∀ (A' : Around) (s3 : Shared) (H3 : Hp) (C : Addr) (code : Value) (fp : List Addr), PG (gxc X A' s3 H3 (genE X scope C code) fp) tg g)
    (ht : ∀ (A' : Around) (s3 : Shared) (H3 : Hp) (C : Addr) (code : Value) (fp : List Addr), Room k A' → PTs (gxc X A' s3 H3 (genE X scope C code) fp) ifs tt)
    (he : ∀ (A' : Around) (s3 : Shared) (H3 : Hp) (C : Addr) (code : Value) (fp : List Addr), Room k A' → PE (gxc X A' s3 H3 (genE X scope C code) fp) elt te)
    (hs : ∀ v, genFold iter X.env v = pure v := by intro _; rfl)
    (hst : starEach [.GeneratorExp elt [⟨tg, iter, ifs, 0⟩] scope gpos] X.env = (false, eval (.GeneratorExp elt [⟨tg, iter, ifs, 0⟩] scope gpos) X.env) :: starEach [] X.env := by rfl) :
    PE X (.Call (.Name "tuple" p) [.GeneratorExp elt [⟨tg, iter, ifs, 0⟩] scope gpos] [] pos) (tTupG T wi g tt te (own.map (·.2))) := by
  refine ⟨fun pins s σ H Q I h => wpAny_Call_Name_kw (ld_blt I hgl hm (show bootBuiltins "tuple" = some (.type "tuple") by decide +kernel) ?_)⟩
  refine PyProof.Rows.callWith_type1 ?_ hst (by rfl)
  rw [hst]
  have hA := I.ok.hd hc
  have hf := I.ok.frames
  refine Calls.spliced_cons (gx_mkL (Outf := outL) (Fin := fun ys H' => ys.length ≤ sizeLine ∧ ∀ p, H' p = none → Q (.ref p) (upd H' p (.tup ys)))
    X.A.in1.in1.in1 hA hf (Nat.le_refl _) (by show X.A.units + 1 + 1 + 1 ≤ _; omega) hr hc hN TB hcode ok hi hg ht he hs I h ?_)
  intro IG tn fp W a gn m H2 s5 ig G
  refine Calls.spliced_nil (gx_tuple ig hA (Nat.lt_of_le_of_lt (by omega : X.A.depth ≤ X.A.depth + 3 * (k + 1) + 5) hr.dp) G (fun ys H' z => z.1) fun ys acc H' s' hv fin I' => ?_)
  have nw := I'.hok.fresh (Nat.le_refl s'.heap.objs.size)
  exact ⟨.ref s'.heap.objs.size, _, I'.laid (t' := s'.toks) (o := .tup ys) (fun b u e => Heap.get?_push_of_some _ e) (Nat.le_refl _) ⟨fin.1, acc.toList, hv, ⟨_, Heap.get?_push_size _ rfl, rfl, 0, by show Data.seq acc 0 = Data.seq acc.toList.toArray 0; rw [Array.toArray_toList]⟩⟩, rfl, fin.2 _ nw⟩
end
/-! ### entries that are entries -/
abbrev TB2 (T1 T2 : Addr) (H H' : Hp) : Prop := (∀ b o, H b = some o → b ≠ T1 → b ≠ T2 → H' b = some o) ∧ GxR.TabG H' T1 ∧ GxR.TabG H' T2
theorem TB2.tr {T1 T2 : Addr} {H H1 H2 : Hp} (a : TB2 T1 T2 H H1) (b : TB2 T1 T2 H1 H2) : TB2 T1 T2 H H2 := ⟨fun c o e n1 n2 => b.1 c o (a.1 c o e n1 n2) n1 n2, b.2⟩
theorem tabg_same {H H' : Hp} {T : Addr} (b : Same H H') (t : GxR.TabG H T) : GxR.TabG H' T := by
  obtain ⟨ps, e, ok⟩ := t
  exact ⟨ps, b T _ e, ok⟩
theorem TB2.same {T1 T2 : Addr} {H H' : Hp} (t1 : GxR.TabG H T1) (t2 : GxR.TabG H T2) (h : Same H H') : TB2 T1 T2 H H' := ⟨fun b o e _ _ => h b o e, tabg_same h t1, tabg_same h t2⟩
theorem TB2.one {T1 T2 : Addr} {H H' : Hp} (ne : T1 ≠ T2) (t2 : GxR.TabG H T2) (h : GxR.Tabbed T1 H H') : TB2 T1 T2 H H' := by
  obtain ⟨ps, e, ok⟩ := t2
  exact ⟨fun b o e n1 _ => (h.2 b n1).trans e, h.1, ps, (h.2 T2 ne.symm).trans e, ok⟩
theorem TB2.two {T1 T2 : Addr} {H H' : Hp} (ne : T1 ≠ T2) (t1 : GxR.TabG H T1) (h : GxR.Tabbed T2 H H') : TB2 T1 T2 H H' := by
  obtain ⟨ps, e, ok⟩ := t1
  exact ⟨fun b o e _ n2 => (h.2 b n2).trans e, ⟨ps, (h.2 T1 ne).trans e, ok⟩, h.1⟩
/-- what is no table stays -/
theorem TB2.keep {T1 T2 : Addr} {H H' : Hp} (h : TB2 T1 T2 H H') (t1 : GxR.TabG H T1) (t2 : GxR.TabG H T2) {a : Addr} {o : HO} (e : H a = some o) (n : ∀ ps, o ≠ .tbl ps) : H' a = some o := by
  obtain ⟨p1, e1, _⟩ := t1
  obtain ⟨p2, e2, _⟩ := t2
  exact h.1 a o e (ne_of e e1 (n p1)) (ne_of e e2 (n p2))
def nmV : V → Bool
  | .str z => nameB z
  | _ => false
def bnd (x : Str) : Int × Int := if x = "moment" then (0, 9999) else if x = "many" then (1, 1000000000) else (0, 1000000000)
def inB (x : Str) : V → Bool
  | .int i => decide ((bnd x).1 ≤ i) && decide (i ≤ (bnd x).2)
  | _ => false
def fitB (v : V) (x : Str) : Bool := if x = "name" then nmV v else if x = "end" then (decide (v = .str "") || nmV v) else inB x v
def Part (v : V) : Prop := (∃ z : Str, v = .str z ∧ z.length ≤ 1000) ∨ ∃ i, v = .int i
def sorts4 : List Str := ["moment", "many", "counted", "price"]
def sorts6 : List Str := ["name", "end", "moment", "many", "counted", "price"]
def spWhole : Sp := fun vs H Q _ => ∃ v : V, vs = [v] ∧ Part v ∧ Q (.bl (match v with | .int _ => true | _ => false)) H
def spFits (T1 : Addr) : Sp := fun vs H Q _ => ∃ (v : V) (x : Str), vs = [v, .str x] ∧ Part v ∧ x ∈ sorts6 ∧ GxR.TabG H T1 ∧ ∀ H', GxR.Tabbed T1 H H' → Q (.bl (fitB v x)) H'
namespace Ent
def sorts : Ent → List Str
  | come .. => ["name", "moment", "name", "name", "many", "price"]
  | go .. => ["name", "moment", "name", "name", "many"]
  | move .. => ["name", "moment", "name", "name", "name", "many"]
  | some_ .. => ["name", "moment", "name", "name", "end"]
  | swap .. => ["name", "moment", "name", "name"]
  | count .. => ["name", "moment", "name", "name", "counted", "name"]
  | look .. => ["name", "moment", "name", "name"]
def parts (e : Ent) : List V := .str e.name :: .int e.moment :: e.rest
def places : Ent → List Str
  | come _ _ _ p _ _ => [p]
  | go _ _ _ p _ => [p]
  | move _ _ _ o t _ => [o, t]
  | some_ _ _ _ o t => if t = "" then [o] else [o, t]
  | swap _ _ o t => [o, t]
  | count _ _ _ p _ _ => [p]
  | look _ _ _ p => [p]
def goodV : Ent → V
  | come _ _ g _ _ _ => .str g
  | go _ _ g _ _ => .str g
  | move _ _ g _ _ _ => .str g
  | some_ _ _ g _ _ => .str g
  | swap _ _ _ _ => .non
  | count _ _ g _ _ _ => .str g
  | look _ _ g _ => .str g
structure Fine (e : Ent) : Prop where
  fit : ∀ (i : Nat) (v : V) (x : Str), e.parts[i]? = some v → e.sorts[i]? = some x → Part v ∧ fitB v x = true
  apart : e.places.Nodup
theorem len_parts (e : Ent) : e.parts.length = e.sorts.length := by cases e <;> rfl
theorem sorts_in (e : Ent) : ∀ x ∈ e.sorts, x ∈ sorts6 := by
  cases e <;> (intro x hx; simp only [sorts, sorts6, List.mem_cons, List.not_mem_nil, or_false] at hx ⊢; rcases hx with rfl | rfl | rfl | rfl | rfl | rfl <;> simp) 
end Ent
def spPlaces : Sp := fun vs H Q _ => ∃ (a : Addr) (e : Ent), vs = [.ref a] ∧ H a = some (.tup e.vals) ∧ ∀ (tp : Addr) (H' : Hp), Same H H' → H' tp = some (.tup (e.places.map V.str)) → Q (.ref tp) H'
def spGood : Sp := fun vs H Q _ => ∃ (a : Addr) (e : Ent), vs = [.ref a] ∧ H a = some (.tup e.vals) ∧ Q e.goodV H
def spDay : Sp := fun vs H Q _ => ∃ m : Int, vs = [.int m] ∧ Q (.int (m / 100)) H
def spIsEntry (T1 T2 : Addr) : Sp := fun vs H Q _ => ∃ (a : Addr) (e : Ent), vs = [.ref a] ∧ H a = some (.tup e.vals) ∧ e.Fine ∧ GxR.TabG H T1 ∧ GxR.TabG H T2 ∧ ∀ H', TB2 T1 T2 H H' → Q (.bl true) H'
section
variable {P : Program} {w : World} {K : PySem.W.Frag} {mg : Str → Option Value} {base : Heap}
theorem scWhole : FnScope ["thing"] ["thing"] (defScope sWhole) := ⟨rfl, rfl, rfl, by decide +kernel, rfl, by decide +kernel, by decide +kernel⟩
theorem scFits : FnScope ["part", "sort", "low", "high"] ["part", "sort"] (defScope sFits) := ⟨rfl, rfl, rfl, by decide +kernel, rfl, by decide +kernel, by decide +kernel⟩
theorem scGood : FnScope ["entry"] ["entry"] (defScope sGood) := ⟨rfl, rfl, rfl, by decide +kernel, rfl, by decide +kernel, by decide +kernel⟩
theorem scPlacesOf : FnScope ["entry", "word"] ["entry"] (defScope sPlacesOf) := ⟨rfl, rfl, rfl, by decide +kernel, rfl, by decide +kernel, by decide +kernel⟩
theorem at0 (e : Ent) : atI e.vals 0 = some (.str e.word) := atI_nat (j := 0) rfl
theorem at2 (e : Ent) : atI e.vals 2 = some (.int e.moment) := atI_nat (j := 2) rfl
theorem ok_whole {f : Addr} {fd : FuncData} (F : Fun K "is_whole" "is_whole" sWhole f fd) (mi : mg "isinstance" = none) (m1 : mg "int" = none) (m2 : mg "bool" = none) : FnOk P w K mg base CX0 1 f fd ["thing"] spWhole := by
  refine F.ok scWhole (fun vs H Q E h => ?_) (fun cdv A outer s H vs Q E hr h => ?_)
  · obtain ⟨v, rfl, _⟩ := h
    rfl
  · obtain ⟨v, rfl, pt, q⟩ := h
    refine ⟨_, pss_one (ps_ret (pe_and (pe_callB call_isi (by rfl) mi (by decide +kernel) (pa_cons (pv 0) (pa_cons (pe_bltn (v := .ty "int") (u := .type "int") (by rfl) m1 (by decide +kernel) rfl) pa_nil)))
      (pe_one (pe_not (pe_callB call_isi (by rfl) mi (by decide +kernel) (pa_cons (pv 0) (pa_cons (pe_bltn (v := .ty "bool") (u := .type "bool") (by rfl) m2 (by decide +kernel) rfl) pa_nil))))))), ?_⟩
    rcases pt with ⟨z, rfl, _⟩ | ⟨i, rfl⟩
    · exact ⟨_, rfl, _, _, _, _, false, rfl, .ty "int", .base (.str z), kit_ty (by decide +kernel), _, rfl, iteF q⟩
    · exact ⟨_, rfl, _, _, _, _, true, rfl, .ty "int", .base (.int i), kit_ty (by decide +kernel), _, rfl, iteT ⟨_, rfl, _, _, _, _, false, rfl, .ty "bool", .base (.int i), kit_ty (by decide +kernel), _, rfl, q⟩⟩
theorem at3 {e : Ent} (h : e.goodV ≠ .non) : atI e.vals 3 = some e.goodV := by
  cases e <;> first | exact atI_nat (j := 3) rfl | exact absurd rfl h
theorem sw_word (e : Ent) : e.word = "swap" ↔ e.goodV = .non := by
  have k1 : ("come" : Str) ≠ "swap" := by decide +kernel
  have k2 : ("go" : Str) ≠ "swap" := by decide +kernel
  have k3 : ("move" : Str) ≠ "swap" := by decide +kernel
  have k4 : ("some" : Str) ≠ "swap" := by decide +kernel
  have k6 : ("count" : Str) ≠ "swap" := by decide +kernel
  have k7 : ("look" : Str) ≠ "swap" := by decide +kernel
  cases e
  · exact ⟨fun h => absurd h k1, fun h => nomatch h⟩
  · exact ⟨fun h => absurd h k2, fun h => nomatch h⟩
  · exact ⟨fun h => absurd h k3, fun h => nomatch h⟩
  · exact ⟨fun h => absurd h k4, fun h => nomatch h⟩
  · exact ⟨fun _ => rfl, fun _ => rfl⟩
  · exact ⟨fun h => absurd h k6, fun h => nomatch h⟩
  · exact ⟨fun h => absurd h k7, fun h => nomatch h⟩
theorem ok_good {f : Addr} {fd : FuncData} (F : Fun K "good_of" "good_of" sGood f fd) : FnOk P w K mg base CX0 1 f fd ["entry"] spGood := by
  refine F.ok scGood (fun vs H Q E h => ?_) (fun cdv A outer s H vs Q E hr h => ?_)
  · obtain ⟨a, e, rfl, _⟩ := h
    rfl
  · obtain ⟨a, e, rfl, ha, q⟩ := h
    refine ⟨_, pss_cons (ps_if (pt_cmpR op_eq (pe_ix ix_tup (pv 0) pe_int (fun _ _ => rfl)) pe_str (nomark _)) (pss_one (ps_ret pe_non)) pss_nil) (pss_one (ps_ret (pe_ix ix_tup (pv 0) pe_int (fun _ _ => rfl)))), ?_⟩
    refine ⟨_, rfl, a, _, 0, _, rfl, rfl, SqT.of ha, at0 e, rfl, _, rfl, ite2 (fun z => ?_) (fun z => ?_)⟩
    · have z' : e.word = "swap" := V.str.inj (of_decide_eq_true z)
      rw [(sw_word e).mp z'] at q
      exact q
    · have z' : e.goodV ≠ .non := fun h => z (decide_eq_true (congrArg V.str ((sw_word e).mpr h)))
      exact ⟨_, rfl, a, _, 3, _, rfl, rfl, SqT.of ha, at3 z', q⟩
theorem ok_fits {f fN fW aB T1 : Addr} {fd dN dW : FuncData} (F : Fun K "fits" "fits" sFits f fd) (N : DefT P w K mg base "is_name" 1 fN dN ["thing"] (spName K T1)) (W : DefT P w K mg base "is_whole" 1 fW dW ["thing"] spWhole)
    (mB : mg "BOUNDS" = some (.ref aB)) (hB : ∀ x ∈ sorts4, ∃ aT, KDct K w aB x (.ref aT) ∧ ∀ H, SqT K H aT [.int (bnd x).1, .int (bnd x).2]) : FnOk P w K mg base CX0 2 f fd ["part", "sort"] (spFits T1) := by
  refine F.ok scFits (fun vs H Q E h => ?_) (fun cdv A outer s H vs Q E hr h => ?_)
  · obtain ⟨v, x, rfl, _⟩ := h
    rfl
  · obtain ⟨v, x, rfl, pt, hx, tg, q⟩ := h
    have nd := scFits.nd
    refine ⟨_, pss_cons (ps_if (pt_cmpR op_eq (pv 1) pe_str (nomark _)) (pss_one (ps_ret (pe_call N.ok hr (by rfl) N.g N.kp N.b .nil pass0 (pa_cons (pv 0) pa_nil)))) pss_nil)
      (pss_cons (ps_if (pt_cmpR op_eq (pv 1) pe_str (nomark _)) (pss_one (ps_ret (pe_or (pe_cmpR op_eq (pv 0) pe_str (nomark _)) (pe_one (pe_call N.ok hr (by rfl) N.g N.kp N.b .nil pass0 (pa_cons (pv 0) pa_nil)))))) pss_nil)
      (pss_cons (ps_asg (pe_ix ix_kdict (pe_glob (v := .ref aB) rfl mB rfl) (pv 1) (fun _ _ => rfl)) (pg_tup (by rfl) (pgs_cons (pg_name (i := 2) nd rfl (Or.inl rfl)) (pgs_cons (pg_name (i := 3) nd rfl (Or.inl rfl)) pgs_nil))))
      (pss_one (ps_ret (pe_and (pe_call W.ok hr (by rfl) W.g W.kp W.b .nil pass0 (pa_cons (pv 0) pa_nil)) (pe_one (pe_chain op_le op_le (pv 2) (pv 0) (pv 3)))))))), ?_⟩
    have same0 : GxR.Tabbed T1 H H := ⟨tg, fun _ _ => rfl⟩
    -- is_name of the part
    have nm : ∀ (Q1 : VK), (∀ H2, GxR.Tabbed T1 H H2 → Q1 (.bl (nmV v)) H2) → spName K T1 ([v] ++ []) H Q1 E0 := fun Q1 h1 => by
      rcases pt with ⟨z, rfl, lz⟩ | ⟨i, rfl⟩
      · exact ⟨_, rfl, tg, .inl ⟨z, rfl, small_sz lz, h1⟩⟩
      · exact ⟨_, rfl, tg, .inr ⟨"int", .base (.int i), by decide +kernel, h1 H same0⟩⟩
    refine ⟨_, rfl, rfl, _, rfl, ite2 (fun e => ?_) (fun e => ?_)⟩
    · have e' : x = "name" := V.str.inj (of_decide_eq_true e)
      refine ⟨_, rfl, nm _ fun H2 tb => ?_⟩
      have z := q H2 tb
      unfold fitB at z
      rw [if_pos e'] at z
      exact z
    · have e1 : ¬ x = "name" := fun h => e (decide_eq_true (congrArg V.str h))
      refine ⟨_, rfl, rfl, _, rfl, ite2 (fun e => ?_) (fun e => ?_)⟩
      · have e' : x = "end" := V.str.inj (of_decide_eq_true e)
        have fe : fitB v x = (decide (v = .str "") || nmV v) := by
          unfold fitB
          rw [if_neg e1, if_pos e']
        have fl : scal v (V.str "") = true := by
          rcases pt with ⟨z, rfl, _⟩ | ⟨i, rfl⟩ <;> rfl
        rw [fe] at q
        refine ⟨_, rfl, fl, decide (v = .str ""), rfl, ?_⟩
        cases hd : decide (v = V.str "") with
        | true =>
          rw [hd] at q
          exact iteT (q H same0)
        | false =>
          rw [hd] at q
          exact iteF ⟨_, rfl, nm _ fun H2 tb => q H2 tb⟩
      · have e2 : ¬ x = "end" := fun h => e (decide_eq_true (congrArg V.str h))
        have x4 : x ∈ sorts4 := by
          simp only [sorts6, sorts4, List.mem_cons, List.not_mem_nil, or_false] at hx ⊢
          rcases hx with h | h | h | h | h | h
          · exact absurd h e1
          · exact absurd h e2
          · exact .inl h
          · exact .inr (.inl h)
          · exact .inr (.inr (.inl h))
          · exact .inr (.inr (.inr h))
        obtain ⟨aT, kd, sq⟩ := hB x x4
        have fe : fitB v x = inB x v := by
          unfold fitB
          rw [if_neg e1, if_neg e2]
        rw [fe] at q
        have q0 := q H same0
        refine ⟨_, rfl, aB, x, _, rfl, rfl, kd, aT, _, rfl, sq H, rfl, _, _, rfl, _, _, rfl, rfl, _, rfl, v, rfl, pt, ?_⟩
        rcases pt with ⟨z, rfl, lz⟩ | ⟨i, rfl⟩
        · exact ⟨_, rfl, iteF q0⟩
        · refine ⟨_, rfl, iteT ⟨_, rfl, _, rfl, (bnd x).1, i, rfl, rfl, _, rfl, ite2 (fun a1 => ?_) (fun a1 => ?_)⟩⟩
          · refine ⟨_, rfl, i, (bnd x).2, rfl, rfl, ?_⟩
            have z : inB x (.int i) = decide (i ≤ (bnd x).2) := by
              show (decide ((bnd x).1 ≤ i) && decide (i ≤ (bnd x).2)) = _
              rw [a1, Bool.true_and]
            rw [z] at q0
            exact q0
          · have z : inB x (.int i) = false := by
              show (decide ((bnd x).1 ≤ i) && decide (i ≤ (bnd x).2)) = _
              rw [Bool.eq_false_iff.mpr a1, Bool.false_and]
            rw [z] at q0
            exact q0
end
/-! ### places_of, is_entry -/
theorem cut_mid {xs : List V} {i j : Nat} (h : j ≤ xs.length) (hi : i ≤ j) : cutV xs (some (i : Int)) (some (j : Int)) = (xs.drop i).take (j - i) := by
  unfold cutV
  rw [HT.sIx_nat, HT.sIx_nat, Nat.min_eq_left h, Nat.min_eq_left (Nat.le_trans hi h)]
theorem no_whole {n i j : Nat} (h : i ≤ n) (hi : 0 < i) : ¬ (HT.sIx n 0 (some (i : Int)) = 0 ∧ HT.sIx n n (some (j : Int)) = n) := by
  rw [HT.sIx_nat, Nat.min_eq_left h]
  omega
section
variable {P : Program} {w : World} {K : PySem.W.Frag} {mg : Str → Option Value} {base : Heap}
theorem bl_of {a b : Str} {k : Bool} (h : decide (V.str a = V.str b) = k) : V.bl (decide (V.str a = V.str b)) = V.bl k := congrArg V.bl h
theorem ok_placesOf {f : Addr} {fd : FuncData} (F : Fun K "places_of" "places_of" sPlacesOf f fd) : FnOk P w K mg base CX0 1 f fd ["entry"] spPlaces := by
  refine F.ok scPlacesOf (fun vs H Q E h => ?_) (fun cdv A outer s H vs Q E hr h => ?_)
  · obtain ⟨a, e, rfl, _⟩ := h
    rfl
  · obtain ⟨a, e, rfl, ha, q⟩ := h
    have nd := scPlacesOf.nd
    refine ⟨_, pss_cons (ps_set (i := 1) nd rfl (Or.inl rfl) (pe_ix ix_tup (pv 0) pe_int (fun _ _ => rfl)))
      (pss_cons (ps_if (pt_cmpR op_eq (pv 1) pe_str (nomark _)) (pss_one (ps_ret (pe_slice sl_tup (pv 0) (po_some pe_int) (po_some pe_int)))) pss_nil)
      (pss_cons (ps_if (PW.pt (pw_or (pt_cmpR op_eq (pv 1) pe_str (nomark _)) (pw_or1 (PW.pt (pw_and (pt_cmpR op_eq (pv 1) pe_str (nomark _)) (pw_and1 (pt_cmpR op_ne (pe_ix ix_tup (pv 0) pe_int (fun _ _ => rfl)) pe_str (nomark _)))))))) (pss_one (ps_ret (pe_slice sl_tup (pv 0) (po_some pe_int) (po_some pe_int)))) pss_nil)
      (pss_one (ps_ret (pe_slice sl_tup (pv 0) (po_some pe_int) (po_some pe_int)))))), ?_⟩
    refine ⟨_, rfl, a, _, 0, _, rfl, rfl, SqT.of ha, at0 e, ?_⟩
    have c1 : decide (V.str "come" = V.str "swap") = false := by decide +kernel
    have c2 : decide (V.str "go" = V.str "swap") = false := by decide +kernel
    have c3 : decide (V.str "move" = V.str "swap") = false := by decide +kernel
    have c4 : decide (V.str "some" = V.str "swap") = false := by decide +kernel
    have c6 : decide (V.str "count" = V.str "swap") = false := by decide +kernel
    have c7 : decide (V.str "look" = V.str "swap") = false := by decide +kernel
    have m1 : decide (V.str "come" = V.str "move") = false := by decide +kernel
    have m2 : decide (V.str "go" = V.str "move") = false := by decide +kernel
    have m4 : decide (V.str "some" = V.str "move") = false := by decide +kernel
    have m6 : decide (V.str "count" = V.str "move") = false := by decide +kernel
    have m7 : decide (V.str "look" = V.str "move") = false := by decide +kernel
    have s1 : decide (V.str "come" = V.str "some") = false := by decide +kernel
    have s2 : decide (V.str "go" = V.str "some") = false := by decide +kernel
    have s6 : decide (V.str "count" = V.str "some") = false := by decide +kernel
    have s7 : decide (V.str "look" = V.str "some") = false := by decide +kernel
    cases e with
    | come nme mo g pl many price =>
      refine ⟨_, rfl, rfl, false, bl_of c1, iteF ⟨_, rfl, rfl, false, bl_of m1, iteF ⟨_, rfl, rfl, false, bl_of s1, iteF ?_⟩⟩⟩
      exact ⟨_, rfl, 4, rfl, 5, rfl, a, _, rfl, SqT.of ha, no_whole (i := 4) (j := 5) (by show 4 ≤ 7; decide) (by decide), fun p np => q p _ (same_new np) (by rw [upd_same]; rfl)⟩
    | go nme mo g pl many =>
      refine ⟨_, rfl, rfl, false, bl_of c2, iteF ⟨_, rfl, rfl, false, bl_of m2, iteF ⟨_, rfl, rfl, false, bl_of s2, iteF ?_⟩⟩⟩
      exact ⟨_, rfl, 4, rfl, 5, rfl, a, _, rfl, SqT.of ha, no_whole (i := 4) (j := 5) (by show 4 ≤ 6; decide) (by decide), fun p np => q p _ (same_new np) (by rw [upd_same]; rfl)⟩
    | move nme mo g one other many =>
      refine ⟨_, rfl, rfl, false, bl_of c3, iteF ⟨_, rfl, rfl, true, bl_of (decide_eq_true rfl), iteT ?_⟩⟩
      exact ⟨_, rfl, 4, rfl, 6, rfl, a, _, rfl, SqT.of ha, no_whole (i := 4) (j := 6) (by show 4 ≤ 7; decide) (by decide), fun p np => q p _ (same_new np) (by rw [upd_same]; rfl)⟩
    | some_ nme mo g one other =>
      refine ⟨_, rfl, rfl, false, bl_of c4, iteF ⟨_, rfl, rfl, false, bl_of m4, iteF ⟨_, rfl, rfl, true, bl_of (decide_eq_true rfl), iteT ?_⟩⟩⟩
      refine ⟨_, rfl, a, _, 5, .str other, rfl, rfl, SqT.of ha, atI_nat (j := 5) rfl, rfl, !decide (V.str other = V.str ""), rfl, ?_⟩
      by_cases z : other = ""
      · rw [decide_eq_true (congrArg V.str z)]
        refine iteF ⟨_, rfl, 4, rfl, 5, rfl, a, _, rfl, SqT.of ha, no_whole (i := 4) (j := 5) (by show 4 ≤ 6; decide) (by decide), fun p np => q p _ (same_new np) ?_⟩
        rw [upd_same]
        show some (HO.tup [V.str one]) = some (HO.tup ((if other = "" then [one] else [one, other]).map V.str))
        rw [if_pos z]
        rfl
      · rw [decide_eq_false fun h => z (V.str.inj h)]
        refine iteT ⟨_, rfl, 4, rfl, 6, rfl, a, _, rfl, SqT.of ha, no_whole (i := 4) (j := 6) (by show 4 ≤ 6; decide) (by decide), fun p np => q p _ (same_new np) ?_⟩
        rw [upd_same]
        show some (HO.tup [V.str one, V.str other]) = some (HO.tup ((if other = "" then [one] else [one, other]).map V.str))
        rw [if_neg z]
        rfl
    | swap nme mo one other =>
      refine ⟨_, rfl, rfl, true, bl_of (decide_eq_true rfl), iteT ?_⟩
      exact ⟨_, rfl, 3, rfl, 5, rfl, a, _, rfl, SqT.of ha, no_whole (i := 3) (j := 5) (by show 3 ≤ 5; decide) (by decide), fun p np => q p _ (same_new np) (by rw [upd_same]; rfl)⟩
    | count nme mo g pl many hand =>
      refine ⟨_, rfl, rfl, false, bl_of c6, iteF ⟨_, rfl, rfl, false, bl_of m6, iteF ⟨_, rfl, rfl, false, bl_of s6, iteF ?_⟩⟩⟩
      exact ⟨_, rfl, 4, rfl, 5, rfl, a, _, rfl, SqT.of ha, no_whole (i := 4) (j := 5) (by show 4 ≤ 7; decide) (by decide), fun p np => q p _ (same_new np) (by rw [upd_same]; rfl)⟩
    | look nme mo g pl =>
      refine ⟨_, rfl, rfl, false, bl_of c7, iteF ⟨_, rfl, rfl, false, bl_of m7, iteF ⟨_, rfl, rfl, false, bl_of s7, iteF ?_⟩⟩⟩
      exact ⟨_, rfl, 4, rfl, 5, rfl, a, _, rfl, SqT.of ha, no_whole (i := 4) (j := 5) (by show 4 ≤ 5; decide) (by decide), fun p np => q p _ (same_new np) (by rw [upd_same]; rfl)⟩
theorem once_nodup : ∀ {xs : List Str}, xs.Nodup → once xs = xs := by
  intro xs
  have key : ∀ (l acc : List Str), (acc ++ l).Nodup → l.foldl (fun acc x => if acc.contains x = true then acc else acc ++ [x]) acc = acc ++ l := by
    intro l
    induction l with
    | nil => intro acc _; rw [List.append_nil]; rfl
    | cons x r ih =>
      intro acc h
      have nx : ¬ acc.contains x = true := fun z => by
        have hx : x ∈ acc := by simpa using z
        rw [List.nodup_append] at h
        exact h.2.2 x hx x List.mem_cons_self rfl
      rw [List.foldl_cons, if_neg nx]
      have e : acc ++ x :: r = (acc ++ [x]) ++ r := by rw [List.append_assoc]; rfl
      rw [e] at h ⊢
      exact ih _ h
  intro h
  exact key xs [] h
abbrev isN : List Str := ["thing", "sorts", "places", "part", "sort"]
theorem scIs : FnScope isN ["thing"] (defScope sIsEntry) := ⟨rfl, rfl, rfl, by decide +kernel, rfl, by decide +kernel, by decide +kernel⟩
theorem vals_cut (e : Ent) : cutV e.vals (some 1) none = e.parts := by
  have h : cutV e.vals (some ((1 : Nat) : Int)) none = e.parts := by
    unfold cutV
    rw [HT.sIx_nat, HT.sIx_none]
    have l : 1 ≤ e.vals.length := by show 1 ≤ _ + 1; omega
    rw [Nat.min_eq_left l]
    show (e.parts).take (e.parts.length + 1 - 1) = e.parts
    rw [Nat.add_sub_cancel]
    exact List.take_length
  exact h
theorem places_le (e : Ent) : e.places.length ≤ 2 := by
  cases e with
  | some_ n m g o t =>
    by_cases z : t = ""
    · rw [show Ent.places (.some_ n m g o t) = [o] from if_pos z]
      exact Nat.le_succ 1
    · rw [show Ent.places (.some_ n m g o t) = [o, t] from if_neg z]
      exact Nat.le_refl 2
  | move _ _ _ _ _ _ => exact Nat.le_refl 2
  | swap _ _ _ _ => exact Nat.le_refl 2
  | come _ _ _ _ _ _ => exact Nat.le_succ 1
  | go _ _ _ _ _ => exact Nat.le_succ 1
  | count _ _ _ _ _ _ => exact Nat.le_succ 1
  | look _ _ _ _ => exact Nat.le_succ 1
theorem ok_isEntry {f cE T1 T2 aF fF fP : Addr} {dF dP : FuncData} {oc kV doc pm ct : Value} {od an : Option Addr} {osl : Array (Option Value)} {es : Array DictEntry} {nE : Nat}
    (lk : K.lookup f = some ⟨oc, od, .func (PySem.W.fnOf "is_entry" "is_entry" (defArgs sIsEntry) (defBody sIsEntry) (defScope sIsEntry) .none kV doc pm an (.ref cE) ct), osl⟩) (cdI : PySem.W.codeIn K (.ref cE) "is_entry" = true)
    (TB : GxR.TabB base mg cE T2) (ne : T1 ≠ T2) (FI : DefT P w K mg base "fits" 2 fF dF ["part", "sort"] (spFits T1)) (PO : DefT P w K mg base "places_of" 1 fP dP ["entry"] spPlaces)
    (mi : mg "isinstance" = none) (mt : mg "tuple" = none) (ml : mg "len" = none) (mst : mg "str" = none) (ma : mg "all" = none) (mz : mg "zip" = none) (ms : mg "set" = none) (mF : mg "FORMS" = some (.ref aF)) (D : KDict K w aF es nE)
    (hF : ∀ e : Ent, ∃ aS, KDct K w aF e.word (.ref aS) ∧ ∀ H, SqT K H aS (e.sorts.map V.str)) :
    FnOk P w K mg base CX0 4 f (PySem.W.fnOf "is_entry" "is_entry" (defArgs sIsEntry) (defBody sIsEntry) (defScope sIsEntry) .none kV doc pm an (.ref cE) ct) ["thing"] (spIsEntry T1 T2) := by
  refine fn_of lk cdI scIs (fun vs H Q E h => ?_) (fun A outer s H vs Q E hr h => ?_)
  · obtain ⟨a, e, rfl, _⟩ := h
    rfl
  · obtain ⟨a, e, rfl, ha, fine, t1, t2, q⟩ := h
    have nd := scIs.nd
    have hr1 : Room 1 _ := hr.mono (by decide)
    refine ⟨_, pss_cons (ps_if (PW.pt (pw_or (pt_not (pt_val (pe_callB call_isi (by rfl) mi (by decide +kernel) (pa_cons (pv 0) (pa_cons (pe_bltn (v := .ty "tuple") (u := .type "tuple") (by rfl) mt (by decide +kernel) rfl) pa_nil)))))
          (pw_or1 (pt_cmpR op_eq (pe_callB call_len_seq (by rfl) ml PySem.boot_len (pa_cons (pv 0) pa_nil)) pe_int (nomark _))))) (pss_one (ps_ret pe_bl)) pss_nil)
      (pss_cons (ps_if (PW.pt (pw_or (pt_not (pt_val (pe_callB call_isi (by rfl) mi (by decide +kernel) (pa_cons (pe_ix ix_tup (pv 0) pe_int (fun _ _ => rfl)) (pa_cons (pe_bltn (v := .ty "str") (u := .type "str") (by rfl) mst (by decide +kernel) rfl) pa_nil)))))
          (pw_or1 (pt_cmpR (op_notIn_kd D) (pe_ix ix_tup (pv 0) pe_int (fun _ _ => rfl)) (pe_glob (v := .ref aF) rfl mF rfl) (by rfl))))) (pss_one (ps_ret pe_bl)) pss_nil)
      (pss_cons (ps_set (i := 1) nd rfl (Or.inl rfl) (pe_ix ix_kdict (pe_glob (v := .ref aF) rfl mF rfl) (pe_ix ix_tup (pv 0) pe_int (fun _ _ => rfl)) (fun _ _ => rfl)))
      (pss_cons (ps_if (pt_cmpR op_ne (pe_callB call_len_seq (by rfl) ml PySem.boot_len (pa_cons (pv 0) pa_nil)) (pe_op op_add (pe_callB call_len_seq (by rfl) ml PySem.boot_len (pa_cons (pv 1) pa_nil)) pe_int) (nomark _)) (pss_one (ps_ret pe_bl)) pss_nil)
      (pss_cons (ps_if (pt_not (pt_val (pe_allG (T := T2) (c := cE) (k := 2) (own := [("part", 3), ("sort", 4)]) (g := gTup K 2 (gCons (gName 3) (gCons (gName 4) gNil))) (tt := tYes) (te := tCall (spFits T1) [] E0 (tCons (tVar 3) (tCons (tVar 4) tNil)))
          hr (by rfl) ma rfl nd TB rfl ⟨blkOk_by (N := isN) (sc := defScope sIsEntry) (by decide +kernel), rfl, by decide +kernel, rfl⟩
          (RZ.pi_zipA (by rfl) mz (pa_cons (pe_slice sl_tup (pv 0) (po_some pe_int) po_none) (pa_cons (pv 1) pa_nil)))
          (fun _ _ _ _ _ _ => pg_tup (by rfl) (pgs_cons (pg_name (i := 3) nd rfl (Or.inl rfl)) (pgs_cons (pg_name (i := 4) nd rfl (Or.inl rfl)) pgs_nil)))
          (fun _ _ _ _ _ _ _ => pts_nil) (fun _ _ _ _ _ _ hr' => pe_call FI.ok hr' (by rfl) FI.g FI.kp FI.b .nil pass0 (pa_cons (pv 3) (pa_cons (pv 4) pa_nil)))))) (pss_one (ps_ret pe_bl)) pss_nil)
      (pss_cons (ps_set (i := 2) nd rfl (Or.inl rfl) (pe_call PO.ok hr1 (by rfl) PO.g PO.kp PO.b .nil pass0 (pa_cons (pv 0) pa_nil)))
      (pss_one (ps_ret (pe_cmpR op_eq (pe_lenSetX rfl (by rfl) ml (by rfl) ms (pv 2)) (pe_callB call_len_seq (by rfl) ml PySem.boot_len (pa_cons (pv 2) pa_nil)) (nomark _))))))))), ?_⟩
    obtain ⟨aS, kd, sq⟩ := hF e
    -- a tuple, not empty
    refine ⟨_, rfl, _, _, _, _, true, rfl, .ty "tuple", .base (.tup ha), kit_ty (by decide +kernel), _, rfl, iteF ?_⟩
    refine ⟨_, rfl, a, _, rfl, .inr (SqT.of ha), rfl, false, congrArg V.bl (decide_eq_false fun z => ?_), iteF ?_⟩
    · have z' : ((e.vals.length : Nat) : Int) = 0 := V.int.inj z
      have : e.vals.length = e.parts.length + 1 := rfl
      omega
    -- a word of the forms
    refine ⟨_, rfl, a, _, 0, _, rfl, rfl, SqT.of ha, at0 e, _, _, _, _, true, rfl, .ty "str", .base (.str e.word), kit_ty (by decide +kernel), _, rfl, iteF ?_⟩
    obtain ⟨es', n', u, hl, hlit, hns, ru⟩ := id kd
    refine ⟨_, rfl, a, _, 0, _, rfl, rfl, SqT.of ha, at0 e, e.word, some u, rfl, rfl, hns, _, rfl, iteF ?_⟩
    -- the sorts
    refine ⟨_, rfl, a, _, 0, _, rfl, rfl, SqT.of ha, at0 e, aF, e.word, _, rfl, rfl, kd, ?_⟩
    refine ⟨_, rfl, a, _, rfl, .inr (SqT.of ha), _, rfl, aS, _, rfl, .inr (sq H), _, 1, rfl, rfl, rfl, false, ?_, iteF ?_⟩
    · refine congrArg V.bl ?_
      have l1 : (e.vals.length : Int) = ((e.sorts.map V.str).length : Int) + 1 := by
        have : e.vals.length = e.parts.length + 1 := rfl
        rw [this, e.len_parts, List.length_map]
        rfl
      rw [l1, decide_eq_true rfl]
      rfl
    -- all fit
    refine ⟨_, rfl, 1, rfl, a, _, rfl, SqT.of ha, ?_, fun pp npp => ?_⟩
    · rintro ⟨z, _⟩
      rw [show HT.sIx e.vals.length 0 (some 1) = min 1 e.vals.length from HT.sIx_nat _ _ 1] at z
      have : e.vals.length = e.parts.length + 1 := rfl
      omega
    have sp := @same_new _ _ (.tup (cutV e.vals (some 1) none)) npp
    refine ⟨_, rfl, pp, aS, cutV e.vals (some 1) none, e.sorts.map V.str, rfl, .inr ⟨SqT.of upd_same, sq _, tabg_same sp t2, fun H2 tb2 => ?_⟩⟩
    have hpp : (upd H pp (.tup (cutV e.vals (some 1) none))) pp = some (.tup e.parts) := by rw [upd_same, vals_cut]
    have b0 : TB2 T1 T2 H H2 := (TB2.same t1 t2 sp).tr (.two ne (tabg_same sp t1) tb2)
    have b1 : TB2 T1 T2 (upd H pp (.tup (cutV e.vals (some 1) none))) H2 := .two ne (tabg_same sp t1) tb2
    have hp2 : H2 pp = some (.tup e.parts) := b1.keep (tabg_same sp t1) (tabg_same sp t2) hpp (by intro ps z; cases z)
    refine ⟨fun i m H' => m = e.parts.length - i ∧ i ≤ e.parts.length ∧ H' pp = some (.tup e.parts) ∧ TB2 T1 T2 H H', ⟨_, rfl, Nat.zero_le _, hp2, b0⟩, ?_⟩
    rintro i m H3 ⟨rfl, hi, hp3, b3⟩
    by_cases lt : i < e.parts.length
    · refine .inr ⟨⟨e.parts, e.sorts.map V.str, e.parts[i], .str (e.sorts[i]'(by rw [← e.len_parts]; exact lt)), SqT.of hp3, sq _, List.getElem?_eq_getElem lt, ?_⟩, fun v H4 y => ?_⟩
      · rw [List.getElem?_map, List.getElem?_eq_getElem (by rw [← e.len_parts]; exact lt)]
        rfl
      · obtain ⟨TT, x', y', rfl, nT, rfl, f1, f2⟩ := y
        have g1 := f1 e.parts (SqT.of hp3)
        have g2 := f2 (e.sorts.map V.str) (sq _)
        rw [List.getElem?_map] at g2
        obtain ⟨srt, hsrt, rfl⟩ := Option.map_eq_some_iff.mp g2
        obtain ⟨prt, fit⟩ := fine.fit i x' srt g1 hsrt
        have s4 := @same_new _ _ (.tup [x', V.str srt]) nT
        have b4 : TB2 T1 T2 H (upd H3 TT (.tup [x', V.str srt])) := b3.tr (.same b3.2.1 b3.2.2 s4)
        refine ⟨TT, _, rfl, SqT.of upd_same, rfl, _, _, rfl, _, _, rfl, rfl, rfl, yesT ?_⟩
        refine ⟨_, rfl, _, rfl, x', srt, rfl, prt, e.sorts_in srt (List.mem_of_getElem? hsrt), b4.2.1, fun H5 tb5 => ?_⟩
        have b5 : TB2 T1 T2 H H5 := b4.tr (.one ne b4.2.2 tb5)
        have b45 : TB2 T1 T2 (upd H3 TT (.tup [x', V.str srt])) H5 := .one ne b4.2.2 tb5
        rw [fit]
        exact ⟨true, rfl, iteT ⟨_, by omega, rfl, lt, b45.keep b4.2.1 b4.2.2 (s4 _ _ hp3) (by intro ps z; cases z), b5⟩⟩
    · have ei : i = e.parts.length := by omega
      refine .inl ⟨⟨e.parts, e.sorts.map V.str, SqT.of hp3, sq _, .inl (by omega)⟩, ?_⟩
      refine ⟨true, rfl, iteF ?_⟩
      -- unlike places
      have ha3 : H3 a = some (.tup e.vals) := b3.keep t1 t2 ha (by intro ps z; cases z)
      refine ⟨_, rfl, a, e, rfl, ha3, fun tp H4 s4 ht => ?_⟩
      refine ⟨_, rfl, tp, e.places, rfl, SqT.of ht, Nat.le_trans (places_le e) (by decide), _, rfl, tp, _, rfl, .inr (SqT.of ht), rfl, ?_⟩
      rw [once_nodup fine.apart, List.length_map, decide_eq_true rfl]
      exact q H4 (b3.tr (.same b3.2.1 b3.2.2 s4))
end
/-! ### what is drawn is fine -/
theorem name_len {y : Str} (h : nameB y = true) : 1 ≤ y.length ∧ y.length ≤ 8 := by
  unfold nameB at h
  rw [Bool.and_eq_true, Bool.and_eq_true, decide_eq_true_eq, decide_eq_true_eq] at h
  exact h.1
theorem name_ne {y : Str} (h : nameB y = true) : y ≠ "" := fun z => by
  have := (name_len h).1
  rw [z] at this
  exact absurd this (by decide +kernel)
theorem kmn : ¬ ("moment" : Str) = "name" := by decide +kernel
theorem kme : ¬ ("moment" : Str) = "end" := by decide +kernel
theorem kyn : ¬ ("many" : Str) = "name" := by decide +kernel
theorem kye : ¬ ("many" : Str) = "end" := by decide +kernel
theorem kym : ¬ ("many" : Str) = "moment" := by decide +kernel
theorem kcn : ¬ ("counted" : Str) = "name" := by decide +kernel
theorem kce : ¬ ("counted" : Str) = "end" := by decide +kernel
theorem kcm : ¬ ("counted" : Str) = "moment" := by decide +kernel
theorem kcy : ¬ ("counted" : Str) = "many" := by decide +kernel
theorem kpn : ¬ ("price" : Str) = "name" := by decide +kernel
theorem kpe : ¬ ("price" : Str) = "end" := by decide +kernel
theorem kpm : ¬ ("price" : Str) = "moment" := by decide +kernel
theorem kpy : ¬ ("price" : Str) = "many" := by decide +kernel
theorem ken : ¬ ("end" : Str) = "name" := by decide +kernel
theorem fit_name {y : Str} (h : nameB y = true) : Part (.str y) ∧ fitB (.str y) "name" = true := by
  refine ⟨.inl ⟨y, rfl, by have := (name_len h).2; omega⟩, ?_⟩
  unfold fitB
  rw [if_pos rfl]
  exact h
theorem fit_end {y : Str} (h : y = "" ∨ nameB y = true) : Part (.str y) ∧ fitB (.str y) "end" = true := by
  have e : fitB (.str y) "end" = (decide (V.str y = .str "") || nameB y) := by
    unfold fitB
    rw [if_neg ken, if_pos rfl]
    rfl
  rcases h with rfl | h
  · exact ⟨.inl ⟨_, rfl, Nat.zero_le _⟩, by rw [e, decide_eq_true rfl]; rfl⟩
  · exact ⟨.inl ⟨y, rfl, by have := (name_len h).2; omega⟩, by rw [e, h, Bool.or_true]⟩
theorem fit_moment {m : Int} (h0 : 0 ≤ m) (h1 : m ≤ 9999) : Part (.int m) ∧ fitB (.int m) "moment" = true := by
  refine ⟨.inr ⟨m, rfl⟩, ?_⟩
  unfold fitB inB bnd
  rw [if_neg kmn, if_neg kme, if_pos rfl]
  simp [h0, h1]
theorem fit_many {m : Int} (h0 : 1 ≤ m) (h1 : m ≤ 1000000000) : Part (.int m) ∧ fitB (.int m) "many" = true := by
  refine ⟨.inr ⟨m, rfl⟩, ?_⟩
  unfold fitB inB bnd
  rw [if_neg kyn, if_neg kye, if_neg kym, if_pos rfl]
  simp [h0, h1]
theorem fit_counted {m : Int} (h0 : 0 ≤ m) (h1 : m ≤ 1000000000) : Part (.int m) ∧ fitB (.int m) "counted" = true := by
  refine ⟨.inr ⟨m, rfl⟩, ?_⟩
  unfold fitB inB bnd
  rw [if_neg kcn, if_neg kce, if_neg kcm, if_neg kcy]
  simp [h0, h1]
theorem fit_price {m : Int} (h0 : 0 ≤ m) (h1 : m ≤ 1000000000) : Part (.int m) ∧ fitB (.int m) "price" = true := by
  refine ⟨.inr ⟨m, rfl⟩, ?_⟩
  unfold fitB inB bnd
  rw [if_neg kpn, if_neg kpe, if_neg kpm, if_neg kpy]
  simp [h0, h1]
theorem nd1 (x : Str) : [x].Nodup := List.nodup_cons.mpr ⟨fun z => (nomatch z), List.nodup_nil⟩
theorem zip_at {α β : Type} {xs : List α} {ys : List β} {i : Nat} {x : α} {y : β} (h1 : xs[i]? = some x) (h2 : ys[i]? = some y) : (x, y) ∈ xs.zip ys :=
  List.mem_of_getElem? (List.getElem?_zip_eq_some.mpr ⟨h1, h2⟩)
theorem fine_of {PL GL HL : List Str} {e : Ent} (h : e.From PL GL HL) (nd : PL.Nodup) (np : ∀ y ∈ PL, nameB y = true) (ng : ∀ y ∈ GL, nameB y = true) (nh : ∀ y ∈ HL, nameB y = true) (nn : nameB e.name = true) (m0 : 0 ≤ e.moment) (m1 : e.moment ≤ 9999) :
    e.Fine ∧ ∀ y ∈ e.places, nameB y = true := by
  have two : ∀ {o t : Str}, o ≠ t → [o, t].Nodup := fun h => List.nodup_cons.mpr ⟨fun z => h (List.mem_singleton.mp z), nd1 _⟩
  cases e with
  | come n m g p k r =>
    obtain ⟨h1, h2, h3, h4, h5, h6⟩ := h
    refine ⟨⟨fun i v x hv hx => ?_, nd1 _⟩, fun y hy => by rw [List.mem_singleton.mp hy]; exact np p h2⟩
    have hz := zip_at hv hx
    simp only [Ent.parts, Ent.sorts, Ent.rest, List.zip_cons_cons, List.zip_nil_left, List.mem_cons, List.not_mem_nil, or_false, Prod.mk.injEq] at hz
    rcases hz with ⟨rfl, rfl⟩ | ⟨rfl, rfl⟩ | ⟨rfl, rfl⟩ | ⟨rfl, rfl⟩ | ⟨rfl, rfl⟩ | ⟨rfl, rfl⟩
    · exact fit_name nn
    · exact fit_moment m0 m1
    · exact fit_name (ng g h1)
    · exact fit_name (np p h2)
    · exact fit_many h3 h4
    · exact fit_price h5 h6
  | go n m g p k =>
    obtain ⟨h1, h2, h3, h4⟩ := h
    refine ⟨⟨fun i v x hv hx => ?_, nd1 _⟩, fun y hy => by rw [List.mem_singleton.mp hy]; exact np p h2⟩
    have hz := zip_at hv hx
    simp only [Ent.parts, Ent.sorts, Ent.rest, List.zip_cons_cons, List.zip_nil_left, List.mem_cons, List.not_mem_nil, or_false, Prod.mk.injEq] at hz
    rcases hz with ⟨rfl, rfl⟩ | ⟨rfl, rfl⟩ | ⟨rfl, rfl⟩ | ⟨rfl, rfl⟩ | ⟨rfl, rfl⟩
    · exact fit_name nn
    · exact fit_moment m0 m1
    · exact fit_name (ng g h1)
    · exact fit_name (np p h2)
    · exact fit_many h3 h4
  | move n m g o t k =>
    obtain ⟨h1, h2, h3, h4, h5, h6⟩ := h
    refine ⟨⟨fun i v x hv hx => ?_, two (h4 nd)⟩, fun y hy => ?_⟩
    · have hz := zip_at hv hx
      simp only [Ent.parts, Ent.sorts, Ent.rest, List.zip_cons_cons, List.zip_nil_left, List.mem_cons, List.not_mem_nil, or_false, Prod.mk.injEq] at hz
      rcases hz with ⟨rfl, rfl⟩ | ⟨rfl, rfl⟩ | ⟨rfl, rfl⟩ | ⟨rfl, rfl⟩ | ⟨rfl, rfl⟩ | ⟨rfl, rfl⟩
      · exact fit_name nn
      · exact fit_moment m0 m1
      · exact fit_name (ng g h1)
      · exact fit_name (np o h2)
      · exact fit_name (np t h3)
      · exact fit_many h5 h6
    · simp only [Ent.places, List.mem_cons, List.not_mem_nil, or_false] at hy
      rcases hy with rfl | rfl
      · exact np _ h2
      · exact np _ h3
  | some_ n m g o t =>
    obtain ⟨h1, h2, h3⟩ := h
    refine ⟨⟨fun i v x hv hx => ?_, ?_⟩, fun y hy => ?_⟩
    · have hz := zip_at hv hx
      simp only [Ent.parts, Ent.sorts, Ent.rest, List.zip_cons_cons, List.zip_nil_left, List.mem_cons, List.not_mem_nil, or_false, Prod.mk.injEq] at hz
      rcases hz with ⟨rfl, rfl⟩ | ⟨rfl, rfl⟩ | ⟨rfl, rfl⟩ | ⟨rfl, rfl⟩ | ⟨rfl, rfl⟩
      · exact fit_name nn
      · exact fit_moment m0 m1
      · exact fit_name (ng g h1)
      · exact fit_name (np o h2)
      · exact fit_end (h3.imp id fun z => np t z.1)
    · show (if t = "" then [o] else [o, t]).Nodup
      by_cases z : t = ""
      · rw [if_pos z]; exact nd1 _
      · rw [if_neg z]; exact two ((h3.resolve_left z).2 nd)
    · have hy' : y ∈ (if t = "" then [o] else [o, t]) := hy
      by_cases z : t = ""
      · rw [if_pos z] at hy'
        rw [List.mem_singleton.mp hy']
        exact np o h2
      · rw [if_neg z] at hy'
        simp only [List.mem_cons, List.not_mem_nil, or_false] at hy'
        rcases hy' with rfl | rfl
        · exact np _ h2
        · exact np _ (h3.resolve_left z).1
  | swap n m o t =>
    obtain ⟨h1, h2, h3⟩ := h
    refine ⟨⟨fun i v x hv hx => ?_, two (h3 nd)⟩, fun y hy => ?_⟩
    · have hz := zip_at hv hx
      simp only [Ent.parts, Ent.sorts, Ent.rest, List.zip_cons_cons, List.zip_nil_left, List.mem_cons, List.not_mem_nil, or_false, Prod.mk.injEq] at hz
      rcases hz with ⟨rfl, rfl⟩ | ⟨rfl, rfl⟩ | ⟨rfl, rfl⟩ | ⟨rfl, rfl⟩
      · exact fit_name nn
      · exact fit_moment m0 m1
      · exact fit_name (np o h1)
      · exact fit_name (np t h2)
    · simp only [Ent.places, List.mem_cons, List.not_mem_nil, or_false] at hy
      rcases hy with rfl | rfl
      · exact np _ h1
      · exact np _ h2
  | count n m g p k hd =>
    obtain ⟨h1, h2, h3, h4, h5⟩ := h
    refine ⟨⟨fun i v x hv hx => ?_, nd1 _⟩, fun y hy => by rw [List.mem_singleton.mp hy]; exact np p h2⟩
    have hz := zip_at hv hx
    simp only [Ent.parts, Ent.sorts, Ent.rest, List.zip_cons_cons, List.zip_nil_left, List.mem_cons, List.not_mem_nil, or_false, Prod.mk.injEq] at hz
    rcases hz with ⟨rfl, rfl⟩ | ⟨rfl, rfl⟩ | ⟨rfl, rfl⟩ | ⟨rfl, rfl⟩ | ⟨rfl, rfl⟩ | ⟨rfl, rfl⟩
    · exact fit_name nn
    · exact fit_moment m0 m1
    · exact fit_name (ng g h1)
    · exact fit_name (np p h2)
    · exact fit_counted h3 h4
    · exact fit_name (nh hd h5)
  | look n m g p =>
    obtain ⟨h1, h2⟩ := h
    refine ⟨⟨fun i v x hv hx => ?_, nd1 _⟩, fun y hy => by rw [List.mem_singleton.mp hy]; exact np p h2⟩
    have hz := zip_at hv hx
    simp only [Ent.parts, Ent.sorts, Ent.rest, List.zip_cons_cons, List.zip_nil_left, List.mem_cons, List.not_mem_nil, or_false, Prod.mk.injEq] at hz
    rcases hz with ⟨rfl, rfl⟩ | ⟨rfl, rfl⟩ | ⟨rfl, rfl⟩ | ⟨rfl, rfl⟩
    · exact fit_name nn
    · exact fit_moment m0 m1
    · exact fit_name (ng g h1)
    · exact fit_name (np p h2)
/-! ### the order of entries, by the law -/
def Ent.rank : Ent → Int
  | .swap .. => 0 | .come .. => 1 | .go .. => 1 | .move .. => 1 | .some_ .. => 1 | .count .. => 2 | .look .. => 2
def ordV (e : Ent) : List V := [.int e.moment, .int e.rank, .str e.name]
def ordD (e : Ent) : PyData := .tuple [.int e.moment, .int e.rank, .str e.name]
theorem ord_dp {K : PySem.W.Frag} {H : Hp} {tp : Addr} {e : Ent} (h : H tp = some (.tup (ordV e))) : Dp K H (.ref tp) (ordD e) := .tup (SqT.of h) (.cons (.int _) (.cons (.int _) (.cons (.str _) .nil)))
theorem ord_alike (e g : Ent) : PySem.W.alike (ordD e) (ordD g) = true := rfl
def spOrd : Sp := fun vs H Q _ => ∃ (a : Addr) (e : Ent), vs = [.ref a] ∧ H a = some (.tup e.vals) ∧ ∀ (tp : Addr) (H' : Hp), Same H H' → H' tp = some (.tup (ordV e)) → Q (.ref tp) H'
def rankW (x : Str) : Int := 1 - (if decide (V.str x = V.str "swap") = true then 1 else 0) + (if inV (V.str x) [V.str "count", V.str "look"] = true then 1 else 0)
theorem rank_own (e : Ent) : rankW e.word = e.rank := by
  have h1 : rankW "come" = 1 := by decide +kernel
  have h2 : rankW "go" = 1 := by decide +kernel
  have h3 : rankW "move" = 1 := by decide +kernel
  have h4 : rankW "some" = 1 := by decide +kernel
  have h5 : rankW "swap" = 0 := by decide +kernel
  have h6 : rankW "count" = 2 := by decide +kernel
  have h7 : rankW "look" = 2 := by decide +kernel
  cases e
  · exact h1
  · exact h2
  · exact h3
  · exact h4
  · exact h5
  · exact h6
  · exact h7
section
variable {P : Program} {w : World} {K : PySem.W.Frag} {mg : Str → Option Value} {base : Heap}
theorem scOwn : FnScope ["_law_entry_here", "_law_rank"] ["_law_entry_here"] (defScope sOwn) := ⟨rfl, rfl, rfl, by decide +kernel, rfl, by decide +kernel, by decide +kernel⟩
theorem at1 (e : Ent) : atI e.vals 1 = some (.str e.name) := atI_nat (j := 1) rfl
theorem ok_own {f : Addr} {fd : FuncData} (F : Fun K "_law_order" "_law_order" sOwn f fd) (mi : mg "int" = none) : FnOk P w K mg base CX0 1 f fd ["_law_entry_here"] spOrd := by
  refine F.ok scOwn (fun vs H Q E h => ?_) (fun cdv A outer s H vs Q E hr h => ?_)
  · obtain ⟨a, e, rfl, _⟩ := h
    rfl
  · obtain ⟨a, e, rfl, ha, q⟩ := h
    refine ⟨_, pss_cons (ps_set (i := 1) scOwn.nd rfl (Or.inl rfl) (pe_op op_add (pe_op op_sub pe_int (pe_callTy call_int1 (by rfl) mi (by decide +kernel) (pa_cons (pe_cmpR op_eq (pe_ix ix_tup (pv 0) pe_int (fun _ _ => rfl)) pe_str (nomark _)) pa_nil)))
        (pe_callTy call_int1 (by rfl) mi (by decide +kernel) (pa_cons (pe_cmpR op_in_seq (pe_ix ix_tup (pv 0) pe_int (fun _ _ => rfl)) (pe_tup (pa_cons pe_str (pa_cons pe_str pa_nil))) (by rfl)) pa_nil))))
      (pss_one (ps_ret (pe_tup (pa_cons (pe_ix ix_tup (pv 0) pe_int (fun _ _ => rfl)) (pa_cons (pv 1) (pa_cons (pe_ix ix_tup (pv 0) pe_int (fun _ _ => rfl)) pa_nil)))))), ?_⟩
    refine ⟨_, rfl, a, _, 0, _, rfl, rfl, SqT.of ha, at0 e, rfl, .inr ⟨_, rfl, 1, _, rfl, rfl, _, rfl, a, _, 0, _, rfl, rfl, SqT.of ha, at0 e, (by show 2 ≤ sizeLine; decide), fun t nt => ?_⟩⟩
    have s1 := @same_new _ _ (.tup [V.str "count", .str "look"]) nt
    refine ⟨t, _, rfl, .inr (SqT.of upd_same), rfl, ?_, .inr ⟨_, rfl, _, _, rfl, rfl, ?_⟩⟩
    · rfl
    · refine ⟨_, rfl, a, _, 2, _, rfl, rfl, SqT.of (s1 _ _ ha), at2 e, _, rfl, _, rfl, a, _, 1, _, rfl, rfl, SqT.of (s1 _ _ ha), at1 e, (by show 3 ≤ sizeLine; decide), fun tp ntp => ?_⟩
      refine q tp _ (s1.trans (same_new ntp)) ?_
      rw [upd_same]
      exact congrArg (fun k => some (HO.tup [V.int e.moment, V.int k, V.str e.name])) (rank_own e)
end
section
variable {P : Program} {w : World} {K : PySem.W.Frag} {mg : Str → Option Value} {base : Heap}
theorem scOrd : FnScope ["entry"] ["entry"] (defScope sOrd) := ⟨rfl, rfl, rfl, by decide +kernel, rfl, by decide +kernel, by decide +kernel⟩
theorem ok_ord {f aR : Addr} {fd : FuncData} (F : Fun K "order_of" "order_of" sOrd f fd) (mR : mg "RANKS" = some (.ref aR)) (hR : ∀ e : Ent, KDct K w aR e.word (.int e.rank)) : FnOk P w K mg base CX0 1 f fd ["entry"] spOrd := by
  refine F.ok scOrd (fun vs H Q E h => ?_) (fun cdv A outer s H vs Q E hr h => ?_)
  · obtain ⟨a, e, rfl, _⟩ := h
    rfl
  · obtain ⟨a, e, rfl, ha, q⟩ := h
    refine ⟨_, pss_one (ps_ret (pe_tup (pa_cons (pe_ix ix_tup (pv 0) pe_int (fun _ _ => rfl)) (pa_cons (pe_ix ix_kdict (pe_glob (v := .ref aR) rfl mR rfl) (pe_ix ix_tup (pv 0) pe_int (fun _ _ => rfl)) (fun _ _ => rfl)) (pa_cons (pe_ix ix_tup (pv 0) pe_int (fun _ _ => rfl)) pa_nil))))), ?_⟩
    refine ⟨_, rfl, a, _, 2, _, rfl, rfl, SqT.of ha, at2 e, _, rfl, a, _, 0, _, rfl, rfl, SqT.of ha, at0 e, aR, e.word, _, rfl, rfl, hR e, _, rfl, a, _, 1, _, rfl, rfl, SqT.of ha, at1 e, (by show 3 ≤ sizeLine; decide), fun tp ntp => ?_⟩
    exact q tp _ (same_new ntp) upd_same
end
theorem inV_iff {x : Str} {ys : List Str} : inV (.str x) (ys.map V.str) = decide (x ∈ ys) := by
  unfold inV
  rw [List.any_map]
  by_cases h : x ∈ ys
  · rw [decide_eq_true h]
    exact List.any_eq_true.mpr ⟨x, h, by show (x == x) = true; simp⟩
  · rw [decide_eq_false h, List.any_eq_false]
    intro y hy z
    have z' : (y == x) = true := z
    exact h (eq_of_beq z' ▸ hy)
theorem all_flat (ys : List Str) : (ys.map V.str).all flatV = true := by
  rw [List.all_map]
  exact List.all_eq_true.mpr fun y _ => rfl
theorem scal_good (e : Ent) (g : Str) : scal e.goodV (.str g) = true := by cases e <;> rfl
/-! ### houses -/
def TK (H H' : Hp) : Prop := ∀ a xs, H a = some (.tup xs) → H' a = some (.tup xs)
theorem TK.of {H H' : Hp} (s : Same H H') : TK H H' := fun a xs e => s a _ e
theorem TK.tr {H H1 H2 : Hp} (a : TK H H1) (b : TK H1 H2) : TK H H2 := fun c xs e => b c xs (a c xs e)
theorem TK.but {H H' : Hp} {p c : Addr} {n : Nat} (pen : PenAt H p c n) (b : But p H H') : TK H H' := fun a xs e => by
  obtain ⟨kvs, ns', a', x', g1, _⟩ := pen.ex
  exact b a _ e (ne_of e g1 (by intro z; cases z))
theorem TK.upd {H : Hp} {l : Addr} {o : HO} (n : ∀ xs, H l ≠ some (.tup xs)) : TK H (upd H l o) := fun a xs e => by
  by_cases z : a = l
  · rw [z] at e
    exact absurd e (n xs)
  · exact (upd_ne z).trans e
/-- each address holds its entry -/
inductive EntsAt (H : Hp) : List Addr → List Ent → Prop
  | nil : EntsAt H [] []
  | cons {a : Addr} {e : Ent} {as : List Addr} {es : List Ent} : H a = some (.tup e.vals) → EntsAt H as es → EntsAt H (a :: as) (e :: es)
theorem EntsAt.on {H H' : Hp} (k : TK H H') {as : List Addr} {es : List Ent} (h : EntsAt H as es) : EntsAt H' as es := by
  induction h with
  | nil => exact .nil
  | cons a _ ih => exact .cons (k _ _ a) ih
theorem EntsAt.len {H : Hp} {as : List Addr} {es : List Ent} (h : EntsAt H as es) : as.length = es.length := by
  induction h with
  | nil => rfl
  | cons _ _ ih => simp [ih]
theorem EntsAt.snoc {H : Hp} {a : Addr} {e : Ent} {as : List Addr} {es : List Ent} (h : EntsAt H as es) (q : H a = some (.tup e.vals)) : EntsAt H (as ++ [a]) (es ++ [e]) := by
  induction h with
  | nil => exact .cons q .nil
  | cons a _ ih => exact .cons a ih
theorem EntsAt.get {H : Hp} {as : List Addr} {es : List Ent} (h : EntsAt H as es) : ∀ {i : Nat} {a : Addr}, as[i]? = some a → ∃ e, es[i]? = some e ∧ H a = some (.tup e.vals) := by
  induction h with
  | nil => intro i a q; cases q
  | @cons a0 e0 as es q _ ih =>
    intro i a z
    cases i with
    | zero => exact ⟨e0, rfl, by rw [← Option.some.inj z]; exact q⟩
    | succ n => exact ih (i := n) z
structure HouseAt (H : Hp) (h : Addr) (P G : List Str) (es : List Ent) : Prop where
  ex : ∃ (hp hg he : Addr) (tps : List Addr), H h = some (.tup [.ref hp, .ref hg, .ref he]) ∧ H hp = some (.tup (P.map V.str)) ∧ H hg = some (.tup (G.map V.str)) ∧ H he = some (.tup (tps.map V.ref)) ∧ EntsAt H tps es
theorem HouseAt.on {H H' : Hp} (k : TK H H') {h : Addr} {P G : List Str} {es : List Ent} (x : HouseAt H h P G es) : HouseAt H' h P G es := by
  obtain ⟨hp, hg, he, tps, h1, h2, h3, h4, h5⟩ := x.ex
  exact ⟨hp, hg, he, tps, k _ _ h1, k _ _ h2, k _ _ h3, k _ _ h4, h5.on k⟩
/-- what holds of a house that a law makes -/
structure Good (P G : List Str) (es : List Ent) (m : Nat) : Prop where
  nd : P.Nodup
  ne : P ≠ []
  le : P.length ≤ 6
  nm : ∀ y ∈ P, nameB y = true
  ge : G ≠ []
  gl : G.length ≤ 3
  gn : ∀ y ∈ G, nameB y = true
  gd : G.Nodup
  many : es.length = m
  nms : (es.map Ent.name).Nodup
  ps : sortedS P = true
  gs : sortedS G = true
  so : (es.map ordD).Pairwise fun a b => PySem.W.dataLt a b = true
  ents : ∀ e ∈ es, nameB e.name = true ∧ 0 ≤ e.moment ∧ e.moment ≤ 9999 ∧ ∃ HL : List Str, (∀ y ∈ HL, nameB y = true) ∧ e.From P G HL
theorem From.perm {e : Ent} {P P' G G' HL : List Str} (h : e.From P G HL) (p : P'.Perm P) (g : G'.Perm G) : e.From P' G' HL := by
  have nd : P'.Nodup → P.Nodup := fun z => p.nodup_iff.mp z
  cases e with
  | come n m gg pl k r => exact ⟨g.mem_iff.mpr h.1, p.mem_iff.mpr h.2.1, h.2.2⟩
  | go n m gg pl k => exact ⟨g.mem_iff.mpr h.1, p.mem_iff.mpr h.2.1, h.2.2⟩
  | move n m gg o t k => exact ⟨g.mem_iff.mpr h.1, p.mem_iff.mpr h.2.1, p.mem_iff.mpr h.2.2.1, fun z => h.2.2.2.1 (nd z), h.2.2.2.2⟩
  | some_ n m gg o t => exact ⟨g.mem_iff.mpr h.1, p.mem_iff.mpr h.2.1, h.2.2.imp id fun z => ⟨p.mem_iff.mpr z.1, fun q => z.2 (nd q)⟩⟩
  | swap n m o t => exact ⟨p.mem_iff.mpr h.1, p.mem_iff.mpr h.2.1, fun z => h.2.2 (nd z)⟩
  | count n m gg pl k hd => exact ⟨g.mem_iff.mpr h.1, p.mem_iff.mpr h.2.1, h.2.2⟩
  | look n m gg pl => exact ⟨g.mem_iff.mpr h.1, p.mem_iff.mpr h.2⟩
/-! the house as data -/
def dV : V → PyData
  | .str x => .str x
  | .int i => .int i
  | _ => .none
def entD (e : Ent) : PyData := .tuple (e.vals.map dV)
def houseD (P G : List Str) (es : List Ent) : PyData := .tuple [.tuple (P.map .str), .tuple (G.map .str), .tuple (es.map entD)]
theorem dp_strs {K : PySem.W.Frag} {H : Hp} : ∀ ys : List Str, DpAll K H (ys.map V.str) (ys.map PyData.str)
  | [] => .nil
  | y :: r => .cons (.str y) (dp_strs r)
theorem dp_ent {K : PySem.W.Frag} {H : Hp} {a : Addr} {e : Ent} (h : H a = some (.tup e.vals)) : Dp K H (.ref a) (entD e) := by
  refine .tup (SqT.of h) ?_
  cases e <;> (repeat' (first | exact .nil | refine .cons (.str _) ?_ | refine .cons (.int _) ?_))
theorem dp_ents {K : PySem.W.Frag} {H : Hp} {as : List Addr} {es : List Ent} (h : EntsAt H as es) : DpAll K H (as.map V.ref) (es.map entD) := by
  induction h with
  | nil => exact .nil
  | cons a _ ih => exact .cons (dp_ent a) ih
theorem HouseAt.dp {K : PySem.W.Frag} {H : Hp} {h : Addr} {P G : List Str} {es : List Ent} (x : HouseAt H h P G es) : Dp K H (.ref h) (houseD P G es) := by
  obtain ⟨hp, hg, he, tps, h1, h2, h3, h4, h5⟩ := x.ex
  exact .tup (SqT.of h1) (.cons (.tup (SqT.of h2) (dp_strs P)) (.cons (.tup (SqT.of h3) (dp_strs G)) (.cons (.tup (SqT.of h4) (dp_ents h5)) .nil)))
/-! its text isn't long -/
structure Short (d : PyData) (n k : Nat) : Prop where
  sh : d.showable = true
  nd : d.hasDict = false
  ls : d.leavesShort 13 = true
  bk : d.bulk ≤ n
  dp : d.depth ≤ k
theorem short_str {y : Str} (h : nameB y = true ∨ y = "" ∨ y ∈ words7) : Short (.str y) 8 0 := by
  have lo : y.cps.toList.all (fun c => decide (c < 16 ^ 8)) = true ∧ y.cps.size ≤ 8 := by
    rcases h with h | rfl | h
    · unfold nameB at h
      rw [Bool.and_eq_true, Bool.and_eq_true] at h
      have l8 : y.length ≤ 8 := of_decide_eq_true h.1.2
      refine ⟨List.all_eq_true.mpr fun c hc => decide_eq_true ?_, l8⟩
      have q : ∀ c ∈ abc.cps.toList, c < 16 ^ 8 := by decide +kernel
      exact q c (of_decide_eq_true (List.all_eq_true.mp h.2 c hc))
    · exact ⟨rfl, Nat.zero_le _⟩
    · simp only [words7, List.mem_cons, List.not_mem_nil, or_false] at h
      rcases h with rfl | rfl | rfl | rfl | rfl | rfl | rfl <;> exact ⟨by decide +kernel, by decide +kernel⟩
  exact ⟨rfl, rfl, lo.1, lo.2, Nat.zero_le _⟩
theorem short_int {i : Int} (h0 : 0 ≤ i) (h1 : i ≤ 1000000000) : Short (.int i) 8 0 := by
  have e : (PyData.shown (.int i)).length ≤ 13 := Nat.le_trans (toString_length_le h0 (k := 10) (by decide) (by omega)) (by decide)
  refine ⟨?_, rfl, decide_eq_true e, Nat.zero_le _, Nat.zero_le _⟩
  show decide (i.natAbs.log2 < 1920) = true
  refine decide_eq_true ?_
  by_cases z : i.natAbs = 0
  · rw [z]
    decide
  · exact Nat.lt_trans ((Nat.log2_lt z).mpr (show i.natAbs < 2 ^ 30 by omega)) (by decide)
theorem short_all {n k : Nat} : ∀ {ds : List PyData}, (∀ d ∈ ds, Short d n k) → PyData.showableAll ds = true ∧ PyData.hasDictAll ds = false ∧ PyData.leavesShortAll 13 ds = true ∧ PyData.bulkAll ds ≤ ds.length * (n + 1) ∧ PyData.depthAll ds ≤ k
  | [], _ => ⟨rfl, rfl, rfl, Nat.le_of_eq (by simp [PyData.bulkAll]), Nat.zero_le _⟩
  | d :: ds, h => by
    have h1 := h d List.mem_cons_self
    obtain ⟨a1, a2, a3, a4, a5⟩ := short_all fun x hx => h x (List.mem_cons_of_mem _ hx)
    refine ⟨?_, ?_, ?_, ?_, ?_⟩
    · rw [PyData.showableAll, h1.sh, a1]
      rfl
    · rw [PyData.hasDictAll, h1.nd, a2]
      rfl
    · rw [PyData.leavesShortAll, h1.ls, a3]
      rfl
    · rw [PyData.bulkAll, List.length_cons, Nat.succ_mul]
      have := h1.bk
      omega
    · rw [PyData.depthAll]
      exact Nat.max_le.mpr ⟨h1.dp, a5⟩
theorem short_tup {n k m : Nat} {ds : List PyData} (h : ∀ d ∈ ds, Short d n k) (l : ds.length * (n + 1) ≤ m) : Short (.tuple ds) m (k + 1) := by
  obtain ⟨a1, a2, a3, a4, a5⟩ := short_all h
  refine ⟨?_, ?_, ?_, ?_, ?_⟩
  · rw [PyData.showable]; exact a1
  · rw [PyData.hasDict]; exact a2
  · rw [PyData.leavesShort]; exact a3
  · rw [PyData.bulk]; omega
  · rw [PyData.depth]; omega
theorem Short.mono {d : PyData} {n k n' k' : Nat} (h : Short d n k) (hn : n ≤ n') (hk : k ≤ k') : Short d n' k' := ⟨h.sh, h.nd, h.ls, Nat.le_trans h.bk hn, Nat.le_trans h.dp hk⟩
theorem Short.fits {d : PyData} {n k : Nat} (h : Short d n k) (hn : n ≤ 100000) : d.shown.length ≤ sizeLine := by
  have q := PyData.shown_le_bulk 13 (by decide) d h.ls
  have := h.bk
  rw [sizeLine_eq]
  omega
theorem short_names {ys : List Str} (h : ∀ y ∈ ys, nameB y = true) (l : ys.length ≤ 31) : Short (.tuple (ys.map .str)) 300 1 := by
  refine short_tup (n := 8) (k := 0) (fun d hd => ?_) (by rw [List.length_map]; omega)
  obtain ⟨y, hy, rfl⟩ := List.mem_map.mp hd
  exact short_str (.inl (h y hy))
theorem short_ent {e : Ent} {P G HL : List Str} (nn : nameB e.name = true) (m0 : 0 ≤ e.moment) (m1 : e.moment ≤ 9999) (hP : ∀ y ∈ P, nameB y = true) (hG : ∀ y ∈ G, nameB y = true) (hH : ∀ y ∈ HL, nameB y = true) (h : e.From P G HL) : Short (entD e) 70 1 := by
  have w : ∀ {x : Str}, x ∈ words7 → Short (.str x) 8 0 := fun hx => short_str (.inr (.inr hx))
  have n : ∀ {x : Str}, nameB x = true → Short (.str x) 8 0 := fun hx => short_str (.inl hx)
  have mo : Short (.int e.moment) 8 0 := short_int m0 (by omega)
  refine short_tup (n := 8) (k := 0) (fun d hd => ?_) (by rw [List.length_map]; cases e <;> simp [Ent.vals, Ent.rest])
  obtain ⟨v, hv, rfl⟩ := List.mem_map.mp hd
  cases e with
  | come nm m g pl k r =>
    obtain ⟨h1, h2, h3, h4, h5, h6⟩ := h
    simp only [Ent.vals, Ent.rest, List.mem_cons, List.not_mem_nil, or_false] at hv
    rcases hv with rfl | rfl | rfl | rfl | rfl | rfl | rfl
    · exact w (Ent.word_in _)
    · exact n nn
    · exact mo
    · exact n (hG _ h1)
    · exact n (hP _ h2)
    · exact short_int (by omega) h4
    · exact short_int h5 h6
  | go nm m g pl k =>
    obtain ⟨h1, h2, h3, h4⟩ := h
    simp only [Ent.vals, Ent.rest, List.mem_cons, List.not_mem_nil, or_false] at hv
    rcases hv with rfl | rfl | rfl | rfl | rfl | rfl
    · exact w (Ent.word_in _)
    · exact n nn
    · exact mo
    · exact n (hG _ h1)
    · exact n (hP _ h2)
    · exact short_int (by omega) h4
  | move nm m g o t k =>
    obtain ⟨h1, h2, h3, h4, h5, h6⟩ := h
    simp only [Ent.vals, Ent.rest, List.mem_cons, List.not_mem_nil, or_false] at hv
    rcases hv with rfl | rfl | rfl | rfl | rfl | rfl | rfl
    · exact w (Ent.word_in _)
    · exact n nn
    · exact mo
    · exact n (hG _ h1)
    · exact n (hP _ h2)
    · exact n (hP _ h3)
    · exact short_int (by omega) h6
  | some_ nm m g o t =>
    obtain ⟨h1, h2, h3⟩ := h
    simp only [Ent.vals, Ent.rest, List.mem_cons, List.not_mem_nil, or_false] at hv
    rcases hv with rfl | rfl | rfl | rfl | rfl | rfl
    · exact w (Ent.word_in _)
    · exact n nn
    · exact mo
    · exact n (hG _ h1)
    · exact n (hP _ h2)
    · rcases h3 with rfl | h3
      · exact short_str (.inr (.inl rfl))
      · exact n (hP _ h3.1)
  | swap nm m o t =>
    obtain ⟨h1, h2, h3⟩ := h
    simp only [Ent.vals, Ent.rest, List.mem_cons, List.not_mem_nil, or_false] at hv
    rcases hv with rfl | rfl | rfl | rfl | rfl
    · exact w (Ent.word_in _)
    · exact n nn
    · exact mo
    · exact n (hP _ h1)
    · exact n (hP _ h2)
  | count nm m g pl k hd =>
    obtain ⟨h1, h2, h3, h4, h5⟩ := h
    simp only [Ent.vals, Ent.rest, List.mem_cons, List.not_mem_nil, or_false] at hv
    rcases hv with rfl | rfl | rfl | rfl | rfl | rfl | rfl
    · exact w (Ent.word_in _)
    · exact n nn
    · exact mo
    · exact n (hG _ h1)
    · exact n (hP _ h2)
    · exact short_int h3 h4
    · exact n (hH _ h5)
  | look nm m g pl =>
    obtain ⟨h1, h2⟩ := h
    simp only [Ent.vals, Ent.rest, List.mem_cons, List.not_mem_nil, or_false] at hv
    rcases hv with rfl | rfl | rfl | rfl | rfl
    · exact w (Ent.word_in _)
    · exact n nn
    · exact mo
    · exact n (hG _ h1)
    · exact n (hP _ h2)
theorem Good.short {P G : List Str} {es : List Ent} {m : Nat} (g : Good P G es m) (hm : m ≤ 31) : Short (houseD P G es) 10000 3 := by
  refine short_tup (n := 3000) (k := 2) (fun d hd => ?_) (by show 3 * 3001 ≤ 10000; decide)
  simp only [List.mem_cons, List.not_mem_nil, or_false] at hd
  rcases hd with rfl | rfl | rfl
  · exact (short_names g.nm (Nat.le_trans g.le (by decide))).mono (by decide) (by decide)
  · exact (short_names g.gn (Nat.le_trans g.gl (by decide))).mono (by decide) (by decide)
  · refine short_tup (n := 70) (k := 1) (fun d hd => ?_) (by rw [List.length_map, g.many]; omega)
    obtain ⟨e, he, rfl⟩ := List.mem_map.mp hd
    obtain ⟨e1, e2, e3, HL, e4, e5⟩ := g.ents e he
    exact short_ent e1 e2 e3 g.nm g.gn e4 e5
/-! ### along_tracks -/
/-- nothing but the tables has changed -/
def TabsG (Ts : List Addr) (H : Hp) : Prop := ∀ T ∈ Ts, GxR.TabG H T
structure TB1 (Ts : List Addr) (H H' : Hp) : Prop where
  tg : TabsG Ts H'
  kp : ∀ a o, H a = some o → (∀ ps, o ≠ .tbl ps) → H' a = some o
  free : ∀ a, H' a = none → H a = none
  oth : ∀ a o, H a = some o → a ∉ Ts → H' a = some o
theorem tabg_sm {H H' : Hp} {T : Addr} (sm : Same H H') (t : GxR.TabG H T) : GxR.TabG H' T := by
  obtain ⟨ps, e, ok⟩ := t
  exact ⟨ps, sm _ _ e, ok⟩
theorem tabs_sm {H H' : Hp} {Ts : List Addr} (sm : Same H H') (t : TabsG Ts H) : TabsG Ts H' := fun T hT => tabg_sm sm (t T hT)
theorem TB1.same {Ts : List Addr} {H H' : Hp} (t : TabsG Ts H) (sm : Same H H') : TB1 Ts H H' := ⟨tabs_sm sm t, fun a o e _ => sm a o e, fun a n => sm.free n, fun a o e _ => sm a o e⟩
theorem TB1.tr {Ts : List Addr} {H H1 H2 : Hp} (a : TB1 Ts H H1) (b : TB1 Ts H1 H2) : TB1 Ts H H2 := ⟨b.1, fun c o e n => b.2 c o (a.2 c o e n) n, fun c n => a.free c (b.free c n), fun c o e n => b.oth c o (a.oth c o e n) n⟩
theorem TB1.tab {Ts : List Addr} {T : Addr} {H H' : Hp} (t : GxR.Tabbed T H H') (g : TabsG Ts H) (hT : T ∈ Ts) : TB1 Ts H H' := by
  refine ⟨fun T' hT' => ?_, fun a o e n => ?_, fun a n => ?_, fun a o e n => (t.2 a fun z => n (z ▸ hT)).trans e⟩
  · by_cases z : T' = T
    · rw [z]
      exact t.1
    · obtain ⟨ps, e, ok⟩ := g T' hT'
      exact ⟨ps, (t.2 T' z).trans e, ok⟩
  · have na : a ≠ T := fun z => by
      obtain ⟨ps, e', _⟩ := g T hT
      rw [z, e'] at e
      exact n ps (Option.some.inj e).symm
    rw [t.2 a na]
    exact e
  · by_cases z : a = T
    · obtain ⟨ps, e, _⟩ := t.1
      rw [z, e] at n
      cases n
    · rw [← t.2 a z]
      exact n
theorem TB1.tk {Ts : List Addr} {H H' : Hp} (t : TB1 Ts H H') : TK H H' := fun a xs e => t.2 a _ e fun ps z => nomatch z
theorem TB1.lst {Ts : List Addr} {H H' : Hp} (t : TB1 Ts H H') {a : Addr} {xs : List V} (e : H a = some (.lst xs)) : H' a = some (.lst xs) := t.2 a _ e fun ps z => nomatch z
theorem TB1.dct {Ts : List Addr} {H H' : Hp} (t : TB1 Ts H H') {a : Addr} {kvs : List (Key × V)} (e : H a = some (.dK kvs)) : H' a = some (.dK kvs) := t.2 a _ e fun ps z => nomatch z
theorem tabs_upd {H : Hp} {Ts : List Addr} {l : Addr} {xs : List V} {o : HO} (t : TabsG Ts H) (e : H l = some (.lst xs)) : TabsG Ts (upd H l o) := fun T hT => by
  obtain ⟨ps, e1, ok⟩ := t T hT
  exact ⟨ps, (upd_ne (ne_of e1 e (by intro z; cases z))).trans e1, ok⟩
/-- a list that came since is written -/
theorem TB1.put {Ts : List Addr} {H H' : Hp} {l : Addr} {xs : List V} {o : HO} (t : TB1 Ts H H') (n : H l = none) (e : H' l = some (.lst xs)) : TB1 Ts H (upd H' l o) :=
  ⟨tabs_upd t.1 e, fun a u eu na => (upd_ne (ne_of_none eu n)).trans (t.2 a u eu na), fun a na => by
    by_cases z : a = l
    · rw [z]
      exact n
    · rw [upd_ne z] at na
      exact t.free a na, fun a u eu na => (upd_ne (ne_of_none eu n)).trans (t.oth a u eu na)⟩
/-! ### sorted(..) of what gives texts -/
def leS (a b : Str) : Prop := a.cps.toList ≤ b.cps.toList
theorem leS_of {a b : Str} (h : ltCps b.cps.toList a.cps.toList = false) : leS a b := by
  rw [ltCps_eq] at h
  exact List.not_lt.mp (of_decide_eq_false h)
theorem str_ext {a b : Str} (h : a.cps.toList = b.cps.toList) : a = b := by
  cases a with
  | mk x => cases b with
    | mk y =>
      have : x = y := Array.toList_inj.mp h
      rw [this]
theorem leS_trans {a b c : Str} (h1 : leS a b) (h2 : leS b c) : leS a c := List.le_trans h1 h2
theorem leS_anti {a b : Str} (h1 : leS a b) (h2 : leS b a) : a = b := str_ext (List.le_antisymm h1 h2)
theorem rising_pw : ∀ (p : Str) (l : List Str), risingS p l = true → (p :: l).Pairwise leS
  | p, [], _ => List.pairwise_singleton _ _
  | p, x :: r, h => by
    have h' : (!ltCps x.cps.toList p.cps.toList && risingS x r) = true := h
    rw [Bool.and_eq_true] at h'
    have le : leS p x := leS_of (by simpa using h'.1)
    have ih := rising_pw x r h'.2
    refine List.pairwise_cons.mpr ⟨fun y hy => ?_, ih⟩
    rcases List.mem_cons.mp hy with rfl | hy
    · exact le
    · exact leS_trans le (List.rel_of_pairwise_cons ih hy)
theorem sorted_pw {l : List Str} (h : sortedS l = true) : l.Pairwise leS := by
  cases l with
  | nil => exact .nil
  | cons x r => exact rising_pw x r h
/-- two sorted lists of the same texts are one -/
theorem sorted_one {l r : List Str} (p : l.Perm r) (h1 : sortedS l = true) (h2 : sortedS r = true) : l = r :=
  List.Perm.eq_of_pairwise (fun a b _ _ x y => leS_anti x y) (sorted_pw h1) (sorted_pw h2) p
theorem sorted_by {prog : Program} {w : World} {A : Around} {E : Value → Shared → Prop} {s : Shared} {x : Value} {Q : Value → Shared → Prop}
    (h : wpAny (model prog w) A.in1 (collect x) (fun vs s1 => ∃ ss, StrsAre vs ss ∧ vs.length < 64 ∧ ∀ (out : Array Value) (ss' : List Str) (h' : Heap) (ep : Nat), StrsAre out.toList ss' → ss'.Perm ss → sortedS ss' = true →
      (∀ b o, s1.heap.get? b = some o → h'.get? b = some o) → h'.get? s1.heap.objs.size = some (seqObj "list" out ep) → Q (.ref s1.heap.objs.size) { s1 with heap := h' }) E s) :
    wpAny (model prog w) A (call (.builtin "sorted") [x]) Q E s := by
  refine Calls.call_function_entry kind_sorted plain_sorted entry_sorted (args_sorted1 _) ?_
  unfold Builtin.«sorted»
  refine wpAny_bind (m := checkCount "sorted" 1 1 _) (wpAny_pure (wpAny_bind (wpAny_mono h (fun vs s1 ⟨ss, hS, h64, hq⟩ => ?_) fun _ _ e => e)))
  have hoL : (s1.heap.push (seqObj "list" vs.toArray 0)).get? s1.heap.objs.size = some (seqObj "list" vs.toArray 0) := Heap.get?_push_size _ rfl
  refine wpAny_bind (wpAny_newList (wpAny_bind (wpAny_holding (wpAny_call_entry slot_list_sort ⟨_, hoL, rfl⟩ entry_list_sort (list_sort_treeK strKind_oneLt hoL hS.keysOf (fun v1 v2 rest e => keyKind_strs (by rw [← e]; exact hS)) h64 fun st' hp hs => ⟨_, rfl, ?_⟩) (args_list_sort _)))))
  obtain ⟨ss', h1, h2, h3⟩ := sorted_out_str hS hp hs
  obtain ⟨ep, he⟩ := sortedHeap_at (out := (arrOf st').map (·.2)) hoL
  refine wpAny_pure ⟨_, rfl, hq _ ss' _ ep h1 h2 h3 (fun b o e => ?_) he⟩
  have lt := Heap.lt_size e
  rw [sortedHeap_old (Nat.ne_of_lt lt) (by rw [Heap.size_push]; exact Nat.lt_succ_of_lt lt)]
  exact Heap.get?_push_of_some _ e
/-- of a tuple of texts -/
theorem cr_sortedTS {X : Cx} : CallR X (.builtin "sorted") (fun vs H Q => ∃ (a : Addr) (xs : List Str), vs = [.ref a] ∧ SqT X.K H a (xs.map V.str) ∧ xs.length < 64 ∧
    ∀ (ys : List Str) (p : Addr), ys.Perm xs → sortedS ys = true → H p = none → Q (.ref p) (upd H p (.lst (ys.map V.str)))) := by
  rintro pins s σ H vs us Q I r ⟨a, xs, rfl, hs, h64, q⟩
  rw [Vals.ref1 r]
  obtain ⟨its, rv, ⟨o, e1, e2, n, e3⟩, hz⟩ := I.tuple hs
  have l0 := rv.length
  rw [List.length_map] at l0
  refine sorted_by (wpAny_collect_seq a (.inr rfl) e1 e2 e3 (fun h1 k1 => ⟨xs, ?_, ?_, fun out ys h' ep g1 g2 g3 k2 g4 => ?_⟩) (by rw [List.size_toArray, ← rv.length]; exact hz))
  · exact rv.strs
  · show its.length < 64
    rw [← l0]
    exact h64
  · have I1 := I.kept (t' := s.toks) k1
    have hlen : (ys.map V.str).length ≤ sizeLine := by rw [List.length_map, g2.length_eq]; exact small64 h64
    exact ⟨.ref h1.objs.size, upd H h1.objs.size (.lst (ys.map V.str)), I1.laid (t' := s.toks) k2 (Nat.le_refl _) ⟨hlen, out.toList, ep, vals_of_strs g1, by rw [g4]⟩, rfl, q ys _ g2 g3 (I1.hok.fresh (Nat.le_refl _))⟩
/-! ### the order of entries -/
theorem ents_pairs {H : Hp} : ∀ {pr : List (Addr × Ent)}, (∀ x ∈ pr, H x.1 = some (.tup x.2.vals)) → EntsAt H (pr.map (·.1)) (pr.map (·.2))
  | [], _ => .nil
  | x :: r, h => .cons (h x List.mem_cons_self) (ents_pairs fun y hy => h y (List.mem_cons_of_mem _ hy))
def prV (x : Addr × Ent) : V × PyData := (.ref x.1, ordD x.2)
/-- entries in their order -/
def ordLe (a b : Addr × Ent) : Bool := PySem.W.dataLe false id (ordD a.2) (ordD b.2)
def sortE (pr : List (Addr × Ent)) : List (Addr × Ent) := pr.mergeSort ordLe
theorem keyed_prV (pr : List (Addr × Ent)) : keyed (pr.map prV) = (sortE pr).map prV := (List.map_mergeSort (f := prV) (s := PySem.W.dataLe false fun e : V × PyData => e.2) (r := ordLe) (l := pr) fun a _ b _ => rfl).symm
theorem sortE_p (pr : List (Addr × Ent)) : (sortE pr).Perm pr := List.mergeSort_perm _ _
theorem ord_inj {e g : Ent} (h : PySem.W.keyToks (ordD e) = PySem.W.keyToks (ordD g)) : e.name = g.name := by
  have h' : ([.inl 1, .inl e.moment, .inl 1, .inl e.rank, .inl 1, .inr e.name.cps.toList, .inl 0] : List (Int ⊕ List Nat)) = [.inl 1, .inl g.moment, .inl 1, .inl g.rank, .inl 1, .inr g.name.cps.toList, .inl 0] := by
    simpa [ordD, PySem.W.keyToks, PySem.W.keyToksAll] using h
  simp only [List.cons.injEq, Sum.inr.injEq, Sum.inl.injEq, true_and, and_true] at h'
  exact str_ext h'.2.2
theorem dle_iff (a b : PyData) : PySem.W.dataLe false id a b = !PySem.W.dataLt b a := rfl
theorem dlt_asym {a b : PyData} (h : PySem.W.dataLt a b = true) : PySem.W.dataLt b a = false := by
  cases e : PySem.W.dataLt b a with
  | false => rfl
  | true =>
    have := PyProof.Rows.lex_trans (O := PyProof.Rows.itemOrd) _ _ _ h e
    rw [PyProof.Rows.lex_irrefl] at this
    cases this
theorem dle_tr (a b c : PyData) (h1 : PySem.W.dataLe false id a b = true) (h2 : PySem.W.dataLe false id b c = true) : PySem.W.dataLe false id a c = true := by
  rw [dle_iff] at *
  have g1 : PySem.W.dataLt b a = false := by simpa using h1
  have g2 : PySem.W.dataLt c b = false := by simpa using h2
  cases e : PySem.W.dataLt c a with
  | false => rfl
  | true =>
    rcases PyProof.Rows.lex_negTrans (O := PyProof.Rows.itemOrd) _ (PySem.W.keyToks b) _ e with z | z
    · exact absurd (g2.symm.trans z) (by decide)
    · exact absurd (g1.symm.trans z) (by decide)
theorem dle_tot (a b : PyData) : (PySem.W.dataLe false id a b || PySem.W.dataLe false id b a) = true := by
  rw [dle_iff, dle_iff]
  cases e : PySem.W.dataLt b a with
  | false => rfl
  | true => rw [dlt_asym e]; rfl
theorem ordLe_tr (a b c : Addr × Ent) (h1 : ordLe a b = true) (h2 : ordLe b c = true) : ordLe a c = true := dle_tr _ _ _ h1 h2
theorem ordLe_tot (a b : Addr × Ent) : (ordLe a b || ordLe b a) = true := dle_tot _ _
theorem ord_strict {xs : List (Addr × Ent)} (h : xs.Pairwise fun a b => ordLe a b = true) (n : (xs.map fun x => x.2.name).Nodup) : (xs.map fun x => ordD x.2).Pairwise fun a b => PySem.W.dataLt a b = true := by
  rw [List.pairwise_map]
  have n' := List.pairwise_map.mp n
  refine (List.Pairwise.and h n').imp fun {a b} z => ?_
  cases e : PySem.W.dataLt (ordD a.2) (ordD b.2) with
  | true => rfl
  | false =>
    have h1 := z.1
    unfold ordLe at h1
    rw [dle_iff] at h1
    have g1 : PySem.W.dataLt (ordD b.2) (ordD a.2) = false := by simpa using h1
    exact absurd (ord_inj (PyProof.Rows.lex_total (O := PyProof.Rows.itemOrd) _ _ e g1)) z.2
/-! ### x in d.values(), texts -/
section
variable {prog : Program} {w : World} {A : Around} {E : Value → Shared → Prop} {s : Shared}
theorem plain_ci : plainId "proto.contains_iter" = true := by decide +kernel
theorem entry_ci : entryFor table "proto.contains_iter" = some Builtin.«proto.contains_iter» := entryFor_of_tree (by kernel_rfl)
theorem nocont_vals : typeLookup (.type "dict_values") "__contains__" = pure none := by rw [typeLookup_type, builtinLookup_eq_fast]; kernel_rfl
theorem ci_loop {it d : Addr} {ep : Nat} {vs : List (Key × Value)} {ys : List Str} {z : Str} {t : Tok} (hA : A.handled = none) (hv : ∀ (i : Nat) (p : Key × Value), vs[i]? = some p → ∃ y u, ys[i]? = some y ∧ p.2 = .str y u) (hl : ys.length = vs.length) (hdi : d ≠ it) {R : Result → Shared → Prop} :
    ∀ (n i : Nat) (s : Shared), i + n = vs.length → s.heap.IsValIter it d i vs.length ep → s.heap.DictAt (mixKind prog w) d vs ep → (∀ h', Heap.ExtBut it s.heap h' → R (.ok (.ret (.bool (decide (z ∈ ys.drop i))))) { s with heap := h' }) →
      codeAny (model prog w) A (.builtin "proto.contains_iter" ⟨[.ref it, .str z t], []⟩) R s
  | 0, i, s, hn, hit, hd, hR => by
    refine codeAny_builtin entry_ci ?_
    rw [Around.under_plainId plain_ci]
    unfold Builtin.«proto.contains_iter»
    refine wpAny_bind (wpAny_pyNext_values_end hA hit hd (List.getElem?_eq_none (by omega)) fun h' eb => ?_)
    refine wpAny_bind (wpAny_rule (wpAny_pure ?_))
    have e : ys.drop i = [] := List.drop_eq_nil_of_le (by omega)
    have q := hR h' eb
    rw [e] at q
    exact q
  | n + 1, i, s, hn, hit, hd, hR => by
    refine codeAny_builtin entry_ci ?_
    rw [Around.under_plainId plain_ci]
    unfold Builtin.«proto.contains_iter»
    obtain ⟨p, hp⟩ : ∃ p, vs[i]? = some p := ⟨_, List.getElem?_eq_getElem (by omega)⟩
    obtain ⟨y, u, hy, ev⟩ := hv i p hp
    have ed : ys.drop i = y :: ys.drop (i + 1) := by
      rw [List.drop_eq_getElem_cons (by omega)]
      rw [List.getElem?_eq_getElem (by omega)] at hy
      rw [Option.some.inj hy]
    refine wpAny_bind (wpAny_pyNext_values_item hit hd (k := p.1) (v := p.2) hp fun h' hit' sb => ?_)
    rw [ev]
    refine wpAny_bind ((mixKind prog w).eqBool (a := Sum.inr y) (b := Sum.inr z) (kV_is (k := Sum.inr y) ⟨u, rfl⟩) (kV_is (k := Sum.inr z) ⟨t, rfl⟩) ?_)
    by_cases e : y = z
    · rw [if_pos (by simp [e])]
      refine wpAny_bind (wpAny_rule (wpAny_pure ?_))
      have q := hR h' fun b o hb eo => (sb.2 b hb).trans eo
      rw [ed, decide_eq_true (by rw [e]; exact List.mem_cons_self)] at q
      exact q
    · rw [if_neg (by simp [e])]
      refine wpAny_pure ⟨plainId_quiet plain_ci _, ci_loop hA hv hl hdi n (i + 1) { s with heap := h' } (by omega) hit' (let ⟨o, es, ho, r⟩ := hd; ⟨o, es, (sb.2 d hdi).trans ho, r⟩) fun h2 eb2 => ?_⟩
      have q := hR h2 (fun b o hb eo => eb2 b o hb ((sb.2 b hb).trans eo))
      rw [ed] at q
      have e2 : decide (z ∈ y :: ys.drop (i + 1)) = decide (z ∈ ys.drop (i + 1)) := by
        have : ¬ z = y := fun h => e h.symm
        simp [this]
      rw [e2] at q
      exact q
end
def valsO (v d : Addr) : HO := .ext fun h => h.get? v = some { cls := .type "dict_values", data := .fields #[.ref d] }
/-- d.values(), as a value -/
def tVals (td : TE) : TE := fun σ H Q => td σ H fun x H1 => ∃ (d : Addr) (kvs : List (Key × V)), x = .ref d ∧ H1 d = some (.dK kvs) ∧ ∀ v, H1 v = none → Q (.ref v) (upd H1 v (valsO v d))
theorem pe_vals {X : Cx} {e : Expr} {td : TE} {apos cpos : Pos} (he : PE X e td) (hbase : attributeBase e "values" X.env (eval e X.env) = eval e X.env := by rfl) (hline : (apos.endLine == cpos.line) = true := by rfl) :
    PE X (.Call (.Attribute e "values" apos) [] [] cpos) (tVals td) := by
  refine ⟨fun pins s σ H Q I h => ?_⟩
  refine wpAny_Call_method (T := "dict") (id := "dict.values") hbase rfl hline F.plainAttrs_dict F.slot_dict_values F.type_dict_values (thn (he.run pins s σ H _ I h) ?_)
  rintro u s1 ⟨x, H1, I1, rx, d, kvs, rfl, hd, q⟩
  obtain rfl : u = Value.ref d := rx
  obtain ⟨_, dS, vs, rel, dd⟩ := dk_of I1.hok hd
  refine ⟨dd.typeIs, dd.mapOf.noDict, ?_⟩
  show wpAny _ _ (callWith cpos (.builtin "dict.values") [.ref d] [] []) _ X.xe s1
  refine method_meetsIn F.slot_dict_values F.entry_dict_values rfl (PySem.evalArgs_none ⟨rfl, dd.typeIs, F.args_dict_values_1 _, _, meets_dict_values (mixKind X.prog X.w) d dS, ⟨vs, dd⟩, ?_⟩)
  refine ⟨.ref s1.heap.objs.size, _, I1.laid (t' := s1.toks) (a := s1.heap.objs.size) (o := valsO s1.heap.objs.size d) (fun b ob q => Heap.get?_push_of_some _ q) (Nat.le_refl _) ?_, rfl, q _ (I1.hok.fresh (Nat.le_refl _))⟩
  have e : (s1.heap.push { cls := .type "dict_values", data := .fields #[.ref d] }).get? s1.heap.objs.size = some { cls := .type "dict_values", data := .fields #[.ref d] } := Heap.get?_push_size _ rfl
  exact ⟨e, ⟨_, e⟩, fun h1 h2 p k => k _ p⟩
def rInVals : R2 := fun x y H Q => ∃ (z : Str) (v d : Addr) (kvs : List (Key × V)) (ys : List Str), x = .str z ∧ y = .ref v ∧ H v = some (valsO v d) ∧ H d = some (.dK kvs) ∧ kvs.map (·.2) = ys.map V.str ∧ Q (.bl (decide (z ∈ ys))) H
theorem op_inVals {X : Cx} (hc : X.calm = true) : OpR X (compareOp .In) rInVals := by
  rintro pins s σ H x y vx vy Q I rx ry ⟨z, v, d, kvs, ys, rfl, rfl, hv, hd, hy, q⟩
  obtain ⟨t, rfl⟩ : ∃ t, vx = Value.str z t := rx
  obtain rfl : vy = Value.ref v := ry
  obtain ⟨ev, _, _⟩ := I.hok v _ hv
  obtain ⟨_, dS, vs, rel, o, es, ep, dd⟩ := dk_of I.hok hd
  have dA : s.heap.DictAt (mixKind X.prog X.w) d vs ep := ⟨o, es, dd⟩
  have tv : s.TypeIs (.ref v) "dict_values" := ⟨_, ev, rfl⟩
  have lv : kvs.length = vs.length := Paired.length rel
  have ly : ys.length = vs.length := by
    have := congrArg List.length hy
    rw [List.length_map, List.length_map] at this
    omega
  show wpAny _ _ (contains (.ref v) (.str z t) >>= fun b => pure (Value.bool b)) _ _ s
  refine wpAny_bind ?_
  unfold contains
  refine wpAny_holding ?_
  show wpAny _ _ (specialOf (.ref v) "__contains__" >>= _) _ _ s
  refine wpAny_bind (wpAny_specialOf tv nocont_vals ?_)
  show wpAny _ _ (if ((none : Option Value) == some Value.none) = true then _ else _) _ _ s
  rw [if_neg (by decide)]
  refine wpAny_bind (wpAny_callSpecialUnlessNone?_none tv nocont_vals ?_)
  refine wpAny_bind (wpAny_rule ?_)
  refine wpAny_bind (wpAny_tryCatch (wpAny_pyIter_values (d := d) (knd := mixKind X.prog X.w) ⟨_, ev, rfl, rfl⟩ dA ?_))
  have nvi : d ≠ s.heap.objs.size := Nat.ne_of_lt (Heap.lt_size dd.1)
  refine wpAny_bind (wpAny_runValue (ci_loop (ys := ys) (I.ok.hd hc) ?_ ly nvi vs.length 0 _ (by omega) ⟨_, Heap.get?_push_size _ rfl, rfl, rfl⟩ ?_ fun h' eb => ?_))
  · intro i p hp
    have hi : i < vs.length := (List.getElem?_eq_some_iff.mp hp).1
    obtain ⟨⟨k, v'⟩, hk⟩ : ∃ e, kvs[i]? = some e := ⟨_, List.getElem?_eq_getElem (by omega)⟩
    obtain ⟨u, hu, ru⟩ := kv_get rel hk
    obtain ⟨y, hy'⟩ : ∃ y, ys[i]? = some y := ⟨_, List.getElem?_eq_getElem (by omega)⟩
    have e1 : (kvs.map (·.2))[i]? = some v' := by rw [List.getElem?_map, hk]; rfl
    rw [hy, List.getElem?_map, hy'] at e1
    obtain rfl : V.str y = v' := Option.some.inj e1
    obtain ⟨t2, rfl⟩ := ru
    rw [hp] at hu
    exact ⟨y, t2, hy', by rw [Option.some.inj hu]⟩
  · exact ⟨o, es, Heap.get?_push_of_some _ dd.1, dd.2⟩
  · refine wpAny_pure (wpAny_pure ⟨.bl _, H, I.kept (t' := s.toks) (fun b ob e => eb b ob (Nat.ne_of_lt (Heap.lt_size e)) (Heap.get?_push_of_some _ e)), rfl, ?_⟩)
    rw [List.drop_zero]
    exact q
/-! ### d.setdefault, list(d.values()), walks over lists and tuples -/
namespace Sdf
section
variable {prog : Program} {w : World} {K : Type} [DecidableEq K] {knd : KeyKind prog w K} {A : Around} {E : Value → Shared → Prop} {s : Shared}
theorem sdf_pairs {d : Addr} {kvs : List (K × Value)} {k : K} {key dflt : Value} {Q : Value → Shared → Prop} (hkey : knd.is k key = true) (hm : s.heap.DictOf knd d kvs) (hsz : kvs.length ≤ sizeLine)
    (hthere : ∀ v, valueAt kvs k = some v → Q v { s with toks := s.toks + 1 })
    (hnew : valueAt kvs k = none → ∀ h', h'.DictOf knd d (stored kvs k dflt) → Heap.SameBut d s.heap h' → Q dflt { s with heap := h', toks := s.toks + 1 }) :
    wpAny (model prog w) A (dictSetDefault d key dflt) Q E s := by
  have hm0 := hm.mapOf
  obtain ⟨o, es, ep, ho, hc, hd, hk, hp, hn⟩ := hm
  have hes : es.size ≤ sizeLine := by
    have e1 := hp.length
    have e2 : es.toList.length = es.size := by simp
    omega
  have hf : ∀ x, findBy knd.is es x = valueAt kvs x := fun x => by
    rw [← hp.find x]
    obtain ⟨l⟩ := es
    simp [findBy]
  unfold dictSetDefault
  try with_reducible refine wpAny_holding ?_
  refine wpAny_bind (knd.pyHash hkey ?_)
  refine wpAny_bind (wpAny_dictFind_of (s := { s with toks := s.toks + 1 }) hkey ho hd hk ?_)
  have hidx : (es.findIdx? fun e => knd.is k e.key) = kvs.findIdx? fun kv => decide (kv.1 = k) := by
    rw [← hp.findIdx k]; obtain ⟨l⟩ := es; simp
  cases hi : es.findIdx? fun e => knd.is k e.key with
  | some i =>
    have hfk : valueAt kvs k = (es[i]?).map (·.val) := by rw [← hf k, findBy_of_findIdx?, hi]
    refine wpAny_bind (wpAny_dictEntries (s := { s with toks := s.toks + 1 }) ho hd ?_)
    cases he : es[i]? with
    | none =>
      exfalso
      have := Array.findIdx?_eq_some_iff_findIdx_eq.mp hi
      have hlt : i < es.size := this.1
      rw [Array.getElem?_eq_getElem hlt] at he
      exact nomatch he
    | some e =>
      rw [he] at hfk
      exact wpAny_bind (wpAny_rule (wpAny_pure (hthere e.val hfk)))
  | none =>
    have hfk : valueAt kvs k = none := by rw [← hf k, findBy_of_findIdx?, hi]
    have hnot : k ∉ kvs.map (·.1) := not_mem_of_findIdx_none (hidx ▸ hi)
    have hany : ¬ (kvs.any fun kv => decide (kv.1 = k)) = true := by
      rw [List.any_eq_true]; rintro ⟨kv, hkv, he⟩
      exact hnot (List.mem_map.mpr ⟨kv, hkv, of_decide_eq_true he⟩)
    refine wpAny_bind (wpAny_rule (wpAny_bind (wpAny_updateDictKeys (hz := hes) (s := { s with toks := s.toks + 1 }) ho hd (wpAny_pure (hnew hfk _ ⟨_, _, ep + 1, Heap.get?_update_self _ ho (Obj.isFreed_of_dict (Obj.data_mapDictKeys hd _)),
      hc.mapDictKeys _, Obj.data_mapDictKeys hd _, hk.push hkey _, ?_, ?_⟩ (Heap.SameBut.update ..))))))
    · rw [stored, if_neg hany]
      have := hp.append hkey (knd.hash k) dflt
      obtain ⟨l⟩ := es
      simpa using this
    · rw [stored, if_neg hany, List.map_append, List.nodup_append]
      refine ⟨hn, by simp, ?_⟩
      intro a ha b hb
      simp only [List.map_cons, List.map_nil, List.mem_singleton] at hb
      subst hb
      exact fun e => hnot (e ▸ ha)
theorem meets_sdf (knd : KeyKind prog w K) {k : K} {key : Value} (d : Addr) (hkey : knd.is k key = true) (hd : (d == sysModules) = false) (dflt : Value) :
    MeetsIn prog w (Builtin.«dict.setdefault» ⟨[.ref d, key, dflt], []⟩) (fun _ R s => ∃ kvs, s.heap.DictOf knd d kvs ∧ kvs.length ≤ sizeLine ∧
      (∀ v, valueAt kvs k = some v → R (.ok (.ret v)) { s with toks := s.toks + 1 }) ∧
      (valueAt kvs k = none → ∀ h', h'.DictOf knd d (stored kvs k dflt) → Heap.SameBut d s.heap h' → R (.ok (.ret dflt)) { s with heap := h', toks := s.toks + 1 })) :=
  .of_wp fun A R s ⟨kvs, hm, hz, h1, h2⟩ => by
    unfold Builtin.«dict.setdefault»
    refine wpAny_bind ?_
    unfold Builtin.Dict.keyAndDefault
    refine wpAny_bind (wpAny_notOrdered_dict hm.typeIs ?_)
    show wpAny _ _ (pure (d, key, some dflt)) _ _ s
    refine wpAny_pure ?_
    show wpAny _ _ (if (d == sysModules) = true then _ else (dictSetDefault d key dflt >>= _)) _ _ s
    rw [if_neg (by rw [hd]; exact Bool.false_ne_true)]
    exact wpAny_bind (sdf_pairs hkey hm hz (fun v hv => wpAny_pure ⟨v, rfl, h1 v hv⟩) fun hn h' hm' hs' => wpAny_pure ⟨dflt, rfl, h2 hn h' hm' hs'⟩)
end
section
variable {X : Cx} {pins : List (Addr × Obj)} {σ : L2.St} {H : Hp} {s : Shared} {a : Addr} {A : Around} {E : Value → Shared → Prop}
theorem d_sdf {kvs : List (Key × V)} {k : Key} {z : V} {u r : Value} {Q : Value → Shared → Prop} (I : Inv X pins σ H s) (e : H a = some (.dK kvs)) (lt : kvs.length < sizeLine) (ry : RelV (kV k) u) (rz : RelV z r)
    (h1 : ∀ v w' s', valV kvs k = some v → Inv X pins σ H s' → RelV v w' → Q w' s') (h2 : ∀ s', valV kvs k = none → Inv X pins σ (upd H a (.dK (putK kvs k z))) s' → Q r s') :
    wpAny (model X.prog X.w) A (call (.builtin "dict.setdefault") [.ref a, u, r]) Q E s := by
  obtain ⟨zz, hd, vs, rel, dd⟩ := dk_of I.hok e
  have hz : vs.length ≤ sizeLine := by rw [← rel.length]; exact zz
  refine call_meetsIn PySem.F.slot_dict_setdefault dd.typeIs PySem.F.entry_dict_setdefault (PySem.F.args_dict_setdefault_3 _ _ _) (meets_sdf (mixKind X.prog X.w) a (kV_is ry) hd r) ⟨vs, dd, hz, fun w' hw => ?_, fun hn h' dd' hs => ?_⟩
  · have q := rel.val k
    rw [hw] at q
    cases ev : valV kvs k with
    | none =>
      rw [ev] at q
      exact absurd q (fun z => by cases z)
    | some v =>
      rw [ev] at q
      exact h1 v w' _ ev (I.tok _) q
  · have ev : valV kvs k = none := by
      have q := rel.val k
      rw [hn] at q
      cases ev : valV kvs k with
      | none => rfl
      | some v =>
        rw [ev] at q
        exact absurd q (fun z => by cases z)
    have he : ∃ q, h'.get? a = some q := let ⟨q, _, _, hq, _⟩ := dd'; ⟨q, hq⟩
    have hl : (putK kvs k z).length ≤ sizeLine := by have := length_putK kvs k z; omega
    exact h2 _ ev (d_write I (by rw [e]; exact True.intro) hs he (dk_new hl hd (rel.put k rz) dd'))
end
end Sdf
/-- d.setdefault(k, x) -/
def tSdf (td ty tx : TE) : TE := fun σ H Q => td σ H fun x H1 => ∃ a, x = .ref a ∧ IsD H1 a ∧ ty σ H1 fun y H2 => tx σ H2 fun z H3 => ∃ kvs k, H3 a = some (.dK kvs) ∧ y = kV k ∧ kvs.length < sizeLine ∧
  (∀ v, valV kvs k = some v → Q v H3) ∧ (valV kvs k = none → Q z (upd H3 a (.dK (putK kvs k z))))
theorem pe_sdf {X : Cx} {o e f : Expr} {apos cpos : Pos} {td ty tx : TE} (ho : PE X o td) (he : PE X e ty) (hf : PE X f tx) (m : M2 X o "setdefault" apos e f cpos) : PE X (.Call (.Attribute o "setdefault" apos) [e, f] [] cpos) (tSdf td ty tx) := by
  refine ⟨fun pins s σ H Q I h => ?_⟩
  refine wpAny_Call_method m.base m.few m.line PySem.F.plainAttrs_dict PySem.F.slot_dict_setdefault PySem.F.type_dict_setdefault (thn (ho.run pins s σ H _ I h) fun u s1 ⟨x, H1, I1, rx, a, ex, d, q1⟩ => ?_)
  subst ex
  obtain rfl : u = Value.ref a := rx
  obtain ⟨t1, t2, _⟩ := isD_at I1 d
  refine ⟨t1, t2, ?_⟩
  rw [m.trees]
  refine Calls.callWith_builtin rfl (Calls.evalArgs_plain (Calls.spliced_cons (thn (he.run pins s1 σ H1 _ I1 q1) fun iv s2 ⟨y, H2, I2, ry, q2⟩ =>
    Calls.spliced_cons (thn (hf.run pins s2 σ H2 _ I2 q2) fun fv s3 ⟨z, H3, I3, rz, kvs, k, hd, ey, lt, qa, qb⟩ => Calls.spliced_nil ?_))))
  subst ey
  exact Sdf.d_sdf I3 hd lt ry rz (fun v w' s4 ev I4 rw' => ⟨_, H3, I4, rw', qa v ev⟩) fun s4 ev I4 => ⟨_, _, I4, rz, qb ev⟩
/-- list(d.values()) -/
theorem call_listVals {X : Cx} (hc : X.calm = true) : CallR X (.type "list") (fun xs H Q => ∃ (v d : Addr) (kvs : List (Key × V)), xs = [.ref v] ∧ H v = some (valsO v d) ∧ H d = some (.dK kvs) ∧ ∀ q, H q = none → Q (.ref q) (upd H q (.lst (kvs.map (·.2))))) := by
  rintro pins s σ H xs us Q I r ⟨v, d, kvs, rfl, hv, hd, q⟩
  obtain ⟨u, eu, rx⟩ := vals1 r
  subst eu
  obtain rfl : u = Value.ref v := rx
  obtain ⟨ev, _, _⟩ := I.hok v _ hv
  obtain ⟨z, lo, vs, rk, hdd⟩ := (show ObjOk X.prog X.w H s.heap d (.dK kvs) from I.hok d _ hd)
  obtain ⟨ep, hat⟩ := hdd.dictAt
  have hl : kvs.length = vs.length := Paired.length rk
  refine PySem.W.kdl_call (PySem.W.kdl_values (knd := mixKind X.prog X.w) (kvs := vs) (ep := ep)) (I.ok.hd hc) ⟨⟨_, ev, rfl, rfl⟩, hat⟩ (by rw [← hl]; exact z) fun h' tk acc' c' hkeep hS hacc => ?_
  refine ⟨.ref s.heap.objs.size, upd H s.heap.objs.size (.lst (kvs.map (·.2))), I.laid hkeep (Nat.le_refl _) (show ObjOk X.prog X.w _ _ _ (.lst (kvs.map (·.2))) from ⟨?_, acc'.toList, c', ?_, ?_⟩), rfl, q _ (I.hok.fresh (Nat.le_refl _))⟩
  · rw [List.length_map]; exact z
  · have el : acc'.toList.length = acc'.size := by simp
    refine vals_of_at (by rw [List.length_map, el, hacc.1, hl]) fun j x w h1 h2 => ?_
    obtain ⟨k, hky⟩ := hacc.2 j w (by rw [← Array.getElem?_toList]; exact h2)
    obtain ⟨y, hy, ry⟩ := KV.at' rk hky
    rw [List.getElem?_map, hy] at h1
    rw [← Option.some.inj h1]
    exact ry
  · rw [Array.toArray_toList]; exact hS
/-! a list or a tuple -/
def LT (H : Hp) (a : Addr) (xs : List V) : Prop := H a = some (.lst xs) ∨ H a = some (.tup xs)
theorem LT.by {H H' : Hp} {a : Addr} {xs : List V} (h : LT H a xs) (k : ∀ o, H a = some o → (∀ ps, o ≠ .tbl ps) → H' a = some o) : LT H' a xs := h.imp (fun e => k _ e fun _ z => nomatch z) fun e => k _ e fun _ z => nomatch z
theorem LT.on {H H' : Hp} {a : Addr} {xs : List V} (h : LT H a xs) (s : Same H H') : LT H' a xs := h.imp (fun e => s _ _ e) fun e => s _ _ e
abbrev iSeq (K : PySem.W.Frag) (tl : TE) : TI := fun σ H R => iList K tl σ H R ∨ iTup K tl σ H R
theorem pi_seq {X : Cx} {tg l : Expr} {tl : TE} (hl : PE X l tl) : PI X tg l (iSeq X.K tl) := ⟨fun pins s σ H R I h => h.elim ((pi_list hl).run pins s σ H R I) ((pi_tup hl).run pins s σ H R I)⟩
structure Over (J : It) (xs : List V) (At : Hp → Prop) : Prop where
  go : ∀ i H x, At H → xs[i]? = some x → J.go i H
  yld : ∀ i H y H', At H → J.yld i H y H' → H' = H ∧ xs[i]? = some y
  stop : ∀ i H, At H → xs.length ≤ i → J.stop i H
theorem over_l {K : PySem.W.Frag} {a : Addr} {xs : List V} : Over (Itl K a) xs (fun H => SqL K H a xs) :=
  ⟨fun i H x h e => ⟨xs, x, h, e⟩, fun i H y H' h z => ⟨z.1, z.2 xs h⟩, fun i H h e => ⟨xs, h, e⟩⟩
theorem over_t {K : PySem.W.Frag} {a : Addr} {xs : List V} : Over (Itt K a) xs (fun H => SqT K H a xs) :=
  ⟨fun i H x h e => ⟨xs, x, h, e⟩, fun i H y H' h z => ⟨z.1, z.2 xs h⟩, fun i H h e => ⟨xs, h, e⟩⟩
/-- all(.. for x in xs), its iterator being there -/
theorem all_over {J : It} {At : Hp → Prop} {T : Addr} {xs : List V} {g : TG} {tt : TT} {te : TE} {vs : List Nat} {σ : L2.St} {H : Hp} {Q : VK} (o : Over J xs At) (W : Nat → Hp → Prop) (tg : GxR.TabG H T) (h0 : ∀ H2, GxR.Tabbed T H H2 → W 0 H2) (hl : ∀ i H', i ≤ xs.length → W i H' → At H')
    (step : ∀ i x H' (Go : Hp → Prop), xs[i]? = some x → W i H' → (∀ H4, W (i + 1) H4 → Go H4) → g x (wipe σ vs) H' fun σ2 H2 => wipe σ2 vs = wipe σ vs ∧ tt σ2 H2 fun b H3 => if b = true then te σ2 H3 fun y H4 => ∃ k, y = .bl k ∧ (if k = true then Go H4 else Q (.bl false) H4) else Go H3)
    (done : ∀ H', W xs.length H' → Q (.bl true) H') :
    GxR.TabG H T ∧ ∀ H2, GxR.Tabbed T H H2 → ∃ W : Nat → Nat → Hp → Prop, (∃ m, W 0 m H2) ∧
      GTurns J g tt te vs σ W (fun i m y H' => ∃ k, y = .bl k ∧ (if k = true then ∃ m', m' < m ∧ W (i + 1) m' H' else Q (.bl false) H')) (fun H' => Q (.bl true) H') := by
  refine ⟨tg, fun H2 tb => ⟨fun i m H' => m = xs.length - i ∧ i ≤ xs.length ∧ W i H', ⟨_, rfl, Nat.zero_le _, h0 H2 tb⟩, ?_⟩⟩
  rintro i m H3 ⟨rfl, hi, w3⟩
  by_cases lt : i < xs.length
  · refine .inr ⟨o.go i H3 xs[i] (hl i H3 hi w3) (List.getElem?_eq_getElem lt), fun x H' y => ?_⟩
    obtain ⟨rfl, hx⟩ := o.yld i H3 x H' (hl i H3 hi w3) y
    exact step i x _ (fun H' => ∃ m', m' < xs.length - i ∧ m' = xs.length - (i + 1) ∧ i + 1 ≤ xs.length ∧ W (i + 1) H') hx w3 fun H4 w4 => ⟨_, by omega, rfl, lt, w4⟩
  · have ei : i = xs.length := by omega
    exact .inl ⟨o.stop i H3 (hl i H3 hi w3) (by omega), done H3 (ei ▸ w3)⟩
theorem all_seq {K : PySem.W.Frag} {T l : Addr} {xs : List V} {g : TG} {tt : TT} {te : TE} {vs : List Nat} {σ : L2.St} {H : Hp} {Q : VK} {k : Nat} (h : LT H l xs) (hv : σ[k]? = some (some (.ref l))) (W : Nat → Hp → Prop) (tg : GxR.TabG H T) (h0 : ∀ H2, GxR.Tabbed T H H2 → W 0 H2) (hl : ∀ i H', i ≤ xs.length → W i H' → ∀ o, H l = some o → (∀ ps, o ≠ .tbl ps) → H' l = some o)
    (step : ∀ i x H' (Go : Hp → Prop), xs[i]? = some x → W i H' → (∀ H4, W (i + 1) H4 → Go H4) → g x (wipe σ vs) H' fun σ2 H2 => wipe σ2 vs = wipe σ vs ∧ tt σ2 H2 fun b H3 => if b = true then te σ2 H3 fun y H4 => ∃ k, y = .bl k ∧ (if k = true then Go H4 else Q (.bl false) H4) else Go H3)
    (done : ∀ H', W xs.length H' → Q (.bl true) H') : tAllG T (iSeq K (tVar k)) g tt te vs σ H Q := by
  rcases h with h | h
  · exact .inl ⟨_, hv, l, rfl, ⟨_, SqL.of h⟩, all_over over_l W tg h0 (fun i H' hi w => SqL.of (hl i H' hi w _ h fun _ z => nomatch z)) step done⟩
  · exact .inr ⟨_, hv, l, rfl, ⟨_, SqT.of h⟩, all_over over_t W tg h0 (fun i H' hi w => SqT.of (hl i H' hi w _ h fun _ z => nomatch z)) step done⟩
theorem for_seq {K : PySem.W.Frag} {l : Addr} {xs : List V} {g : TG} {tb : TS} {D : Ends} {σ : L2.St} {H : Hp} {k : Nat} (h : LT H l xs) (hv : σ[k]? = some (some (.ref l))) (Pv : Nat → L2.St → Hp → Prop) (h0 : Pv 0 σ H) (hl : ∀ i σ H', i ≤ xs.length → Pv i σ H' → ∀ o, H l = some o → (∀ ps, o ≠ .tbl ps) → H' l = some o)
    (hs : ∀ i x σ H, xs[i]? = some x → Pv i σ H → g x σ H fun σ2 H2 => tb { D with nx := Pv (i + 1), ct := Pv (i + 1), bk := D.nx } σ2 H2) (hd : ∀ σ H, Pv xs.length σ H → D.nx σ H) : tFor (iSeq K (tVar k)) g tb D σ H := by
  rcases h with h | h
  · exact .inl ⟨_, hv, l, rfl, ⟨_, SqL.of h⟩, for_list Pv h0 (fun i σ' H' hi w => SqL.of (hl i σ' H' hi w _ h fun _ z => nomatch z)) hs hd⟩
  · exact .inr ⟨_, hv, l, rfl, ⟨_, SqT.of h⟩, for_tup Pv h0 (fun i σ' H' hi w => SqT.of (hl i σ' H' hi w _ h fun _ z => nomatch z)) hs hd⟩
/-! ### is_entry_of -/
theorem TB1.of2 {Ts : List Addr} {T1 T2 : Addr} {H H' : Hp} (g : TabsG Ts H) (i1 : T1 ∈ Ts) (i2 : T2 ∈ Ts) (b : TB2 T1 T2 H H') : TB1 Ts H H' := by
  have n1 : ∀ {a o}, H a = some o → (∀ ps, o ≠ .tbl ps) → a ≠ T1 ∧ a ≠ T2 := fun {a o} e n => by
    obtain ⟨p1, e1, _⟩ := g T1 i1
    obtain ⟨p2, e2, _⟩ := g T2 i2
    exact ⟨ne_of e e1 (n p1), ne_of e e2 (n p2)⟩
  refine ⟨fun T hT => ?_, fun a o e n => b.1 a o e (n1 e n).1 (n1 e n).2, fun a n => ?_, fun a o e n => b.1 a o e (fun z => n (z ▸ i1)) fun z => n (z ▸ i2)⟩
  · by_cases z1 : T = T1
    · rw [z1]; exact b.2.1
    · by_cases z2 : T = T2
      · rw [z2]; exact b.2.2
      · obtain ⟨ps, e, ok⟩ := g T hT
        exact ⟨ps, b.1 T _ e z1 z2, ok⟩
  · cases e : H a with
    | none => rfl
    | some o =>
      by_cases z1 : a = T1
      · obtain ⟨ps, e1, _⟩ := b.2.1
        rw [z1, e1] at n
        cases n
      · by_cases z2 : a = T2
        · obtain ⟨ps, e1, _⟩ := b.2.2
          rw [z2, e1] at n
          cases n
        · rw [b.1 a o e z1 z2] at n
          cases n
theorem take_sn {α : Type} {l : List α} {i : Nat} {x : α} (h : l[i]? = some x) : l.take (i + 1) = l.take i ++ [x] := by
  rw [List.take_add_one, h]
  rfl
def goodOk (e : Ent) (G : List Str) : Bool := match e.goodV with | .str g => decide (g ∈ G) | _ => true
def ofB (e : Ent) (P G : List Str) : Bool := goodOk e G && e.places.all fun y => decide (y ∈ P)
def spIsEntryOf (Ts : List Addr) : Sp := fun vs H Q _ => ∃ (a pl gl : Addr) (e : Ent) (P G : List Str), vs = [.ref a, .ref pl, .ref gl] ∧ H a = some (.tup e.vals) ∧ e.Fine ∧ H pl = some (.tup (P.map V.str)) ∧ H gl = some (.tup (G.map V.str)) ∧ TabsG Ts H ∧
  ∀ H', TB1 Ts H H' → Q (.bl (ofB e P G)) H'
theorem goodV_cases (e : Ent) : e.goodV = .non ∨ ∃ g, e.goodV = .str g := by cases e <;> first | exact .inl rfl | exact .inr ⟨_, rfl⟩
section
variable {P : Program} {w : World} {K : PySem.W.Frag} {mg : Str → Option Value} {base : Heap}
abbrev sIsEntryOfN : List Str := ["thing", "places", "goods", "good", "place"]
theorem sc_sIsEntryOf : FnScope sIsEntryOfN ["thing", "places", "goods"] (defScope sIsEntryOf) := ⟨rfl, rfl, rfl, by decide +kernel, rfl, by decide +kernel, by decide +kernel⟩
theorem ok_isEntryOf {f cR T1 T2 T4 fI fG fP : Addr} {Ts : List Addr} {dI dG dP : FuncData} {oc kV doc pm ct : Value} {od an : Option Addr} {osl : Array (Option Value)}
    (lk : K.lookup f = some ⟨oc, od, .func (PySem.W.fnOf "is_entry_of" "is_entry_of" (defArgs sIsEntryOf) (defBody sIsEntryOf) (defScope sIsEntryOf) .none kV doc pm an (.ref cR) ct), osl⟩) (cdI : PySem.W.codeIn K (.ref cR) "is_entry_of" = true)
    (TB : GxR.TabB base mg cR T4) (i1 : T1 ∈ Ts) (i2 : T2 ∈ Ts) (i4 : T4 ∈ Ts) (IE : DefT P w K mg base "is_entry" 4 fI dI ["thing"] (spIsEntry T1 T2)) (GO : DefT P w K mg base "good_of" 1 fG dG ["entry"] spGood) (PO : DefT P w K mg base "places_of" 1 fP dP ["entry"] spPlaces)
    (mal : mg "all" = none) :
    FnOk P w K mg base CX0 5 f (PySem.W.fnOf "is_entry_of" "is_entry_of" (defArgs sIsEntryOf) (defBody sIsEntryOf) (defScope sIsEntryOf) .none kV doc pm an (.ref cR) ct) ["thing", "places", "goods"] (spIsEntryOf Ts) := by
  refine fn_of lk cdI sc_sIsEntryOf (fun vs H Q E h => ?_) (fun A outer s H vs Q E hr h => ?_)
  · obtain ⟨a, pl, gl, e, Ps, G, rfl, _⟩ := h
    rfl
  · obtain ⟨a, pl, gl, e, Ps, G, rfl, ha, fi, hp, hg, tg, q⟩ := h
    have nd := sc_sIsEntryOf.nd
    have hr1 : Room 1 _ := hr.mono (by decide)
    refine ⟨_, pss_cons (ps_if (pt_not (pt_val (pe_call IE.ok hr (by rfl) IE.g IE.kp IE.b .nil pass0 (pa_cons (pv 0) pa_nil)))) (pss_one (ps_ret pe_bl)) pss_nil)
      (pss_cons (ps_set (i := 3) nd rfl (Or.inl rfl) (pe_call GO.ok hr1 (by rfl) GO.g GO.kp GO.b .nil pass0 (pa_cons (pv 0) pa_nil)))
      (pss_cons (ps_if (PW.pt (pw_and (pt_cmpR op_notN (pv 3) pe_non (by rfl)) (pw_and1 (pt_cmpR op_notIn_seq (pv 3) (pv 2) (by rfl))))) (pss_one (ps_ret pe_bl)) pss_nil)
      (pss_one (ps_ret (pe_allG (T := T4) (c := cR) (k := 1) (own := [("place", 4)]) (g := gName 4) (tt := tYes) (te := tOp (rIn K false) (tVar 4) (tVar 1))
          (hr.mono (by decide)) (by rfl) mal rfl nd TB rfl ⟨blkOk_by (N := sIsEntryOfN) (sc := defScope sIsEntryOf) (by decide +kernel), rfl, by decide +kernel, rfl⟩
          (pi_tup (pe_call PO.ok hr1 (by rfl) PO.g PO.kp PO.b .nil pass0 (pa_cons (pv 0) pa_nil))) (fun _ _ _ _ _ _ => pg_name (i := 4) nd rfl (Or.inl rfl)) (fun _ _ _ _ _ _ _ => pts_nil) (fun _ _ _ _ _ _ _ => pe_cmpR op_in_seq (pv 4) (pv 1) (by rfl))))))), ?_⟩
    refine ⟨_, rfl, a, e, rfl, ha, fi, tg T1 i1, tg T2 i2, fun H1 b => ?_⟩
    have b1 := TB1.of2 tg i1 i2 b
    have ha1 := b1.tk _ _ ha
    have hp1 := b1.tk _ _ hp
    have hg1 := b1.tk _ _ hg
    refine ⟨true, rfl, iteF ⟨_, rfl, a, e, rfl, ha1, ?_⟩⟩
    -- the places
    have last : goodOk e G = true → tRet (tAllG T4 (iTup K (tCall spPlaces [] E0 (tCons (tVar 0) tNil))) (gName 4) tYes (tOp (rIn K false) (tVar 4) (tVar 1)) [4]) { nx := fun x H' => Q V.non H', rt := Q } [some (.ref a), some (.ref pl), some (.ref gl), some e.goodV, none] H1 := fun go => by
      refine ⟨_, rfl, a, e, rfl, ha1, fun tp H4 s4 ht => ⟨tp, rfl, ⟨_, SqT.of ht⟩, ?_⟩⟩
      have b4 := b1.tr (.same b1.1 s4)
      refine all_over (over_t (K := K) (a := tp) (xs := e.places.map V.str)) (fun i H' => TB1 Ts H4 H' ∧ (e.places.take i).all (fun y => decide (y ∈ Ps)) = true) (b4.1 T4 i4) (fun H2 tb => ⟨.tab tb b4.1 i4, rfl⟩) (fun i H' _ b => SqT.of (b.1.tk _ _ ht)) ?_ ?_
      · intro i x H' Go hx b go'
        rw [List.getElem?_map] at hx
        obtain ⟨y, hy, rfl⟩ := Option.map_eq_some_iff.mp hx
        refine ⟨rfl, yesT ⟨_, rfl, _, rfl, pl, Ps.map V.str, rfl, .inr (SqT.of (b.1.tk _ _ (s4 _ _ hp1))), rfl, all_flat _, _, rfl, ?_⟩⟩
        rw [inV_iff]
        by_cases z : y ∈ Ps
        · rw [decide_eq_true z]
          refine iteT (go' _ ⟨b.1, ?_⟩)
          rw [take_sn hy, List.all_append, b.2]
          simp [z]
        · rw [decide_eq_false z]
          refine iteF ?_
          have := q H' (b4.tr b.1)
          rw [show ofB e Ps G = false by
            unfold ofB
            rw [go, Bool.true_and, List.all_eq_false]
            exact ⟨y, List.mem_of_getElem? hy, by simp [z]⟩] at this
          exact this
      · intro H' b
        have := q H' (b4.tr b.1)
        rw [show ofB e Ps G = true by
          unfold ofB
          rw [go, Bool.true_and, ← b.2, List.length_map, List.take_length]] at this
        exact this
    rcases goodV_cases e with eg | ⟨g, eg⟩
    · have go : goodOk e G = true := by unfold goodOk; rw [eg]
      refine ⟨_, rfl, rfl, ?_⟩
      have := last go
      rw [eg] at this ⊢
      exact ⟨_, rfl, iteF this⟩
    · have go : goodOk e G = decide (g ∈ G) := by unfold goodOk; rw [eg]
      refine ⟨_, rfl, rfl, ?_⟩
      rw [eg] at last ⊢
      refine ⟨_, rfl, iteT ⟨_, rfl, _, rfl, gl, G.map V.str, rfl, .inr (SqT.of hg1), rfl, all_flat _, _, rfl, ?_⟩⟩
      rw [inV_iff]
      by_cases z : g ∈ G
      · rw [decide_eq_true z]
        exact iteF (last (by rw [go, decide_eq_true z]))
      · rw [decide_eq_false z]
        refine iteT ?_
        have := q H1 b1
        rw [show ofB e Ps G = false by unfold ofB; rw [go, decide_eq_false z]; rfl] at this
        exact this
end
/-! ### the law's house -/
def spHouse : Sp := fun vs H Q _ => ∃ (p c : Addr) (n m : Nat), vs = [.ref p, .int m] ∧ PenAt H p c n ∧ n ≤ 30000 ∧ m ≤ 30 ∧
  ∀ (h : Addr) (P G : List Str) (es : List Ent) (H' : Hp), HouseAt H' h P G es → Good P G es m → PenAt H' p c (n + 1500) → But p H H' → Q (.ref h) H'
section
variable {P : Program} {w : World} {K : PySem.W.Frag} {mg : Str → Option Value} {base : Heap}
theorem take_snoc' {α : Type} {l : List α} {i : Nat} {x : α} (h : l[i]? = some x) : l.take (i + 1) = l.take i ++ [x] := by
  rw [List.take_add_one, h]
  rfl
abbrev houseN : List Str := ["_law_pen_here", "_law_many_here", "_law_places", "_law_goods", "_law_hands", "_law_names_here", "_law_moments_here", "_law_entries", "_law_k"]
theorem scHouse : FnScope houseN ["_law_pen_here", "_law_many_here"] (defScope sHouse) := ⟨rfl, rfl, rfl, by decide +kernel, rfl, by decide +kernel, by decide +kernel⟩
set_option maxHeartbeats 4000000 in
theorem ok_house {f : Addr} {fd : FuncData} (F : Fun K "_law_house" "_law_house" sHouse f fd)
    {fT fW fM fE fO : Addr} {dT dW dM dE dO : FuncData} (T : TakeT P w K mg base fT dT)
    (W : DefT P w K mg base "_law_words" 3 fW dW ["_law_pen_here", "_law_places", "_law_goods", "_law_entries"] spWords)
    (M : DefT P w K mg base "_law_moments" 2 fM dM ["_law_pen_here", "_law_many_here"] spMoments)
    (EN : DefT P w K mg base "_law_entry" 4 fE dE ["_law_pen_here", "_law_name", "_law_moment", "_law_places", "_law_goods", "_law_hands"] spEntry)
    (O : DefT P w K mg base "_law_order" 1 fO dO ["_law_entry_here"] spOrd) (mr : mg "range" = none) (ms : mg "sorted" = none) (mt : mg "tuple" = none) : FnOk P w K mg base CX0 5 f fd ["_law_pen_here", "_law_many_here"] spHouse := by
  refine F.ok scHouse (fun vs H Q E h => ?_) (fun cdv A outer s H vs Q E hr h => ?_)
  · obtain ⟨p, c, n, m, rfl, _⟩ := h
    rfl
  · obtain ⟨p, c, n, m, rfl, pen, hn, hm, q⟩ := h
    have nd := scHouse.nd
    have hr1 : Room 1 _ := hr.mono (by decide)
    have hr2 : Room 2 _ := hr.mono (by decide)
    have hr3 : Room 3 _ := hr.mono (by decide)
    refine ⟨_, pss_cons (ps_asg (pe_call W.ok hr3 (by rfl) W.g W.kp W.b .nil pass0 (pa_cons (pv 0) (pa_cons (pe_op op_add pe_int (pe_call T.ok hr1 (by rfl) T.g T.kp T.b .nil pass0 (pa_cons (pv 0) (pa_cons pe_int pa_nil)))) (pa_cons (pe_op op_add pe_int (pe_call T.ok hr1 (by rfl) T.g T.kp T.b .nil pass0 (pa_cons (pv 0) (pa_cons pe_int pa_nil)))) (pa_cons (pv 1) pa_nil)))))
        (pg_tup (by rfl) (pgs_cons (pg_name (i := 2) nd rfl (Or.inr rfl)) (pgs_cons (pg_name (i := 3) nd rfl (Or.inr rfl)) (pgs_cons (pg_name (i := 4) nd rfl (Or.inr rfl)) (pgs_cons (pg_name (i := 5) nd rfl (Or.inr rfl)) pgs_nil))))))
      (pss_cons (ps_set (i := 6) nd rfl (Or.inr rfl) (pe_call M.ok hr2 (by rfl) M.g M.kp M.b .nil pass0 (pa_cons (pv 0) (pa_cons (pv 1) pa_nil))))
      (pss_cons (ps_setLc (i := 7) (own := [("_law_k", 8)]) (g := gName 8) (tt := tYes) (te := tCall spEntry [] E0 (tCons (tVar 0) (tCons (tOp (rIxL K) (tVar 5) (tVar 8)) (tCons (tOp (rIxL K) (tVar 6) (tVar 8)) (tCons (tVar 2) (tCons (tVar 3) (tCons (tVar 4) tNil))))))) rfl nd rfl rfl (sw_true rfl rfl rfl (by decide +kernel))
          (pi_range1 rfl mr (pa_cons (pv 1) pa_nil)) (blkOk_by (N := houseN) (sc := defScope sHouse) (by decide +kernel)) (fun _ _ _ _ _ => pg_name (i := 8) nd rfl (Or.inl rfl)) (fun _ _ _ _ _ => pts_nil)
          (fun _ _ _ _ _ => pe_call EN.ok hr (by rfl) EN.g EN.kp EN.b .nil pass0 (pa_cons (pv 0) (pa_cons (pe_ix ix_list (pv 5) (pv 8) (fun _ _ => rfl)) (pa_cons (pe_ix ix_list (pv 6) (pv 8) (fun _ _ => rfl)) (pa_cons (pv 2) (pa_cons (pv 3) (pa_cons (pv 4) pa_nil))))))))
      (pss_one (ps_ret (pe_tup (pa_cons (pe_callTy call_tuple_of (by rfl) mt (by decide +kernel) (pa_cons (pe_callB cr_sortedS (by rfl) ms (by decide +kernel) (pa_cons (pv 2) pa_nil)) pa_nil))
        (pa_cons (pe_callTy call_tuple_of (by rfl) mt (by decide +kernel) (pa_cons (pe_callB cr_sortedS (by rfl) ms (by decide +kernel) (pa_cons (pv 3) pa_nil)) pa_nil))
        (pa_cons (pe_callTy call_tuple_of (by rfl) mt (by decide +kernel) (pa_cons (pe_callBK (cr_sortK O.ok hr3 O.b) (by rfl) ms (by decide +kernel) (pa_cons (pv 7) pa_nil) (pk_cons (pe_glob (v := .ref fO) (by rfl) O.g rfl) pk_nil)) pa_nil)) pa_nil)))))))), ?_⟩
    refine ⟨_, rfl, _, rfl, p, c, n, 6, rfl, pen, by omega, by decide, by decide, fun r1 H2 b1 d1 pen2 bt2 => ?_⟩
    refine ⟨1, r1, rfl, rfl, _, rfl, p, c, n + 1, 3, rfl, pen2, by omega, by decide, by decide, fun r2 H3 b2 d2 pen3 bt3 => ?_⟩
    refine ⟨1, r2, rfl, rfl, _, rfl, p, c, n + 2, (1 + r1).toNat, (1 + r2).toNat, m, ?_, pen3, by omega, by omega, by omega, by omega, fun tp l1 l2 l3 l4 PL GL HL EL H4 ntp ht h1 h2 h3 h4 n1 n2 n3 n4 pen4 bt4 => ?_⟩
    · rw [Int.toNat_of_nonneg (by omega), Int.toNat_of_nonneg (by omega)]
      rfl
    refine ⟨tp, _, rfl, SqT.of ht, rfl, _, _, rfl, _, _, rfl, _, _, rfl, _, _, rfl, rfl, ?_⟩
    refine ⟨_, rfl, _, rfl, p, c, n + 52, m, rfl, pen4, by omega, by omega, fun l5 mos H5 nl5 h5 lm bm pen5 bt5 => ?_⟩
    have k1 := pen_strs pen4 bt5 h1
    have k2 := pen_strs pen4 bt5 h2
    have k3 := pen_strs pen4 bt5 h3
    have k4 := pen_strs pen4 bt5 h4
    have z1 : PL.length = (1 + r1).toNat := n1.len
    have z2 : GL.length = (1 + r2).toNat := n2.len
    have z3 : HL.length = 3 := n3.len
    have z4 : EL.length = m := n4.len
    have np5 : ∀ {H' : Hp} {n : Nat} {l : Addr} {xs : List V}, PenAt H' p c n → H' l = some (.lst xs) → l ≠ p := fun pen h => by
      obtain ⟨kvs, ns', a', x', g1, _⟩ := pen.ex
      exact ne_of h g1 (by intro z; cases z)
    refine ⟨_, rfl, m, rfl, by omega, by omega, fun D nD => ?_⟩
    have sD := @same_new _ _ (.lst []) nD
    have nDp : D ≠ p := fun z => pen5.there (z ▸ nD)
    have nDc : D ≠ c := fun z => pen5.cells (z ▸ nD)
    have d1' : l1 ≠ D := ne_of_none k1 nD
    have d2' : l2 ≠ D := ne_of_none k2 nD
    have d3' : l3 ≠ D := ne_of_none k3 nD
    have d4' : l4 ≠ D := ne_of_none k4 nD
    have d5' : l5 ≠ D := ne_of_none h5 nD
    have bt0 : But p H (upd H5 D (.lst [])) := bt2.tr (bt3.tr (bt4.tr (bt5.tr (But.of sD))))
    have hDn : H D = none := by
      cases e : H D with
      | none => rfl
      | some o =>
        have := (bt2.tr (bt3.tr (bt4.tr bt5))) D o e nDp
        rw [nD] at this
        cases this
    refine lc_range (lo := 0) (n := m) (fun j H' => PenAt H' p c (n + 153 + 30 * j) ∧ But p H H' ∧ StrsAt H' l1 PL ∧ StrsAt H' l2 GL ∧ StrsAt H' l3 HL ∧ StrsAt H' l4 EL ∧ H' l5 = some (.lst (mos.map V.int)) ∧ ∃ pr : List (Addr × Ent), (pr.length = j ∧ pr.map (fun x => x.2.name) = EL.take j) ∧ H' D = some (.lst (pr.map fun x => V.ref x.1)) ∧
        ∀ x ∈ pr, H' x.1 = some (.tup x.2.vals) ∧ nameB x.2.name = true ∧ 0 ≤ x.2.moment ∧ x.2.moment ≤ 9999 ∧ x.2.From PL GL HL)
      ⟨(pen5.same sD).mono (by omega), bt0, sD _ _ k1, sD _ _ k2, sD _ _ k3, sD _ _ k4, sD _ _ h5, [], ⟨rfl, rfl⟩, upd_same, fun y hy => nomatch hy⟩ ?_ ?_
    · rintro j H7 hj ⟨pen7, bt7, g1, g2, g3, g4, g5, pr, ⟨gl, gm⟩, gD, gE⟩
      have lj : j < EL.length := by omega
      obtain ⟨nme, hnj, hn3⟩ : ∃ nme, EL[j]? = some nme ∧ nme ∈ EL := ⟨EL[j], List.getElem?_eq_getElem lj, List.getElem_mem lj⟩
      have hn1 : atI (EL.map V.str) (0 + (j : Int)) = some (.str nme) := by
        rw [Int.zero_add]
        exact atI_nat (by rw [List.getElem?_map, hnj]; rfl)
      obtain ⟨mo, hm1, hm2⟩ := at_ints (ns := mos) (r := 0 + (j : Int)) (by omega) (by omega)
      refine ⟨rfl, yesT ?_⟩
      refine ⟨_, rfl, _, rfl, _, rfl, l4, _, _, _, rfl, rfl, SqL.of g4, hn1, _, rfl, _, rfl, l5, _, _, _, rfl, rfl, SqL.of g5, hm1, _, rfl, _, rfl, _, rfl, p, c, _, nme, mo, l1, l2, l3, PL, GL, HL, rfl, pen7, by omega, g1, g2, g3,
        (fun z => by subst z; simp at z1; omega), (fun z => by subst z; simp at z2; omega), (fun z => by subst z; simp at z3), by omega, by omega, by omega, fun te e H10 nte hte en em ef pen10 btA => ?_⟩
      have gD10 := btA D _ gD nDp
      have nteD : te ≠ D := fun z => by
        subst z
        exact nomatch gD.symm.trans nte
      have neD : ∀ x ∈ pr, x.1 ≠ D := fun x hx z => by
        have he' := (gE x hx).1
        rw [z, gD] at he'
        cases he'
      refine ⟨_, gD10, (by rw [List.length_map]; exact small1000 (by omega)), (pen10.mono (by omega)).upd nDp nDc, fun b o eb nb => (upd_ne (ne_of_none eb hDn)).trans ((bt7.tr btA) b o eb nb),
        (upd_ne d1').trans (btA _ _ g1 (np5 pen7 g1)), (upd_ne d2').trans (btA _ _ g2 (np5 pen7 g2)), (upd_ne d3').trans (btA _ _ g3 (np5 pen7 g3)), (upd_ne d4').trans (btA _ _ g4 (np5 pen7 g4)), (upd_ne d5').trans (btA _ _ g5 (np5 pen7 g5)), pr ++ [(te, e)], ⟨by simp [gl], by rw [List.map_append, gm, take_snoc' hnj]; exact congrArg (fun z => EL.take j ++ [z]) en⟩, ?_, ?_⟩
      · rw [upd_same, List.map_append]
        rfl
      · intro x hx
        rcases List.mem_append.mp hx with h | h
        · obtain ⟨he', r'⟩ := gE x h
          have nxp : x.1 ≠ p := by
            obtain ⟨kvs, ns', a', x', gg, _⟩ := pen7.ex
            exact ne_of he' gg (by intro z; cases z)
          exact ⟨(upd_ne (neD x h)).trans (btA x.1 _ he' nxp), r'⟩
        · rw [List.mem_singleton.mp h]
          exact ⟨(upd_ne nteD).trans hte, en ▸ n4.names (by omega) nme hn3, em ▸ (bm mo hm2).1, em ▸ (bm mo hm2).2, ef⟩
    · rintro H7 ⟨pen7, bt7, g1, g2, g3, g4, g5, pr, ⟨gl, gm⟩, gD, gE⟩
      refine ⟨_, rfl, l1, PL, rfl, SqL.of g1, by omega, fun P1 a1 pm1 so1 na1 => ⟨a1, _, rfl, .inl ⟨SqL.of upd_same, fun t1 nt1 => ?_⟩⟩⟩
      have s1 : Same H7 (upd (upd H7 a1 (.lst (P1.map V.str))) t1 (.tup (P1.map V.str))) := (same_new na1).trans (same_new nt1)
      have hp1 : (upd (upd H7 a1 (.lst (P1.map V.str))) t1 (.tup (P1.map V.str))) t1 = some (.tup (P1.map V.str)) := upd_same
      generalize upd (upd H7 a1 (.lst (P1.map V.str))) t1 (.tup (P1.map V.str)) = H8 at s1 hp1
      refine ⟨_, rfl, l2, GL, rfl, SqL.of (s1 _ _ g2), by omega, fun G1 a2 pm2 so2 na2 => ⟨a2, _, rfl, .inl ⟨SqL.of upd_same, fun t2 nt2 => ?_⟩⟩⟩
      have s2 : Same H8 (upd (upd H8 a2 (.lst (G1.map V.str))) t2 (.tup (G1.map V.str))) := (same_new na2).trans (same_new nt2)
      have hp2 : (upd (upd H8 a2 (.lst (G1.map V.str))) t2 (.tup (G1.map V.str))) t2 = some (.tup (G1.map V.str)) := upd_same
      generalize upd (upd H8 a2 (.lst (G1.map V.str))) t2 (.tup (G1.map V.str)) = H9 at s2 hp2
      have s12 := s1.trans s2
      have eD : H9 D = some (.lst (((pr.map prV).map (·.1)))) := by
        rw [s12 _ _ gD, List.map_map]
        rfl
      refine ⟨_, rfl, D, pr.map prV, rfl, rfl, SqL.of eD, ?_, .inl ?_, ?_, ?_, fun a3 H10 na3 s3 h3 => ⟨a3, _, rfl, .inl ⟨SqL.of h3, fun t3 nt3 => ?_⟩⟩⟩
      · intro d hd d' hd'
        rw [List.map_map] at hd hd'
        obtain ⟨x, _, rfl⟩ := List.mem_map.mp hd
        obtain ⟨y, _, rfl⟩ := List.mem_map.mp hd'
        exact ord_alike x.2 y.2
      · intro d hd
        rw [List.map_map] at hd
        obtain ⟨x, _, rfl⟩ := List.mem_map.mp hd
        exact ⟨_, _, rfl⟩
      · intro e he
        obtain ⟨x, _, rfl⟩ := List.mem_map.mp he
        show 1 ≤ 60
        decide
      · intro e he H1 sm Q1 hq
        obtain ⟨x, hx, rfl⟩ := List.mem_map.mp he
        exact ⟨x.1, x.2, rfl, sm _ _ (s12 _ _ (gE x hx).1), fun tp H2 sm2 h2 => hq _ _ sm2 (ord_dp h2)⟩
      · -- the sorted entries
        have key : keyed (pr.map prV) = (sortE pr).map prV := keyed_prV pr
        have pm3 : (sortE pr).Perm pr := sortE_p pr
        have so3 : (sortE pr).Pairwise (fun a b => ordLe a b = true) := List.pairwise_mergeSort ordLe_tr ordLe_tot pr
        rw [key]
        generalize sortE pr = qr at pm3 so3 ⊢
        have s4 : Same H10 (upd H10 t3 (.tup ((qr.map prV).map (·.1)))) := same_new nt3
        have e4 : (upd H10 t3 (.tup ((qr.map prV).map (·.1)))) t3 = some (.tup ((qr.map prV).map (·.1))) := upd_same
        generalize upd H10 t3 (.tup ((qr.map prV).map (·.1))) = H11 at s4 e4
        have sA := s12.trans (s3.trans s4)
        have nmd : (qr.map fun x => x.2.name).Nodup := by
          rw [List.take_of_length_le (by omega)] at gm
          refine (pm3.map fun x => x.2.name).nodup_iff.mpr ?_
          rw [gm]
          exact n4.nodup (by omega)
        have e1 : (qr.map (·.2)).map Ent.name = qr.map fun x => x.2.name := by rw [List.map_map]; rfl
        refine ⟨(by show 3 ≤ sizeLine; decide), fun h nh => ?_⟩
        have s5 := @same_new _ _ (.tup [V.ref t1, .ref t2, .ref t3]) nh
        refine q h P1 G1 (qr.map (·.2)) _ ⟨t1, t2, t3, qr.map (·.1), upd_same, s5 _ _ (s4 _ _ (s3 _ _ (s2 _ _ hp1))), s5 _ _ (s4 _ _ (s3 _ _ hp2)), ?_, ents_pairs fun x hx => s5 _ _ (sA _ _ (gE x (pm3.mem_iff.mp hx)).1)⟩
          ⟨?_, ?_, ?_, ?_, ?_, ?_, ?_, ?_, ?_, ?_, so1, so2, ?_, ?_⟩ ((pen7.mono (by omega)).same (sA.trans s5)) (bt7.tr (.of (sA.trans s5)))
        · rw [s5 _ _ e4, List.map_map, List.map_map]
          rfl
        · exact pm1.nodup_iff.mpr (n1.nodup (by omega))
        · intro z
          have := pm1.length_eq
          rw [z, List.length_nil] at this
          omega
        · rw [pm1.length_eq]
          omega
        · intro y hy
          exact n1.names (by omega) y (pm1.mem_iff.mp hy)
        · intro z
          have := pm2.length_eq
          rw [z, List.length_nil] at this
          omega
        · rw [pm2.length_eq]
          omega
        · intro y hy
          exact n2.names (by omega) y (pm2.mem_iff.mp hy)
        · exact pm2.nodup_iff.mpr (n2.nodup (by omega))
        · rw [List.length_map, pm3.length_eq, gl]
        · rw [e1]
          exact nmd
        · have e2 : (qr.map (·.2)).map ordD = qr.map fun x => ordD x.2 := by rw [List.map_map]; rfl
          rw [e2]
          exact ord_strict so3 nmd
        · intro e he
          obtain ⟨x, hx, rfl⟩ := List.mem_map.mp he
          obtain ⟨_, i1, i2, i3, i4⟩ := gE x (pm3.mem_iff.mp hx)
          exact ⟨i1, i2, i3, HL, n3.names (by omega), From.perm i4 pm1 pm2⟩
end
/-! ### sep.join(..) of a generator expression whose parts are texts -/
theorem gx_over {J : It} {At : Hp → Prop} {T : Addr} {xs : List V} {g : TG} {tt : TT} {te : TE} {vs : List Nat} {σ : L2.St} {H : Hp} {Fin : List V → Hp → Prop} (o : Over J xs At) (W : Nat → List V → Hp → Prop) (tg : GxR.TabG H T) (h0 : ∀ H2, GxR.Tabbed T H H2 → W 0 [] H2) (hl : ∀ i ys H', i ≤ xs.length → W i ys H' → At H')
    (step : ∀ i x ys H' (Go : List V → Hp → Prop), xs[i]? = some x → W i ys H' → (∀ ys4 H4, W (i + 1) ys4 H4 → Go ys4 H4) → g x (wipe σ vs) H' fun σ2 H2 => wipe σ2 vs = wipe σ vs ∧ tt σ2 H2 fun b H3 => if b = true then te σ2 H3 fun y H4 => ys.length < sizeLine ∧ Go (ys ++ [y]) H4 else Go ys H3)
    (done : ∀ ys H', W xs.length ys H' → Fin ys H') :
    GxR.TabG H T ∧ ∀ H2, GxR.Tabbed T H H2 → ∃ W : Nat → Nat → List V → Hp → Prop, (∃ m, W 0 m [] H2) ∧ GTurnsL J g tt te vs σ W (outL W) Fin := by
  refine ⟨tg, fun H2 tb => ⟨fun i m ys H' => m = xs.length - i ∧ i ≤ xs.length ∧ W i ys H', ⟨_, rfl, Nat.zero_le _, h0 H2 tb⟩, ?_⟩⟩
  rintro i m ys H3 ⟨rfl, hi, w3⟩
  by_cases lt : i < xs.length
  · refine .inr ⟨o.go i H3 xs[i] (hl i ys H3 hi w3) (List.getElem?_eq_getElem lt), fun x H' y => ?_⟩
    obtain ⟨rfl, hx⟩ := o.yld i H3 x H' (hl i ys H3 hi w3) y
    exact step i x ys _ (fun ys' H' => ∃ m', m' < xs.length - i ∧ m' = xs.length - (i + 1) ∧ i + 1 ≤ xs.length ∧ W (i + 1) ys' H') hx w3 fun ys4 H4 w4 => ⟨_, by omega, rfl, lt, w4⟩
  · have ei : i = xs.length := by omega
    exact .inl ⟨o.stop i H3 (hl i ys H3 hi w3) (by omega), done ys H3 (ei ▸ w3)⟩
section
open PySem PySem.SeqAt PySem.W PyProof.Rows
theorem str_oneArg {M : Model} {A : Around} {E : Value → Shared → Prop} {s : Shared} {m : String} {sep : Str} {t : Tok} {v : Value} {Q : Value × Str × Value → Shared → Prop} (h : Q (.str sep t, sep, v) s) : wpAny M A (Builtin.Str.strOneArg m ⟨[.str sep t, v], []⟩) Q E s := by
  unfold Builtin.Str.strOneArg selfAndOne
  wp_walk
  exact h
theorem join_loop {M : Model} {B : Around} {E : Value → Shared → Prop} {f : Value × Nat → Array Str → Sem (ForInStep (Array Str))} (hf : ∀ (y : Str) (tk : Tok) (i : Nat) (b : Array Str), f (.str y tk, i) b = pure (.yield (b.push y))) {Q : Array Str → Shared → Prop} {s : Shared} :
    ∀ {its : List Value} {xs : List Str} (k : Nat) (b : Array Str), StrsAre its xs → Q (b ++ xs.toArray) s → wpAny M B (forIn (its.zipIdx k) b f) Q E s := by
  intro its
  induction its with
  | nil =>
    intro xs k b h q
    cases h
    rw [Array.append_empty] at q
    exact wpAny_pure q
  | cons v vs ih =>
    intro xs k b h q
    cases h with
    | @cons y tk _ ys r =>
      rw [List.zipIdx_cons, List.forIn_cons, hf]
      refine wpAny_bind (wpAny_pure ?_)
      refine ih (k + 1) (b.push y) r ?_
      have e : b.push y ++ ys.toArray = b ++ (y :: ys).toArray := by
        apply Array.ext'
        simp
      rw [e]
      exact q
theorem ret_str {M : Model} {B : Around} {E : Value → Shared → Prop} {Q : PySem.Fin → Shared → Prop} {x : Str} {s : Shared} (hl : x.length ≤ sizeLine) (h : ∀ t', Q (PySem.Fin.done (Flow.ret (.str x t'))) { s with toks := s.toks + 1 }) : wpAny M B (retStr x) Q E s := by
  unfold retStr mkStr
  rw [if_neg (Nat.not_lt.mpr hl)]
  wp_walk
  exact h _
theorem gx_join {X : Cx} {pins : List (Addr × Obj)} {σ : L2.St} {IG : Pins → Hp → Shared → Prop} {tn : Nat → Heap → Prop} {fp : List Addr} {W : Nat → Nat → List V → Hp → Prop} {Fin : List V → Hp → Prop} {a : Addr} {gn : Nat}
    {A : Around} {Q : Value → Shared → Prop} {E : Value → Shared → Prop} {m : Nat} {H : Hp} {s : Shared} {sep : Str} {t : Tok} (ig : IGokL X pins σ a gn tn IG) (hA : A.handled = none) (hd : A.depth < recursionLimit)
    (G : GStartL X A.in1.in1 IG tn fp W (outL W) Fin gn m H s)
    (hF : ∀ ys (its : List Value) H' (s' : Shared), Vals ys its → Fin ys H' → Inv X pins σ H' s' → ∃ xs : List Str, StrsAre its xs ∧ (xs.map (·.length)).sum + xs.length * sep.length ≤ 16777216 ∧ ∀ (t' k : Nat), Q (.str (Txt.join sep xs) t') { s' with toks := k }) :
    wpAny (model X.prog X.w) A (call (.builtin "str.join") [.str sep t, .ref a]) Q E s := by
  refine wpAny_call_entry F.slot_str_join rfl F.entry_str_join ?_ (F.args_str_join_2 _ _)
  have g0 := ig.isgen G.1
  have ty : s.TypeIs (.ref a) "generator" := Heap.IsGen.typeIs g0
  unfold Builtin.«str.join»
  refine wpAny_bind (str_oneArg ?_)
  refine wpAny_bind (wpAny_typeOf ty ?_)
  rw [if_neg (by decide)]
  refine wpAny_bind (wpAny_tryCatch (wpAny_pyIter_gen g0 ?_))
  refine wpAny_bind (gx_collect (B := A.in1) ig hA hd G fun ys acc H' s' hv fin I' => ?_)
  obtain ⟨xs, sx, hz, q⟩ := hF ys acc.toList H' s' hv fin I'
  generalize acc.toList = its at sx hv
  have ok : Builtin.Str.tooLong (Array.foldl (fun x1 x2 => x1 + x2.length + sep.length) 0 xs.toArray) = false := by
    have := joinOk_of hz
    unfold JoinOk at this
    simpa using this
  have hl : (Builtin.Str.glued sep xs).length ≤ sizeLine := by
    rw [StrLaws.glued_eq_join]
    have := StrLaws.join_length_le sep xs
    rw [sizeLine_eq]
    omega
  have tail : ∀ {B : Around}, wpAny (model X.prog X.w) B (if Builtin.Str.tooLong (Array.foldl (fun x1 x2 => x1 + x2.length + sep.length) 0 xs.toArray) = true then (unsupported "str.join:memory" : Sem Unit) >>= fun _ => retStr (Builtin.Str.glued sep xs.toArray.toList) else retStr (Builtin.Str.glued sep xs.toArray.toList)) (fun fin s' => ∃ v, fin = PySem.Fin.done (Flow.ret v) ∧ Q v s') E s' := by
    intro B
    rw [ok, if_neg (by decide)]
    exact ret_str hl fun t' => ⟨_, rfl, q _ _⟩
  cases sx with
  | nil => exact wpAny_bind (join_loop (fun y tk i b => rfl) 0 #[] .nil tail)
  | @cons y tk vs ys r =>
    cases r with
    | nil =>
      show wpAny _ _ (if Builtin.Str.isExactStr (.str y tk) = true then rule "str.join.same-object" >>= fun _ => ret (.str y tk) else _) _ _ _
      rw [if_pos (show Builtin.Str.isExactStr (.str y tk) = true from rfl)]
      exact wpAny_bind (wpAny_rule (wpAny_pure ⟨_, rfl, q tk s'.toks⟩))
    | @cons y2 tk2 vs2 ys2 r2 => 
      exact wpAny_bind (join_loop (xs := y :: y2 :: ys2) (fun y tk i b => rfl) 0 #[] (.cons y tk (.cons y2 tk2 r2)) (by rw [Array.empty_append]; exact tail))
def finJ (sep : Str) (Q : VK) : List V → Hp → Prop := fun ys H' => ys.length ≤ sizeLine ∧ ∃ xs : List Str, ys = xs.map V.str ∧ (xs.map (·.length)).sum + xs.length * sep.length ≤ 16777216 ∧ Q (.str (Txt.join sep xs)) H'
def tJoinX (T : Addr) (to : TE) (wi : TI) (g : TG) (tt : TT) (te : TE) (vs : List Nat) : TE := fun σ H Q => to σ H fun v H0 => ∃ sep : Str, v = .str sep ∧ wi σ H0 fun J H1 => GxR.TabG H1 T ∧ ∀ H2, GxR.Tabbed T H1 H2 → ∃ W : Nat → Nat → List V → Hp → Prop, (∃ m, W 0 m [] H2) ∧
  GTurnsL J g tt te vs σ W (outL W) (finJ sep Q)
theorem strs_areJ : ∀ {xs : List Str} {its : List Value}, Vals (xs.map V.str) its → StrsAre its xs
  | [], _, .nil => .nil
  | x :: xs, _, @Paired.cons _ _ _ _ u _ _ r rr => by
    obtain ⟨t, rfl⟩ : ∃ t, u = .str x t := r
    exact .cons x t (strs_areJ rr)
variable {X : Cx}
theorem pe_joinX {c T : Addr} {o elt tg iter : Expr} {ifs : List Expr} {scope : Scope} {own : List (Str × Nat)} {gpos apos cpos : Pos} {to : TE} {wi : TI} {g : TG} {tt : TT} {te : TE} {k : Nat}
    (hr : Room (k + 1) X.A) (ho : PE X o to) (hc : X.calm = true) (hN : X.N.Nodup) (TB : GxR.TabB X.base X.mg c T) (hcode : X.env.code = .ref c) (ok : GOk X.N X.env.scope scope own) (hi : PI X tg iter wi)
    (hg : ∀ (A' : Around) (s3 : Shared) (H3 : Hp) (C : Addr) (code : Value) (fp : List Addr), PG (gxc X A' s3 H3 (genE X scope C code) fp) tg g)
    (ht : ∀ (A' : Around) (s3 : Shared) (H3 : Hp) (C : Addr) (code : Value) (fp : List Addr), Room k A' → PTs (gxc X A' s3 H3 (genE X scope C code) fp) ifs tt)
    (he : ∀ (A' : Around) (s3 : Shared) (H3 : Hp) (C : Addr) (code : Value) (fp : List Addr), Room k A' → PE (gxc X A' s3 H3 (genE X scope C code) fp) elt te)
    (hs : ∀ v, genFold iter X.env v = pure v := by intro _; rfl)
    (hbase : attributeBase o (Str.ofString "join") X.env (eval o X.env) = eval o X.env := by rfl)
    (hfew : ((((backTo cpos (starEach [.GeneratorExp elt [⟨tg, iter, ifs, 0⟩] scope gpos] X.env)).all fun x => !x.1) && (backToKw cpos (keywordEach [] X.env)).all fun x => x.1.isSome) &&
      decide (([Expr.GeneratorExp elt [⟨tg, iter, ifs, 0⟩] scope gpos].length + ([] : List Keyword).length + if ([] : List Keyword).isEmpty = true then 0 else 1) < 30)) = true := by rfl)
    (hline : (apos.endLine == cpos.line) = true := by rfl)
    (hst : starEach [.GeneratorExp elt [⟨tg, iter, ifs, 0⟩] scope gpos] X.env = (false, eval (.GeneratorExp elt [⟨tg, iter, ifs, 0⟩] scope gpos) X.env) :: starEach [] X.env := by rfl)
    (hb0 : ((backTo cpos (starEach [] X.env)).any fun x => x.1) = false := by rfl) :
    PE X (.Call (.Attribute o "join" apos) [.GeneratorExp elt [⟨tg, iter, ifs, 0⟩] scope gpos] [] cpos) (tJoinX T to wi g tt te (own.map (·.2))) := by
  refine ⟨fun pins s σ H Q I h => wpAny_Call_method hbase hfew hline F.plainAttrs_str F.slot_str_join F.type_str_join (thn (ho.run pins s σ H _ I h) fun u s1 ⟨x, H1, I1, rx, sep, ex, q1⟩ => ?_)⟩
  subst ex
  obtain ⟨t, rfl⟩ : ∃ t, u = .str sep t := rx
  refine ⟨rfl, (fun a z => nomatch z), ?_⟩
  rw [hst]
  have hA := I1.ok.hd hc
  have hf := I1.ok.frames
  refine Calls.callWith_builtin hb0 (Calls.evalArgs_plain (Calls.spliced_cons (gx_mkL (Outf := outL) (Fin := finJ sep Q)
    X.A.in1.in1 hA hf (Nat.le_refl _) (by show X.A.units + 1 + 1 ≤ _; omega) hr hc hN TB hcode ok hi hg ht he hs I1 q1 ?_)))
  intro IG tn fp W a gn m H2 s5 ig G
  refine Calls.spliced_nil (gx_join ig hA (Nat.lt_of_le_of_lt (by omega : X.A.depth ≤ X.A.depth + 3 * (k + 1) + 5) hr.dp) G fun ys its H' s' rv fin I' => ?_)
  obtain ⟨hz, xs, rfl, l16, q⟩ := fin
  exact ⟨xs, strs_areJ rv, l16, fun t' k => ⟨V.str (Txt.join sep xs), H', I'.kept (t' := k) (fun _ _ e => e), ⟨t', rfl⟩, q⟩⟩
end
/-! ### a, *b, c = a list -/
section
variable {X : Cx}
theorem pgs_star {e : Expr} {p : Pos} {es : List Expr} {t : TG} {u : TGs} (h1 : PG X e t) (h2 : PGs X es u)
    (hs : (assignEach (.Starred e p :: es) X.env).map (·.2) = assign e X.env :: (assignEach es X.env).map (·.2) := by rfl) : PGs X (.Starred e p :: es) (gCons t u) := by
  refine ⟨fun pins s σ H vs us Q I r h => ?_⟩
  obtain ⟨v, vr, e1, h⟩ := h
  subst e1
  cases r with
  | cons r rr =>
    rw [hs]
    refine assignInOrder_cons (thn (h1.run pins s σ H _ _ _ I r h) fun _ s1 ⟨σ1, H1, I1, q1⟩ => ?_)
    exact h2.run pins s1 σ1 H1 _ _ Q I1 rr q1
theorem star_items {prog : Program} {w : World} {A : Around} {E : Value → Shared → Prop} {s : Shared} {l : Addr} {items : Array Value} {n i : Nat} {Q : List Value → Shared → Prop} (hl : s.heap.IsList l items) (hh : A.handled = none) (hi : i < n) (hn : n ≤ items.size + 1) (hz : items.size ≤ 16384)
    (h : ∀ (h2 : Heap) (tk : Nat), (∀ b o, s.heap.get? b = some o → h2.get? b = some o) → Q (items.toList.take i ++ [.ref h2.objs.size] ++ (items.toList.drop i).drop (items.size + 1 - n)) { s with heap := h2.push { cls := .type "list", data := .seq ((items.toList.drop i).take (items.size + 1 - n)).toArray }, toks := tk }) :
    wpAny (model prog w) A (unpackItems (.ref l) n (some i)) Q E s := by
  have hlt : l ≠ s.heap.objs.size := by obtain ⟨o, ho, _⟩ := hl; exact Nat.ne_of_lt (Heap.lt_size ho)
  unfold unpackItems
  refine wpAny_bind ?_
  unfold notIterableAtAll
  refine wpAny_bind (wpAny_specialOf hl.typeIs PySem.F.slot_list_iter.lookup ?_)
  refine wpAny_pure ?_
  simp only [Bool.false_eq_true, if_false]
  refine wpAny_bind (wpAny_holding (wpAny_pyIter_list hl ?_))
  refine wpAny_bind (wpAny_holding (PySem.W.kun_draw hlt i 0 _ _ ⟨_, Heap.get?_push_size _ rfl, rfl, rfl⟩ (hl.push _) (by omega) fun h₁ hit₁ hs₁ => ?_))
  have hl₁ : h₁.IsList l items := (hl.push _).extBut hs₁.extBut hlt
  rw [Nat.zero_add] at hit₁
  have hit₁' := hit₁
  obtain ⟨oi, hoi, _⟩ := hit₁'
  have hl₁' := hl₁
  obtain ⟨ol, hol, _⟩ := hl₁'
  rw [List.drop_zero]
  have hfl : (items.toList.take i).length = i := by rw [List.length_take, Array.length_toList]; omega
  rw [if_neg (show ¬ ((items.toList.take i).length < i) by rw [hfl]; omega)]
  refine wpAny_bind (wpAny_holding (PySem.W.kun_collect (s := { s with heap := h₁ }) (T := "list_iterator") (.inr (.inr (.inl rfl))) (Walks.list (A := A.in1) hh s.heap.objs.size l hlt items) (fun j u st => st.1.typeIs) (k := i) (by omega) ⟨hit₁, hl₁⟩ (Heap.lt_size hoi) (Heap.lt_size hol) (fun h₂ tk hk => ?_) (by rw [sizeLine_eq]; omega)))
  have hrl : (items.toList.drop i).length = items.size - i := by rw [List.length_drop, Array.length_toList]
  have hmid : (items.toList.drop i).length - (n - 1 - i) = items.size + 1 - n := by rw [hrl]; omega
  show wpAny _ _ (if (items.toList.drop i).length < n - 1 - i then _ else _) _ _ _
  rw [if_neg (by rw [hrl]; omega)]
  show wpAny _ _ (newList ((items.toList.drop i).take ((items.toList.drop i).length - (n - 1 - i))) >>= fun d => pure (items.toList.take i ++ [d] ++ (items.toList.drop i).drop ((items.toList.drop i).length - (n - 1 - i)))) _ _ _
  rw [hmid]
  have he : ∀ b o, s.heap.get? b = some o → h₂.get? b = some o := fun b o e => hk b o (Nat.ne_of_lt (Heap.lt_size e)) (hs₁.extBut b o (Nat.ne_of_lt (Heap.lt_size e)) (Heap.get?_push_of_some _ e))
  exact wpAny_bind (wpAny_newList (s := { s with heap := h₂, toks := tk }) (wpAny_pure (h h₂ tk he)) (by rw [List.length_take, hrl, sizeLine_eq]; omega))
def gStar (K : PySem.W.Frag) (n i : Nat) (t : TGs) : TG := fun v σ H Q => ∃ a xs, v = .ref a ∧ SqL K H a xs ∧ n ≤ xs.length + 1 ∧ xs.length ≤ 16384 ∧
  ∀ D, H D = none → t (xs.take i ++ [.ref D] ++ (xs.drop i).drop (xs.length + 1 - n)) σ (upd H D (.lst ((xs.drop i).take (xs.length + 1 - n)))) Q
theorem Vals.takeD {vs : List V} {us : List Value} : ∀ (i : Nat), Vals vs us → Vals (vs.take i) (us.take i) ∧ Vals (vs.drop i) (us.drop i)
  | 0, h => ⟨.nil, h⟩
  | i + 1, .nil => ⟨.nil, .nil⟩
  | i + 1, .cons a r => ⟨.cons a (Vals.takeD i r).1, (Vals.takeD i r).2⟩
theorem pg_star {es : List Expr} {k : Nat} {t : TGs} {n i : Nat} {pos : Pos} (hc : X.calm = true) (h : PGs X es t) (hi : i < n)
    (hn : (assignEach es X.env).length = n := by rfl) (hst : (assignEach es X.env).findIdx? (·.1) = some i := by rfl) : PG X (.Tuple es k pos) (gStar X.K n i t) := by
  refine ⟨fun pins s σ H v u Q I r hw => ?_⟩
  obtain ⟨a, xs, e1, hq, hl, hz, hw⟩ := hw
  subst e1
  cases r
  obtain ⟨its, rv, pl, _⟩ := I.list hq
  have le : its.length = xs.length := rv.length.symm
  rw [assign_Tuple]
  refine wpAny_bind (wpAny_standAt ?_)
  unfold unpack
  rw [hn, hst]
  refine wpAny_bind (wpAny_holding (star_items (items := its.toArray) pl.isList (I.ok.hd hc) hi (by rw [List.size_toArray, le]; exact hl) (by rw [List.size_toArray, le]; exact hz) fun h2 tk kp => ?_))
  have ls : its.toArray.size = xs.length := by rw [List.size_toArray, le]
  rw [ls, show its.toArray.toList = its from rfl]
  have I1 : Inv X pins σ H { s with heap := h2, toks := tk } := I.kept kp
  have hf : H h2.objs.size = none := I1.hok.fresh (Nat.le_refl _)
  have v1 := Vals.takeD i rv
  have v2 := Vals.takeD (xs.length + 1 - n) v1.2
  have I2 := I1.laid (t' := tk) (a := h2.objs.size) (o := .lst ((xs.drop i).take (xs.length + 1 - n))) (h' := h2.push { cls := .type "list", data := .seq ((its.drop i).take (xs.length + 1 - n)).toArray }) (fun b u e => Heap.get?_push_of_some _ e) (Nat.le_refl _)
    ⟨by rw [sizeLine_eq, List.length_take, List.length_drop]; omega, _, 0, v2.1, Heap.get?_push_size _ rfl⟩
  have vD : Vals [V.ref h2.objs.size] [Value.ref h2.objs.size] := .cons rfl .nil
  exact h.run pins _ σ _ _ _ Q I2 ((v1.1.append vD).append v2.2) (hw _ hf)
end
/-! ### zip of a list and a tuple -/
section
variable {prog : Program} {w : World} {A : Around} {E : Value → Shared → Prop} {s : Shared}
/-- the five objects of a zip over the list at l1 and the tuple at l2, one behind the other -/
abbrev mixA (h : Heap) (l1 : Addr) : Heap := h.push { cls := .type "list_iterator", data := .fields #[.ref l1, .int 0 0] }
abbrev mixB (h : Heap) (l1 l2 : Addr) : Heap := (mixA h l1).push { cls := .type "tuple_iterator", data := .fields #[.ref l2, .int 0 0] }
abbrev mixC (h : Heap) (l1 l2 : Addr) : Heap := (mixB h l1 l2).push { cls := .type "tuple", data := .seq #[.ref h.objs.size, .ref (mixA h l1).objs.size] }
abbrev mixD (h : Heap) (l1 l2 : Addr) : Heap := (mixC h l1 l2).push { cls := .type "tuple", data := .seq #[.none, .none] }
abbrev mixZ (h : Heap) (l1 l2 : Addr) : Heap := (mixD h l1 l2).push { cls := .type "zip", data := .fields #[.none, .bool false, .bool false, .ref (mixB h l1 l2).objs.size, .ref (mixC h l1 l2).objs.size] }
theorem mix_new (l1 l2 : Addr) (xs ys : Array Value) :
    Meets (Builtin.«zip.__new__» ⟨[.type "zip", .ref l1, .ref l2], []⟩) (fun _ R s => s.heap.IsList l1 xs ∧ s.heap.IsTuple l2 ys ∧ R (.ok (.ret (.ref (mixD s.heap l1 l2).objs.size))) { s with heap := mixZ s.heap l1 l2 }) :=
  .of_wp fun prog w A R s h => by
    obtain ⟨hp, g, d, tk, os⟩ := s
    obtain ⟨hl1, hl2, h⟩ := h
    have hsub := sub_zip
    have q1 : Heap.IsList (Shared.heap ⟨hp, g, d, tk, os⟩) l1 xs := hl1
    have q2 : Heap.IsTuple (Shared.heap ⟨mixA hp l1, g, d, tk, os⟩) l2 ys := Heap.IsTuple.push hl2 _
    wp_walk using wpAny_pyIter_list q1, wpAny_pyIter_tuple q2
    exact ⟨_, rfl, h⟩
theorem call_mix {l1 l2 : Addr} {xs ys : Array Value} {Q : Value → Shared → Prop} (hl1 : s.heap.IsList l1 xs) (hl2 : s.heap.IsTuple l2 ys)
    (h : ∀ h', IsZip h' (s.heap.objs.size + 4) (s.heap.objs.size + 2) (s.heap.objs.size + 3) .none → IsPair h' (s.heap.objs.size + 2) (.ref s.heap.objs.size) (.ref (s.heap.objs.size + 1)) →
      IsPair h' (s.heap.objs.size + 3) .none .none → h'.IsListIter s.heap.objs.size l1 0 → h'.IsTupleIter (s.heap.objs.size + 1) l2 0 →
      (∀ c o, s.heap.get? c = some o → h'.get? c = some o) → Q (.ref (s.heap.objs.size + 4)) { s with heap := h' }) :
    wpAny (model prog w) A (call (.type "zip") [.ref l1, .ref l2]) Q E s := by
  refine callType_new F.called_zip (by decide) (F.typeCall_zip_2 _ _) (F.newCall_zip_2 _ _) (fun obj => F.args_object_init_3 obj _ _) F.entry_zip_new (mix_new l1 l2 xs ys) ⟨hl1, hl2, ?_⟩
  have n1 : (mixA s.heap l1).objs.size = s.heap.objs.size + 1 := Heap.size_push ..
  have n2 : (mixB s.heap l1 l2).objs.size = s.heap.objs.size + 2 := by rw [Heap.size_push, n1]
  have n3 : (mixC s.heap l1 l2).objs.size = s.heap.objs.size + 3 := by rw [Heap.size_push, n2]
  have n4 : (mixD s.heap l1 l2).objs.size = s.heap.objs.size + 4 := by rw [Heap.size_push, n3]
  have up1 : ∀ {c o}, (mixA s.heap l1).get? c = some o → (mixZ s.heap l1 l2).get? c = some o := fun e => Heap.get?_push_of_some _ (Heap.get?_push_of_some _ (Heap.get?_push_of_some _ (Heap.get?_push_of_some _ e)))
  have up2 : ∀ {c o}, (mixB s.heap l1 l2).get? c = some o → (mixZ s.heap l1 l2).get? c = some o := fun e => Heap.get?_push_of_some _ (Heap.get?_push_of_some _ (Heap.get?_push_of_some _ e))
  have g1 := up1 (Heap.get?_push_size s.heap rfl)
  have g2 := up2 (Heap.get?_push_size (mixA s.heap l1) rfl)
  have g3 : (mixZ s.heap l1 l2).get? (mixB s.heap l1 l2).objs.size = some _ := Heap.get?_push_of_some _ (Heap.get?_push_of_some _ (Heap.get?_push_size _ rfl))
  have g4 : (mixZ s.heap l1 l2).get? (mixC s.heap l1 l2).objs.size = some _ := Heap.get?_push_of_some _ (Heap.get?_push_size _ rfl)
  have g5 : (mixZ s.heap l1 l2).get? (mixD s.heap l1 l2).objs.size = some _ := Heap.get?_push_size _ rfl
  show _ ∧ _
  rw [n2, n3, n4] at g5
  rw [n1, n2] at g3
  rw [n3] at g4
  rw [n1] at g2
  rw [n4]
  exact ⟨⟨_, g5, rfl⟩, h _ g5 g3 g4 ⟨_, g1, rfl, rfl⟩ ⟨_, g2, rfl, rfl⟩ fun c o x => up1 (Heap.get?_push_of_some _ x)⟩
end
/-- the list at a and the tuple at b as they stand at each turn -/
def ItzLT (K : PySem.W.Frag) (a b : Addr) : It where
  go := fun i H => ∃ (xs ys : List V) (x y : V), SqL K H a xs ∧ SqT K H b ys ∧ xs[i]? = some x ∧ ys[i]? = some y
  yld := fun i H v H' => ∃ T x y, v = .ref T ∧ H T = none ∧ H' = upd H T (.tup [x, y]) ∧ (∀ xs, SqL K H a xs → xs[i]? = some x) ∧ ∀ ys, SqT K H b ys → ys[i]? = some y
  stop := fun i H => ∃ xs ys : List V, SqL K H a xs ∧ SqT K H b ys ∧ xs.length = ys.length ∧ i = xs.length
theorem turn_zipLT {P : Program} {w : World} {K : PySem.W.Frag} {elts : List Expr} {kk : Nat} {tpos : Pos} {a b z TI TO i1 i2 : Addr} (D : ZipApart z TI TO i1 i2 a b) :
    Turn P w K (.Tuple elts kk tpos) (ItzLT K a b) [z, TI, TO, i1, i2] z (fun i h => IsZip h z TI TO .none ∧ IsPair h TI (.ref i1) (.ref i2) ∧ (∃ x y, IsPair h TO x y) ∧ h.IsListIter i1 a i ∧ h.IsTupleIter i2 b i) where
  mem := by simp
  obj := fun i h st c hc => by
    obtain ⟨hz, hTI, ⟨x, y, hTO⟩, ⟨o1, e1, _, d1⟩, ⟨o2, e2, _, d2⟩⟩ := st
    simp only [List.mem_cons, List.not_mem_nil, or_false] at hc
    rcases hc with rfl | rfl | rfl | rfl | rfl
    · exact ⟨_, hz, fun v q => nomatch q⟩
    · exact ⟨_, hTI, fun v q => nomatch q⟩
    · exact ⟨_, hTO, fun v q => nomatch q⟩
    · exact ⟨o1, e1, fun v q => by rw [d1] at q; cases q⟩
    · exact ⟨o2, e2, fun v q => by rw [d2] at q; cases q⟩
  keep := fun i h h' st k => by
    obtain ⟨hz, hTI, ⟨x, y, hTO⟩, h1, h2⟩ := st
    exact ⟨k z (by simp) _ hz, k TI (by simp) _ hTI, ⟨x, y, k TO (by simp) _ hTO⟩, h1.at fun o q => k i1 (by simp) o q, h2.at fun o q => k i2 (by simp) o q⟩
  item := by
    intro X hP hw hK hc i pins s σ H E I hf st hg
    subst hP hw hK
    obtain ⟨hz, hTI, ⟨x0, y0, hTO⟩, h1, h2⟩ := st
    obtain ⟨xs, ys, x, y, hqx, hqy, hx, hy⟩ := hg
    obtain ⟨its, rv, p, _⟩ := I.list hqx
    obtain ⟨its2, rv2, p2, _⟩ := I.tuple hqy
    obtain ⟨u, hu, ru⟩ := rv.get hx
    obtain ⟨u2, hu2, ru2⟩ := rv2.get hy
    have hzl : z < s.heap.objs.size := Heap.lt_size hz
    have lt1 : i < its.toArray.size := by
      have := (List.getElem?_eq_some_iff.mp hu).1
      simpa using this
    have lt2 : i < its2.toArray.size := by
      have := (List.getElem?_eq_some_iff.mp hu2).1
      simpa using this
    refine wpAny_pyNext_zipD2_item (A := X.A) (fp1 := [i1, a]) (fp2 := [i2, b]) ⟨D.TIz, D.TOz, D.TITO, D.TIi1, by simp, ?_, ?_, D.TIi2, by simp, ?_, ?_, ?_, ?_⟩ (Draws.list (A := X.A.in1) (I.ok.hd hc) i1 a D.l1i1 its.toArray) (Draws.tuple (A := X.A.in1) (I.ok.hd hc) i2 b D.l2i2 its2.toArray) hz hTI hTO ⟨h1, p.isList⟩ ⟨h2, p2⟩ lt1 lt2 fun x1 x2 h' tk g1 g2 z' TO' st1' st2' hT hsz hk => ?_
    · simp [D.i1z.symm, D.l1z.symm]
    · simp [D.TOi1, D.l1TO.symm]
    · simp [D.i2z.symm, D.l2z.symm]
    · simp [D.TOi2, D.l2TO.symm]
    · simp [D.i12, D.l2i1.symm]
    · simp [D.i12.symm, D.l1i2.symm]
    obtain rfl : x1 = u := by
      have : its[i]? = some x1 := by simpa using g1
      exact Option.some.inj (this.symm.trans hu)
    obtain rfl : x2 = u2 := by
      have : its2[i]? = some x2 := by simpa using g2
      exact Option.some.inj (this.symm.trans hu2)
    refine ⟨_, rfl, wpAny_letOwnedTupleGo_zip (s := { s with heap := h', toks := tk }) z' fun h'' z'' sb => ?_⟩
    have hT2 : h''.get? s.heap.objs.size = some { cls := .type "tuple", data := .seq #[x1, x2] } := (sb.2 _ (Nat.ne_of_gt hzl)).trans hT
    have new : ObjOk X.prog X.w (upd H s.heap.objs.size (.tup [x, y])) h'' s.heap.objs.size (.tup [x, y]) := ⟨by show 2 ≤ sizeLine; decide, [x1, x2], .cons ru (.cons ru2 .nil), ⟨_, hT2, rfl, _, rfl⟩⟩
    have nm : ∀ {c : Addr}, c ∉ [z, TI, TO, i1, i2] → c ≠ z ∧ c ≠ TO ∧ c ≠ i1 ∧ c ≠ i2 := fun hb => by
      simp only [List.mem_cons, List.not_mem_nil, or_false, not_or] at hb
      exact ⟨hb.1, hb.2.2.1, hb.2.2.2.1, hb.2.2.2.2⟩
    have I1 : Inv X pins σ (upd H s.heap.objs.size (.tup [x, y])) { s with heap := h'', toks := tk } :=
      I.turnedNew (t' := tk) (ch := [z, TI, TO, i1, i2]) (fun c o hb q => let m := nm hb; (sb.2 c m.1).trans (hk c o m.1 m.2.1 m.2.2.1 m.2.2.2 q)) hf (Nat.le_refl _) new
    refine ⟨.ref s.heap.objs.size, _, I1, rfl, ⟨_, x, y, rfl, I.hok.fresh (Nat.le_refl _), rfl, fun l hl => by rw [I.list_inj hl hqx]; exact hx, fun l hl => by rw [I.tuple_inj hl hqy]; exact hy⟩, ⟨z'', ?_, ⟨x1, x2, ?_⟩, ?_, ?_⟩, fun c hcm => ?_⟩
    · exact (sb.2 _ D.TIz).trans (hk _ _ D.TIz D.TITO D.TIi1 D.TIi2 hTI)
    · exact (sb.2 _ D.TOz).trans TO'
    · exact st1'.1.at fun o q => (sb.2 _ D.i1z).trans q
    · exact st2'.1.at fun o q => (sb.2 _ D.i2z).trans q
    · have hlt : c < s.heap.objs.size := by
        simp only [List.mem_cons, List.not_mem_nil, or_false] at hcm
        rcases hcm with rfl | rfl | rfl | rfl | rfl
        · exact hzl
        · exact Heap.lt_size hTI
        · exact Heap.lt_size hTO
        · obtain ⟨_, e1, _⟩ := h1; exact Heap.lt_size e1
        · obtain ⟨_, e2, _⟩ := h2; exact Heap.lt_size e2
      rw [upd_ne (Nat.ne_of_lt hlt)]
      exact (hf c hcm).1
  done := by
    intro X hP hw hK hc i pins s σ H E I hf st hg
    subst hP hw hK
    obtain ⟨hz, hTI, ⟨x0, y0, hTO⟩, h1, h2⟩ := st
    obtain ⟨xs, ys, hqx, hqy, ll, rfl⟩ := hg
    obtain ⟨its, rv, p, _⟩ := I.list hqx
    obtain ⟨its2, rv2, p2, _⟩ := I.tuple hqy
    have l1 : xs.length = its.toArray.size := by rw [rv.length]; simp
    have l2 : xs.length = its2.toArray.size := by rw [ll, rv2.length]; simp
    refine wpAny_pyNext_zipD2_end (A := X.A) (fp1 := [i1, a]) (fp2 := [i2, b]) ⟨D.TIz, D.TOz, D.TITO, D.TIi1, by simp, ?_, ?_, D.TIi2, by simp, ?_, ?_, ?_, ?_⟩ (Draws.list (A := X.A.in1) (I.ok.hd hc) i1 a D.l1i1 its.toArray) (Draws.tuple (A := X.A.in1) (I.ok.hd hc) i2 b D.l2i2 its2.toArray) hz hTI hTO ⟨h1, p.isList⟩ ⟨h2, p2⟩ (Nat.le_of_eq l1) (Nat.le_of_eq l2) (.inl l1) fun h' tk hk => ⟨rfl, I.turnedL (t' := tk) (ch := [z, TI, TO, i1, i2]) (fun c o hb q => ?_) hf⟩
    · simp [D.i1z.symm, D.l1z.symm]
    · simp [D.TOi1, D.l1TO.symm]
    · simp [D.i2z.symm, D.l2z.symm]
    · simp [D.TOi2, D.l2TO.symm]
    · simp [D.i12, D.l2i1.symm]
    · simp [D.i12.symm, D.l1i2.symm]
    simp only [List.mem_cons, List.not_mem_nil, or_false, not_or] at hb
    exact hk c o hb.1 hb.2.2.1 hb.2.2.2.1 hb.2.2.2.2 q
  self := fun A i s Q E st h => wpAny_pyIter_zip st.1 h
def iZipLT (K : PySem.W.Frag) (ta : TA) : TI := fun σ H R => ta σ H fun vs H1 => ∃ a b xs ys, vs = [.ref a, .ref b] ∧ SqL K H1 a xs ∧ SqT K H1 b ys ∧ R (ItzLT K a b) H1
theorem pi_zipLT {X : Cx} {e e2 : Expr} {ta : TA} {p pos tpos : Pos} {elts : List Expr} {kk : Nat} (hg : Gl X "zip") (hm : X.mg "zip" = none) (ha : PA X [e, e2] ta)
    (hs : starEach [e, e2] X.env = (false, eval e X.env) :: starEach [e2] X.env := by rfl) (hpl : (backTo pos (starEach [e2] X.env)).any (·.1) = false := by rfl) :
    PI X (.Tuple elts kk tpos) (.Call (.Name "zip" p) [e, e2] [] pos) (iZipLT X.K ta) := by
  refine ⟨fun pins s σ H R I h => Call_ (ld_blt I hg hm PyProof.Rows.boot_zip (PyProof.Rows.callWith_type1 (thn (ha.run pos pins s σ H _ I h) fun us s1 ⟨vs, H1, I1, r1, q1⟩ => ?_) hs hpl))⟩
  obtain ⟨a, b, xs, ys, rfl, hqx, hqy, q⟩ := q1
  obtain ⟨u1, u2, eu, ra, rb⟩ := vals2 r1
  subst eu
  obtain rfl : u1 = Value.ref a := ra
  obtain rfl : u2 = Value.ref b := rb
  obtain ⟨its, rv, p1, _⟩ := I1.list hqx
  obtain ⟨its2, rv2, p2, _⟩ := I1.tuple hqy
  have hl2 : b < s1.heap.objs.size := by obtain ⟨o2, ho2, _⟩ := id p2; exact Heap.lt_size ho2
  refine call_mix p1.isList p2 fun h' hz hTI hTO h1 h2 hk => wpAny_pyIter_zip hz ?_
  refine ⟨s1.heap.objs.size + 4, [s1.heap.objs.size + 4, s1.heap.objs.size + 2, s1.heap.objs.size + 3, s1.heap.objs.size, s1.heap.objs.size + 1], _, _, H1, rfl, I1.kept (t' := s1.toks) hk, turn_zipLT (PySem.W.ktu_apart s1.heap.objs.size a b p1.lt hl2), ⟨hz, hTI, ⟨_, _, hTO⟩, h1, h2⟩, fun c hcm => ?_, q⟩
  have hle : s1.heap.objs.size ≤ c := by
    simp only [List.mem_cons, List.not_mem_nil, or_false] at hcm
    rcases hcm with rfl | rfl | rfl | rfl | rfl <;> omega
  exact I1.fpOk hle (I1.hok.fresh hle)
/-! ### D.get(k, x), D a dict of the module with text keys -/
def KLook (K : PySem.W.Frag) (w : World) (a : Addr) (x : Str) (r : Option Value) : Prop :=
  ∃ es n, K.lookup a = some ⟨.type "dict", none, .dict es n, #[]⟩ ∧ PySem.W.KeysLit w.params es.toList ∧ PySem.W.nsIn K a x = some r
def tKGet2 (K : PySem.W.Frag) (w : World) (td ty tx : TE) : TE := fun σ H Q => td σ H fun x H1 => ∃ p, x = .ref p ∧ (p == sysModules) = false ∧ (∃ z r, KLook K w p z r) ∧ ty σ H1 fun y H2 => ∃ z, y = .str z ∧ tx σ H2 fun d H3 =>
  ∃ r, KLook K w p z r ∧ match r with | some u => ∃ v, RelV v u ∧ Q v H3 | none => Q d H3
section
variable {X : Cx}
theorem pe_kget2 {o e f : Expr} {apos cpos : Pos} {td ty tx : TE} (ho : PE X o td) (he : PE X e ty) (hf : PE X f tx) (m : M2 X o "get" apos e f cpos) : PE X (.Call (.Attribute o "get" apos) [e, f] [] cpos) (tKGet2 X.K X.w td ty tx) := by
  refine ⟨fun pins s σ H Q I h => ?_⟩
  refine wpAny_Call_method m.base m.few m.line PySem.F.plainAttrs_dict PySem.F.slot_dict_get PySem.F.type_dict_get (thn (ho.run pins s σ H _ I h) fun u s1 ⟨x, H1, I1, rx, p, ex, sm, ⟨z0, r0, es0, n0, hl0, hk0, e0⟩, q1⟩ => ?_)
  subst ex
  obtain rfl : u = Value.ref p := rx
  have hm0 := PySem.W.mapOf_K (prog := X.prog) (w := X.w) I1.kIn hl0 hk0
  refine ⟨hm0.typeIs, fun a ea => ?_, ?_⟩
  · cases ea
    have hp : s1.heap.get? p = some ⟨.type "dict", none, .dict es0 n0, #[]⟩ := I1.kIn _ _ hl0
    exact ⟨_, hp, rfl⟩
  rw [m.trees]
  refine Calls.callWith_builtin rfl (Calls.evalArgs_plain (Calls.spliced_cons (thn (he.run pins s1 σ H1 _ I1 q1) fun iv s2 ⟨y, H2, I2, ry, z, ey, q2⟩ =>
    Calls.spliced_cons (thn (hf.run pins s2 σ H2 _ I2 q2) fun fv s3 ⟨d, H3, I3, rd, r, ⟨es, n, hl, hk, ee⟩, q3⟩ => Calls.spliced_nil ?_))))
  subst ey
  obtain ⟨t, rfl⟩ : ∃ t, iv = .str z t := ry
  have hm := PySem.W.mapOf_K (prog := X.prog) (w := X.w) I3.kIn hl hk
  refine call_meetsIn PySem.F.slot_dict_get hm.typeIs PySem.F.entry_dict_get (PySem.F.args_dict_get_3 _ _ _) (meets_dict_get_default (PySem.strKind X.prog X.w) p (strKind_is X.prog X.w z t) sm fv) ⟨_, hm, ?_⟩
  rw [PySem.W.find_K hl ee]
  cases r with
  | none => exact ⟨d, H3, I3.tok _, rd, q3⟩
  | some u =>
    obtain ⟨v, rv, q⟩ := q3
    exact ⟨v, H3, I3.tok _, rv, q⟩
end
/-! ### texts of entries and houses -/
abbrev numT (n : Int) : Str := Str.ofString (toString n)
theorem num_digits {n : Int} (h0 : 0 ≤ n) : NumText.AllDigits (numT n).cps.toList := by
  obtain ⟨m, rfl⟩ := Int.eq_ofNat_of_zero_le h0
  intro c hc
  rw [PySem.W.KIN.signs_num] at hc
  obtain ⟨ch, hch, rfl⟩ := List.mem_map.mp hc
  exact PyProof.Rows.digit_range (Nat.isDigit_of_mem_toDigits (by decide) (by decide) hch)
theorem num_len {n : Int} (h0 : 0 ≤ n) (h1 : n ≤ 1000000000) : 1 ≤ (numT n).length ∧ (numT n).length ≤ 13 := by
  refine ⟨?_, Nat.le_trans (toString_length_le h0 (k := 10) (by decide) (by omega)) (by decide)⟩
  obtain ⟨m, rfl⟩ := Int.eq_ofNat_of_zero_le h0
  have e : (numT (m : Int)).length = (numT (m : Int)).cps.toList.length := by simp [Str.length]
  rw [e, PySem.W.KIN.signs_num, List.length_map]
  exact PySem.toDigits_len_ge 10 m
theorem head_zero (m : Nat) : ∀ r, Nat.toDigits 10 m = '0' :: r → m = 0 := by
  induction m using Nat.strongRecOn with
  | _ m ih =>
    intro r h
    by_cases lt : m < 10
    · rw [Nat.toDigits_of_lt_base lt] at h
      have e : Nat.digitChar m = '0' := (List.cons.inj h).1
      have all : ∀ d : Nat, d < 10 → Nat.digitChar d = '0' → d = 0 := by decide
      exact all m lt e
    · have hm : m % 10 < 10 := Nat.mod_lt m (by decide)
      have t : Nat.toDigits 10 (m / 10) ++ Nat.toDigits 10 (m % 10) = Nat.toDigits 10 (10 * (m / 10) + m % 10) := Nat.toDigits_append_toDigits (by decide) (by omega) hm
      rw [Nat.div_add_mod] at t
      rw [← t] at h
      have ge := PySem.toDigits_len_ge 10 (m / 10)
      cases e : Nat.toDigits 10 (m / 10) with
      | nil => rw [e] at ge; exact absurd ge (by decide)
      | cons a r' =>
        rw [e] at h
        have ea : a = '0' := (List.cons.inj h).1
        have := ih (m / 10) (by omega) r' (by rw [e, ea])
        omega
/-- a number's text begins with 0 where it is 0 alone -/
theorem num_zero {n : Int} (h0 : 0 ≤ n) (h : Txt.startswith (numT n) "0" = true) : numT n = "0" := by
  obtain ⟨m, rfl⟩ := Int.eq_ofNat_of_zero_le h0
  have hs : (numT (m : Int)).cps.toList = (Nat.toDigits 10 m).map Char.toNat := PySem.W.KIN.signs_num m
  have ge := PySem.toDigits_len_ge 10 m
  cases e : Nat.toDigits 10 m with
  | nil => rw [e] at ge; exact absurd ge (by decide)
  | cons a r =>
    have d := Nat.isDigit_of_mem_toDigits (b := 10) (n := m) (c := a) (by decide) (by decide) (by rw [e]; exact List.mem_cons_self)
    have ha : a = '0' := by
      unfold Txt.startswith at h
      rw [Bool.and_eq_true] at h
      have h2 := h.2
      unfold Builtin.Str.subAt at h2
      have h3 : (numT (m : Int)).cps.extract 0 (0 + ("0" : Str).length) = ("0" : Str).cps := by simpa using h2
      have h4 := congrArg Array.toList h3
      have l1 : ("0" : Str).length = 1 := by decide +kernel
      have l2 : ("0" : Str).cps.toList = [48] := by decide +kernel
      rw [Array.toList_extract, hs, e, l1, l2] at h4
      have h5 : [a.toNat] = [48] := by simpa using h4
      have h6 : a.toNat = ('0' : Char).toNat := (List.cons.inj h5).1
      exact Char.ext (UInt32.toNat_inj.mp h6)
    rw [ha] at e
    have z := head_zero m r e
    rw [z]
    decide +kernel
/-- neither a blank nor a line end in it, signs below 256 -/
structure Cln (y : Str) : Prop where
  k : ∀ c ∈ y.cps.toList, c < 256 ∧ c ≠ 32 ∧ c ≠ 10
theorem cln_name {y : Str} (h : nameB y = true) : Cln y := by
  refine ⟨fun c hc => ?_⟩
  unfold nameB at h
  rw [Bool.and_eq_true] at h
  have := List.all_eq_true.mp h.2 c hc
  unfold signB at this
  have hm : c ∈ abc.cps.toList := of_decide_eq_true this
  have all : ∀ c ∈ abc.cps.toList, c < 256 ∧ c ≠ 32 ∧ c ≠ 10 := by decide +kernel
  exact all c hm
theorem cln_num {n : Int} (h0 : 0 ≤ n) : Cln (numT n) := ⟨fun c hc => by
  have := num_digits h0 c hc
  omega⟩
theorem cln_words : ∀ y ∈ words7, Cln y := fun y hy => ⟨fun c hc => by
  have all : ∀ y ∈ words7, ∀ c ∈ y.cps.toList, c < 256 ∧ c ≠ 32 ∧ c ≠ 10 := by decide +kernel
  exact all y hy c hc⟩
theorem cln_dash : Cln "-" := ⟨by decide +kernel⟩
/-- a part of an entry as it is written -/
def partT : V → Str
  | .str y => if y = "" then "-" else y
  | .int i => numT i
  | _ => ""
/-- parts that can be written -/
def PartOk (v : V) : Prop := (∃ y : Str, v = .str y ∧ (y = "" ∨ nameB y = true ∨ y ∈ words7)) ∨ ∃ i : Int, v = .int i ∧ 0 ≤ i ∧ i ≤ 1000000000
theorem word_short {y : Str} (h : y ∈ words7) : 1 ≤ y.length ∧ y.length ≤ 8 := by
  have all : ∀ y ∈ words7, 1 ≤ y.length ∧ y.length ≤ 8 := by decide +kernel
  exact all y h
theorem part_cln {v : V} (h : PartOk v) : Cln (partT v) ∧ (partT v).length ≤ 13 := by
  rcases h with ⟨y, rfl, rfl | h | h⟩ | ⟨i, rfl, h0, h1⟩
  · exact ⟨cln_dash, by decide +kernel⟩
  · have ne : y ≠ "" := name_ne h
    show Cln (if y = "" then "-" else y) ∧ (if y = "" then ("-" : Str) else y).length ≤ 13
    rw [if_neg ne]
    exact ⟨cln_name h, Nat.le_trans (name_len h).2 (by decide)⟩
  · have ne : y ≠ "" := fun z => by rw [z] at h; revert h; decide +kernel
    show Cln (if y = "" then "-" else y) ∧ (if y = "" then ("-" : Str) else y).length ≤ 13
    rw [if_neg ne]
    exact ⟨cln_words y h, Nat.le_trans (word_short h).2 (by decide)⟩
  · exact ⟨cln_num h0, (num_len h0 h1).2⟩
theorem join_len (sep : Str) (xs : List Str) : (Txt.join sep xs).length ≤ (xs.map (·.length)).sum + xs.length * sep.length := by
  rw [TL.join_eq]
  exact StrLaws.join_length_le sep xs
theorem sum_le {xs : List Str} {B : Nat} (h : ∀ y ∈ xs, y.length ≤ B) : (xs.map (·.length)).sum ≤ xs.length * B := by
  induction xs with
  | nil => exact Nat.zero_le _
  | cons a r ih =>
    have := ih fun y hy => h y (List.mem_cons_of_mem _ hy)
    have := h a List.mem_cons_self
    simp only [List.map_cons, List.sum_cons, List.length_cons, Nat.add_mul, Nat.one_mul]
    omega
theorem split_blank {xs : List Str} (ne : xs ≠ []) (h : ∀ y ∈ xs, Cln y) : Txt.split (Txt.join " " xs) " " = xs :=
  TL.split_join (y := " ") (s := 32) (S := []) (by decide +kernel) (by decide +kernel) ne fun p hp z => ((h p hp).k 32 z).2.1 rfl
theorem mem_joinL {c : Nat} : ∀ {sep : List Nat} {ps : List (List Nat)}, c ∈ TL.joinL sep ps → c ∈ sep ∨ ∃ p ∈ ps, c ∈ p := by
  intro sep ps
  induction ps with
  | nil => intro h; exact (nomatch h)
  | cons a r ih =>
    intro h
    cases r with
    | nil => exact .inr ⟨a, List.mem_cons_self, h⟩
    | cons b r =>
      have h' : c ∈ a ++ (sep ++ TL.joinL sep (b :: r)) := h
      rcases List.mem_append.mp h' with q | q
      · exact .inr ⟨a, List.mem_cons_self, q⟩
      · rcases List.mem_append.mp q with q | q
        · exact .inl q
        · rcases ih q with q | ⟨p, hp, q⟩
          · exact .inl q
          · exact .inr ⟨p, List.mem_cons_of_mem _ hp, q⟩
/-- no line end in a line -/
theorem line_cln {xs : List Str} (h : ∀ y ∈ xs, Cln y) : 10 ∉ TL.tl (Txt.join " " xs) := by
  intro z
  rw [TL.join_eq, TL.tl_join] at z
  rcases mem_joinL z with q | ⟨p, hp, q⟩
  · revert q; decide +kernel
  · obtain ⟨y, hy, rfl⟩ := List.mem_map.mp hp
    exact ((h y hy).k 10 q).2.2 rfl
theorem split_lines {xs : List Str} (ne : xs ≠ []) (h : ∀ y ∈ xs, 10 ∉ TL.tl y) : Txt.split (Txt.join "\n" xs) "\n" = xs :=
  TL.split_join (y := "\n") (s := 10) (S := []) (by decide +kernel) (by decide +kernel) ne h
/-! texts put together piece by piece -/
def app (a b : Str) : Str := a ++ b
theorem join_fold (sep a : Str) (r : List Str) : Txt.join sep (a :: r) = r.foldl (fun acc p => acc ++ sep ++ p) a := by
  have gen : ∀ (r : List Str) (x : Str), (⟨r.foldl (fun acc p => acc ++ sep.cps ++ p.cps) x.cps⟩ : Str) = r.foldl (fun acc p => acc ++ sep ++ p) x := by
    intro r
    induction r with
    | nil => intro x; rfl
    | cons b r ih => intro x; exact ih (x ++ sep ++ b)
  exact gen r a
theorem fold_pre (sep pre a : Str) : ∀ r : List Str, r.foldl (fun acc p => acc ++ sep ++ p) (pre ++ a) = pre ++ r.foldl (fun acc p => acc ++ sep ++ p) a := by
  intro r
  induction r generalizing a with
  | nil => rfl
  | cons b r ih =>
    show r.foldl _ (pre ++ a ++ sep ++ b) = _
    have e : pre ++ a ++ sep ++ b = pre ++ (a ++ sep ++ b) := by
      apply str_ext
      show TL.tl _ = TL.tl _
      simp only [TL.tl_append, List.append_assoc]
    rw [e]
    exact ih _
theorem app_assoc (a b c : Str) : a ++ b ++ c = a ++ (b ++ c) := by
  apply str_ext
  show TL.tl _ = TL.tl _
  simp only [TL.tl_append, List.append_assoc]
def entT (e : Ent) : Str := Txt.join " " (e.vals.map partT)
def linesT (P G : List Str) (es : List Ent) : List Str := Txt.join " " ("places" :: P) :: Txt.join " " ("goods" :: G) :: es.map entT
def houseT (P G : List Str) (es : List Ent) : Str := Txt.join "\n" (linesT P G es)
theorem call_str_sn {X : Cx} : CallR X (.type "str") (fun xs H Q => ∃ v, xs = [v] ∧ ((∃ a, v = .str a ∧ Q (.str a) H) ∨ ∃ i, v = .int i ∧ i.natAbs.log2 < 1920 ∧ Q (.str (toString i)) H)) := by
  rintro pins s σ H vs us Q I r ⟨v, rfl, ⟨a, rfl, q⟩ | ⟨i, rfl, h, q⟩⟩
  · exact SkE.call_str_str pins s σ H _ us Q I r ⟨a, rfl, q⟩
  · exact call_str_int pins s σ H _ us Q I r ⟨i, rfl, h, q⟩
/-! ### parts of tuples, tuples one behind the other -/
theorem cut_head {xs : List V} {k : Nat} : cutV xs none (some (k : Int)) = xs.take k := by
  unfold cutV
  rw [HT.sIx_nat]
  show (xs.drop 0).take (min k xs.length - 0) = _
  rw [List.drop_zero, Nat.sub_zero, ← List.take_eq_take_min]
theorem cut_tail {xs : List V} {k : Nat} : cutV xs (some (k : Int)) none = xs.drop k := by
  unfold cutV
  rw [HT.sIx_nat, HT.sIx_none]
  by_cases h : k ≤ xs.length
  · rw [Nat.min_eq_left h, List.take_of_length_le (by rw [List.length_drop]; exact Nat.le_refl _)]
  · rw [Nat.min_eq_right (by omega), List.drop_of_length_le (by omega), List.drop_of_length_le (by omega), List.take_nil]
/-- a part of a tuple, made or the same -/
def rSlS : V → Option Int → Option Int → Hp → VK → Prop := fun x lo hi H Q => ∃ (a : Addr) (xs : List V), x = .ref a ∧ H a = some (.tup xs) ∧ ∀ (b : Addr) (H' : Hp), Same H H' → H' b = some (.tup (cutV xs lo hi)) → Q (.ref b) H'
theorem sl_S {X : Cx} : SlR X rSlS := by
  rintro pins s σ H x v vl vu lo hi sl Q I rx hs pl pu ⟨a, xs, rfl, ha, q⟩
  refine sl_tupA pins s σ H _ v vl vu _ _ sl Q I rx hs pl pu ⟨a, xs, rfl, SqT.of ha, fun z => q a H (fun _ _ e => e) ?_, fun _ p np => q p _ (same_new np) upd_same⟩
  rw [ha]
  unfold cutV
  rw [z.1, z.2, List.drop_zero, Nat.sub_zero, List.take_length]
/-- tuples one behind the other -/
theorem op_catS {X : Cx} : OpR X (binaryOp .Add) (fun x y H Q => ∃ (a b : Addr) (xs ys : List V), x = .ref a ∧ y = .ref b ∧ H a = some (.tup xs) ∧ H b = some (.tup ys) ∧ xs ≠ [] ∧ xs.length + ys.length ≤ sizeLine ∧
    ∀ (t : Addr) (H' : Hp), Same H H' → H' t = some (.tup (xs ++ ys)) → Q (.ref t) H') := by
  rintro pins s σ H x y v u Q I rx ry ⟨a, b, xs, ys, rfl, rfl, ha, hb, ne, hz, q⟩
  refine op_catT pins s σ H _ _ v u Q I rx ry ⟨a, b, xs, ys, rfl, rfl, SqT.of ha, SqT.of hb, ne, hz, fun z => q a H (fun _ _ e => e) ?_, fun _ p np => q p _ (same_new np) upd_same⟩
  rw [ha, z, List.append_nil]
theorem vals_len_e (e : Ent) : 5 ≤ e.vals.length ∧ e.vals.length ≤ 7 := by cases e <;> simp [Ent.vals, Ent.rest]
/-! ### entries and houses written -/
def spEntryText (Ts : List Addr) : Sp := fun vs H Q _ => ∃ (a : Addr) (xs : List V), vs = [.ref a] ∧ H a = some (.tup xs) ∧ (∀ v ∈ xs, PartOk v) ∧ xs.length ≤ 10 ∧ TabsG Ts H ∧ ∀ H', TB1 Ts H H' → Q (.str (Txt.join " " (xs.map partT))) H'
def spHouseText (Ts : List Addr) : Sp := fun vs H Q _ => ∃ (h : Addr) (P G : List Str) (es : List Ent) (m : Nat), vs = [.ref h] ∧ HouseAt H h P G es ∧ Good P G es m ∧ m ≤ 30 ∧ TabsG Ts H ∧ ∀ H', TB1 Ts H H' → Q (.str (houseT P G es)) H'
def words2 : List Str := ["places", "goods"]
theorem words2_ok : ∀ z ∈ words2, z.length ≤ 8 ∧ Cln z := fun z hz => by
  have all : ∀ z ∈ words2, z.length ≤ 8 ∧ ∀ c ∈ z.cps.toList, c < 256 ∧ c ≠ 32 ∧ c ≠ 10 := by decide +kernel
  exact ⟨(all z hz).1, ⟨(all z hz).2⟩⟩
theorem part_scal {v : V} (h : PartOk v) (y : Str) : scal v (.str y) = true := by
  rcases h with ⟨z, rfl, _⟩ | ⟨i, rfl, _⟩ <;> rfl
theorem int_small {i : Int} (h0 : 0 ≤ i) (h1 : i ≤ 1000000000) : i.natAbs.log2 < 1920 := by
  by_cases z : i.natAbs = 0
  · rw [z]; decide
  · exact Nat.lt_trans ((Nat.log2_lt z).mpr (show i.natAbs < 2 ^ 30 by omega)) (by decide)
theorem ent_parts {e : Ent} {P G : List Str} {HL : List Str} (nn : nameB e.name = true) (m0 : 0 ≤ e.moment) (m1 : e.moment ≤ 9999) (hP : ∀ y ∈ P, nameB y = true) (hG : ∀ y ∈ G, nameB y = true) (hH : ∀ y ∈ HL, nameB y = true) (h : e.From P G HL) : ∀ v ∈ e.vals, PartOk v := by
  have w : PartOk (.str e.word) := .inl ⟨_, rfl, .inr (.inr (Ent.word_in e))⟩
  have n : ∀ {y : Str}, nameB y = true → PartOk (.str y) := fun h => .inl ⟨_, rfl, .inr (.inl h)⟩
  have k : ∀ {i : Int}, 0 ≤ i → i ≤ 1000000000 → PartOk (.int i) := fun a b => .inr ⟨_, rfl, a, b⟩
  have mo : PartOk (.int e.moment) := k m0 (by omega)
  intro v hv
  rcases List.mem_cons.mp hv with rfl | hv
  · exact w
  rcases List.mem_cons.mp hv with rfl | hv
  · exact n nn
  rcases List.mem_cons.mp hv with rfl | hv
  · exact mo
  cases e with
  | come nm m g pl a r =>
    obtain ⟨h1, h2, h3, h4, h5, h6⟩ := h
    simp only [Ent.rest, List.mem_cons, List.not_mem_nil, or_false] at hv
    rcases hv with rfl | rfl | rfl | rfl
    · exact n (hG _ h1)
    · exact n (hP _ h2)
    · exact k (by omega) h4
    · exact k h5 h6
  | go nm m g pl a =>
    obtain ⟨h1, h2, h3, h4⟩ := h
    simp only [Ent.rest, List.mem_cons, List.not_mem_nil, or_false] at hv
    rcases hv with rfl | rfl | rfl
    · exact n (hG _ h1)
    · exact n (hP _ h2)
    · exact k (by omega) h4
  | move nm m g o t a =>
    obtain ⟨h1, h2, h3, _, h4, h5⟩ := h
    simp only [Ent.rest, List.mem_cons, List.not_mem_nil, or_false] at hv
    rcases hv with rfl | rfl | rfl | rfl
    · exact n (hG _ h1)
    · exact n (hP _ h2)
    · exact n (hP _ h3)
    · exact k (by omega) h5
  | some_ nm m g o t =>
    obtain ⟨h1, h2, h3⟩ := h
    simp only [Ent.rest, List.mem_cons, List.not_mem_nil, or_false] at hv
    rcases hv with rfl | rfl | rfl
    · exact n (hG _ h1)
    · exact n (hP _ h2)
    · exact .inl ⟨_, rfl, h3.imp id fun q => .inl (hP _ q.1)⟩
  | swap nm m o t =>
    obtain ⟨h1, h2, _⟩ := h
    simp only [Ent.rest, List.mem_cons, List.not_mem_nil, or_false] at hv
    rcases hv with rfl | rfl
    · exact n (hP _ h1)
    · exact n (hP _ h2)
  | count nm m g pl a hd =>
    obtain ⟨h1, h2, h3, h4, h5⟩ := h
    simp only [Ent.rest, List.mem_cons, List.not_mem_nil, or_false] at hv
    rcases hv with rfl | rfl | rfl | rfl
    · exact n (hG _ h1)
    · exact n (hP _ h2)
    · exact k h3 h4
    · exact n (hH _ h5)
  | look nm m g pl =>
    simp only [Ent.rest, List.mem_cons, List.not_mem_nil, or_false] at hv
    rcases hv with rfl | rfl
    · exact n (hG _ h.1)
    · exact n (hP _ h.2)
theorem vals_len10 (e : Ent) : e.vals.length ≤ 7 := by cases e <;> (show _ ≤ 7; simp [Ent.vals, Ent.rest])
theorem Good.parts {P G : List Str} {es : List Ent} {m : Nat} (g : Good P G es m) : ∀ e ∈ es, ∀ v ∈ e.vals, PartOk v := fun e he => by
  obtain ⟨h1, h2, h3, HL, h4, h5⟩ := g.ents e he
  exact ent_parts h1 h2 h3 g.nm g.gn h4 h5
theorem parts_small {xs : List V} (h : ∀ v ∈ xs, PartOk v) (l : xs.length ≤ 10) : ((xs.map partT).map (·.length)).sum ≤ 130 := by
  have := sum_le (xs := xs.map partT) (B := 13) fun y hy => by
    obtain ⟨v, hv, rfl⟩ := List.mem_map.mp hy
    exact (part_cln (h v hv)).2
  rw [List.length_map] at this
  omega
/-- texts hung on one behind the other, a separator ahead of each -/
def glue (sep pre : Str) (xs : List Str) : Str := xs.foldl (fun acc p => acc ++ sep ++ p) pre
theorem glue_snoc (sep pre : Str) (xs : List Str) (y : Str) : glue sep pre (xs ++ [y]) = glue sep pre xs ++ sep ++ y := by
  unfold glue
  rw [List.foldl_append]
  rfl
theorem app_len (a b : Str) : (a ++ b).length = a.length + b.length := by
  show (a.cps ++ b.cps).size = a.cps.size + b.cps.size
  rw [Array.size_append]
theorem glue_len (sep pre : Str) (xs : List Str) : (glue sep pre xs).length = pre.length + (xs.map (·.length)).sum + xs.length * sep.length := by
  induction xs generalizing pre with
  | nil => simp [glue]
  | cons a r ih =>
    show (glue sep (pre ++ sep ++ a) r).length = _
    rw [ih, app_len, app_len]
    simp only [List.map_cons, List.sum_cons, List.length_cons, Nat.add_mul, Nat.one_mul]
    omega
theorem join_glue (sep a : Str) (r : List Str) : Txt.join sep (a :: r) = glue sep a r := join_fold sep a r
theorem glue_pre (sep pre a : Str) (r : List Str) : glue sep (pre ++ a) r = pre ++ glue sep a r := fold_pre sep pre a r
theorem glue_ent (e : Ent) : entT e = glue " " e.word ((e.vals.drop 1).map partT) := by
  have ne : e.word ≠ "" := fun z => by
    have := word_short (Ent.word_in e)
    rw [z] at this
    revert this
    decide +kernel
  have h : e.vals.map partT = e.word :: (e.vals.drop 1).map partT := by
    show partT (.str e.word) :: _ = _
    have : partT (.str e.word) = e.word := if_neg ne
    rw [this]
    rfl
  unfold entT
  rw [h, join_glue]
theorem glue_house (P G : List Str) (es : List Ent) : houseT P G es = glue "\n" (glue " " (glue " " "places" P ++ "\ngoods") G) (es.map entT) := by
  unfold houseT linesT
  rw [join_glue]
  show glue "\n" (Txt.join " " ("places" :: P) ++ "\n" ++ Txt.join " " ("goods" :: G)) (es.map entT) = _
  rw [join_glue, join_glue]
  have e : glue " " "places" P ++ "\ngoods" = (glue " " "places" P ++ "\n") ++ "goods" := by
    rw [app_assoc]
    have : ("\ngoods" : Str) = ("\n" : Str) ++ ("goods" : Str) := by decide +kernel
    rw [this]
  rw [e, glue_pre " " _ "goods" G]
theorem ent_len {e : Ent} (h : ∀ v ∈ e.vals, PartOk v) : (entT e).length ≤ 200 := by
  have z := join_len " " (e.vals.map partT)
  have l := vals_len10 e
  have p := parts_small h (by omega)
  have bl : ((" " : Str)).length = 1 := by decide +kernel
  rw [bl, List.length_map] at z
  show (Txt.join " " (e.vals.map partT)).length ≤ 200
  omega
section
variable {P : Program} {w : World} {K : PySem.W.Frag} {mg : Str → Option Value} {base : Heap}
abbrev sEntryTextN : List Str := ["entry", "part"]
theorem sc_sEntryText : FnScope sEntryTextN ["entry"] (defScope sEntryText) := ⟨rfl, rfl, rfl, by decide +kernel, rfl, by decide +kernel, by decide +kernel⟩
theorem ok_entryText {f cA T : Addr} {Ts : List Addr} {oc kV doc pm ct : Value} {od an : Option Addr} {osl : Array (Option Value)}
    (lk : K.lookup f = some ⟨oc, od, .func (PySem.W.fnOf "entry_text" "entry_text" (defArgs sEntryText) (defBody sEntryText) (defScope sEntryText) .none kV doc pm an (.ref cA) ct), osl⟩) (cdI : PySem.W.codeIn K (.ref cA) "entry_text" = true)
    (TB : GxR.TabB base mg cA T) (i1 : T ∈ Ts) (mO : ∃ t, mg "OUTSIDE" = some (.str "-" t)) (mT_str : mg "str" = none) :
    FnOk P w K mg base CX0 2 f (PySem.W.fnOf "entry_text" "entry_text" (defArgs sEntryText) (defBody sEntryText) (defScope sEntryText) .none kV doc pm an (.ref cA) ct) ["entry"] (spEntryText Ts) := by
  refine fn_of lk cdI sc_sEntryText (fun vs H Q E h => ?_) (fun A outer s H vs Q E hr h => ?_)
  · obtain ⟨a, xs, rfl, _⟩ := h
    rfl
  · obtain ⟨a, xs, rfl, ha, ok, l10, tg, q⟩ := h
    obtain ⟨tO, mO⟩ := mO
    have nd := sc_sEntryText.nd
    refine ⟨_, pss_one (ps_ret (pe_joinX (T := T) (c := cA) (k := 0) (own := [("part", 1)]) (g := gName 1) (tt := tYes) (hr.mono (by decide)) pe_str rfl nd TB rfl ⟨blkOk_by (N := sEntryTextN) (sc := defScope sEntryText) (by decide +kernel), rfl, by decide +kernel, rfl⟩ (pi_tup (pv 0)) (fun _ _ _ _ _ _ => (pg_name (i := 1) nd rfl (Or.inl rfl))) (fun _ _ _ _ _ _ hr' => pts_nil) (fun _ _ _ _ _ _ hr' => (pe_ifExp (pt_cmpR op_eq (pv 1) pe_str (nomark _)) (pe_glob (v := .str "-") rfl mO ⟨_, rfl⟩) (pe_callTy call_str_sn (by rfl) mT_str (by decide +kernel) (pa_cons (pv 1) pa_nil)))))), ?_⟩
    refine ⟨_, rfl, _, rfl, a, rfl, ⟨_, SqT.of ha⟩, ?_⟩
    refine gx_over (over_t (K := K) (a := a) (xs := xs)) (fun i ys H' => TB1 Ts H H' ∧ ys = ((xs.take i).map partT).map V.str) (tg T i1) (fun H2 tb => ⟨.tab tb tg i1, rfl⟩) (fun i ys H' _ z => SqT.of (z.1.tk _ _ ha)) ?_ ?_
    · rintro i x ys H' Go hx ⟨b, rfl⟩ go
      have hv := ok x (List.mem_of_getElem? hx)
      have e : ((xs.take (i + 1)).map partT).map V.str = ((xs.take i).map partT).map V.str ++ [V.str (partT x)] := by
        rw [take_sn hx, List.map_append, List.map_append]
        rfl
      have lt : (((xs.take i).map partT).map V.str).length < sizeLine := by
        rw [List.length_map, List.length_map]
        exact small1000 (by rw [List.length_take]; omega)
      refine ⟨rfl, yesT ⟨_, rfl, part_scal hv "", _, rfl, ?_⟩⟩
      rcases hv with ⟨y, rfl, _⟩ | ⟨n, rfl, h0, h1⟩
      · by_cases z : y = ""
        · rw [decide_eq_true (congrArg V.str z)]
          refine iteT ⟨lt, go _ _ ⟨b, ?_⟩⟩
          rw [e]
          show _ = _ ++ [V.str (if y = "" then "-" else y)]
          rw [if_pos z]
        · rw [decide_eq_false fun q => z (V.str.inj q)]
          refine iteF ⟨_, rfl, _, rfl, .inl ⟨y, rfl, lt, go _ _ ⟨b, ?_⟩⟩⟩
          rw [e]
          show _ = _ ++ [V.str (if y = "" then "-" else y)]
          rw [if_neg z]
      · rw [decide_eq_false fun q => nomatch q]
        refine iteF ⟨_, rfl, _, rfl, .inr ⟨n, rfl, int_small h0 h1, lt, go _ _ ⟨b, ?_⟩⟩⟩
        rw [e]
        rfl
    · rintro ys H' ⟨b, rfl⟩
      rw [List.take_length]
      have sm := parts_small ok l10
      have bl : ((" " : Str)).length = 1 := by decide +kernel
      exact ⟨by rw [List.length_map, List.length_map]; exact Nat.le_of_lt (small1000 (by omega)), xs.map partT, rfl, by rw [List.length_map, bl]; omega, q H' b⟩
abbrev sHouseTextN : List Str := ["house", "places", "goods", "entries", "lines", "entry"]
theorem sc_sHouseText : FnScope sHouseTextN ["house"] (defScope sHouseText) := ⟨rfl, rfl, rfl, by decide +kernel, rfl, by decide +kernel, by decide +kernel⟩
theorem ok_houseText {f fE : Addr} {Ts : List Addr} {fd dE : FuncData} (F : Fun K "house_text" "house_text" sHouseText f fd) (ET : DefT P w K mg base "entry_text" 2 fE dE ["entry"] (spEntryText Ts)) : FnOk P w K mg base CX0 3 f fd ["house"] (spHouseText Ts) := by
  refine F.ok sc_sHouseText (fun vs H Q E h => ?_) (fun cdv A outer s H vs Q E hr h => ?_)
  · obtain ⟨h, Ps, G, es, m, rfl, _⟩ := h
    rfl
  · obtain ⟨h, Ps, G, es, m, rfl, ho, gd, m30, tg, q⟩ := h
    have nd := sc_sHouseText.nd
    refine ⟨_, pss_cons (ps_asg (pv 0) (pg_tup (by rfl) (pgs_cons (pg_name (i := 1) nd rfl (Or.inl rfl)) (pgs_cons (pg_name (i := 2) nd rfl (Or.inl rfl)) (pgs_cons (pg_name (i := 3) nd rfl (Or.inl rfl)) pgs_nil)))))
      (pss_cons (ps_set (i := 4) nd rfl (Or.inl rfl) (pe_lst (pa_cons (pe_join pe_str (pe_op op_catS (pe_tup (pa_cons pe_str pa_nil)) (pv 1))) (pa_cons (pe_join pe_str (pe_op op_catS (pe_tup (pa_cons pe_str pa_nil)) (pv 2))) pa_nil))))
      (pss_one (ps_ret (pe_join pe_str (pe_op op_cat (pv 4) (pe_lc (own := [("entry", 5)]) (g := gName 5) (tt := tYes) rfl nd (pi_tup (pv 3)) (blkOk_by (N := sHouseTextN) (sc := defScope sHouseText) (by decide +kernel)) (fun _ _ _ _ _ => (pg_name (i := 5) nd rfl (Or.inl rfl))) (fun _ _ _ _ _ => pts_nil) (fun _ _ _ _ _ => (pe_call ET.ok hr (by rfl) ET.g ET.kp ET.b .nil pass0 (pa_cons (pv 5) pa_nil))))))))), ?_⟩
    obtain ⟨hp, hg, he, tps, g1, g2, g3, g4, g5⟩ := ho.ex
    refine ⟨_, rfl, h, _, rfl, SqT.of g1, rfl, _, _, rfl, _, _, rfl, _, _, rfl, rfl, ?_⟩
    have l6 := gd.le
    have l3 := gd.gl
    have nl : ∀ {ys : List Str} {y : Str}, (∀ z ∈ ys, nameB z = true) → y ∈ words2 → ∀ z ∈ y :: ys, z.length ≤ 8 ∧ Cln z := fun a b z hz => by
      rcases List.mem_cons.mp hz with rfl | hz
      · exact words2_ok z b
      · exact ⟨(name_len (a z hz)).2, cln_name (a z hz)⟩
    have bl : ((" " : Str)).length = 1 := by decide +kernel
    have np := nl gd.nm (y := "places") (by simp [words2])
    have ng := nl gd.gn (y := "goods") (by simp [words2])
    have zp := sum_le (xs := "places" :: Ps) (B := 8) fun z hz => (np z hz).1
    have zg := sum_le (xs := "goods" :: G) (B := 8) fun z hz => (ng z hz).1
    rw [List.length_cons] at zp zg
    have fit : ∀ {n k : Nat}, n ≤ k → k ≤ 1000 → n ≤ sizeLine := fun a b => Nat.le_trans a (Nat.le_of_lt (small1000 (by omega)))
    refine ⟨⟨_, rfl⟩, (by show 1 ≤ sizeLine; decide), fun t1 nt1 => ?_⟩
    refine ⟨_, rfl, t1, hp, _, _, rfl, rfl, upd_same, (same_new nt1) _ _ g2, (by simp), ?_, fun q1 H1 s1 h1 => ?_⟩
    · rw [List.length_map]; exact fit (k := 10) (by show 1 + Ps.length ≤ 10; omega) (by decide)
    have s01 := (same_new (o := .tup [V.str "places"]) nt1).trans s1
    refine ⟨_, q1, "places" :: Ps, rfl, rfl, .inr (SqT.of h1), ?_, ?_⟩
    · rw [bl, List.length_cons]; omega
    refine ⟨⟨_, rfl⟩, (by show 1 ≤ sizeLine; decide), fun t2 nt2 => ?_⟩
    have s2 := @same_new _ _ (.tup [V.str "goods"]) nt2
    refine ⟨_, rfl, t2, hg, _, _, rfl, rfl, upd_same, s2 _ _ (s01 _ _ g3), (by simp), ?_, fun q2 H2 s3 h2 => ?_⟩
    · rw [List.length_map]; exact fit (k := 10) (by show 1 + G.length ≤ 10; omega) (by decide)
    have s02 := s01.trans (s2.trans s3)
    refine ⟨_, q2, "goods" :: G, rfl, rfl, .inr (SqT.of h2), ?_, ?_⟩
    · rw [bl, List.length_cons]; omega
    refine ⟨(by show 2 ≤ sizeLine; decide), fun ll nll => ?_⟩
    have s4 := @same_new _ _ (.lst [V.str (Txt.join " " ("places" :: Ps)), V.str (Txt.join " " ("goods" :: G))]) nll
    have hll : (upd H2 ll (.lst [V.str (Txt.join " " ("places" :: Ps)), V.str (Txt.join " " ("goods" :: G))])) ll = some (.lst ([Txt.join " " ("places" :: Ps), Txt.join " " ("goods" :: G)].map V.str)) := upd_same
    generalize upd H2 ll (.lst [V.str (Txt.join " " ("places" :: Ps)), V.str (Txt.join " " ("goods" :: G))]) = H3 at s4 hll
    have s03 := s02.trans s4
    refine ⟨⟨_, rfl⟩, _, rfl, _, rfl, he, rfl, ⟨_, SqT.of (s03 _ _ g4)⟩, fun D nD => ?_⟩
    have tg3 := tabs_sm s03 tg
    have s5 := @same_new _ _ (.lst []) nD
    have lt := gd.many
    have l5 := g5.len
    have lt' : es.length ≤ 30 := by omega
    refine lc_tup (K := K) (a := he) (xs := tps.map V.ref) (fun j H' => TB1 Ts H3 H' ∧ H' D = some (.lst (((es.take j).map entT).map V.str))) ⟨.same tg3 s5, upd_same⟩ (fun j H' _ z => SqT.of (z.1.tk _ _ (s03 _ _ g4))) ?_ ?_
    · rintro j x H4 hx ⟨b4, hD⟩
      rw [List.getElem?_map] at hx
      obtain ⟨tp, htp, rfl⟩ := Option.map_eq_some_iff.mp hx
      obtain ⟨e, hes, hte0⟩ := g5.get htp
      have hte : H4 tp = some (.tup e.vals) := b4.tk _ _ (s03 _ _ hte0)
      have me := List.mem_of_getElem? hes
      refine ⟨rfl, yesT ⟨_, rfl, tp, e.vals, rfl, hte, gd.parts e me, by have := vals_len10 e; omega, b4.1, fun H5 b5 => ?_⟩⟩
      have hD5 : H5 D = some (.lst (((es.take j).map entT).map V.str)) := b5.lst hD
      refine ⟨_, hD5, ?_, (b4.tr b5).put nD hD5, ?_⟩
      · rw [List.length_map, List.length_map]; exact small1000 (by rw [List.length_take]; omega)
      · rw [upd_same, take_sn hes, List.map_append, List.map_append]
        rfl
    · rintro H4 ⟨b4, hD⟩
      rw [List.length_map, l5, List.take_length] at hD
      have hl4 : H4 ll = some (.lst ([Txt.join " " ("places" :: Ps), Txt.join " " ("goods" :: G)].map V.str)) := b4.lst hll
      have hbl : (("\n" : Str)).length = 1 := by decide +kernel
      have jp := join_len " " ("places" :: Ps)
      have jg := join_len " " ("goods" :: G)
      rw [bl, List.length_cons] at jp jg
      have se : ((es.map entT).map (·.length)).sum ≤ 6000 := by
        have := sum_le (xs := es.map entT) (B := 200) fun y hy => by
          obtain ⟨e, he, rfl⟩ := List.mem_map.mp hy
          exact ent_len (gd.parts e he)
        rw [List.length_map] at this
        omega
      refine ⟨ll, D, _, _, rfl, rfl, hl4, hD, ?_, fun p3 np3 => ?_⟩
      · rw [List.length_map, List.length_map, List.length_map]
        exact Nat.le_of_lt (small1000 (by show 2 + es.length ≤ 1000; omega))
      refine ⟨_, p3, linesT Ps G es, rfl, rfl, .inl (SqL.of (by rw [upd_same, ← List.map_append]; rfl)), ?_, ?_⟩
      · rw [hbl]
        show (List.map (fun x => x.length) (Txt.join " " ("places" :: Ps) :: Txt.join " " ("goods" :: G) :: es.map entT)).sum + (Txt.join " " ("places" :: Ps) :: Txt.join " " ("goods" :: G) :: es.map entT).length * 1 ≤ _
        simp only [List.map_cons, List.sum_cons, List.length_cons, List.length_map] at *
        omega
      · have s9 := @same_new _ _ (.lst ((([Txt.join " " ("places" :: Ps), Txt.join " " ("goods" :: G)].map V.str)) ++ ((es.map entT).map V.str))) np3
        exact q _ ((TB1.same tg s03).tr (b4.tr (.same b4.1 s9)))
abbrev sLineN : List Str := ["_law_entry_here", "_law_found", "_law_part"]
theorem sc_sLine : FnScope sLineN ["_law_entry_here"] (defScope sLine) := ⟨rfl, rfl, rfl, by decide +kernel, rfl, by decide +kernel, by decide +kernel⟩
def spLine : Sp := fun vs H Q _ => ∃ (a : Addr) (e : Ent), vs = [.ref a] ∧ H a = some (.tup e.vals) ∧ (∀ v ∈ e.vals, PartOk v) ∧ ∀ H', Same H H' → Q (.str (entT e)) H'
theorem ok_line {f : Addr} {fd : FuncData} (F : Fun K "_law_line" "_law_line" sLine f fd) (mT_str : mg "str" = none) : FnOk P w K mg base CX0 1 f fd ["_law_entry_here"] spLine := by
  refine F.ok sc_sLine (fun vs H Q E h => ?_) (fun cdv A outer s H vs Q E hr h => ?_)
  · obtain ⟨a, e, rfl, _⟩ := h
    rfl
  · obtain ⟨a, e, rfl, ha, ok, q⟩ := h
    have nd := sc_sLine.nd
    refine ⟨_, pss_cons (ps_set (i := 1) nd rfl (Or.inl rfl) (pe_ix ix_tup (pv 0) pe_int (fun _ _ => rfl)))
      (pss_cons (ps_for PassesOwn.never rfl (pi_tup (pe_slice sl_S (pv 0) (po_some pe_int) po_none)) (pg_name (i := 2) nd rfl (Or.inl rfl))
        (pss_one (ps_if (pt_cmpR op_eq (pv 2) pe_str (nomark _)) (pss_one (ps_set (i := 1) nd rfl (Or.inl rfl) (pe_op op_add_str (pv 1) pe_str))) (pss_one (ps_set (i := 1) nd rfl (Or.inl rfl) (pe_op op_add_str (pe_op op_add_str (pv 1) pe_str) (pe_callTy call_str_sn (by rfl) mT_str (by decide +kernel) (pa_cons (pv 2) pa_nil))))))))
      (pss_one (ps_ret (pv 1)))), ?_⟩
    refine ⟨_, rfl, a, _, 0, _, rfl, rfl, SqT.of ha, at0 e, ?_⟩
    refine ⟨_, rfl, 1, rfl, a, _, rfl, ha, fun b H1 s1 hb => ⟨b, rfl, ⟨_, SqT.of hb⟩, ?_⟩⟩
    have hb' : H1 b = some (.tup (e.vals.drop 1)) := by rw [hb, ← cut_tail (k := 1)]; rfl
    have ok1 : ∀ v ∈ e.vals.drop 1, PartOk v := fun v hv => ok v (List.mem_of_mem_drop hv)
    have l7 := vals_len10 e
    have l6 : (e.vals.drop 1).length ≤ 6 := by rw [List.length_drop]; omega
    have bl : ((" " : Str)).length = 1 := by decide +kernel
    have ws := word_short (Ent.word_in e)
    refine for_tup (K := K) (a := b) (xs := e.vals.drop 1) (fun i σ H' => ∃ y2, σ = [some (.ref a), some (.str (glue " " e.word (((e.vals.drop 1).take i).map partT))), y2] ∧ H' = H1) ⟨_, rfl, rfl⟩ (fun i σ H' _ z => by obtain ⟨_, _, rfl⟩ := z; exact SqT.of hb') ?_ ?_
    · rintro i x σ H' hx ⟨y2, rfl, rfl⟩
      have hv := ok1 x (List.mem_of_getElem? hx)
      have nx : glue " " e.word (((e.vals.drop 1).take (i + 1)).map partT) = glue " " e.word (((e.vals.drop 1).take i).map partT) ++ " " ++ partT x := by
        rw [take_sn hx, List.map_append]
        exact glue_snoc _ _ _ _
      have gl : (glue " " e.word (((e.vals.drop 1).take i).map partT)).length ≤ 200 := by
        rw [glue_len, bl]
        have := parts_small (xs := (e.vals.drop 1).take i) (fun v hv => ok1 v (List.mem_of_mem_take hv)) (by rw [List.length_take]; omega)
        rw [List.length_map, List.length_take]
        omega
      have fit : ∀ {n : Nat}, n ≤ 300 → n ≤ sizeLine := fun h => Nat.le_of_lt (small1000 (by omega))
      have pl := (part_cln hv).2
      refine ⟨_, rfl, part_scal hv "", _, rfl, ?_⟩
      rcases hv with ⟨y, rfl, _⟩ | ⟨n, rfl, h0, h1⟩
      · by_cases z : y = ""
        · rw [decide_eq_true (congrArg V.str z)]
          have pe : partT (.str y) = "-" := if_pos z
          have e2 : glue " " e.word (((e.vals.drop 1).take i).map partT) ++ " -" = glue " " e.word (((e.vals.drop 1).take (i + 1)).map partT) := by
            rw [nx, pe, app_assoc]
            have : (" -" : Str) = (" " : Str) ++ ("-" : Str) := by decide +kernel
            rw [this]
          refine iteT ⟨_, rfl, _, _, rfl, rfl, fit (by have : ((" -" : Str)).length = 2 := by decide +kernel
                                                       omega), some (.str y), ?_, rfl⟩
          rw [← e2]
          rfl
        · rw [decide_eq_false fun q => z (V.str.inj q)]
          have pe : partT (.str y) = y := if_neg z
          rw [pe] at pl nx
          refine iteF ⟨_, rfl, _, _, rfl, rfl, fit (by rw [bl]; omega), _, rfl, _, rfl, .inl ⟨y, rfl, _, _, rfl, rfl, fit (by rw [app_len, bl]; omega), some (.str y), ?_, rfl⟩⟩
          rw [nx]
          rfl
      · rw [decide_eq_false fun q => nomatch q]
        have pl' : (Str.ofString (toString n)).length ≤ 13 := pl
        refine iteF ⟨_, rfl, _, _, rfl, rfl, fit (by rw [bl]; omega), _, rfl, _, rfl, .inr ⟨n, rfl, int_small h0 h1, _, _, rfl, rfl, fit (by rw [app_len, bl]; omega), some (.int n), ?_, rfl⟩⟩
        rw [nx]
        rfl
    · rintro σ H' ⟨y2, rfl, rfl⟩
      refine ⟨_, rfl, ?_⟩
      rw [List.take_length, ← glue_ent]
      exact q _ s1
abbrev sTextN : List Str := ["_law_house_here", "_law_found", "_law_place", "_law_good", "_law_entry_here"]
theorem sc_sText : FnScope sTextN ["_law_house_here"] (defScope sText) := ⟨rfl, rfl, rfl, by decide +kernel, rfl, by decide +kernel, by decide +kernel⟩
def spText : Sp := fun vs H Q _ => ∃ (h : Addr) (P G : List Str) (es : List Ent) (m : Nat), vs = [.ref h] ∧ HouseAt H h P G es ∧ Good P G es m ∧ m ≤ 30 ∧ ∀ H', Same H H' → Q (.str (houseT P G es)) H'
theorem ok_text {f fL : Addr} {fd dL : FuncData} (F : Fun K "_law_text" "_law_text" sText f fd) (LL : DefT P w K mg base "_law_line" 1 fL dL ["_law_entry_here"] spLine) : FnOk P w K mg base CX0 2 f fd ["_law_house_here"] spText := by
  refine F.ok sc_sText (fun vs H Q E h => ?_) (fun cdv A outer s H vs Q E hr h => ?_)
  · obtain ⟨h, Ps, G, es, m, rfl, _⟩ := h
    rfl
  · obtain ⟨h, Ps, G, es, m, rfl, ho, gd, m30, q⟩ := h
    have nd := sc_sText.nd
    refine ⟨_, pss_cons (ps_set (i := 1) nd rfl (Or.inl rfl) pe_str)
      (pss_cons (ps_for PassesOwn.never rfl (pi_tup (pe_ix ix_tup (pv 0) pe_int (fun _ _ => rfl))) (pg_name (i := 2) nd rfl (Or.inl rfl))
        (pss_one (ps_set (i := 1) nd rfl (Or.inl rfl) (pe_op op_add_str (pe_op op_add_str (pv 1) pe_str) (pv 2)))))
      (pss_cons (ps_set (i := 1) nd rfl (Or.inl rfl) (pe_op op_add_str (pv 1) pe_str))
      (pss_cons (ps_for PassesOwn.never rfl (pi_tup (pe_ix ix_tup (pv 0) pe_int (fun _ _ => rfl))) (pg_name (i := 3) nd rfl (Or.inl rfl))
        (pss_one (ps_set (i := 1) nd rfl (Or.inl rfl) (pe_op op_add_str (pe_op op_add_str (pv 1) pe_str) (pv 3)))))
      (pss_cons (ps_for PassesOwn.never rfl (pi_tup (pe_ix ix_tup (pv 0) pe_int (fun _ _ => rfl))) (pg_name (i := 4) nd rfl (Or.inl rfl))
        (pss_one (ps_set (i := 1) nd rfl (Or.inl rfl) (pe_op op_add_str (pe_op op_add_str (pv 1) pe_str) (pe_call LL.ok hr (by rfl) LL.g LL.kp LL.b .nil pass0 (pa_cons (pv 4) pa_nil))))))
      (pss_one (ps_ret (pv 1))))))), ?_⟩
    obtain ⟨hp, hg, he, tps, g1, g2, g3, g4, g5⟩ := ho.ex
    refine ⟨_, rfl, h, _, 0, _, rfl, rfl, SqT.of g1, atI_nat (j := 0) rfl, ?_⟩
    have bl : ((" " : Str)).length = 1 := by decide +kernel
    have hbl : (("\n" : Str)).length = 1 := by decide +kernel
    have l6 := gd.le
    have l3 := gd.gl
    have l5 := g5.len
    have lm := gd.many
    have fit : ∀ {n : Nat}, n ≤ 100000 → n ≤ sizeLine := fun h => by rw [sizeLine_eq]; omega
    have sP : ∀ i, ((Ps.take i).map (·.length)).sum ≤ 48 ∧ (Ps.take i).length ≤ 6 := fun i => by
      have h := sum_le (xs := Ps.take i) (B := 8) fun y hy => (name_len (gd.nm y (List.mem_of_mem_take hy))).2
      have l : (Ps.take i).length ≤ 6 := by rw [List.length_take]; omega
      omega
    have sG : ∀ i, ((G.take i).map (·.length)).sum ≤ 24 ∧ (G.take i).length ≤ 3 := fun i => by
      have h := sum_le (xs := G.take i) (B := 8) fun y hy => (name_len (gd.gn y (List.mem_of_mem_take hy))).2
      have l : (G.take i).length ≤ 3 := by rw [List.length_take]; omega
      omega
    have sE : ∀ i, (((es.take i).map entT).map (·.length)).sum ≤ 6000 ∧ ((es.take i).map entT).length ≤ 30 := fun i => by
      have h := sum_le (xs := (es.take i).map entT) (B := 200) fun y hy => by
        obtain ⟨e, he, rfl⟩ := List.mem_map.mp hy
        exact ent_len (gd.parts e (List.mem_of_mem_take he))
      have l : ((es.take i).map entT).length ≤ 30 := by rw [List.length_map, List.length_take]; omega
      omega
    have w1 : (("places" : Str)).length = 6 := by decide +kernel
    have w2 : (("\ngoods" : Str)).length = 6 := by decide +kernel
    have gp : ∀ i, (glue " " "places" (Ps.take i)).length ≤ 100 := fun i => by
      rw [glue_len, bl, w1]
      have := sP i
      omega
    have gpa : glue " " "places" Ps = glue " " "places" (Ps.take 6) := by rw [List.take_of_length_le l6]
    have gg : ∀ i, (glue " " (glue " " "places" Ps ++ "\ngoods") (G.take i)).length ≤ 200 := fun i => by
      rw [glue_len, app_len, bl, w2, gpa]
      have := sG i
      have := gp 6
      omega
    have gga : glue " " (glue " " "places" Ps ++ "\ngoods") G = glue " " (glue " " "places" Ps ++ "\ngoods") (G.take 3) := by rw [List.take_of_length_le l3]
    have ge : ∀ i, (glue "\n" (glue " " (glue " " "places" Ps ++ "\ngoods") G) ((es.take i).map entT)).length ≤ 10000 := fun i => by
      rw [glue_len, hbl, gga]
      have := sE i
      have := gg 3
      omega
    refine ⟨hp, rfl, ⟨_, SqT.of g2⟩, ?_⟩
    refine for_tup (K := K) (a := hp) (xs := Ps.map V.str) (fun i σ H' => ∃ y2 y3 y4, σ = [some (.ref h), some (.str (glue " " "places" (Ps.take i))), y2, y3, y4] ∧ H' = H) ⟨_, _, _, rfl, rfl⟩ (fun i σ H' _ z => by obtain ⟨_, _, _, _, rfl⟩ := z; exact SqT.of g2) ?_ ?_
    · rintro i x σ H' hx ⟨y2, y3, y4, rfl, rfl⟩
      rw [List.getElem?_map] at hx
      obtain ⟨y, hy, rfl⟩ := Option.map_eq_some_iff.mp hx
      have ly := (name_len (gd.nm y (List.mem_of_getElem? hy))).2
      refine ⟨_, rfl, _, _, rfl, rfl, fit (by have := gp i; omega), _, rfl, _, _, rfl, rfl, fit (by have := gp i; rw [app_len]; omega), some (.str y), y3, y4, ?_, rfl⟩
      rw [take_sn hy, glue_snoc]
      rfl
    · rintro σ H' ⟨y2, y3, y4, rfl, eH⟩
      have eH := eH.symm
      subst eH
      rw [List.length_map, List.take_length]
      have gp6 := gp 6
      rw [← gpa] at gp6
      refine ⟨_, rfl, _, _, rfl, rfl, fit (by omega), _, rfl, h, _, 1, _, rfl, rfl, SqT.of g1, atI_nat (j := 1) rfl, hg, rfl, ⟨_, SqT.of g3⟩, ?_⟩
      refine for_tup (K := K) (a := hg) (xs := G.map V.str) (fun i σ H' => ∃ y2 y3 y4, σ = [some (.ref h), some (.str (glue " " (glue " " "places" Ps ++ "\ngoods") (G.take i))), y2, y3, y4] ∧ H' = H) ⟨_, _, _, rfl, rfl⟩ (fun i σ H' _ z => by obtain ⟨_, _, _, _, rfl⟩ := z; exact SqT.of g3) ?_ ?_
      · rintro i x σ H' hx ⟨y2, y3, y4, rfl, rfl⟩
        rw [List.getElem?_map] at hx
        obtain ⟨y, hy, rfl⟩ := Option.map_eq_some_iff.mp hx
        have ly := (name_len (gd.gn y (List.mem_of_getElem? hy))).2
        refine ⟨_, rfl, _, _, rfl, rfl, fit (by have := gg i; omega), _, rfl, _, _, rfl, rfl, fit (by have := gg i; rw [app_len]; omega), y2, some (.str y), y4, ?_, rfl⟩
        rw [take_sn hy, glue_snoc]
        rfl
      · rintro σ H' ⟨y2, y3, y4, rfl, eH⟩
        have eH := eH.symm
        subst eH
        rw [List.length_map, List.take_length]
        refine ⟨_, rfl, h, _, 2, _, rfl, rfl, SqT.of g1, atI_nat (j := 2) rfl, he, rfl, ⟨_, SqT.of g4⟩, ?_⟩
        refine for_tup (K := K) (a := he) (xs := tps.map V.ref) (fun i σ H' => ∃ y2 y3 y4, σ = [some (.ref h), some (.str (glue "\n" (glue " " (glue " " "places" Ps ++ "\ngoods") G) ((es.take i).map entT))), y2, y3, y4] ∧ Same H H') ⟨_, _, _, rfl, fun _ _ e => e⟩ (fun i σ H' _ z => by obtain ⟨_, _, _, _, z⟩ := z; exact SqT.of (z _ _ g4)) ?_ ?_
        · rintro i x σ H' hx ⟨y2, y3, y4, rfl, sm⟩
          rw [List.getElem?_map] at hx
          obtain ⟨tp, htp, rfl⟩ := Option.map_eq_some_iff.mp hx
          obtain ⟨e, hes, hte0⟩ := g5.get htp
          have ok := gd.parts e (List.mem_of_getElem? hes)
          have le := ent_len ok
          refine ⟨_, rfl, _, _, rfl, rfl, fit (by have := ge i; omega), _, rfl, tp, e, rfl, sm _ _ hte0, ok, fun H2 s2 => ⟨_, _, rfl, rfl, fit (by have := ge i; rw [app_len]; omega), y2, y3, some (.ref tp), ?_, sm.trans s2⟩⟩
          rw [take_sn hes, List.map_append]
          show _ = [_, some (V.str (glue _ _ (_ ++ [entT e]))), _, _, _]
          rw [glue_snoc]
          rfl
        · rintro σ H' ⟨y2, y3, y4, rfl, sm⟩
          rw [List.length_map, l5, List.take_length, ← glue_house]
          exact ⟨_, rfl, q _ sm⟩
end
/-! ### numbers read -/
abbrev figs : Str := "0123456789"
def figB (c : Nat) : Bool := decide (c ∈ figs.cps.toList)
theorem figB_iff (c : Nat) : figB c = true ↔ 48 ≤ c ∧ c ≤ 57 := by
  have e : figs.cps.toList = [48, 49, 50, 51, 52, 53, 54, 55, 56, 57] := by decide +kernel
  unfold figB
  rw [decide_eq_true_iff, e]
  simp only [List.mem_cons, List.not_mem_nil, or_false]
  omega
def numOk (x : Str) : Bool := decide ((1 : Int) ≤ (x.length : Int)) && decide ((x.length : Int) ≤ 60) && x.cps.toList.all figB && !(Txt.startswith x "0" && !decide (x = "0"))
def numV (x : Str) : V := if numOk x = true then .int (NumText.digitsVal x.cps.toList : Nat) else .non
theorem numV_int {n : Int} (h0 : 0 ≤ n) (h1 : n ≤ 1000000000) : numV (numT n) = .int n := by
  have l := num_len h0 h1
  have d := num_digits h0
  have ok : numOk (numT n) = true := by
    unfold numOk
    rw [decide_eq_true (show (1 : Int) ≤ ((numT n).length : Int) by omega), decide_eq_true (show ((numT n).length : Int) ≤ 60 by omega), List.all_eq_true.mpr fun c hc => (figB_iff c).mpr (d c hc)]
    cases e : Txt.startswith (numT n) "0" with
    | false => rfl
    | true =>
      rw [num_zero h0 e]
      decide +kernel
  unfold numV
  rw [if_pos ok]
  obtain ⟨m, rfl⟩ := Int.eq_ofNat_of_zero_le h0
  rw [PySem.W.KIN.signs_num, PySem.W.KIN.val_back]
def spNumber (T : Addr) : Sp := fun vs H Q _ => ∃ x : Str, vs = [.str x] ∧ x.length ≤ sizeLine ∧ GxR.TabG H T ∧ ∀ H', GxR.Tabbed T H H' → Q (numV x) H'
section
variable {P : Program} {w : World} {K : PySem.W.Frag} {mg : Str → Option Value} {base : Heap}
theorem sc_sNumberOf : FnScope ["word"] ["word"] (defScope sNumberOf) := ⟨rfl, rfl, rfl, by decide +kernel, rfl, by decide +kernel, by decide +kernel⟩
theorem ok_numberOf {f c T : Addr} {oc kV doc pm ct : Value} {od an : Option Addr} {osl : Array (Option Value)}
    (lk : K.lookup f = some ⟨oc, od, .func (PySem.W.fnOf "number_of" "number_of" (defArgs sNumberOf) (defBody sNumberOf) (defScope sNumberOf) .none kV doc pm an (.ref c) ct), osl⟩) (cdI : PySem.W.codeIn K (.ref c) "number_of" = true)
    (TB : GxR.TabB base mg c T) (ml : mg "len" = none) (ma : mg "all" = none) (mi : mg "int" = none) (mF : ∃ t, mg "FIGURES" = some (.str figs t)) (mN : ∃ t, mg "MOST_FIGURES" = some (.int 60 t)) :
    FnOk P w K mg base CX0 1 f (PySem.W.fnOf "number_of" "number_of" (defArgs sNumberOf) (defBody sNumberOf) (defScope sNumberOf) .none kV doc pm an (.ref c) ct) ["word"] (spNumber T) := by
  refine fn_of lk cdI sc_sNumberOf (fun vs H Q E h => ?_) (fun A outer s H vs Q E hr h => ?_)
  · obtain ⟨x, rfl, _⟩ := h
    rfl
  · obtain ⟨x, rfl, hz, tg, q⟩ := h
    obtain ⟨tF, mF⟩ := mF
    obtain ⟨tN, mN⟩ := mN
    have nd := sc_sNumberOf.nd
    refine ⟨_, pss_cons (ps_if (PW.pt (pw_or (pt_not (pt_chain op_le op_le pe_int (pe_callB call_len_str (by rfl) ml PySem.boot_len (pa_cons (pv 0) pa_nil)) (pe_glob (v := .int 60) rfl mN ⟨_, rfl⟩)))
          (pw_or1 (pt_not (pt_val (pe_allT (T := T) (c := c) (pb := figB) hr (by rfl) ma TB rfl ⟨rfl, rfl, by decide +kernel, rfl, rfl, by intro y hy e; simp only [List.mem_cons, List.not_mem_nil, or_false] at hy; rcases hy with rfl | rfl | rfl <;> cases e⟩ (pv 0) ?_ (fun _ => rfl))))))) (pss_one (ps_ret pe_non)) pss_nil)
      (pss_cons (ps_if (PW.pt (pw_and (pt_val (pe_m1 F.slot_str_startswith F.type_str_startswith mt_startswith (pv 0) pe_str)) (pw_and1 (pt_cmpR op_ne (pv 0) pe_str (nomark _))))) (pss_one (ps_ret pe_non)) pss_nil)
      (pss_one (ps_ret (pe_callTy call_int_str (by rfl) mi (by decide +kernel) (pa_cons (pv 0) pa_nil))))), ?_⟩
    · intro pins s1 σ H1 a J
      refine ⟨fun ce A' E' i v s2 m2 e1 e2 e3 hA hP hn hm hk => ⟨?_, fun _ => ?_⟩⟩
      · simp only [List.forIn_nil]
        exact wpAny_pure ⟨rfl, GxR.keeps_refl _⟩
      · obtain ⟨cc, u, hc, rfl⟩ := hP
        refine wpAny_Compare1 ?_
        refine wpAny_Name (wpAny_loadName_local (by rw [e1]) (show ce.scope.names.lookup _ = some .local by rw [e1]; rfl) hn hm ?_) (by decide)
        refine Calls.Name_function_global (by rw [e1]) (show ce.scope.names.lookup _ = some .globalImplicit by rw [e1]; rfl) ?_
        have G : s2.heap.Ns mainGlobals mg := by
          obtain ⟨oo, es, ep, go, r⟩ := J.mod.glob
          exact ⟨oo, es, ep, hk _ _ TB.gP (J.bk _ _ go), r⟩
        refine Calls.loadGlobal_global (by rw [e2]; exact G) mF ?_
        exact PyProof.Rows.in_str ⟨⟨cc, hc, congrArg Value.bool (PySem.StrLaws.found_one figs cc)⟩, GxR.keeps_refl _⟩
    · have no : numOk x = false → numV x = .non := fun z => by unfold numV; rw [z]; rfl
      have fail : numOk x = false → Q .non H := fun z => by
        have e := q H ⟨tg, fun _ _ => rfl⟩
        rw [no z] at e
        exact e
      refine ⟨_, rfl, x, rfl, hz, 1, _, rfl, rfl, _, rfl, ?_⟩
      by_cases e1 : (1 : Int) ≤ (x.length : Int)
      · rw [decide_eq_true e1]
        refine iteT ⟨_, 60, rfl, rfl, _, rfl, ?_⟩
        by_cases e2 : (x.length : Int) ≤ 60
        · rw [decide_eq_true e2]
          refine iteF ?_
          refine ⟨_, rfl, tg, x, rfl, fun H2 tb => ?_⟩
          have e3 := q H2 tb
          have fin : numOk x = true → x.cps.toList.all figB = true → tRet (tCB (fun xs H Q => ∃ a n, xs = [V.str a] ∧ intText? a = some n ∧ a.length ≤ 640 ∧ Q (V.int n) H) (tCons (tVar 0) tNil)) { nx := fun x H' => Q V.non H', rt := Q } (L2.start ["word"] [V.str x]) H2 := fun ok ds => by
            have dg : NumText.AllDigits x.cps.toList := fun c hc => (figB_iff c).mp (List.all_eq_true.mp ds c hc)
            have ne : x.cps.toList ≠ [] := fun z => by
              have : x.length = x.cps.toList.length := by simp [Str.length]
              rw [z] at this
              rw [this] at e1
              exact absurd e1 (by decide)
            have e7 : numV x = .int (NumText.digitsVal x.cps.toList : Nat) := by unfold numV; rw [if_pos ok]
            rw [e7] at e3
            exact ⟨_, rfl, x, _, rfl, intText_digits dg ne (by omega), by omega, e3⟩
          cases e4 : x.cps.toList.all figB with
          | false =>
            rw [no (by unfold numOk; rw [e4, Bool.and_false]; rfl)] at e3
            exact ⟨_, rfl, iteT e3⟩
          | true =>
            refine ⟨_, rfl, iteF ?_⟩
            refine ⟨_, rfl, ⟨_, rfl⟩, x, _, rfl, rfl, _, rfl, ?_⟩
            cases e5 : Txt.startswith x "0" with
            | true =>
              by_cases e6 : x = "0"
              · have ok : numOk x = true := by unfold numOk; rw [decide_eq_true e1, decide_eq_true e2, e4, e5, decide_eq_true e6]; rfl
                refine iteT ⟨_, rfl, rfl, _, rfl, ?_⟩
                rw [decide_eq_true (congrArg V.str e6)]
                exact iteF (fin ok e4)
              · have ok : numOk x = false := by unfold numOk; rw [e5, decide_eq_false e6, show (!(true && !false)) = false from rfl, Bool.and_false]
                rw [no ok] at e3
                refine iteT ⟨_, rfl, rfl, _, rfl, ?_⟩
                rw [decide_eq_false fun z => e6 (V.str.inj z)]
                exact iteT e3
            | false =>
              have ok : numOk x = true := by unfold numOk; rw [decide_eq_true e1, decide_eq_true e2, e4, e5]; rfl
              exact iteF (iteF (fin ok e4))
        · rw [decide_eq_false e2]
          refine iteT ?_
          exact fail (by unfold numOk; rw [decide_eq_false e2, Bool.and_false]; rfl)
      · rw [decide_eq_false e1]
        refine iteF ⟨_, rfl, iteT ?_⟩
        exact fail (by unfold numOk; rw [decide_eq_false e1]; rfl)
end
/-! ### any(..) of a generator expression; list.count of texts -/
def tAnyG (T : Addr) (wi : TI) (g : TG) (tt : TT) (te : TE) (vs : List Nat) : TE := fun σ H Q => wi σ H fun J H1 => GxR.TabG H1 T ∧ ∀ H2, GxR.Tabbed T H1 H2 → ∃ W : Nat → Nat → Hp → Prop, (∃ m, W 0 m H2) ∧
  GTurns J g tt te vs σ W (fun i m y H' => ∃ k, y = .bl k ∧ (if k = true then Q (.bl true) H' else ∃ m', m' < m ∧ W (i + 1) m' H')) (fun H' => Q (.bl false) H')
section
variable {X : Cx} {pins : List (Addr × Obj)} {σ : L2.St}
theorem any_loop {IG : Hp → Shared → Prop} {tn : Nat → Heap → Prop} {fp : List Addr} {W : Nat → Nat → Hp → Prop} {a : Addr} {gn : Nat} {Q : VK} {R : Result → Shared → Prop} (ig : IGok X pins σ a gn IG) (hA : X.A.handled = none) (hd : X.A.depth < recursionLimit)
    (hR : ∀ b H s, Q (.bl b) H → IG H s → R (.ok (.ret (.bool b))) s) : ∀ (n i m : Nat) (H : Hp) (s : Shared),
    GRun X X.A.in1 IG tn fp W (fun i m y H' => ∃ k, y = .bl k ∧ (if k = true then Q (.bl true) H' else ∃ m', m' < m ∧ W (i + 1) m' H')) (fun H' => Q (.bl false) H') gn i m n H s →
    codeAny (model X.prog X.w) X.A (.builtin "any.loop" ⟨[.ref a], []⟩) R s := by
  intro n
  induction n with
  | zero =>
    intro i m H s G
    obtain ⟨_, _, _, _, gs, _, h, _⟩ := G
    exact absurd h (Nat.not_lt_zero _)
  | succ n ih =>
    intro i m H s G
    refine codeAny_builtin F.entry_any_loop ?_
    rw [Around.under_plainId F.plain_any_loop _]
    show wpAny _ X.A.in1 (pyNext (.ref a) >>= _) _ _ s
    refine wpAny_bind (gx_next ig hA hd G (fun v y H' s' i' m' r out I' cont => ?_) fun H' s' fin I' => ?_)
    · obtain ⟨k, rfl, hk⟩ := out
      obtain rfl : v = .bool k := r
      refine wpAny_bind (wpAny_holding (wpAny_truthy_bool ?_))
      refine wpAny_bind (wpAny_letGo ?_)
      cases k with
      | false =>
        obtain ⟨m'', hm, w'⟩ := hk
        exact wpAny_pure ⟨plainId_quiet F.plain_any_loop _, ih (i' + 1) m'' H' s' (cont m'' hm w')⟩
      | true =>
        refine wpAny_bind (wpAny_rule (wpAny_pure ?_))
        exact hR true H' s' hk I'
    · refine wpAny_bind (wpAny_rule (wpAny_pure ?_))
      exact hR false H' s' fin I'
theorem pe_anyG {c T : Addr} {elt tg iter : Expr} {ifs : List Expr} {scope : Scope} {own : List (Str × Nat)} {gpos p pos : Pos} {wi : TI} {g : TG} {tt : TT} {te : TE} {k : Nat}
    (hr : Room (k + 1) X.A) (hgl : Gl X "any") (hm : X.mg "any" = none) (hc : X.calm = true) (hN : X.N.Nodup) (TB : GxR.TabB X.base X.mg c T) (hcode : X.env.code = .ref c) (ok : GOk X.N X.env.scope scope own) (hi : PI X tg iter wi)
    (hg : ∀ (A' : Around) (s3 : Shared) (H3 : Hp) (C : Addr) (code : Value) (fp : List Addr), PG (gxc X A' s3 H3 (genE X scope C code) fp) tg g)
    (ht : ∀ (A' : Around) (s3 : Shared) (H3 : Hp) (C : Addr) (code : Value) (fp : List Addr), Room k A' → PTs (gxc X A' s3 H3 (genE X scope C code) fp) ifs tt)
    (he : ∀ (A' : Around) (s3 : Shared) (H3 : Hp) (C : Addr) (code : Value) (fp : List Addr), Room k A' → PE (gxc X A' s3 H3 (genE X scope C code) fp) elt te)
    (hs : ∀ v, genFold iter X.env v = pure v := by intro _; rfl)
    (hst : starEach [.GeneratorExp elt [⟨tg, iter, ifs, 0⟩] scope gpos] X.env = (false, eval (.GeneratorExp elt [⟨tg, iter, ifs, 0⟩] scope gpos) X.env) :: starEach [] X.env := by rfl) :
    PE X (.Call (.Name "any" p) [.GeneratorExp elt [⟨tg, iter, ifs, 0⟩] scope gpos] [] pos) (tAnyG T wi g tt te (own.map (·.2))) := by
  refine ⟨fun pins s σ H Q I h => wpAny_Call_Name_kw (ld_blt I hgl hm (show bootBuiltins "any" = some (.builtin "any") by decide +kernel) ?_)⟩
  refine PyProof.Rows.callWith_builtin1 ?_ hst (by rfl)
  rw [hst]
  have hA := I.ok.hd hc
  have hf := I.ok.frames
  refine Calls.spliced_cons (gx_mk (Outf := fun W i m y H' => ∃ k, y = .bl k ∧ (if k = true then Q (.bl true) H' else ∃ m', m' < m ∧ W (i + 1) m' H')) (Fin := fun H' => Q (.bl false) H')
    X.A.in1 hA hf (Nat.le_refl _) (by show X.A.units + 1 ≤ _; omega) hr hc hN TB hcode ok hi hg ht he hs I h ?_)
  · intro IG tn fp W a gn m H2 s5 ig hk G
    refine Calls.spliced_nil ?_
    refine call_function_tree F.kind_any F.plain_any F.entry_any (F.args_any1 _) ?_
    unfold Builtin.«any»
    refine wpAny_bind (m := oneArg "any" _) (wpAny_pure ?_)
    refine wpAny_bind (wpAny_pyIter_gen (ig.isgen G.1) ?_)
    exact wpAny_pure ⟨plainId_quiet F.plain_any_loop _, any_loop ig hA (Nat.lt_of_le_of_lt (by omega : X.A.depth ≤ X.A.depth + 3 * (k + 1) + 5) hr.dp) (fun b H s q I' => ⟨.bl b, H, ig.back I', rfl, q⟩) _ _ _ _ _ G⟩
end
theorem any_over {J : It} {At : Hp → Prop} {T : Addr} {xs : List V} {g : TG} {tt : TT} {te : TE} {vs : List Nat} {σ : L2.St} {H : Hp} {Q : VK} (o : Over J xs At) (W : Nat → Hp → Prop) (tg : GxR.TabG H T) (h0 : ∀ H2, GxR.Tabbed T H H2 → W 0 H2) (hl : ∀ i H', i ≤ xs.length → W i H' → At H')
    (step : ∀ i x H' (Go : Hp → Prop), xs[i]? = some x → W i H' → (∀ H4, W (i + 1) H4 → Go H4) → g x (wipe σ vs) H' fun σ2 H2 => wipe σ2 vs = wipe σ vs ∧ tt σ2 H2 fun b H3 => if b = true then te σ2 H3 fun y H4 => ∃ k, y = .bl k ∧ (if k = true then Q (.bl true) H4 else Go H4) else Go H3)
    (done : ∀ H', W xs.length H' → Q (.bl false) H') :
    GxR.TabG H T ∧ ∀ H2, GxR.Tabbed T H H2 → ∃ W : Nat → Nat → Hp → Prop, (∃ m, W 0 m H2) ∧
      GTurns J g tt te vs σ W (fun i m y H' => ∃ k, y = .bl k ∧ (if k = true then Q (.bl true) H' else ∃ m', m' < m ∧ W (i + 1) m' H')) (fun H' => Q (.bl false) H') := by
  refine ⟨tg, fun H2 tb => ⟨fun i m H' => m = xs.length - i ∧ i ≤ xs.length ∧ W i H', ⟨_, rfl, Nat.zero_le _, h0 H2 tb⟩, ?_⟩⟩
  rintro i m H3 ⟨rfl, hi, w3⟩
  by_cases lt : i < xs.length
  · refine .inr ⟨o.go i H3 xs[i] (hl i H3 hi w3) (List.getElem?_eq_getElem lt), fun x H' y => ?_⟩
    obtain ⟨rfl, hx⟩ := o.yld i H3 x H' (hl i H3 hi w3) y
    exact step i x _ (fun H' => ∃ m', m' < xs.length - i ∧ m' = xs.length - (i + 1) ∧ i + 1 ≤ xs.length ∧ W (i + 1) H') hx w3 fun H4 w4 => ⟨_, by omega, rfl, lt, w4⟩
  · have ei : i = xs.length := by omega
    exact .inl ⟨o.stop i H3 (hl i H3 hi w3) (by omega), done H3 (ei ▸ w3)⟩
def eqsV (z : Str) : Value → Bool
  | .str y _ => y == z
  | _ => false
def rCntS (K : PySem.W.Frag) : V → List V → Hp → VK → Prop := fun x xs H Q => ∃ (p : Addr) (ns : List Str) (k : Str), x = .ref p ∧ xs = [.str k] ∧ SqL K H p (ns.map V.str) ∧ Q (.int (ns.count k : Nat)) H
theorem cnt_strs {z : Str} : ∀ {ns : List Str} {us : List Value}, Vals (ns.map V.str) us → us.countP (eqsV z) = ns.count z
  | [], _, .nil => rfl
  | n :: r, _, .cons h t => by
    obtain ⟨u, rfl⟩ : ∃ u, _ = Value.str n u := h
    rw [List.countP_cons, cnt_strs t, List.count_cons]
    rfl
theorem mt_lcountS {X : Cx} : MtR X "list.count" (rCntS X.K) := by
  rintro pins s σ H x xs v us Q I rx rxs ⟨p, ns, k, rfl, rfl, hs, q⟩
  cases rx
  obtain ⟨u, rfl, ru⟩ := rxs.one
  obtain ⟨t, rfl⟩ := ru
  obtain ⟨its, rv, ⟨⟨cls, dd, data, sl⟩, n, ho, hc, hdn, hd⟩, hlen⟩ := I.list hs
  dsimp only at hc hd
  subst hc hd
  refine call_meets PySem.F.slot_list_count ⟨_, ho, rfl⟩ PySem.F.entry_list_count (PySem.F.args_list_count_2 _ _)
    (SeqAt.list_countAt p its.toArray n dd sl (.str k t) (eqsV k)) ⟨ho, fun y hy => ?_, ?_⟩
  · obtain ⟨i, hi⟩ := List.mem_iff_getElem?.mp (show y ∈ its by simpa using hy)
    obtain ⟨w, hw, rw'⟩ := vals_get rv hi
    rw [List.getElem?_map] at hw
    obtain ⟨z, _, rfl⟩ := Option.map_eq_some_iff.mp hw
    obtain ⟨t', rfl⟩ : ∃ t', y = Value.str z t' := rw'
    exact SeqAt.EqAt.str_str z t' k t
  · refine ⟨.int (ns.count k : Nat), H, I.tok _, ⟨s.toks, ?_⟩, q⟩
    show Value.int ((its.toArray.toList.countP (eqsV k) : Nat) : Int) s.toks = _
    rw [List.toList_toArray, cnt_strs rv]
/-! ### xs == [], xs != [] -/
def rEqNil (K : PySem.W.Frag) (neg : Bool) : R2 := fun x y H Q => ∃ (a b : Addr) (xs : List V), x = .ref a ∧ y = .ref b ∧ SqL K H a xs ∧ SqL K H b [] ∧ Q (.bl (if neg then !xs.isEmpty else xs.isEmpty)) H
theorem op_eqNil {X : Cx} (hu : X.A.units < cLine) : OpR X (compareOp .Eq) (rEqNil X.K false) := by
  rintro pins s σ H x y v u Q I rx ry ⟨a, b, xs, rfl, rfl, ha, hb, q⟩
  cases rx
  cases ry
  obtain ⟨its, r1, p1, _⟩ := I.list ha
  obtain ⟨jts, r2, p2, _⟩ := I.list hb
  cases r2
  cases r1 with
  | nil => exact PySem.SeqAt.eq_listAt (e := fun _ => true) p1.isList p2.isList rfl hu (fun j h1 => absurd h1 (Nat.not_lt_zero _)) ⟨.bl _, H, I, rfl, q⟩
  | cons h t => exact PySem.SeqAt.eq_list_lengthsAt p1.isList p2.isList (by simp) hu ⟨.bl _, H, I, rfl, q⟩
theorem op_neNil {X : Cx} (hu : X.A.units < cLine) : OpR X (compareOp .NotEq) (rEqNil X.K true) := by
  rintro pins s σ H x y v u Q I rx ry ⟨a, b, xs, rfl, rfl, ha, hb, q⟩
  cases rx
  cases ry
  obtain ⟨its, r1, p1, _⟩ := I.list ha
  obtain ⟨jts, r2, p2, _⟩ := I.list hb
  cases r2
  cases r1 with
  | nil => exact PySem.SeqAt.RcNeAt.lists (e := fun _ => true) p1.isList p2.isList rfl hu (fun j h1 => absurd h1 (Nat.not_lt_zero _)) _ _ _ _ ⟨.bl _, H, I, rfl, q⟩
  | cons h t => exact PySem.SeqAt.RcNeAt.lists_lengths p1.isList p2.isList (by simp) hu _ _ _ _ ⟨.bl _, H, I, rfl, q⟩
/-! ### entries told by their parts -/
def snB : V → Bool
  | .int _ => true
  | .str _ => true
  | _ => false
theorem vals_sn (e : Ent) : ∀ v ∈ e.vals, (∃ i, v = .int i) ∨ ∃ s, v = .str s := by
  have h : e.vals.all snB = true := by cases e <;> rfl
  intro v hv
  have := List.all_eq_true.mp h v hv
  cases v with
  | int i => exact .inl ⟨i, rfl⟩
  | str s => exact .inr ⟨s, rfl⟩
  | _ => exact nomatch this
theorem wno {a b : String} (h : (Str.ofString a == Str.ofString b) = false) : ¬ (Str.ofString a = Str.ofString b) := fun e => by rw [e] at h; exact absurd (beq_self_eq_true (Str.ofString b)) (by rw [h]; exact fun z => nomatch z)
theorem vals_inj {e f : Ent} (h : e.vals = f.vals) : e = f := by
  have w2 : ∀ x ∈ words7, ∀ y ∈ words7, V.str x = V.str y → x = y := fun x _ y _ z => V.str.inj z
  have hw : e.word = f.word := by
    have := (List.cons.inj h).1
    exact V.str.inj this
  cases e <;> cases f <;> first
    | (simpa [Ent.vals, Ent.rest, Ent.name, Ent.moment, Ent.word] using h)
    | (exact absurd hw (wno (by decide +kernel)))
/-! ### is_entry, asked of anything -/
theorem smallBig {n : Nat} (h : n ≤ 900000) : n < sizeLine := by
  rw [sizeLine_eq]
  omega
theorem szBig {n : Nat} (h : n ≤ 900000) : n ≤ sizeLine := Nat.le_of_lt (smallBig h)
/-- a thing of the usual kinds -/
inductive Thg (H : Hp) : V → Prop where
  | str (z : Str) (h : z.length ≤ 100000) : Thg H (.str z)
  | int (i : Int) : Thg H (.int i)
  | bl (b : Bool) : Thg H (.bl b)
  | non : Thg H .non
  | lst {a : Addr} {xs : List V} (h : H a = some (.lst xs)) : Thg H (.ref a)
  | tup {a : Addr} {xs : List V} (h : H a = some (.tup xs)) : Thg H (.ref a)
  | dct {a : Addr} {kvs : List (Key × V)} (h : H a = some (.dK kvs)) : Thg H (.ref a)
theorem Thg.on {H H' : Hp} {v : V} (k : ∀ a o, v = .ref a → H a = some o → (∀ ps, o ≠ .tbl ps) → H' a = some o) (t : Thg H v) : Thg H' v := by
  cases t with
  | str z h => exact .str z h
  | int i => exact .int i
  | bl b => exact .bl b
  | non => exact .non
  | lst h => exact .lst (k _ _ rfl h fun ps z => nomatch z)
  | tup h => exact .tup (k _ _ rfl h fun ps z => nomatch z)
  | dct h => exact .dct (k _ _ rfl h fun ps z => nomatch z)
theorem Thg.of_part {H : Hp} {v : V} (p : Part v) : Thg H v := by
  rcases p with ⟨z, rfl, h⟩ | ⟨i, rfl⟩
  · exact .str z (Nat.le_trans h (by decide))
  · exact .int i
/-- the built-in kind of a thing -/
theorem Thg.ty {K : PySem.W.Frag} {H : Hp} {v : V} (t : Thg H v) : ∃ n : String, TyX K H v (.type n) ∧ n ∈ ["str", "int", "bool", "NoneType", "list", "tuple", "dict"] ∧ (n = "str" ↔ ∃ z, v = .str z) ∧ (n = "tuple" ↔ ∃ a xs, v = .ref a ∧ H a = some (.tup xs)) := by
  have no : ∀ {p q : Prop}, ¬ p → ¬ q → (p ↔ q) := fun a b => ⟨fun x => absurd x a, fun x => absurd x b⟩
  cases t with
  | str z h => exact ⟨"str", .base (.str z), by decide, ⟨fun _ => ⟨z, rfl⟩, fun _ => rfl⟩, no (by decide) (fun ⟨_, _, e, _⟩ => nomatch e)⟩
  | int i => exact ⟨"int", .base (.int i), by decide, no (by decide) (fun ⟨_, e⟩ => nomatch e), no (by decide) (fun ⟨_, _, e, _⟩ => nomatch e)⟩
  | bl b => exact ⟨"bool", .base (.bl b), by decide, no (by decide) (fun ⟨_, e⟩ => nomatch e), no (by decide) (fun ⟨_, _, e, _⟩ => nomatch e)⟩
  | non => exact ⟨"NoneType", .base .non, by decide, no (by decide) (fun ⟨_, e⟩ => nomatch e), no (by decide) (fun ⟨_, _, e, _⟩ => nomatch e)⟩
  | lst h => exact ⟨"list", .base (.lst h), by decide, no (by decide) (fun ⟨_, e⟩ => nomatch e), no (by decide) (fun ⟨_, _, e, h2⟩ => by cases e; rw [h] at h2; exact nomatch h2)⟩
  | tup h => exact ⟨"tuple", .base (.tup h), by decide, no (by decide) (fun ⟨_, e⟩ => nomatch e), ⟨fun _ => ⟨_, _, rfl, h⟩, fun _ => rfl⟩⟩
  | dct h => exact ⟨"dict", .base (.dK h), by decide, no (by decide) (fun ⟨_, e⟩ => nomatch e), no (by decide) (fun ⟨_, _, e, h2⟩ => by cases e; rw [h] at h2; exact nomatch h2)⟩
theorem kit_str {n : String} (m : n ∈ ["str", "int", "bool", "NoneType", "list", "tuple", "dict"]) : kitB n "str" = some (decide (n = "str")) := by
  simp only [List.mem_cons, List.not_mem_nil, or_false] at m
  rcases m with rfl | rfl | rfl | rfl | rfl | rfl | rfl <;> decide +kernel
theorem kit_tup {n : String} (m : n ∈ ["str", "int", "bool", "NoneType", "list", "tuple", "dict"]) : kitB n "tuple" = some (decide (n = "tuple")) := by
  simp only [List.mem_cons, List.not_mem_nil, or_false] at m
  rcases m with rfl | rfl | rfl | rfl | rfl | rfl | rfl <;> decide +kernel
namespace EqE
open PySem PySem.Spec in
theorem no_str (t : Str) (u : Tok) (l : Addr) (es : Array DictEntry) (n : Nat) (od : Option Addr) (sl : Array (Option Value)) :
    Meets (Builtin.«str.__eq__» ⟨[.str t u, .ref l], []⟩) (fun _ R z => z.heap.get? l = some ⟨.type "dict", od, .dict es n, sl⟩ ∧ R (.ok (.ret .notImplemented)) z) := by
  refine .of_wp fun prog w A R z h => ?_
  obtain ⟨hp, g, d, tk, os⟩ := z
  obtain ⟨hl, h⟩ := h
  wp_walk using wpAny_loadPart' hl, wpAny_load hl
  exact ⟨_, rfl, h⟩
theorem no_dict (t : Str) (u : Tok) (l : Addr) (es : Array DictEntry) (n : Nat) (od : Option Addr) (sl : Array (Option Value)) :
    Meets (Builtin.«dict.__eq__» ⟨[.ref l, .str t u], []⟩) (fun _ R z => z.heap.get? l = some ⟨.type "dict", od, .dict es n, sl⟩ ∧ R (.ok (.ret .notImplemented)) z) := by
  refine .of_wp fun prog w A R z h => ?_
  obtain ⟨hp, g, d, tk, os⟩ := z
  obtain ⟨hl, h⟩ := h
  have f1 := F.sub_str_dict
  wp_walk using wpAny_loadPart' hl, wpAny_load hl
  exact ⟨_, rfl, h⟩
theorem dict_txt {prog : Program} {w : World} {A : Around} {E : Value → Shared → Prop} {z : Shared} {Q : Value → Shared → Prop} {t : Str} {u : Tok} {l : Addr} {es : Array DictEntry} {n : Nat} {od : Option Addr} {sl : Array (Option Value)} (ho : z.heap.get? l = some ⟨.type "dict", od, .dict es n, sl⟩) (hu : A.units < cLine) (h : Q (.bool false) z) :
    wpAny (model prog w) A (compareOp .Eq (.ref l) (.str t u)) Q E z :=
  SeqAt.rc_eq_decline_or (k := false) ⟨_, ho, rfl⟩ (typeIs_str z t u) (by decide) F.sub_str_dict F.slot_dict_eq F.slot_str_eq_refl
    (fun _ hq => call_meets F.slot_dict_eq ⟨_, ho, rfl⟩ F.entry_dict_eq (F.args_dict_eq_2 _ _) (no_dict t u l es n od sl) ⟨ho, hq⟩)
    (fun _ hq => call_meets F.slot_str_eq_refl (typeIs_str z t u) F.entry_str_eq (F.args_str_eq_2 _ _) (no_str t u l es n od sl) ⟨ho, hq⟩)
    (fun _ hq => wpAny_of_eq (rfl : isSame (.ref l) (.str t u) = pure false) hq) (.inr hu) h
def rEqE : R2 := fun x y G W => ∃ s, y = V.str s ∧ Thg G x ∧ W (V.bl (decide (x = V.str s))) G
theorem op_eqE {X : Cx} (hu : X.A.units + 64 < cLine) : OpR X (compareOp .Eq) rEqE := by
  rintro pins z τ G x y v u W I rx ry ⟨s, rfl, th, q⟩
  obtain ⟨t, rfl⟩ : ∃ t, u = Value.str s t := ry
  cases th with
  | str z' h => exact op_eq pins z τ G (V.str z') (V.str s) v _ W I rx ⟨t, rfl⟩ ⟨rfl, q⟩
  | int i => exact op_eq pins z τ G (V.int i) (V.str s) v _ W I rx ⟨t, rfl⟩ ⟨rfl, q⟩
  | bl i => exact op_eq pins z τ G (V.bl i) (V.str s) v _ W I rx ⟨t, rfl⟩ ⟨rfl, q⟩
  | non => exact op_eq pins z τ G V.non (V.str s) v _ W I rx ⟨t, rfl⟩ ⟨rfl, q⟩
  | @lst a xs h =>
    obtain rfl : v = Value.ref a := rx
    rw [decide_eq_false fun q => nomatch q] at q
    obtain ⟨its, rv, pl, hz⟩ := I.list (SqL.of h)
    exact SeqAt.RcAt.list_str s t pl.isList (by omega) _ _ _ _ ⟨.bl false, G, I, rfl, q⟩
  | @tup a xs h =>
    obtain rfl : v = Value.ref a := rx
    rw [decide_eq_false fun q => nomatch q] at q
    obtain ⟨its, rv, pl, hz⟩ := I.tuple (SqT.of h)
    exact SeqAt.RcAt.tuple_str s t pl (by omega) _ _ _ _ ⟨.bl false, G, I, rfl, q⟩
  | @dct a kvs h =>
    obtain rfl : v = Value.ref a := rx
    rw [decide_eq_false fun q => nomatch q] at q
    obtain ⟨_, _, vs, _, o, es, ep, h1, h2, h3, _⟩ := (show ObjOk X.prog X.w G z.heap a (.dK kvs) from I.hok a _ h)
    obtain ⟨oc, od, dt, sl⟩ := o
    have z1 := h2.1
    dsimp only at z1 h3
    subst z1 h3
    exact dict_txt h1 (by omega) ⟨.bl false, G, I, rfl, q⟩
end EqE
/-- the words of the forms alone are keys -/
theorem forms_only {K : PySem.W.Frag} {a : Addr} {es : Array DictEntry} {n : Nat} (h : K.lookup a = some ⟨.type "dict", none, .dict es n, #[]⟩) (k : (es.toList.all fun e => match e.key with | .str s _ => words7.any fun y => s == y | _ => false) = true) (z : Str) (nz : z ∉ words7) : PySem.W.nsIn K a z = some none := by
  have all := List.all_eq_true.mp k
  have ks : ∀ e ∈ es.toList, ∃ s t, e.key = .str s t ∧ s ∈ words7 := fun e he => by
    have := all e he
    cases ek : e.key with
    | str s t =>
      rw [ek] at this
      obtain ⟨y, hy, e2⟩ := List.any_eq_true.mp this
      exact ⟨s, t, rfl, by rw [eq_of_beq e2]; exact hy⟩
    | _ => rw [ek] at this; exact nomatch this
  unfold PySem.W.nsIn
  rw [h]
  dsimp only
  have f1 : es.toList.find? (fun e => e.key.isStr z) = none := by
    rw [List.find?_eq_none]
    intro e he q
    obtain ⟨s, t, ek, hs⟩ := ks e he
    rw [ek] at q
    have q2 : (s == z) = true := q
    exact nz (by rw [← eq_of_beq q2]; exact hs)
  rw [f1]
  have f2 : es.toList.any (fun e => e.refKey) = false := by
    rw [List.any_eq_false]
    intro e he q
    obtain ⟨s, t, ek, hs⟩ := ks e he
    unfold DictEntry.refKey at q
    rw [ek] at q
    exact Bool.false_ne_true q
  dsimp only
  rw [f2]
  rfl
def spWholeA : Sp := fun vs H Q _ => ∃ v : V, vs = [v] ∧ Thg H v ∧ Q (.bl (match v with | .int _ => true | _ => false)) H
def spFitsA (T1 : Addr) : Sp := fun vs H Q _ => ∃ (v : V) (x : Str), vs = [v, .str x] ∧ Thg H v ∧ x ∈ sorts6 ∧ GxR.TabG H T1 ∧ ∀ H', GxR.Tabbed T1 H H' → Q (.bl (fitB v x)) H'
/-- the parts of an entry -/
def IsE (xs : List V) : Prop := ∃ e : Ent, e.Fine ∧ xs = e.vals
/-- what is an entry, and what is none -/
def spIsEntryA (T1 T2 : Addr) : Sp := fun vs H Q _ => ∃ v : V, vs = [v] ∧ GxR.TabG H T1 ∧ GxR.TabG H T2 ∧
  ((Thg H v ∧ (∀ a xs, v = .ref a → H a ≠ some (.tup xs)) ∧ ∀ H', TB2 T1 T2 H H' → Q (.bl false) H') ∨
   ∃ (a : Addr) (xs : List V), v = .ref a ∧ H a = some (.tup xs) ∧ xs.length ≤ 1000 ∧ (∀ x ∈ xs, Thg H x) ∧ (IsE xs → ∀ H', TB2 T1 T2 H H' → Q (.bl true) H') ∧ (¬ IsE xs → ∀ H', TB2 T1 T2 H H' → Q (.bl false) H'))
theorem vals_len (e : Ent) : e.vals.length = e.sorts.length + 1 := by cases e <;> rfl
theorem sorts_word {e f : Ent} (h : e.word = f.word) : e.sorts = f.sorts := by
  cases e <;> cases f <;> first
    | rfl
    | (exact absurd h (wno (by decide +kernel)))
theorem word_of {z : Str} (h : z ∈ words7) : ∃ e : Ent, e.word = z := by
  simp only [words7, List.mem_cons, List.not_mem_nil, or_false] at h
  rcases h with rfl | rfl | rfl | rfl | rfl | rfl | rfl
  · exact ⟨.come "" 0 "" "" 0 0, rfl⟩
  · exact ⟨.go "" 0 "" "" 0, rfl⟩
  · exact ⟨.move "" 0 "" "" "" 0, rfl⟩
  · exact ⟨.some_ "" 0 "" "" "", rfl⟩
  · exact ⟨.swap "" 0 "" "", rfl⟩
  · exact ⟨.count "" 0 "" "" 0 "", rfl⟩
  · exact ⟨.look "" 0 "" "", rfl⟩
theorem fit_str {v : V} {x : Str} (h : fitB v x = true) (hx : x = "name" ∨ x = "end") : ∃ s, v = .str s := by
  rcases hx with rfl | rfl
  · unfold fitB at h
    rw [if_pos rfl] at h
    cases v with
    | str s => exact ⟨s, rfl⟩
    | _ => exact nomatch h
  · unfold fitB at h
    rw [if_neg ken, if_pos rfl] at h
    cases v with
    | str s => exact ⟨s, rfl⟩
    | int i => simp [nmV] at h
    | bl i => simp [nmV] at h
    | non => simp [nmV] at h
    | ref i => simp [nmV] at h
    | _ => simp [nmV] at h
theorem fit_int {v : V} {x : Str} (h : fitB v x = true) (hx : x ∈ sorts4) : ∃ i, v = .int i := by
  have n1 : x ≠ "name" ∧ x ≠ "end" := by
    simp only [sorts4, List.mem_cons, List.not_mem_nil, or_false] at hx
    rcases hx with rfl | rfl | rfl | rfl
    · exact ⟨kmn, kme⟩
    · exact ⟨kyn, kye⟩
    · exact ⟨kcn, kce⟩
    · exact ⟨kpn, kpe⟩
  unfold fitB at h
  rw [if_neg n1.1, if_neg n1.2] at h
  cases v with
  | int i => exact ⟨i, rfl⟩
  | _ => exact nomatch h
theorem fit_part {H : Hp} {v : V} {x : Str} (t : Thg H v) (h : fitB v x = true) (hx : x ∈ sorts6) : Part v := by
  have : (∃ s, v = .str s) ∨ ∃ i, v = .int i := by
    simp only [sorts6, List.mem_cons, List.not_mem_nil, or_false] at hx
    rcases hx with rfl | rfl | rfl | rfl | rfl | rfl
    · exact .inl (fit_str h (.inl rfl))
    · exact .inl (fit_str h (.inr rfl))
    · exact .inr (fit_int h (by simp [sorts4]))
    · exact .inr (fit_int h (by simp [sorts4]))
    · exact .inr (fit_int h (by simp [sorts4]))
    · exact .inr (fit_int h (by simp [sorts4]))
  rcases this with ⟨s, rfl⟩ | ⟨i, rfl⟩
  · refine .inl ⟨s, rfl, ?_⟩
    have key : nameB s = true ∨ s = "" := by
      unfold fitB at h
      by_cases e1 : x = "name"
      · rw [if_pos e1] at h
        exact .inl h
      · rw [if_neg e1] at h
        by_cases e2 : x = "end"
        · rw [if_pos e2] at h
          rcases Bool.or_eq_true _ _ |>.mp h with z | z
          · exact .inr (V.str.inj (of_decide_eq_true z))
          · exact .inl z
        · rw [if_neg e2] at h
          exact absurd h (by unfold inB; simp)
    rcases key with k | rfl
    · have := (name_len k).2
      omega
    · decide +kernel
  · exact .inr ⟨i, rfl⟩
/-- parts that fit are those of an entry -/
theorem ent_of {f : Ent} {ps : List V} (l : ps.length = f.sorts.length) (h : ∀ (i : Nat) (v : V) (x : Str), ps[i]? = some v → f.sorts[i]? = some x → fitB v x = true) : ∃ e : Ent, e.word = f.word ∧ e.parts = ps := by
  have s : ∀ (i : Nat) (x : Str), f.sorts[i]? = some x → x = "name" ∨ x = "end" → ∃ s, ps[i]? = some (.str s) := fun i x hx k => by
    have lt : i < ps.length := by rw [l]; exact (List.getElem?_eq_some_iff.mp hx).1
    obtain ⟨s, e⟩ := fit_str (h i _ x (List.getElem?_eq_getElem lt) hx) k
    exact ⟨s, by rw [List.getElem?_eq_getElem lt, e]⟩
  have n : ∀ (i : Nat) (x : Str), f.sorts[i]? = some x → x ∈ sorts4 → ∃ j, ps[i]? = some (.int j) := fun i x hx k => by
    have lt : i < ps.length := by rw [l]; exact (List.getElem?_eq_some_iff.mp hx).1
    obtain ⟨s, e⟩ := fit_int (h i _ x (List.getElem?_eq_getElem lt) hx) k
    exact ⟨s, by rw [List.getElem?_eq_getElem lt, e]⟩
  have m4 : ("moment" : Str) ∈ sorts4 ∧ ("many" : Str) ∈ sorts4 ∧ ("counted" : Str) ∈ sorts4 ∧ ("price" : Str) ∈ sorts4 := by simp [sorts4]
  cases f with
  | come =>
    match ps, l with
    | [p0, p1, p2, p3, p4, p5], _ =>
      obtain ⟨a0, e0⟩ := s 0 _ rfl (.inl rfl); obtain ⟨a1, e1⟩ := n 1 _ rfl m4.1; obtain ⟨a2, e2⟩ := s 2 _ rfl (.inl rfl); obtain ⟨a3, e3⟩ := s 3 _ rfl (.inl rfl); obtain ⟨a4, e4⟩ := n 4 _ rfl m4.2.1; obtain ⟨a5, e5⟩ := n 5 _ rfl m4.2.2.2
      cases e0; cases e1; cases e2; cases e3; cases e4; cases e5
      exact ⟨.come a0 a1 a2 a3 a4 a5, rfl, rfl⟩
  | go =>
    match ps, l with
    | [p0, p1, p2, p3, p4], _ =>
      obtain ⟨a0, e0⟩ := s 0 _ rfl (.inl rfl); obtain ⟨a1, e1⟩ := n 1 _ rfl m4.1; obtain ⟨a2, e2⟩ := s 2 _ rfl (.inl rfl); obtain ⟨a3, e3⟩ := s 3 _ rfl (.inl rfl); obtain ⟨a4, e4⟩ := n 4 _ rfl m4.2.1
      cases e0; cases e1; cases e2; cases e3; cases e4
      exact ⟨.go a0 a1 a2 a3 a4, rfl, rfl⟩
  | move =>
    match ps, l with
    | [p0, p1, p2, p3, p4, p5], _ =>
      obtain ⟨a0, e0⟩ := s 0 _ rfl (.inl rfl); obtain ⟨a1, e1⟩ := n 1 _ rfl m4.1; obtain ⟨a2, e2⟩ := s 2 _ rfl (.inl rfl); obtain ⟨a3, e3⟩ := s 3 _ rfl (.inl rfl); obtain ⟨a4, e4⟩ := s 4 _ rfl (.inl rfl); obtain ⟨a5, e5⟩ := n 5 _ rfl m4.2.1
      cases e0; cases e1; cases e2; cases e3; cases e4; cases e5
      exact ⟨.move a0 a1 a2 a3 a4 a5, rfl, rfl⟩
  | some_ =>
    match ps, l with
    | [p0, p1, p2, p3, p4], _ =>
      obtain ⟨a0, e0⟩ := s 0 _ rfl (.inl rfl); obtain ⟨a1, e1⟩ := n 1 _ rfl m4.1; obtain ⟨a2, e2⟩ := s 2 _ rfl (.inl rfl); obtain ⟨a3, e3⟩ := s 3 _ rfl (.inl rfl); obtain ⟨a4, e4⟩ := s 4 _ rfl (.inr rfl)
      cases e0; cases e1; cases e2; cases e3; cases e4
      exact ⟨.some_ a0 a1 a2 a3 a4, rfl, rfl⟩
  | swap =>
    match ps, l with
    | [p0, p1, p2, p3], _ =>
      obtain ⟨a0, e0⟩ := s 0 _ rfl (.inl rfl); obtain ⟨a1, e1⟩ := n 1 _ rfl m4.1; obtain ⟨a2, e2⟩ := s 2 _ rfl (.inl rfl); obtain ⟨a3, e3⟩ := s 3 _ rfl (.inl rfl)
      cases e0; cases e1; cases e2; cases e3
      exact ⟨.swap a0 a1 a2 a3, rfl, rfl⟩
  | count =>
    match ps, l with
    | [p0, p1, p2, p3, p4, p5], _ =>
      obtain ⟨a0, e0⟩ := s 0 _ rfl (.inl rfl); obtain ⟨a1, e1⟩ := n 1 _ rfl m4.1; obtain ⟨a2, e2⟩ := s 2 _ rfl (.inl rfl); obtain ⟨a3, e3⟩ := s 3 _ rfl (.inl rfl); obtain ⟨a4, e4⟩ := n 4 _ rfl m4.2.2.1; obtain ⟨a5, e5⟩ := s 5 _ rfl (.inl rfl)
      cases e0; cases e1; cases e2; cases e3; cases e4; cases e5
      exact ⟨.count a0 a1 a2 a3 a4 a5, rfl, rfl⟩
  | look =>
    match ps, l with
    | [p0, p1, p2, p3], _ =>
      obtain ⟨a0, e0⟩ := s 0 _ rfl (.inl rfl); obtain ⟨a1, e1⟩ := n 1 _ rfl m4.1; obtain ⟨a2, e2⟩ := s 2 _ rfl (.inl rfl); obtain ⟨a3, e3⟩ := s 3 _ rfl (.inl rfl)
      cases e0; cases e1; cases e2; cases e3
      exact ⟨.look a0 a1 a2 a3, rfl, rfl⟩
theorem once_len_nd {e : Ent} (h : ¬ e.places.Nodup) : (once e.places).length ≠ e.places.length := by
  have two : ∀ o t : Str, ¬ [o, t].Nodup → (once [o, t]).length ≠ 2 := fun o t h => by
    have e : o = t := Classical.byContradiction fun z => h (List.nodup_cons.mpr ⟨fun q => z (List.mem_singleton.mp q), nd1 _⟩)
    subst e
    have : once [o, o] = [o] := by
      show (if ([o] : List Str).contains o = true then [o] else [o] ++ [o]) = [o]
      rw [if_pos (by simp)]
    rw [this]
    exact fun z => by cases z
  cases e with
  | some_ n m g o t =>
    by_cases z : t = ""
    · rw [show Ent.places (.some_ n m g o t) = [o] from if_pos z] at h
      exact absurd (nd1 _) h
    · rw [show Ent.places (.some_ n m g o t) = [o, t] from if_neg z] at h ⊢
      exact two o t h
  | move n m g o t k => exact two o t h
  | swap n m o t => exact two o t h
  | come => exact absurd (nd1 _) h
  | go => exact absurd (nd1 _) h
  | count => exact absurd (nd1 _) h
  | look => exact absurd (nd1 _) h
section
variable {P : Program} {w : World} {K : PySem.W.Frag} {mg : Str → Option Value} {base : Heap}
theorem ok_wholeA {f : Addr} {fd : FuncData} (F : Fun K "is_whole" "is_whole" sWhole f fd) (mi : mg "isinstance" = none) (m1 : mg "int" = none) (m2 : mg "bool" = none) : FnOk P w K mg base CX0 1 f fd ["thing"] spWholeA := by
  refine F.ok scWhole (fun vs H Q E h => ?_) (fun cdv A outer s H vs Q E hr h => ?_)
  · obtain ⟨v, rfl, _⟩ := h
    rfl
  · obtain ⟨v, rfl, pt, q⟩ := h
    refine ⟨_, pss_one (ps_ret (pe_and (pe_callB call_isi (by rfl) mi (by decide +kernel) (pa_cons (pv 0) (pa_cons (pe_bltn (v := .ty "int") (u := .type "int") (by rfl) m1 (by decide +kernel) rfl) pa_nil)))
      (pe_one (pe_not (pe_callB call_isi (by rfl) mi (by decide +kernel) (pa_cons (pv 0) (pa_cons (pe_bltn (v := .ty "bool") (u := .type "bool") (by rfl) m2 (by decide +kernel) rfl) pa_nil))))))), ?_⟩
    cases pt with
    | str z h => exact ⟨_, rfl, _, _, _, _, false, rfl, .ty "int", .base (.str z), kit_ty (by decide +kernel), _, rfl, iteF q⟩
    | int i => exact ⟨_, rfl, _, _, _, _, true, rfl, .ty "int", .base (.int i), kit_ty (by decide +kernel), _, rfl, iteT ⟨_, rfl, _, _, _, _, false, rfl, .ty "bool", .base (.int i), kit_ty (by decide +kernel), _, rfl, q⟩⟩
    | bl b => exact ⟨_, rfl, _, _, _, _, true, rfl, .ty "int", .base (.bl b), kit_ty (by decide +kernel), _, rfl, iteT ⟨_, rfl, _, _, _, _, true, rfl, .ty "bool", .base (.bl b), kit_ty (by decide +kernel), _, rfl, q⟩⟩
    | non => exact ⟨_, rfl, _, _, _, _, false, rfl, .ty "int", .base .non, kit_ty (by decide +kernel), _, rfl, iteF q⟩
    | lst h => exact ⟨_, rfl, _, _, _, _, false, rfl, .ty "int", .base (.lst h), kit_ty (by decide +kernel), _, rfl, iteF q⟩
    | tup h => exact ⟨_, rfl, _, _, _, _, false, rfl, .ty "int", .base (.tup h), kit_ty (by decide +kernel), _, rfl, iteF q⟩
    | dct h => exact ⟨_, rfl, _, _, _, _, false, rfl, .ty "int", .base (.dK h), kit_ty (by decide +kernel), _, rfl, iteF q⟩
theorem ok_fitsA {f fN fW aB T1 : Addr} {fd dN dW : FuncData} (F : Fun K "fits" "fits" sFits f fd) (N : DefT P w K mg base "is_name" 1 fN dN ["thing"] (spName K T1)) (W : DefT P w K mg base "is_whole" 1 fW dW ["thing"] spWholeA)
    (mB : mg "BOUNDS" = some (.ref aB)) (hB : ∀ x ∈ sorts4, ∃ aT, KDct K w aB x (.ref aT) ∧ ∀ H, SqT K H aT [.int (bnd x).1, .int (bnd x).2]) : FnOk P w K mg base CX0 2 f fd ["part", "sort"] (spFitsA T1) := by
  refine F.ok scFits (fun vs H Q E h => ?_) (fun cdv A outer s H vs Q E hr h => ?_)
  · obtain ⟨v, x, rfl, _⟩ := h
    rfl
  · obtain ⟨v, x, rfl, pt, hx, tg, q⟩ := h
    have nd := scFits.nd
    have hu64 := hr.units
    refine ⟨_, pss_cons (ps_if (pt_cmpR op_eq (pv 1) pe_str (nomark _)) (pss_one (ps_ret (pe_call N.ok hr (by rfl) N.g N.kp N.b .nil pass0 (pa_cons (pv 0) pa_nil)))) pss_nil)
      (pss_cons (ps_if (pt_cmpR op_eq (pv 1) pe_str (nomark _)) (pss_one (ps_ret (pe_or (pe_cmpR (EqE.op_eqE hu64) (pv 0) pe_str (nomark _)) (pe_one (pe_call N.ok hr (by rfl) N.g N.kp N.b .nil pass0 (pa_cons (pv 0) pa_nil)))))) pss_nil)
      (pss_cons (ps_asg (pe_ix ix_kdict (pe_glob (v := .ref aB) rfl mB rfl) (pv 1) (fun _ _ => rfl)) (pg_tup (by rfl) (pgs_cons (pg_name (i := 2) nd rfl (Or.inl rfl)) (pgs_cons (pg_name (i := 3) nd rfl (Or.inl rfl)) pgs_nil))))
      (pss_one (ps_ret (pe_and (pe_call W.ok hr (by rfl) W.g W.kp W.b .nil pass0 (pa_cons (pv 0) pa_nil)) (pe_one (pe_chain op_le op_le (pv 2) (pv 0) (pv 3)))))))), ?_⟩
    have same0 : GxR.Tabbed T1 H H := ⟨tg, fun _ _ => rfl⟩
    -- is_name of the part
    have nm : ∀ (Q1 : VK), (∀ H2, GxR.Tabbed T1 H H2 → Q1 (.bl (nmV v)) H2) → spName K T1 ([v] ++ []) H Q1 E0 := fun Q1 h1 => by
      obtain ⟨n, ty, m, st, _⟩ := pt.ty (K := K)
      by_cases z : n = "str"
      · obtain ⟨s, rfl⟩ := st.mp z
        cases pt with
        | str _ lz => exact ⟨_, rfl, tg, .inl ⟨s, rfl, Nat.le_of_lt (smallBig (by omega)), h1⟩⟩
      · have e : nmV v = false := by
          cases v with
          | str s => exact absurd (st.mpr ⟨s, rfl⟩) z
          | _ => rfl
        rw [e] at h1
        exact ⟨_, rfl, tg, .inr ⟨n, ty, by rw [kit_str m, decide_eq_false z], h1 H same0⟩⟩
    refine ⟨_, rfl, rfl, _, rfl, ite2 (fun e => ?_) (fun e => ?_)⟩
    · have e' : x = "name" := V.str.inj (of_decide_eq_true e)
      refine ⟨_, rfl, nm _ fun H2 tb => ?_⟩
      have z := q H2 tb
      unfold fitB at z
      rw [if_pos e'] at z
      exact z
    · have e1 : ¬ x = "name" := fun h => e (decide_eq_true (congrArg V.str h))
      refine ⟨_, rfl, rfl, _, rfl, ite2 (fun e => ?_) (fun e => ?_)⟩
      · have e' : x = "end" := V.str.inj (of_decide_eq_true e)
        have fe : fitB v x = (decide (v = .str "") || nmV v) := by
          unfold fitB
          rw [if_neg e1, if_pos e']
        rw [fe] at q
        refine ⟨_, rfl, _, rfl, pt, decide (v = .str ""), rfl, ?_⟩
        cases hd : decide (v = V.str "") with
        | true =>
          rw [hd] at q
          exact iteT (q H same0)
        | false =>
          rw [hd] at q
          exact iteF ⟨_, rfl, nm _ fun H2 tb => q H2 tb⟩
      · have e2 : ¬ x = "end" := fun h => e (decide_eq_true (congrArg V.str h))
        have x4 : x ∈ sorts4 := by
          simp only [sorts6, sorts4, List.mem_cons, List.not_mem_nil, or_false] at hx ⊢
          rcases hx with h | h | h | h | h | h
          · exact absurd h e1
          · exact absurd h e2
          · exact .inl h
          · exact .inr (.inl h)
          · exact .inr (.inr (.inl h))
          · exact .inr (.inr (.inr h))
        obtain ⟨aT, kd, sq⟩ := hB x x4
        have fe : fitB v x = inB x v := by
          unfold fitB
          rw [if_neg e1, if_neg e2]
        rw [fe] at q
        have q0 := q H same0
        refine ⟨_, rfl, aB, x, _, rfl, rfl, kd, aT, _, rfl, sq H, rfl, _, _, rfl, _, _, rfl, rfl, _, rfl, v, rfl, pt, ?_⟩
        cases v with
        | int i =>
          refine ⟨_, rfl, iteT ⟨_, rfl, _, rfl, (bnd x).1, i, rfl, rfl, _, rfl, ite2 (fun a1 => ?_) (fun a1 => ?_)⟩⟩
          · refine ⟨_, rfl, i, (bnd x).2, rfl, rfl, ?_⟩
            have z : inB x (.int i) = decide (i ≤ (bnd x).2) := by
              show (decide ((bnd x).1 ≤ i) && decide (i ≤ (bnd x).2)) = _
              rw [a1, Bool.true_and]
            rw [z] at q0
            exact q0
          · have z : inB x (.int i) = false := by
              show (decide ((bnd x).1 ≤ i) && decide (i ≤ (bnd x).2)) = _
              rw [Bool.eq_false_iff.mpr a1, Bool.false_and]
            rw [z] at q0
            exact q0
        | _ => exact ⟨_, rfl, iteF q0⟩
theorem ok_isEntryA {f cE T1 T2 aF fF fP : Addr} {dF dP : FuncData} {oc kV doc pm ct : Value} {od an : Option Addr} {osl : Array (Option Value)} {es : Array DictEntry} {nE : Nat}
    (lk : K.lookup f = some ⟨oc, od, .func (PySem.W.fnOf "is_entry" "is_entry" (defArgs sIsEntry) (defBody sIsEntry) (defScope sIsEntry) .none kV doc pm an (.ref cE) ct), osl⟩) (cdI : PySem.W.codeIn K (.ref cE) "is_entry" = true)
    (TB : GxR.TabB base mg cE T2) (ne : T1 ≠ T2) (FI : DefT P w K mg base "fits" 2 fF dF ["part", "sort"] (spFitsA T1)) (PO : DefT P w K mg base "places_of" 1 fP dP ["entry"] spPlaces)
    (mi : mg "isinstance" = none) (mt : mg "tuple" = none) (ml : mg "len" = none) (mst : mg "str" = none) (ma : mg "all" = none) (mz : mg "zip" = none) (ms : mg "set" = none) (mF : mg "FORMS" = some (.ref aF)) (D : KDict K w aF es nE)
    (hF : ∀ e : Ent, ∃ aS, KDct K w aF e.word (.ref aS) ∧ ∀ H, SqT K H aS (e.sorts.map V.str)) (hO : ∀ z : Str, z ∉ words7 → PySem.W.nsIn K aF z = some none) :
    FnOk P w K mg base CX0 4 f (PySem.W.fnOf "is_entry" "is_entry" (defArgs sIsEntry) (defBody sIsEntry) (defScope sIsEntry) .none kV doc pm an (.ref cE) ct) ["thing"] (spIsEntryA T1 T2) := by
  refine fn_of lk cdI scIs (fun vs H Q E h => ?_) (fun A outer s H vs Q E hr h => ?_)
  · obtain ⟨v, rfl, _⟩ := h
    rfl
  · obtain ⟨v, rfl, t1, t2, h⟩ := h
    have nd := scIs.nd
    have hr1 : Room 1 _ := hr.mono (by decide)
    refine ⟨_, pss_cons (ps_if (PW.pt (pw_or (pt_not (pt_val (pe_callB call_isi (by rfl) mi (by decide +kernel) (pa_cons (pv 0) (pa_cons (pe_bltn (v := .ty "tuple") (u := .type "tuple") (by rfl) mt (by decide +kernel) rfl) pa_nil)))))
          (pw_or1 (pt_cmpR op_eq (pe_callB call_len_seq (by rfl) ml PySem.boot_len (pa_cons (pv 0) pa_nil)) pe_int (nomark _))))) (pss_one (ps_ret pe_bl)) pss_nil)
      (pss_cons (ps_if (PW.pt (pw_or (pt_not (pt_val (pe_callB call_isi (by rfl) mi (by decide +kernel) (pa_cons (pe_ix ix_tup (pv 0) pe_int (fun _ _ => rfl)) (pa_cons (pe_bltn (v := .ty "str") (u := .type "str") (by rfl) mst (by decide +kernel) rfl) pa_nil)))))
          (pw_or1 (pt_cmpR (op_notIn_kd D) (pe_ix ix_tup (pv 0) pe_int (fun _ _ => rfl)) (pe_glob (v := .ref aF) rfl mF rfl) (by rfl))))) (pss_one (ps_ret pe_bl)) pss_nil)
      (pss_cons (ps_set (i := 1) nd rfl (Or.inl rfl) (pe_ix ix_kdict (pe_glob (v := .ref aF) rfl mF rfl) (pe_ix ix_tup (pv 0) pe_int (fun _ _ => rfl)) (fun _ _ => rfl)))
      (pss_cons (ps_if (pt_cmpR op_ne (pe_callB call_len_seq (by rfl) ml PySem.boot_len (pa_cons (pv 0) pa_nil)) (pe_op op_add (pe_callB call_len_seq (by rfl) ml PySem.boot_len (pa_cons (pv 1) pa_nil)) pe_int) (nomark _)) (pss_one (ps_ret pe_bl)) pss_nil)
      (pss_cons (ps_if (pt_not (pt_val (pe_allG (T := T2) (c := cE) (k := 2) (own := [("part", 3), ("sort", 4)]) (g := gTup K 2 (gCons (gName 3) (gCons (gName 4) gNil))) (tt := tYes) (te := tCall (spFitsA T1) [] E0 (tCons (tVar 3) (tCons (tVar 4) tNil)))
          hr (by rfl) ma rfl nd TB rfl ⟨blkOk_by (N := isN) (sc := defScope sIsEntry) (by decide +kernel), rfl, by decide +kernel, rfl⟩
          (RZ.pi_zipA (by rfl) mz (pa_cons (pe_slice sl_tup (pv 0) (po_some pe_int) po_none) (pa_cons (pv 1) pa_nil)))
          (fun _ _ _ _ _ _ => pg_tup (by rfl) (pgs_cons (pg_name (i := 3) nd rfl (Or.inl rfl)) (pgs_cons (pg_name (i := 4) nd rfl (Or.inl rfl)) pgs_nil)))
          (fun _ _ _ _ _ _ _ => pts_nil) (fun _ _ _ _ _ _ hr' => pe_call FI.ok hr' (by rfl) FI.g FI.kp FI.b .nil pass0 (pa_cons (pv 3) (pa_cons (pv 4) pa_nil)))))) (pss_one (ps_ret pe_bl)) pss_nil)
      (pss_cons (ps_set (i := 2) nd rfl (Or.inl rfl) (pe_call PO.ok hr1 (by rfl) PO.g PO.kp PO.b .nil pass0 (pa_cons (pv 0) pa_nil)))
      (pss_one (ps_ret (pe_cmpR op_eq (pe_lenSetX rfl (by rfl) ml (by rfl) ms (pv 2)) (pe_callB call_len_seq (by rfl) ml PySem.boot_len (pa_cons (pv 2) pa_nil)) (nomark _))))))))), ?_⟩
    have tb0 : TB2 T1 T2 H H := TB2.same t1 t2 fun _ _ e => e
    rcases h with ⟨th, nt, q⟩ | ⟨a, xs, rfl, ha, lx, hT, qT, qF⟩
    · obtain ⟨n, ty, m, _, tt⟩ := th.ty (K := K)
      have nn : n ≠ "tuple" := fun z => by
        obtain ⟨a, xs, e, h2⟩ := tt.mp z
        exact nt a xs e h2
      exact ⟨_, rfl, _, _, _, _, false, rfl, .ty "tuple", ty, kit_ty (by rw [kit_tup m, decide_eq_false nn]), _, rfl, iteT (q H tb0)⟩
    -- a tuple
    refine ⟨_, rfl, _, _, _, _, true, rfl, .ty "tuple", .base (.tup ha), kit_ty (by decide +kernel), _, rfl, iteF ?_⟩
    match xs, ha, lx, hT, qT, qF with
    | [], ha, lx, hT, qT, qF =>
      refine ⟨_, rfl, a, _, rfl, .inr (SqT.of ha), rfl, true, rfl, iteT (qF ?_ H tb0)⟩
      rintro ⟨e, _, h⟩
      exact nomatch h
    | x0 :: ps, ha, lx, hT, qT, qF =>
    refine ⟨_, rfl, a, _, rfl, .inr (SqT.of ha), rfl, false, congrArg V.bl (decide_eq_false fun z => ?_), iteF ?_⟩
    · have z' : (((x0 :: ps).length : Nat) : Int) = 0 := V.int.inj z
      rw [List.length_cons] at z'
      omega
    have at0x : atI (x0 :: ps) 0 = some x0 := atI_nat (j := 0) rfl
    obtain ⟨n0, ty0, m0, st0, _⟩ := (hT x0 List.mem_cons_self).ty (K := K)
    by_cases zs : n0 = "str"
    rotate_left
    · refine ⟨_, rfl, a, _, 0, _, rfl, rfl, SqT.of ha, at0x, _, _, _, _, false, rfl, .ty "str", ty0, kit_ty (by rw [kit_str m0, decide_eq_false zs]), _, rfl, iteT (qF ?_ H tb0)⟩
      rintro ⟨e, _, h⟩
      exact zs (st0.mpr ⟨e.word, (List.cons.inj h).1⟩)
    obtain ⟨z, rfl⟩ := st0.mp zs
    refine ⟨_, rfl, a, _, 0, _, rfl, rfl, SqT.of ha, at0x, _, _, _, _, true, rfl, .ty "str", ty0, kit_ty (by rw [kit_str m0, decide_eq_true zs]), _, rfl, iteF ?_⟩
    by_cases zw : z ∈ words7
    rotate_left
    · refine ⟨_, rfl, a, _, 0, _, rfl, rfl, SqT.of ha, at0x, z, none, rfl, rfl, hO z zw, _, rfl, iteT (qF ?_ H tb0)⟩
      rintro ⟨e, _, h⟩
      have : z = e.word := V.str.inj (List.cons.inj h).1
      exact zw (this ▸ e.word_in)
    obtain ⟨f0, rfl⟩ := word_of zw
    obtain ⟨aS, kd, sq⟩ := hF f0
    obtain ⟨es', n', u, hl, hlit, hns, ru⟩ := id kd
    refine ⟨_, rfl, a, _, 0, _, rfl, rfl, SqT.of ha, at0x, f0.word, some u, rfl, rfl, hns, _, rfl, iteF ?_⟩
    refine ⟨_, rfl, a, _, 0, _, rfl, rfl, SqT.of ha, at0x, aF, f0.word, _, rfl, rfl, kd, ?_⟩
    by_cases ll : ps.length = f0.sorts.length
    rotate_left
    · refine ⟨_, rfl, a, _, rfl, .inr (SqT.of ha), _, rfl, aS, _, rfl, .inr (sq H), _, 1, rfl, rfl, rfl, true, ?_, iteT (qF ?_ H tb0)⟩
      · refine congrArg V.bl ?_
        have l1 : ¬ ((((V.str f0.word) :: ps).length : Nat) : Int) = ((f0.sorts.map V.str).length : Int) + 1 := by
          rw [List.length_cons, List.length_map]
          omega
        rw [decide_eq_false fun q => l1 (V.int.inj q)]
        rfl
      · rintro ⟨e, _, h⟩
        have w0 : e.word = f0.word := V.str.inj (List.cons.inj h).1.symm
        have := congrArg List.length h
        rw [vals_len, sorts_word w0, List.length_cons] at this
        omega
    refine ⟨_, rfl, a, _, rfl, .inr (SqT.of ha), _, rfl, aS, _, rfl, .inr (sq H), _, 1, rfl, rfl, rfl, false, ?_, iteF ?_⟩
    · refine congrArg V.bl ?_
      have l1 : ((((V.str f0.word) :: ps).length : Nat) : Int) = ((f0.sorts.map V.str).length : Int) + 1 := by
        rw [List.length_cons, List.length_map, ll]
        rfl
      rw [l1, decide_eq_true rfl]
      rfl
    -- all fit
    have cut : cutV ((V.str f0.word) :: ps) (some 1) none = ps := by
      have h : cutV ((V.str f0.word) :: ps) (some ((1 : Nat) : Int)) none = ps := by
        unfold cutV
        rw [HT.sIx_nat, HT.sIx_none, Nat.min_eq_left (by rw [List.length_cons]; omega)]
        show ps.take (ps.length + 1 - 1) = ps
        rw [Nat.add_sub_cancel]
        exact List.take_length
      exact h
    refine ⟨_, rfl, 1, rfl, a, _, rfl, SqT.of ha, ?_, fun pp npp => ?_⟩
    · rintro ⟨z, _⟩
      rw [show HT.sIx ((V.str f0.word) :: ps).length 0 (some 1) = min 1 ((V.str f0.word) :: ps).length from HT.sIx_nat _ _ 1, List.length_cons] at z
      omega
    rw [cut]
    have sp := @same_new _ _ (.tup ps) npp
    have hpp := @upd_same H pp (.tup ps)
    generalize upd H pp (.tup ps) = H1 at sp hpp ⊢
    refine ⟨_, rfl, pp, aS, ps, f0.sorts.map V.str, rfl, .inr ⟨SqT.of hpp, sq _, tabg_same sp t2, fun H2 tb2 => ?_⟩⟩
    have b0 : TB2 T1 T2 H H2 := (TB2.same t1 t2 sp).tr (.two ne (tabg_same sp t1) tb2)
    have b1 : TB2 T1 T2 H1 H2 := .two ne (tabg_same sp t1) tb2
    have hp2 : H2 pp = some (.tup ps) := b1.keep (tabg_same sp t1) (tabg_same sp t2) hpp (by intro ps z; cases z)
    refine ⟨fun i m H' => m = ps.length - i ∧ i ≤ ps.length ∧ H' pp = some (.tup ps) ∧ TB2 T1 T2 H H' ∧ ∀ (j : Nat) (v : V) (x : Str), j < i → ps[j]? = some v → f0.sorts[j]? = some x → fitB v x = true, ⟨_, rfl, Nat.zero_le _, hp2, b0, fun j v x hj => absurd hj (Nat.not_lt_zero _)⟩, ?_⟩
    rintro i m H3 ⟨rfl, hi, hp3, b3, hfit⟩
    by_cases lt : i < ps.length
    · refine .inr ⟨⟨ps, f0.sorts.map V.str, ps[i], .str (f0.sorts[i]'(by rw [← ll]; exact lt)), SqT.of hp3, sq _, List.getElem?_eq_getElem lt, ?_⟩, fun v H4 y => ?_⟩
      · rw [List.getElem?_map, List.getElem?_eq_getElem (by rw [← ll]; exact lt)]
        rfl
      · obtain ⟨TT, x', y', rfl, nT, rfl, f1, f2⟩ := y
        have g1 := f1 ps (SqT.of hp3)
        have g2 := f2 (f0.sorts.map V.str) (sq _)
        rw [List.getElem?_map] at g2
        obtain ⟨srt, hsrt, rfl⟩ := Option.map_eq_some_iff.mp g2
        have s4 := @same_new _ _ (.tup [x', V.str srt]) nT
        have b4 : TB2 T1 T2 H (upd H3 TT (.tup [x', V.str srt])) := b3.tr (.same b3.2.1 b3.2.2 s4)
        have hx' : Thg (upd H3 TT (.tup [x', V.str srt])) x' := (hT x' (List.mem_cons_of_mem _ (List.mem_of_getElem? g1))).on fun a' o' _ e' n' => b4.keep t1 t2 e' n'
        refine ⟨TT, _, rfl, SqT.of upd_same, rfl, _, _, rfl, _, _, rfl, rfl, rfl, yesT ?_⟩
        refine ⟨_, rfl, _, rfl, x', srt, rfl, hx', f0.sorts_in srt (List.mem_of_getElem? hsrt), b4.2.1, fun H5 tb5 => ?_⟩
        have b5 : TB2 T1 T2 H H5 := b4.tr (.one ne b4.2.2 tb5)
        have b45 : TB2 T1 T2 (upd H3 TT (.tup [x', V.str srt])) H5 := .one ne b4.2.2 tb5
        cases fit : fitB x' srt with
        | true =>
          refine ⟨true, rfl, iteT ⟨_, by omega, rfl, lt, b45.keep b4.2.1 b4.2.2 (s4 _ _ hp3) (by intro ps z; cases z), b5, fun j v x hj hv hx => ?_⟩⟩
          by_cases ej : j = i
          · subst ej
            rw [g1] at hv
            rw [hsrt] at hx
            rw [← Option.some.inj hv, ← Option.some.inj hx]
            exact fit
          · exact hfit j v x (by omega) hv hx
        | false =>
          refine ⟨false, rfl, iteF ⟨false, rfl, iteT (qF ?_ H5 b5)⟩⟩
          rintro ⟨e, fine, h⟩
          have w0 : e.word = f0.word := V.str.inj (List.cons.inj h).1.symm
          have hps : ps = e.parts := (List.cons.inj h).2
          rw [hps] at g1
          have := (fine.fit i x' srt g1 (by rw [sorts_word w0]; exact hsrt)).2
          rw [fit] at this
          exact nomatch this
    · have ei : i = ps.length := by omega
      subst ei
      obtain ⟨e, we, rfl⟩ := ent_of ll fun j v x hv hx => hfit j v x (List.getElem?_eq_some_iff.mp hv).1 hv hx
      have ev : e.vals = (V.str f0.word) :: e.parts := by
        rw [← we]
        rfl
      refine .inl ⟨⟨e.parts, f0.sorts.map V.str, SqT.of hp3, sq _, .inl (Nat.le_refl _)⟩, ?_⟩
      refine ⟨true, rfl, iteF ?_⟩
      -- unlike places
      rw [← ev] at ha qT qF
      have ha3 : H3 a = some (.tup e.vals) := b3.keep t1 t2 ha (by intro ps z; cases z)
      refine ⟨_, rfl, a, e, rfl, ha3, fun tp H4 s4 ht => ?_⟩
      have b4 := b3.tr (.same b3.2.1 b3.2.2 s4)
      refine ⟨_, rfl, tp, e.places, rfl, SqT.of ht, Nat.le_trans (places_le e) (by decide), _, rfl, tp, _, rfl, .inr (SqT.of ht), rfl, ?_⟩
      by_cases ndp : e.places.Nodup
      · rw [once_nodup ndp, List.length_map, decide_eq_true rfl]
        refine qT ⟨e, ⟨fun j v x hv hx => ?_, ndp⟩, rfl⟩ H4 b4
        have hx2 : f0.sorts[j]? = some x := by rw [← sorts_word we]; exact hx
        have ft := hfit j v x (List.getElem?_eq_some_iff.mp hv).1 hv hx2
        exact ⟨fit_part (hT v (List.mem_cons_of_mem _ (List.mem_of_getElem? hv))) ft (f0.sorts_in x (List.mem_of_getElem? hx2)), ft⟩
      · rw [List.length_map, decide_eq_false fun q => once_len_nd ndp (by have := V.int.inj q; omega)]
        refine qF ?_ H4 b4
        rintro ⟨e', fine, h⟩
        rw [vals_inj h] at ndp
        exact ndp fine.apart
end
/-- of entries the old promise holds -/
theorem isE_old {T1 T2 : Addr} {vs : List V} {H : Hp} {Q : VK} {E : XK} (h : spIsEntry T1 T2 vs H Q E) : spIsEntryA T1 T2 vs H Q E := by
  obtain ⟨a, e, rfl, ha, fine, t1, t2, q⟩ := h
  refine ⟨_, rfl, t1, t2, .inr ⟨a, e.vals, rfl, ha, ?_, fun x hx => ?_, fun _ => q, fun n => absurd ⟨e, fine, rfl⟩ n⟩⟩
  · cases e <;> exact Nat.le_of_ble_eq_true rfl
  · rcases List.mem_cons.mp hx with rfl | hx
    · exact .str _ ((by decide +kernel : ∀ w ∈ words7, w.length ≤ 100000) _ e.word_in)
    · obtain ⟨i, hi⟩ := List.mem_iff_getElem?.mp hx
      have lt := (List.getElem?_eq_some_iff.mp hi).1
      exact .of_part (fine.fit i x _ hi (List.getElem?_eq_getElem (by rw [← e.len_parts]; exact lt))).1
/-! ### what is an entry, part by part -/
def fitsA : List V → List Str → Bool
  | v :: vs, x :: xs => fitB v x && fitsA vs xs
  | _, _ => true
theorem fitsA_of : ∀ (ps : List V) (ss : List Str), (∀ (i : Nat) (v : V) (x : Str), ps[i]? = some v → ss[i]? = some x → fitB v x = true) → fitsA ps ss = true
  | [], _, _ => by unfold fitsA; rfl
  | _ :: _, [], _ => by unfold fitsA; rfl
  | v :: vs, x :: xs, h => by
    show (fitB v x && fitsA vs xs) = true
    rw [h 0 v x rfl rfl, fitsA_of vs xs fun i v x h1 h2 => h (i + 1) v x h1 h2]
    rfl
theorem of_fitsA : ∀ (ps : List V) (ss : List Str), fitsA ps ss = true → ∀ (i : Nat) (v : V) (x : Str), ps[i]? = some v → ss[i]? = some x → fitB v x = true
  | [], _, _, _, _, _, h1, _ => by rw [List.getElem?_nil] at h1; exact nomatch h1
  | _ :: _, [], _, _, _, _, _, h2 => by rw [List.getElem?_nil] at h2; exact nomatch h2
  | v :: vs, x :: xs, h, 0, _, _, h1, h2 => by
    cases h1
    cases h2
    exact (Bool.and_eq_true_iff.mp (show (fitB v x && fitsA vs xs) = true from h)).1
  | v :: vs, x :: xs, h, i + 1, v', x', h1, h2 => of_fitsA vs xs (Bool.and_eq_true_iff.mp (show (fitB v x && fitsA vs xs) = true from h)).2 i v' x' h1 h2
theorem isE_len {f : Ent} {ps : List V} (h : IsE (.str f.word :: ps)) : ps.length = f.sorts.length := by
  obtain ⟨e, _, q⟩ := h
  have w0 : e.word = f.word := V.str.inj (List.cons.inj q).1.symm
  rw [(List.cons.inj q).2, ← sorts_word w0]
  exact e.len_parts
theorem isE_fits {f : Ent} {ps : List V} (h : IsE (.str f.word :: ps)) : fitsA ps f.sorts = true := by
  obtain ⟨e, fi, q⟩ := h
  have w0 : e.word = f.word := V.str.inj (List.cons.inj q).1.symm
  rw [(List.cons.inj q).2, ← sorts_word w0]
  exact fitsA_of _ _ fun i v x h1 h2 => (fi.fit i v x h1 h2).2
theorem isE_mk {H : Hp} {f : Ent} {ps : List V} (hT : ∀ v ∈ ps, Thg H v) (l : ps.length = f.sorts.length) (h : fitsA ps f.sorts = true) (ap : ∀ e : Ent, e.word = f.word → e.parts = ps → e.places.Nodup) : IsE (.str f.word :: ps) := by
  have ft := of_fitsA _ _ h
  obtain ⟨e, we, rfl⟩ := ent_of l ft
  refine ⟨e, ⟨fun j v x hv hx => ?_, ap e we rfl⟩, ?_⟩
  · have hx2 : f.sorts[j]? = some x := by rw [← sorts_word we]; exact hx
    have q := ft j v x hv hx2
    exact ⟨fit_part (hT v (List.mem_of_getElem? hv)) q (f.sorts_in x (List.mem_of_getElem? hx2)), q⟩
  · rw [← we]
    rfl
theorem fit_n {v : V} : fitB v "name" = nmV v := if_pos rfl
theorem fit_e {v : V} : fitB v "end" = (decide (v = .str "") || nmV v) := by
  unfold fitB
  rw [if_neg ken, if_pos rfl]
/-- a number between -/
def whB (lo hi : Int) : V → Bool
  | .int i => decide (lo ≤ i) && decide (i ≤ hi)
  | _ => false
theorem fit_mo {v : V} : fitB v "moment" = whB 0 9999 v := by
  unfold fitB
  rw [if_neg kmn, if_neg kme]
  cases v <;> simp [inB, whB, bnd]
theorem fit_ma {v : V} : fitB v "many" = whB 1 1000000000 v := by
  unfold fitB
  rw [if_neg kyn, if_neg kye]
  cases v <;> simp [inB, whB, bnd, kym]
theorem fit_co {v : V} : fitB v "counted" = whB 0 1000000000 v := by
  unfold fitB
  rw [if_neg kcn, if_neg kce]
  cases v <;> simp [inB, whB, bnd, kcm, kcy]
theorem fit_pr {v : V} : fitB v "price" = whB 0 1000000000 v := by
  unfold fitB
  rw [if_neg kpn, if_neg kpe]
  cases v <;> simp [inB, whB, bnd, kpm, kpy]
theorem isE_word {x0 : V} {ps : List V} (h : IsE (x0 :: ps)) : ∃ f : Ent, x0 = .str f.word := by
  obtain ⟨e, _, q⟩ := h
  exact ⟨e, (List.cons.inj q).1⟩
theorem isE_heads {x0 p0 p1 p2 p3 : V} {rest : List V} (h : IsE (x0 :: p0 :: p1 :: p2 :: p3 :: rest)) : nmV p0 = true ∧ whB 0 9999 p1 = true ∧ nmV p2 = true ∧ nmV p3 = true := by
  obtain ⟨f, rfl⟩ := isE_word h
  have ft := of_fitsA _ _ (isE_fits h)
  have s0 : f.sorts[0]? = some ("name" : Str) := by cases f <;> rfl
  have s1 : f.sorts[1]? = some ("moment" : Str) := by cases f <;> rfl
  have s2 : f.sorts[2]? = some ("name" : Str) := by cases f <;> rfl
  have s3 : f.sorts[3]? = some ("name" : Str) := by cases f <;> rfl
  exact ⟨by rw [← fit_n]; exact ft 0 p0 _ rfl s0, by rw [← fit_mo]; exact ft 1 p1 _ rfl s1, by rw [← fit_n]; exact ft 2 p2 _ rfl s2, by rw [← fit_n]; exact ft 3 p3 _ rfl s3⟩
theorem isE_five {xs : List V} (h : IsE xs) : 5 ≤ xs.length := by
  obtain ⟨e, _, rfl⟩ := h
  cases e <;> exact Nat.le_of_ble_eq_true rfl
theorem nm_str {v : V} (h : nmV v = true) : ∃ z, v = .str z ∧ nameB z = true := by
  cases v with
  | str z => exact ⟨z, rfl, h⟩
  | _ => exact nomatch h
/-- the ends of a move or of a some -/
def endsB (w y4 : Str) (v : V) : Bool := if w = "some" ∧ v = .str "" then true else nmV v && !decide (v = .str y4)
section
variable {H : Hp} {p0 p1 p2 p3 : V} {rest : List V} (h0 : nmV p0 = true) (h1 : whB 0 9999 p1 = true) (h2 : nmV p2 = true) (h3 : nmV p3 = true) (hT : ∀ v ∈ p0 :: p1 :: p2 :: p3 :: rest, Thg H v)
include h0 h1 h2 h3 hT
theorem isE_swap : IsE (.str "swap" :: p0 :: p1 :: p2 :: p3 :: rest) ↔ rest = [] ∧ p2 ≠ p3 := by
  constructor
  · intro h
    have l := isE_len (f := .swap "" 0 "" "") h
    have r : rest = [] := List.eq_nil_of_length_eq_zero (by simp only [List.length_cons, Ent.sorts, List.length_nil] at l; omega)
    subst r
    refine ⟨rfl, fun z => ?_⟩
    obtain ⟨e, fi, q⟩ := h
    subst z
    have w0 : e.word = "swap" := V.str.inj (List.cons.inj q).1.symm
    cases e with
    | swap n m o t =>
      have q2 := (List.cons.inj q).2
      simp only [Ent.vals, Ent.rest, Ent.name, Ent.moment, List.cons.injEq] at q2
      have : o = t := V.str.inj (q2.2.2.1.symm.trans q2.2.2.2.1)
      subst this
      exact (List.nodup_cons.mp fi.apart).1 (List.mem_singleton.mpr rfl)
    | _ => exact absurd w0 (wno (by decide +kernel))
  · rintro ⟨rfl, ne⟩
    refine isE_mk (f := .swap "" 0 "" "") hT rfl ?_ fun e we ep => ?_
    · show (fitB p0 "name" && (fitB p1 "moment" && (fitB p2 "name" && (fitB p3 "name" && true)))) = true
      rw [fit_n, fit_mo, fit_n, fit_n, h0, h1, h2, h3]
      rfl
    · cases e with
      | swap n m o t =>
        simp only [Ent.parts, Ent.rest, List.cons.injEq] at ep
        refine List.nodup_cons.mpr ⟨fun z => ne ?_, nd1 t⟩
        rw [← ep.2.2.1, ← ep.2.2.2.1, List.mem_singleton.mp z]
      | _ => exact absurd we (wno (by decide +kernel))
theorem isE_look : IsE (.str "look" :: p0 :: p1 :: p2 :: p3 :: rest) ↔ rest = [] := by
  constructor
  · intro h
    have l := isE_len (f := .look "" 0 "" "") h
    exact List.eq_nil_of_length_eq_zero (by simp only [List.length_cons, Ent.sorts, List.length_nil] at l; omega)
  · rintro rfl
    refine isE_mk (f := .look "" 0 "" "") hT rfl ?_ fun e we ep => ?_
    · show (fitB p0 "name" && (fitB p1 "moment" && (fitB p2 "name" && (fitB p3 "name" && true)))) = true
      rw [fit_n, fit_mo, fit_n, fit_n, h0, h1, h2, h3]
      rfl
    · cases e with
      | look n m g p => exact nd1 p
      | _ => exact absurd we (wno (by decide +kernel))
theorem isE_come : IsE (.str "come" :: p0 :: p1 :: p2 :: p3 :: rest) ↔ ∃ x y, rest = [x, y] ∧ whB 1 1000000000 x = true ∧ whB 0 1000000000 y = true := by
  constructor
  · intro h
    have l := isE_len (f := .come "" 0 "" "" 0 0) h
    match rest, l with
    | [x, y], _ =>
      have q := isE_fits (f := .come "" 0 "" "" 0 0) h
      have q' : (fitB p0 "name" && (fitB p1 "moment" && (fitB p2 "name" && (fitB p3 "name" && (fitB x "many" && (fitB y "price" && true)))))) = true := q
      rw [fit_n, fit_mo, fit_n, fit_n, h0, h1, h2, h3, fit_ma, fit_pr] at q'
      simp only [Bool.true_and, Bool.and_true, Bool.and_eq_true] at q'
      exact ⟨x, y, rfl, q'⟩
  · rintro ⟨x, y, rfl, hx, hy⟩
    refine isE_mk (f := .come "" 0 "" "" 0 0) hT rfl ?_ fun e we ep => ?_
    · show (fitB p0 "name" && (fitB p1 "moment" && (fitB p2 "name" && (fitB p3 "name" && (fitB x "many" && (fitB y "price" && true)))))) = true
      rw [fit_n, fit_mo, fit_n, fit_n, h0, h1, h2, h3, fit_ma, fit_pr, hx, hy]
      rfl
    · cases e with
      | come n m g p k r => exact nd1 p
      | _ => exact absurd we (wno (by decide +kernel))
theorem isE_go : IsE (.str "go" :: p0 :: p1 :: p2 :: p3 :: rest) ↔ ∃ x, rest = [x] ∧ whB 1 1000000000 x = true := by
  constructor
  · intro h
    have l := isE_len (f := .go "" 0 "" "" 0) h
    match rest, l with
    | [x], _ =>
      have q := isE_fits (f := .go "" 0 "" "" 0) h
      have q' : (fitB p0 "name" && (fitB p1 "moment" && (fitB p2 "name" && (fitB p3 "name" && (fitB x "many" && true))))) = true := q
      rw [fit_n, fit_mo, fit_n, fit_n, h0, h1, h2, h3, fit_ma] at q'
      simp only [Bool.true_and, Bool.and_true] at q'
      exact ⟨x, rfl, q'⟩
  · rintro ⟨x, rfl, hx⟩
    refine isE_mk (f := .go "" 0 "" "" 0) hT rfl ?_ fun e we ep => ?_
    · show (fitB p0 "name" && (fitB p1 "moment" && (fitB p2 "name" && (fitB p3 "name" && (fitB x "many" && true))))) = true
      rw [fit_n, fit_mo, fit_n, fit_n, h0, h1, h2, h3, fit_ma, hx]
      rfl
    · cases e with
      | go n m g p k => exact nd1 p
      | _ => exact absurd we (wno (by decide +kernel))
theorem isE_count : IsE (.str "count" :: p0 :: p1 :: p2 :: p3 :: rest) ↔ ∃ x y, rest = [x, y] ∧ whB 0 1000000000 x = true ∧ nmV y = true := by
  constructor
  · intro h
    have l := isE_len (f := .count "" 0 "" "" 0 "") h
    match rest, l with
    | [x, y], _ =>
      have q := isE_fits (f := .count "" 0 "" "" 0 "") h
      have q' : (fitB p0 "name" && (fitB p1 "moment" && (fitB p2 "name" && (fitB p3 "name" && (fitB x "counted" && (fitB y "name" && true)))))) = true := q
      rw [fit_n, fit_mo, fit_n, fit_n, h0, h1, h2, h3, fit_co, fit_n] at q'
      simp only [Bool.true_and, Bool.and_true, Bool.and_eq_true] at q'
      exact ⟨x, y, rfl, q'⟩
  · rintro ⟨x, y, rfl, hx, hy⟩
    refine isE_mk (f := .count "" 0 "" "" 0 "") hT rfl ?_ fun e we ep => ?_
    · show (fitB p0 "name" && (fitB p1 "moment" && (fitB p2 "name" && (fitB p3 "name" && (fitB x "counted" && (fitB y "name" && true)))))) = true
      rw [fit_n, fit_mo, fit_n, fit_n, h0, h1, h2, h3, fit_co, fit_n, hx, hy]
      rfl
    · cases e with
      | count n m g p k r => exact nd1 p
      | _ => exact absurd we (wno (by decide +kernel))
theorem isE_move {y3 : Str} (hp : p3 = .str y3) : IsE (.str "move" :: p0 :: p1 :: p2 :: p3 :: rest) ↔ ∃ x y, rest = [x, y] ∧ endsB "move" y3 x = true ∧ whB 1 1000000000 y = true := by
  have eb : ∀ x, endsB "move" y3 x = (nmV x && !decide (x = .str y3)) := fun x => if_neg fun z => absurd z.1 (wno (by decide +kernel))
  subst hp
  constructor
  · intro h
    have l := isE_len (f := .move "" 0 "" "" "" 0) h
    match rest, l with
    | [x, y], _ =>
      have q := isE_fits (f := .move "" 0 "" "" "" 0) h
      have q' : (fitB p0 "name" && (fitB p1 "moment" && (fitB p2 "name" && (fitB (.str y3) "name" && (fitB x "name" && (fitB y "many" && true)))))) = true := q
      rw [fit_n, fit_mo, fit_n, fit_n, fit_n, h0, h1, h2, h3, fit_ma] at q'
      simp only [Bool.true_and, Bool.and_true, Bool.and_eq_true] at q'
      refine ⟨x, y, rfl, ?_, q'.2⟩
      rw [eb, q'.1]
      refine (Bool.true_and _).trans ?_
      rw [Bool.not_eq_true']
      refine decide_eq_false fun z => ?_
      subst z
      obtain ⟨e, fi, q⟩ := h
      have w0 : e.word = "move" := V.str.inj (List.cons.inj q).1.symm
      cases e with
      | move n m g o t k =>
        have q2 := (List.cons.inj q).2
        simp only [Ent.vals, Ent.rest, Ent.name, Ent.moment, List.cons.injEq] at q2
        have : o = t := V.str.inj (q2.2.2.2.1.symm.trans q2.2.2.2.2.1)
        subst this
        exact (List.nodup_cons.mp fi.apart).1 (List.mem_singleton.mpr rfl)
      | _ => exact absurd w0 (wno (by decide +kernel))
  · rintro ⟨x, y, rfl, hx, hy⟩
    rw [eb] at hx
    obtain ⟨hx1, hx2⟩ := Bool.and_eq_true_iff.mp hx
    refine isE_mk (f := .move "" 0 "" "" "" 0) hT rfl ?_ fun e we ep => ?_
    · show (fitB p0 "name" && (fitB p1 "moment" && (fitB p2 "name" && (fitB (.str y3) "name" && (fitB x "name" && (fitB y "many" && true)))))) = true
      rw [fit_n, fit_mo, fit_n, fit_n, fit_n, h0, h1, h2, h3, fit_ma, hx1, hy]
      rfl
    · cases e with
      | move n m g o t k =>
        simp only [Ent.parts, Ent.rest, List.cons.injEq] at ep
        refine List.nodup_cons.mpr ⟨fun z => ?_, nd1 t⟩
        rw [Bool.not_eq_true'] at hx2
        refine of_decide_eq_false hx2 ?_
        rw [← ep.2.2.2.2.1, ← ep.2.2.2.1, List.mem_singleton.mp z]
      | _ => exact absurd we (wno (by decide +kernel))
theorem isE_some {y3 : Str} (hp : p3 = .str y3) : IsE (.str "some" :: p0 :: p1 :: p2 :: p3 :: rest) ↔ ∃ x, rest = [x] ∧ endsB "some" y3 x = true := by
  have ne3 : y3 ≠ "" := name_ne (by rw [hp] at h3; exact h3)
  subst hp
  constructor
  · intro h
    have l := isE_len (f := .some_ "" 0 "" "" "") h
    match rest, l with
    | [x], _ =>
      have q := isE_fits (f := .some_ "" 0 "" "" "") h
      have q' : (fitB p0 "name" && (fitB p1 "moment" && (fitB p2 "name" && (fitB (.str y3) "name" && (fitB x "end" && true))))) = true := q
      rw [fit_n, fit_mo, fit_n, fit_n, h0, h1, h2, h3, fit_e] at q'
      simp only [Bool.true_and, Bool.and_true] at q'
      refine ⟨x, rfl, ?_⟩
      unfold endsB
      by_cases z : x = .str ""
      · rw [if_pos ⟨rfl, z⟩]
      · rw [if_neg fun y => z y.2]
        rw [decide_eq_false z, Bool.false_or] at q'
        rw [q']
        refine (Bool.true_and _).trans ?_
        rw [Bool.not_eq_true']
        refine decide_eq_false fun z2 => ?_
        subst z2
        obtain ⟨e, fi, q⟩ := h
        have w0 : e.word = "some" := V.str.inj (List.cons.inj q).1.symm
        cases e with
        | some_ n m g o t =>
          have q2 := (List.cons.inj q).2
          simp only [Ent.vals, Ent.rest, Ent.name, Ent.moment, List.cons.injEq] at q2
          have e1 : y3 = o := V.str.inj q2.2.2.2.1
          have e2 : y3 = t := V.str.inj q2.2.2.2.2.1
          have := fi.apart
          rw [show Ent.places (.some_ n m g o t) = [o, t] from if_neg (by rw [← e2]; exact ne3), ← e1, ← e2] at this
          exact (List.nodup_cons.mp this).1 (List.mem_singleton.mpr rfl)
        | _ => exact absurd w0 (wno (by decide +kernel))
  · rintro ⟨x, rfl, hx⟩
    unfold endsB at hx
    have fx : fitB x "end" = true := by
      rw [fit_e]
      by_cases z : x = .str ""
      · rw [decide_eq_true z]
        rfl
      · rw [if_neg fun y => z y.2] at hx
        rw [(Bool.and_eq_true_iff.mp hx).1, Bool.or_true]
    refine isE_mk (f := .some_ "" 0 "" "" "") hT rfl ?_ fun e we ep => ?_
    · show (fitB p0 "name" && (fitB p1 "moment" && (fitB p2 "name" && (fitB (.str y3) "name" && (fitB x "end" && true))))) = true
      rw [fit_n, fit_mo, fit_n, fit_n, h0, h1, h2, h3, fx]
      rfl
    · cases e with
      | some_ n m g o t =>
        simp only [Ent.parts, Ent.rest, List.cons.injEq] at ep
        show (if t = "" then [o] else [o, t]).Nodup
        by_cases z : t = ""
        · rw [if_pos z]
          exact nd1 o
        · rw [if_neg z]
          have xz : x ≠ .str "" := fun q => z (V.str.inj (ep.2.2.2.2.1.trans q))
          rw [if_neg fun y => xz y.2] at hx
          have hx2 := (Bool.and_eq_true_iff.mp hx).2
          rw [Bool.not_eq_true'] at hx2
          refine List.nodup_cons.mpr ⟨fun y => of_decide_eq_false hx2 ?_, nd1 t⟩
          rw [← ep.2.2.2.2.1, ← ep.2.2.2.1, List.mem_singleton.mp y]
      | _ => exact absurd we (wno (by decide +kernel))
end
/-! ### the law's own names and entries -/
def spOwn3 : Sp := fun vs H Q _ => ∃ v : V, vs = [v] ∧ Thg H v ∧ (∀ z, v = .str z → PyData.strOk z = true) ∧ ∀ H', Same H H' → Q (.bl (nmV v)) H'
def spLWhole : Sp := fun vs H Q _ => ∃ (v : V) (lo hi : Int), vs = [v, .int lo, .int hi] ∧ Thg H v ∧ Q (.bl (whB lo hi v)) H
def spEnds : Sp := fun vs H Q _ => ∃ (a : Addr) (xs : List V) (z y4 : Str) (v : V), vs = [.ref a] ∧ H a = some (.tup xs) ∧ xs[0]? = some (.str z) ∧ xs[4]? = some (.str y4) ∧ xs[5]? = some v ∧ Thg H v ∧ (∀ z, v = .str z → PyData.strOk z = true) ∧ ∀ H', Same H H' → Q (.bl (endsB z y4 v)) H'
def Okv (v : V) : Prop := ∀ z, v = .str z → PyData.strOk z = true
def spLIsE : Sp := fun vs H Q _ => ∃ v : V, vs = [v] ∧ ((Thg H v ∧ (∀ a xs, v = .ref a → H a ≠ some (.tup xs)) ∧ ∀ H', Same H H' → Q (.bl false) H') ∨
  ∃ (a : Addr) (xs : List V), v = .ref a ∧ H a = some (.tup xs) ∧ xs.length ≤ 1000 ∧ (∀ x ∈ xs, Thg H x ∧ Okv x) ∧ ∀ b, (b = true ↔ IsE xs) → ∀ H', Same H H' → Q (.bl b) H')
/-- texts of single signs that are no letters -/
def badS (l : List Nat) : List Str := (l.filter fun c => !decide (c ∈ abc.cps.toList)).map fun c => ⟨#[c]⟩
theorem lay_sign : ∀ {l : List Nat}, (∀ c ∈ l, c < 0x110000) → PyData.canLayAll0 ((badS l).map PyData.str) = true
  | [], _ => rfl
  | c :: r, h => by
    have ih := lay_sign (l := r) fun z hz => h z (List.mem_cons_of_mem _ hz)
    have ok : PyData.strOk ⟨#[c]⟩ = true := by
      unfold PyData.strOk
      rw [← Array.all_toList]
      show (([c] : List Nat).all fun c => decide (c < 0x110000)) = true
      rw [List.all_cons, decide_eq_true (h c List.mem_cons_self)]
      rfl
    unfold badS at ih ⊢
    rw [List.filter_cons]
    split
    · rw [List.map_cons, List.map_cons, PyData.canLayAll0, PyData.canLay0, ok, ih]
      rfl
    · exact ih
theorem deep_strs3 : ∀ ys : List Str, PyData.depthAll (ys.map PyData.str) = 0
  | [] => rfl
  | _ :: r => by simp [PyData.depthAll, PyData.depth, deep_strs3 r]
theorem dp_strs3 {K : PySem.W.Frag} {H : Hp} : ∀ ys : List Str, DpAll K H (ys.map V.str) (ys.map PyData.str)
  | [] => .nil
  | y :: r => .cons (.str y) (dp_strs3 r)
theorem eqv_nil (ys : List Str) : PyData.eqv (.list (ys.map PyData.str)) (.list []) = decide (ys = []) := by
  cases ys with
  | nil => simp [PyData.eqv, PyData.eqvAll]
  | cons y r => simp [PyData.eqv, PyData.eqvAll]
theorem badS_nil {l : List Nat} : decide (badS l = []) = l.all signB := by
  unfold badS
  rw [Bool.eq_iff_iff, decide_eq_true_eq, List.map_eq_nil_iff, List.filter_eq_nil_iff, List.all_eq_true]
  exact ⟨fun h c hc => by simpa [signB] using h c hc, fun h c hc => by simpa [signB] using h c hc⟩
section
variable {P : Program} {w : World} {K : PySem.W.Frag} {mg : Str → Option Value} {base : Heap}
abbrev sOwnNN : List Str := ["_law_thing", "_law_sign"]
theorem sc_sOwnN : FnScope sOwnNN ["_law_thing"] (defScope sOwnN) := ⟨rfl, rfl, rfl, by decide +kernel, rfl, by decide +kernel, by decide +kernel⟩
theorem ok_own3 {f : Addr} {fd : FuncData} (F : Fun K "_law_is_name" "_law_is_name" sOwnN f fd) (mis : mg "isinstance" = none) (mT_str : mg "str" = none) (ml : mg "len" = none) : FnOk P w K mg base CX0 1 f fd ["_law_thing"] spOwn3 := by
  refine F.ok sc_sOwnN (fun vs H Q E h => ?_) (fun cdv A outer s H vs Q E hr h => ?_)
  · obtain ⟨v, rfl, _⟩ := h
    rfl
  · obtain ⟨v, rfl, th, so, q⟩ := h
    have nd := sc_sOwnN.nd
    refine ⟨_, pss_cons (ps_if (PW.pt (pw_or (pt_not (pt_val (pe_callB call_isi (by rfl) mis (by decide +kernel) (pa_cons (pv 0) (pa_cons (pe_bltn (v := .ty "str") (u := .type "str") (by rfl) mT_str (by decide +kernel) rfl) pa_nil))))) (pw_or (pt_cmpR op_eq (pe_callB call_len_str (by rfl) ml PySem.boot_len (pa_cons (pv 0) pa_nil)) pe_int (nomark _)) (pw_or1 (pt_cmpR op_gt (pe_callB call_len_str (by rfl) ml PySem.boot_len (pa_cons (pv 0) pa_nil)) pe_int (nomark _)))))) (pss_one (ps_ret pe_bl)) pss_nil)
      (pss_one (ps_ret (pe_cmpR (op_eqD hr.units) (pe_lc (own := [("_law_sign", 1)]) (g := gName 1) (tt := _) (te := tVar 1) rfl nd (pi_str (pv 0)) (blkOk_by (N := sOwnNN) (sc := defScope sOwnN) (by decide +kernel)) (fun _ _ _ _ _ => (pg_name (i := 1) nd rfl (Or.inl rfl))) (fun _ _ _ _ _ => (pts_one (pt_cmpR op_notIn_sign (pv 1) pe_str (by rfl)))) (fun _ _ _ _ _ => (pv 1))) (pe_lst pa_nil) (nomark _)))), ?_⟩
    obtain ⟨n, ty, m, st, _⟩ := th.ty (K := K)
    by_cases zs : n = "str"
    rotate_left
    · have e : nmV v = false := by
        cases v with
        | str z => exact absurd (st.mpr ⟨z, rfl⟩) zs
        | _ => rfl
      rw [e] at q
      exact ⟨_, rfl, _, _, _, _, false, rfl, .ty "str", ty, kit_ty (by rw [kit_str m, decide_eq_false zs]), _, rfl, iteT (q H fun _ _ h => h)⟩
    obtain ⟨z, rfl⟩ := st.mp zs
    have hz1 : z.length ≤ 100000 := by cases th with | str _ h => exact h
    have hz : z.length ≤ sizeLine := Nat.le_of_lt (smallBig (by omega))
    have zo : ∀ c ∈ z.cps.toList, c < 0x110000 := by
      have h := so z rfl
      unfold PyData.strOk at h
      rw [← Array.all_toList, List.all_eq_true] at h
      exact fun c hc => of_decide_eq_true (h c hc)
    refine ⟨_, rfl, _, _, _, _, true, rfl, .ty "str", .base (.str z), kit_ty (by decide +kernel), _, rfl, iteF ?_⟩
    have q2 : ∀ H', Same H H' → Q (.bl (nameB z)) H' := q
    refine ⟨_, rfl, z, rfl, hz, rfl, _, rfl, ite2 (fun e1 => ?_) (fun e1 => ?_)⟩
    · have e2 : (z.length : Int) = 0 := V.int.inj (of_decide_eq_true e1)
      rw [nameB_short (by omega)] at q2
      exact q2 H fun _ _ h => h
    have e2 : ¬ (z.length : Int) = 0 := fun h => e1 (decide_eq_true (congrArg V.int h))
    refine ⟨_, rfl, z, rfl, hz, _, 8, rfl, rfl, _, rfl, ite2 (fun e3 => ?_) (fun e3 => ?_)⟩
    · have e4 : (8 : Int) < (z.length : Int) := of_decide_eq_true e3
      rw [nameB_long (by omega)] at q2
      exact q2 H fun _ _ h => h
    have e4 : ¬ (8 : Int) < (z.length : Int) := fun h => e3 (decide_eq_true h)
    rw [nameB_in (by omega) (by omega), ← badS_nil] at q2
    refine ⟨_, rfl, z, rfl, fun D nD => lc_it walk_str (fun i H' => Same H H' ∧ H' D = some (.lst ((badS (z.cps.toList.take i)).map V.str))) ⟨same_new nD, upd_same⟩ (fun _ _ _ _ => True.intro) ?_ ?_⟩
    · rintro i v H1 H2 hi ⟨s1, h1⟩ ⟨rfl, cc, hc, rfl⟩
      have hc' : z.cps.toList[i]? = some cc := by rw [Array.getElem?_toList]; exact hc
      have tk : badS (z.cps.toList.take (i + 1)) = badS (z.cps.toList.take i) ++ badS [cc] := by
        rw [List.take_add_one, hc']
        unfold badS
        rw [List.filter_append, List.map_append]
        rfl
      refine ⟨rfl, _, rfl, cc, abc, rfl, rfl, _, rfl, ?_⟩
      have lb : (badS (z.cps.toList.take i)).length ≤ 100000 := by
        unfold badS
        rw [List.length_map]
        refine Nat.le_trans (List.length_filter_le _ _) (Nat.le_trans (List.length_take_le _ _) (Nat.le_trans (Nat.le_of_lt hi) hz1))
      by_cases b : cc ∈ abc.cps.toList
      · rw [decide_eq_true b]
        refine iteF ⟨s1, ?_⟩
        rw [tk]
        have : badS [cc] = [] := by
          unfold badS
          rw [List.filter_cons, decide_eq_true b]
          rfl
        rw [this, List.append_nil]
        exact h1
      · rw [decide_eq_false b]
        refine iteT ⟨_, rfl, _, h1, ?_, ?_, ?_⟩
        · rw [List.length_map]
          exact Nat.lt_of_le_of_lt lb (by decide)
        · exact fun a o e => by
            rw [upd_ne (fun w => by rw [w] at e; rw [nD] at e; exact nomatch e)]
            exact s1 a o e
        · rw [tk]
          have : badS [cc] = [⟨#[cc]⟩] := by
            unfold badS
            rw [List.filter_cons, decide_eq_false b]
            rfl
          rw [this, List.map_append]
          exact upd_same
    · rintro H2 ⟨s2, h2⟩
      refine ⟨Nat.zero_le _, fun p np => ?_⟩
      have s3 : Same H2 (upd H2 p (.lst [])) := same_new np
      have h3 : (upd H2 p (.lst [])) p = some (.lst []) := upd_same
      have hD := s3 _ _ h2
      generalize upd H2 p (.lst []) = H3 at s3 h3 hD ⊢
      have full : z.cps.toList.take z.cps.size = z.cps.toList := List.take_of_length_le (Nat.le_of_eq (Array.length_toList ..))
      rw [full] at hD
      refine ⟨_, _, .lst (SqL.of hD) (dp_strs3 _), .lst (SqL.of h3) .nil, ?_, by decide +kernel, ?_⟩
      · simp [SeqAt.shaped, PyData.canLay0, PyData.depth, lay_sign zo, deep_strs3]
      · rw [eqv_nil]
        exact q2 H3 (s2.trans s3)
abbrev sLWholeN : List Str := ["_law_thing", "_law_least", "_law_most"]
theorem sc_sLWhole : FnScope sLWholeN ["_law_thing", "_law_least", "_law_most"] (defScope sLWhole) := ⟨rfl, rfl, rfl, by decide +kernel, rfl, by decide +kernel, by decide +kernel⟩
theorem ok_lwhole {f : Addr} {fd : FuncData} (F : Fun K "_law_whole" "_law_whole" sLWhole f fd) (mis : mg "isinstance" = none) (mT_int : mg "int" = none) (mT_bool : mg "bool" = none) : FnOk P w K mg base CX0 1 f fd ["_law_thing", "_law_least", "_law_most"] spLWhole := by
  refine F.ok sc_sLWhole (fun vs H Q E h => ?_) (fun cdv A outer s H vs Q E hr h => ?_)
  · obtain ⟨v, lo, hi, rfl, _⟩ := h
    rfl
  · obtain ⟨v, lo, hi, rfl, th, q⟩ := h
    have nd := sc_sLWhole.nd
    refine ⟨_, pss_one (ps_ret (pe_and (pe_callB call_isi (by rfl) mis (by decide +kernel) (pa_cons (pv 0) (pa_cons (pe_bltn (v := .ty "int") (u := .type "int") (by rfl) mT_int (by decide +kernel) rfl) pa_nil))) (pe_and (pe_not (pe_callB call_isi (by rfl) mis (by decide +kernel) (pa_cons (pv 0) (pa_cons (pe_bltn (v := .ty "bool") (u := .type "bool") (by rfl) mT_bool (by decide +kernel) rfl) pa_nil)))) (pe_one (pe_chain op_le op_le (pv 1) (pv 0) (pv 2)))))), ?_⟩
    cases th with
    | str z h => exact ⟨_, rfl, _, _, _, _, false, rfl, .ty "int", .base (.str z), kit_ty (by decide +kernel), _, rfl, iteF q⟩
    | int i =>
      refine ⟨_, rfl, _, _, _, _, true, rfl, .ty "int", .base (.int i), kit_ty (by decide +kernel), _, rfl, iteT ⟨_, rfl, _, _, _, _, false, rfl, .ty "bool", .base (.int i), kit_ty (by decide +kernel), _, rfl, _, rfl, iteT ?_⟩⟩
      have q0 : Q (.bl (decide (lo ≤ i) && decide (i ≤ hi))) H := q
      refine ⟨_, rfl, _, rfl, lo, i, rfl, rfl, _, rfl, ite2 (fun a1 => ?_) (fun a1 => ?_)⟩
      · rw [a1, Bool.true_and] at q0
        exact ⟨_, rfl, i, hi, rfl, rfl, q0⟩
      · rw [Bool.eq_false_iff.mpr a1, Bool.false_and] at q0
        exact q0
    | bl b => exact ⟨_, rfl, _, _, _, _, true, rfl, .ty "int", .base (.bl b), kit_ty (by decide +kernel), _, rfl, iteT ⟨_, rfl, _, _, _, _, true, rfl, .ty "bool", .base (.bl b), kit_ty (by decide +kernel), _, rfl, _, rfl, iteF q⟩⟩
    | non => exact ⟨_, rfl, _, _, _, _, false, rfl, .ty "int", .base .non, kit_ty (by decide +kernel), _, rfl, iteF q⟩
    | lst h => exact ⟨_, rfl, _, _, _, _, false, rfl, .ty "int", .base (.lst h), kit_ty (by decide +kernel), _, rfl, iteF q⟩
    | tup h => exact ⟨_, rfl, _, _, _, _, false, rfl, .ty "int", .base (.tup h), kit_ty (by decide +kernel), _, rfl, iteF q⟩
    | dct h => exact ⟨_, rfl, _, _, _, _, false, rfl, .ty "int", .base (.dK h), kit_ty (by decide +kernel), _, rfl, iteF q⟩
abbrev sEndsN : List Str := ["_law_thing"]
theorem sc_sEnds : FnScope sEndsN ["_law_thing"] (defScope sEnds) := ⟨rfl, rfl, rfl, by decide +kernel, rfl, by decide +kernel, by decide +kernel⟩
theorem ok_ends {f fN : Addr} {fd dN : FuncData} (F : Fun K "_law_ends" "_law_ends" sEnds f fd) (NM : DefT P w K mg base "_law_is_name" 1 fN dN ["_law_thing"] spOwn3) (mis : mg "isinstance" = none) (mT_str : mg "str" = none) : FnOk P w K mg base CX0 2 f fd ["_law_thing"] spEnds := by
  refine F.ok sc_sEnds (fun vs H Q E h => ?_) (fun cdv A outer s H vs Q E hr h => ?_)
  · obtain ⟨a, xs, z, y4, v, rfl, _⟩ := h
    rfl
  · obtain ⟨a, xs, z, y4, v, rfl, ha, x0, x4, x5, th, so, q⟩ := h
    have nd := sc_sEnds.nd
    refine ⟨_, pss_cons (ps_if (PW.pt (pw_and (pt_cmpR op_eq (pe_ix ix_tup (pv 0) pe_int (fun _ _ => rfl)) pe_str (nomark _)) (pw_and (pt_val (pe_callB call_isi (by rfl) mis (by decide +kernel) (pa_cons (pe_ix ix_tup (pv 0) pe_int (fun _ _ => rfl)) (pa_cons (pe_bltn (v := .ty "str") (u := .type "str") (by rfl) mT_str (by decide +kernel) rfl) pa_nil)))) (pw_and1 (pt_cmpR op_eq (pe_ix ix_tup (pv 0) pe_int (fun _ _ => rfl)) pe_str (nomark _)))))) (pss_one (ps_ret pe_bl)) pss_nil)
      (pss_one (ps_ret (pe_and (pe_call NM.ok hr (by rfl) NM.g NM.kp NM.b .nil pass0 (pa_cons (pe_ix ix_tup (pv 0) pe_int (fun _ _ => rfl)) pa_nil)) (pe_one (pe_cmpR op_ne (pe_ix ix_tup (pv 0) pe_int (fun _ _ => rfl)) (pe_ix ix_tup (pv 0) pe_int (fun _ _ => rfl)) (nomark _)))))), ?_⟩
    have sq : ∀ {H'}, Same H H' → SqT K H' a xs := fun s => SqT.of (s _ _ ha)
    have s0 : Same H H := fun _ _ h => h
    -- is it a name that differs
    have last : ¬ (z = "some" ∧ v = .str "") → ∀ H', Same H H' → ((nmV v = true → Q (.bl (!decide (v = .str y4))) H') ∧ (nmV v = false → Q (.bl false) H')) := fun n H' s' => by
      refine ⟨fun e => ?_, fun e => ?_⟩
      · have := q H' s'
        unfold endsB at this
        rw [if_neg n, e, Bool.true_and] at this
        exact this
      · have := q H' s'
        unfold endsB at this
        rw [if_neg n, e, Bool.false_and] at this
        exact this
    refine ⟨_, rfl, a, xs, 0, _, rfl, rfl, sq s0, atI_nat (j := 0) x0, rfl, _, rfl, ite2 (fun e1 => ?_) (fun e1 => ?_)⟩
    rotate_left
    · have k := last (fun y => e1 (decide_eq_true (congrArg V.str y.1)))
      refine ⟨_, rfl, a, xs, 5, _, rfl, rfl, sq s0, atI_nat (j := 5) x5, _, rfl, th, so, fun H' s' => ⟨_, rfl, ?_⟩⟩
      cases nv : nmV v with
      | false => exact iteF ((k H' s').2 nv)
      | true =>
        obtain ⟨y, vy, _⟩ := nm_str nv
        subst vy
        refine iteT ⟨_, rfl, a, xs, 4, _, rfl, rfl, sq s', atI_nat (j := 4) x4, _, rfl, a, xs, 5, _, rfl, rfl, sq s', atI_nat (j := 5) x5, rfl, ?_⟩
        have := (k H' s').1 nv
        rw [show decide (V.str y = V.str y4) = decide (V.str y4 = V.str y) from decide_eq_decide.mpr ⟨Eq.symm, Eq.symm⟩] at this
        exact this
    have ez : z = "some" := V.str.inj (of_decide_eq_true e1)
    obtain ⟨n, ty, m, st, _⟩ := th.ty (K := K)
    by_cases zs : n = "str"
    rotate_left
    · refine ⟨_, rfl, a, xs, 5, _, rfl, rfl, sq s0, atI_nat (j := 5) x5, _, _, _, _, false, rfl, .ty "str", ty, kit_ty (by rw [kit_str m, decide_eq_false zs]), _, rfl, iteF ?_⟩
      · have k := last (fun y => zs (st.mpr ⟨_, y.2⟩))
        refine ⟨_, rfl, a, xs, 5, _, rfl, rfl, sq s0, atI_nat (j := 5) x5, _, rfl, th, so, fun H' s' => ⟨_, rfl, ?_⟩⟩
        cases nv : nmV v with
        | false => exact iteF ((k H' s').2 nv)
        | true =>
          obtain ⟨y, vy, _⟩ := nm_str nv
          subst vy
          refine iteT ⟨_, rfl, a, xs, 4, _, rfl, rfl, sq s', atI_nat (j := 4) x4, _, rfl, a, xs, 5, _, rfl, rfl, sq s', atI_nat (j := 5) x5, rfl, ?_⟩
          have := (k H' s').1 nv
          rw [show decide (V.str y = V.str y4) = decide (V.str y4 = V.str y) from decide_eq_decide.mpr ⟨Eq.symm, Eq.symm⟩] at this
          exact this
    obtain ⟨y, rfl⟩ := st.mp zs
    refine ⟨_, rfl, a, xs, 5, _, rfl, rfl, sq s0, atI_nat (j := 5) x5, _, _, _, _, true, rfl, .ty "str", .base (.str y), kit_ty (by decide +kernel), _, rfl, iteT ?_⟩
    refine ⟨_, rfl, a, xs, 5, _, rfl, rfl, sq s0, atI_nat (j := 5) x5, rfl, _, rfl, ite2 (fun e2 => ?_) (fun e2 => ?_)⟩
    · have := q H s0
      unfold endsB at this
      rw [if_pos ⟨ez, of_decide_eq_true e2⟩] at this
      exact this
    · have k := last (fun y => e2 (decide_eq_true y.2))
      refine ⟨_, rfl, a, xs, 5, _, rfl, rfl, sq s0, atI_nat (j := 5) x5, _, rfl, th, so, fun H' s' => ⟨_, rfl, ?_⟩⟩
      cases nv : nmV (V.str y) with
      | false => exact iteF ((k H' s').2 nv)
      | true =>
        obtain ⟨y, vy, _⟩ := nm_str nv
        cases vy
        refine iteT ⟨_, rfl, a, xs, 4, _, rfl, rfl, sq s', atI_nat (j := 4) x4, _, rfl, a, xs, 5, _, rfl, rfl, sq s', atI_nat (j := 5) x5, rfl, ?_⟩
        have := (k H' s').1 nv
        rw [show decide (V.str y = V.str y4) = decide (V.str y4 = V.str y) from decide_eq_decide.mpr ⟨Eq.symm, Eq.symm⟩] at this
        exact this
end
section
variable {P : Program} {w : World} {K : PySem.W.Frag} {mg : Str → Option Value} {base : Heap}
theorem yyS {a : Str} : V.bl (decide (V.str a = V.str a)) = V.bl true := congrArg V.bl (decide_eq_true rfl)
theorem nnS {a b : Str} (h : a ≠ b) : V.bl (decide (V.str a = V.str b)) = V.bl false := congrArg V.bl (decide_eq_false fun z => h (V.str.inj z))
theorem cpow9 : CPow 10 9 := by show (0 : Int) ≤ 9 ∧ (9 : Int) ≤ 1000000 ∧ (10 : Int).natAbs < 2 ^ 64; decide
theorem e9 : (10 : Int) ^ (9 : Int).toNat = 1000000000 := by decide
abbrev sLIsEntryN : List Str := ["_law_thing", "_law_word"]
theorem sc_sLIsEntry : FnScope sLIsEntryN ["_law_thing"] (defScope sLIsEntry) := ⟨rfl, rfl, rfl, by decide +kernel, rfl, by decide +kernel, by decide +kernel⟩
set_option maxHeartbeats 2000000 in
theorem ok_lisE {f fN fW fE : Addr} {fd dN dW dE : FuncData} (F : Fun K "_law_is_entry" "_law_is_entry" sLIsEntry f fd) (NM : DefT P w K mg base "_law_is_name" 1 fN dN ["_law_thing"] spOwn3) (LW : DefT P w K mg base "_law_whole" 1 fW dW ["_law_thing", "_law_least", "_law_most"] spLWhole)
    (EN : DefT P w K mg base "_law_ends" 2 fE dE ["_law_thing"] spEnds) (mis : mg "isinstance" = none) (mT_tuple : mg "tuple" = none) (ml : mg "len" = none) (mT_str : mg "str" = none) : FnOk P w K mg base CX0 3 f fd ["_law_thing"] spLIsE := by
  refine F.ok sc_sLIsEntry (fun vs H Q E h => ?_) (fun cdv A outer s H vs Q E hr h => ?_)
  · obtain ⟨v, rfl, _⟩ := h
    rfl
  · obtain ⟨v, rfl, h⟩ := h
    have nd := sc_sLIsEntry.nd
    have hr1 : Room 1 _ := hr.mono (by decide)
    refine ⟨_, pss_cons (ps_if (PW.pt (pw_or (pt_not (pt_val (pe_callB call_isi (by rfl) mis (by decide +kernel) (pa_cons (pv 0) (pa_cons (pe_bltn (v := .ty "tuple") (u := .type "tuple") (by rfl) mT_tuple (by decide +kernel) rfl) pa_nil))))) (pw_or (pt_cmpR op_lt (pe_callB call_len_seq (by rfl) ml PySem.boot_len (pa_cons (pv 0) pa_nil)) pe_int (nomark _)) (pw_or1 (pt_not (pt_val (pe_callB call_isi (by rfl) mis (by decide +kernel) (pa_cons (pe_ix ix_tup (pv 0) pe_int (fun _ _ => rfl)) (pa_cons (pe_bltn (v := .ty "str") (u := .type "str") (by rfl) mT_str (by decide +kernel) rfl) pa_nil))))))))) (pss_one (ps_ret pe_bl)) pss_nil)
      (pss_cons (ps_if (PW.pt (pw_or (pt_not (pt_val (pe_call NM.ok hr1 (by rfl) NM.g NM.kp NM.b .nil pass0 (pa_cons (pe_ix ix_tup (pv 0) pe_int (fun _ _ => rfl)) pa_nil)))) (pw_or1 (pt_not (pt_val (pe_call LW.ok hr1 (by rfl) LW.g LW.kp LW.b .nil pass0 (pa_cons (pe_ix ix_tup (pv 0) pe_int (fun _ _ => rfl)) (pa_cons pe_int (pa_cons pe_int pa_nil))))))))) (pss_one (ps_ret pe_bl)) pss_nil)
      (pss_cons (ps_if (PW.pt (pw_or (pt_not (pt_val (pe_call NM.ok hr1 (by rfl) NM.g NM.kp NM.b .nil pass0 (pa_cons (pe_ix ix_tup (pv 0) pe_int (fun _ _ => rfl)) pa_nil)))) (pw_or1 (pt_not (pt_val (pe_call NM.ok hr1 (by rfl) NM.g NM.kp NM.b .nil pass0 (pa_cons (pe_ix ix_tup (pv 0) pe_int (fun _ _ => rfl)) pa_nil))))))) (pss_one (ps_ret pe_bl)) pss_nil)
      (pss_cons (ps_set (i := 1) nd rfl (Or.inl rfl) (pe_ix ix_tup (pv 0) pe_int (fun _ _ => rfl)))
      (pss_cons (ps_if (pt_cmpR op_eq (pv 1) pe_str (nomark _)) (pss_one (ps_ret (pe_and (pe_cmpR op_eq (pe_callB call_len_seq (by rfl) ml PySem.boot_len (pa_cons (pv 0) pa_nil)) pe_int (nomark _)) (pe_one (pe_cmpR op_ne (pe_ix ix_tup (pv 0) pe_int (fun _ _ => rfl)) (pe_ix ix_tup (pv 0) pe_int (fun _ _ => rfl)) (nomark _)))))) pss_nil)
      (pss_cons (ps_if (pt_cmpR op_eq (pv 1) pe_str (nomark _)) (pss_one (ps_ret (pe_cmpR op_eq (pe_callB call_len_seq (by rfl) ml PySem.boot_len (pa_cons (pv 0) pa_nil)) pe_int (nomark _)))) pss_nil)
      (pss_cons (ps_if (pt_cmpR op_eq (pv 1) pe_str (nomark _)) (pss_one (ps_ret (pe_and (pe_cmpR op_eq (pe_callB call_len_seq (by rfl) ml PySem.boot_len (pa_cons (pv 0) pa_nil)) pe_int (nomark _)) (pe_and (pe_call LW.ok hr1 (by rfl) LW.g LW.kp LW.b .nil pass0 (pa_cons (pe_ix ix_tup (pv 0) pe_int (fun _ _ => rfl)) (pa_cons pe_int (pa_cons (pe_op op_pow pe_int pe_int) pa_nil)))) (pe_one (pe_call LW.ok hr1 (by rfl) LW.g LW.kp LW.b .nil pass0 (pa_cons (pe_ix ix_tup (pv 0) pe_int (fun _ _ => rfl)) (pa_cons pe_int (pa_cons (pe_op op_pow pe_int pe_int) pa_nil))))))))) pss_nil)
      (pss_cons (ps_if (pt_cmpR op_eq (pv 1) pe_str (nomark _)) (pss_one (ps_ret (pe_and (pe_cmpR op_eq (pe_callB call_len_seq (by rfl) ml PySem.boot_len (pa_cons (pv 0) pa_nil)) pe_int (nomark _)) (pe_one (pe_call LW.ok hr1 (by rfl) LW.g LW.kp LW.b .nil pass0 (pa_cons (pe_ix ix_tup (pv 0) pe_int (fun _ _ => rfl)) (pa_cons pe_int (pa_cons (pe_op op_pow pe_int pe_int) pa_nil)))))))) pss_nil)
      (pss_cons (ps_if (pt_cmpR op_eq (pv 1) pe_str (nomark _)) (pss_one (ps_ret (pe_and (pe_cmpR op_eq (pe_callB call_len_seq (by rfl) ml PySem.boot_len (pa_cons (pv 0) pa_nil)) pe_int (nomark _)) (pe_and (pe_call EN.ok hr (by rfl) EN.g EN.kp EN.b .nil pass0 (pa_cons (pv 0) pa_nil)) (pe_one (pe_call LW.ok hr1 (by rfl) LW.g LW.kp LW.b .nil pass0 (pa_cons (pe_ix ix_tup (pv 0) pe_int (fun _ _ => rfl)) (pa_cons pe_int (pa_cons (pe_op op_pow pe_int pe_int) pa_nil))))))))) pss_nil)
      (pss_cons (ps_if (pt_cmpR op_eq (pv 1) pe_str (nomark _)) (pss_one (ps_ret (pe_and (pe_cmpR op_eq (pe_callB call_len_seq (by rfl) ml PySem.boot_len (pa_cons (pv 0) pa_nil)) pe_int (nomark _)) (pe_one (pe_call EN.ok hr (by rfl) EN.g EN.kp EN.b .nil pass0 (pa_cons (pv 0) pa_nil)))))) pss_nil)
      (pss_one (ps_ret (pe_and (pe_cmpR op_eq (pv 1) pe_str (nomark _)) (pe_and (pe_cmpR op_eq (pe_callB call_len_seq (by rfl) ml PySem.boot_len (pa_cons (pv 0) pa_nil)) pe_int (nomark _)) (pe_and (pe_call LW.ok hr1 (by rfl) LW.g LW.kp LW.b .nil pass0 (pa_cons (pe_ix ix_tup (pv 0) pe_int (fun _ _ => rfl)) (pa_cons pe_int (pa_cons (pe_op op_pow pe_int pe_int) pa_nil)))) (pe_one (pe_call NM.ok hr1 (by rfl) NM.g NM.kp NM.b .nil pass0 (pa_cons (pe_ix ix_tup (pv 0) pe_int (fun _ _ => rfl)) pa_nil))))))))))))))))), ?_⟩
    have s0 : Same H H := fun _ _ h => h
    rcases h with ⟨th, nt, q⟩ | ⟨a, xs, rfl, ha, lx, hT, q⟩
    · obtain ⟨n, ty, m, _, tt⟩ := th.ty (K := K)
      have nn : n ≠ "tuple" := fun z => by
        obtain ⟨a, xs, e, h2⟩ := tt.mp z
        exact nt a xs e h2
      exact ⟨_, rfl, _, _, _, _, false, rfl, .ty "tuple", ty, kit_ty (by rw [kit_tup m, decide_eq_false nn]), _, rfl, iteT (q H s0)⟩
    have fin : ∀ (b : Bool) (H' : Hp), Same H H' → (b = true ↔ IsE xs) → Q (.bl b) H' := fun b H' s' h => q b h H' s'
    clear q
    have no : ∀ (H' : Hp), Same H H' → ¬ IsE xs → Q (.bl false) H' := fun H' s' h => fin false H' s' ⟨(fun z => nomatch z), fun z => absurd z h⟩
    refine ⟨_, rfl, _, _, _, _, true, rfl, .ty "tuple", .base (.tup ha), kit_ty (by decide +kernel), _, rfl, iteF ?_⟩
    refine ⟨_, rfl, a, _, rfl, .inr (SqT.of ha), _, 5, rfl, rfl, _, rfl, ite2 (fun e1 => ?_) (fun e1 => ?_)⟩
    · have l5 := of_decide_eq_true e1
      exact no H s0 fun h => by have := isE_five h; omega
    have l5 : ¬ ((xs.length : Nat) : Int) < 5 := fun h => e1 (decide_eq_true h)
    match xs, ha, lx, hT, fin, no, l5 with
    | [], _, _, _, _, _, l5 => exact absurd (by simp only [List.length_cons, List.length_nil]; omega) l5
    | [_], _, _, _, _, _, l5 => exact absurd (by simp only [List.length_cons, List.length_nil]; omega) l5
    | [_, _], _, _, _, _, _, l5 => exact absurd (by simp only [List.length_cons, List.length_nil]; omega) l5
    | [_, _, _], _, _, _, _, _, l5 => exact absurd (by simp only [List.length_cons, List.length_nil]; omega) l5
    | [_, _, _, _], _, _, _, _, _, l5 => exact absurd (by simp only [List.length_cons, List.length_nil]; omega) l5
    | x0 :: p0 :: p1 :: p2 :: p3 :: rest, ha, lx, hT, fin, no, l5 =>
    have sq : ∀ {H'}, Same H H' → SqT K H' a (x0 :: p0 :: p1 :: p2 :: p3 :: rest) := fun s => SqT.of (s _ _ ha)
    have tg : ∀ {H' : Hp}, Same H H' → ∀ x ∈ x0 :: p0 :: p1 :: p2 :: p3 :: rest, Thg H' x := fun s x hx => (hT x hx).1.on fun a' o' _ e' _ => s _ _ e'
    have m0 : x0 ∈ x0 :: p0 :: p1 :: p2 :: p3 :: rest := List.mem_cons_self
    have m1 : p0 ∈ x0 :: p0 :: p1 :: p2 :: p3 :: rest := List.mem_cons_of_mem _ List.mem_cons_self
    have m2 : p1 ∈ x0 :: p0 :: p1 :: p2 :: p3 :: rest := List.mem_cons_of_mem _ (List.mem_cons_of_mem _ List.mem_cons_self)
    have m3 : p2 ∈ x0 :: p0 :: p1 :: p2 :: p3 :: rest := List.mem_cons_of_mem _ (List.mem_cons_of_mem _ (List.mem_cons_of_mem _ List.mem_cons_self))
    have m4 : p3 ∈ x0 :: p0 :: p1 :: p2 :: p3 :: rest := List.mem_cons_of_mem _ (List.mem_cons_of_mem _ (List.mem_cons_of_mem _ (List.mem_cons_of_mem _ List.mem_cons_self)))
    obtain ⟨n0, ty0, mm0, st0, _⟩ := (hT x0 m0).1.ty (K := K)
    by_cases zs : n0 = "str"
    rotate_left
    · refine ⟨_, rfl, a, _, 0, _, rfl, rfl, sq s0, atI_nat (j := 0) rfl, _, _, _, _, false, rfl, .ty "str", ty0, kit_ty (by rw [kit_str mm0, decide_eq_false zs]), _, rfl, iteT (no H s0 fun h => ?_)⟩
      obtain ⟨f, e⟩ := isE_word h
      exact zs (st0.mpr ⟨_, e⟩)
    obtain ⟨z, rfl⟩ := st0.mp zs
    refine ⟨_, rfl, a, _, 0, _, rfl, rfl, sq s0, atI_nat (j := 0) rfl, _, _, _, _, true, rfl, .ty "str", ty0, kit_ty (by rw [kit_str mm0, decide_eq_true zs]), _, rfl, iteF ?_⟩
    -- the name, the moment
    refine ⟨_, rfl, a, _, 1, _, rfl, rfl, sq s0, atI_nat (j := 1) rfl, _, rfl, (hT p0 m1).1, (hT p0 m1).2, fun H1 s1 => ⟨_, rfl, ?_⟩⟩
    cases h0 : nmV p0 with
    | false => exact iteT (no H1 s1 fun h => by rw [(isE_heads h).1] at h0; exact nomatch h0)
    | true =>
    refine iteF ⟨_, rfl, a, _, 2, _, rfl, rfl, sq s1, atI_nat (j := 2) rfl, _, 0, 9999, rfl, tg s1 p1 m2, _, rfl, ?_⟩
    cases h1 : whB 0 9999 p1 with
    | false => exact iteT (no H1 s1 fun h => by rw [(isE_heads h).2.1] at h1; exact nomatch h1)
    | true =>
    refine iteF ⟨_, rfl, a, _, 3, _, rfl, rfl, sq s1, atI_nat (j := 3) rfl, _, rfl, tg s1 p2 m3, (hT p2 m3).2, fun H2 s2 => ⟨_, rfl, ?_⟩⟩
    have s12 := s1.trans s2
    cases h2 : nmV p2 with
    | false => exact iteT (no H2 s12 fun h => by rw [(isE_heads h).2.2.1] at h2; exact nomatch h2)
    | true =>
    refine iteF ⟨_, rfl, a, _, 4, _, rfl, rfl, sq s12, atI_nat (j := 4) rfl, _, rfl, tg s12 p3 m4, (hT p3 m4).2, fun H3 s3 => ⟨_, rfl, ?_⟩⟩
    have s13 := s12.trans s3
    cases h3 : nmV p3 with
    | false => exact iteT (no H3 s13 fun h => by rw [(isE_heads h).2.2.2] at h3; exact nomatch h3)
    | true =>
    obtain ⟨y3, rfl, ny3⟩ := nm_str h3
    have hTT : ∀ v ∈ p0 :: p1 :: p2 :: V.str y3 :: rest, Thg H v := fun v hv => (hT v (List.mem_cons_of_mem _ hv)).1
    have lenR : ∀ {n : Nat}, decide (V.int ((((V.str z) :: p0 :: p1 :: p2 :: V.str y3 :: rest).length : Nat) : Int) = V.int ((n + 5 : Nat) : Int)) = true → rest.length = n := fun {n} h => by
      have := V.int.inj (of_decide_eq_true h)
      simp only [List.length_cons] at this
      omega
    refine iteF ⟨_, rfl, a, _, 0, _, rfl, rfl, sq s13, atI_nat (j := 0) rfl, ?_⟩
    by_cases w1 : z = "swap"
    · subst w1
      have key := isE_swap h0 h1 h2 h3 hTT
      refine ⟨_, rfl, rfl, true, yyS, iteT ⟨_, rfl, a, _, rfl, .inr (sq s13), rfl, _, rfl, ite2 (fun l => ?_) (fun l => ?_)⟩⟩
      · have r : rest = [] := List.eq_nil_of_length_eq_zero (lenR (n := 0) l)
        subst r
        obtain ⟨y2, rfl, _⟩ := nm_str h2
        refine ⟨_, rfl, a, _, 3, _, rfl, rfl, sq s13, atI_nat (j := 3) rfl, _, rfl, a, _, 4, _, rfl, rfl, sq s13, atI_nat (j := 4) rfl, rfl, fin _ H3 s13 ?_⟩
        rw [key]
        simp
      · exact no H3 s13 fun h => absurd (by rw [(key.mp h).1]; exact decide_eq_true rfl) l
    refine ⟨_, rfl, rfl, false, nnS w1, iteF ?_⟩
    by_cases w2 : z = "look"
    · subst w2
      have key := isE_look h0 h1 h2 h3 hTT
      refine ⟨_, rfl, rfl, true, yyS, iteT ⟨_, rfl, a, _, rfl, .inr (sq s13), rfl, fin _ H3 s13 ?_⟩⟩
      rw [key]
      exact ⟨fun h => List.eq_nil_of_length_eq_zero (lenR (n := 0) h), fun h => by rw [h]; exact decide_eq_true rfl⟩
    refine ⟨_, rfl, rfl, false, nnS w2, iteF ?_⟩
    have two : rest.length = 2 → ∃ x y, rest = [x, y] := fun h => by
      match rest, h with
      | [x, y], _ => exact ⟨x, y, rfl⟩
    have one : rest.length = 1 → ∃ x, rest = [x] := fun h => by
      match rest, h with
      | [x], _ => exact ⟨x, rfl⟩
    by_cases w3 : z = "come"
    · subst w3
      have key := isE_come h0 h1 h2 h3 hTT
      refine ⟨_, rfl, rfl, true, yyS, iteT ⟨_, rfl, a, _, rfl, .inr (sq s13), rfl, _, rfl, ite2 (fun l => ?_) (fun l => ?_)⟩⟩
      · obtain ⟨x, y, rfl⟩ := two (lenR (n := 2) l)
        refine ⟨_, rfl, a, _, 5, _, rfl, rfl, sq s13, atI_nat (j := 5) rfl, 10, 9, rfl, rfl, cpow9, _, 1, _, rfl, tg s13 x (by simp), _, rfl, ?_⟩
        cases hx : whB 1 (10 ^ (9 : Int).toNat) x with
        | false =>
          rw [e9] at hx
          refine iteF (no H3 s13 fun h => ?_)
          obtain ⟨x', y', e, k1, k2⟩ := key.mp h
          cases e
          rw [hx] at k1
          exact nomatch k1
        | true =>
          rw [e9] at hx
          refine iteT ⟨_, rfl, a, _, 6, _, rfl, rfl, sq s13, atI_nat (j := 6) rfl, 10, 9, rfl, rfl, cpow9, _, 0, _, rfl, tg s13 y (by simp), fin _ H3 s13 ?_⟩
          rw [key, e9]
          exact ⟨fun h => ⟨x, y, rfl, hx, h⟩, fun ⟨x', y', e, _, k2⟩ => by cases e; exact k2⟩
      · exact no H3 s13 fun h => absurd (by obtain ⟨x, y, e, _⟩ := key.mp h; rw [e]; exact decide_eq_true rfl) l
    refine ⟨_, rfl, rfl, false, nnS w3, iteF ?_⟩
    by_cases w4 : z = "go"
    · subst w4
      have key := isE_go h0 h1 h2 h3 hTT
      refine ⟨_, rfl, rfl, true, yyS, iteT ⟨_, rfl, a, _, rfl, .inr (sq s13), rfl, _, rfl, ite2 (fun l => ?_) (fun l => ?_)⟩⟩
      · obtain ⟨x, rfl⟩ := one (lenR (n := 1) l)
        refine ⟨_, rfl, a, _, 5, _, rfl, rfl, sq s13, atI_nat (j := 5) rfl, 10, 9, rfl, rfl, cpow9, _, 1, _, rfl, tg s13 x (by simp), fin _ H3 s13 ?_⟩
        rw [key, e9]
        exact ⟨fun h => ⟨x, rfl, h⟩, fun ⟨x', e, k2⟩ => by cases e; exact k2⟩
      · exact no H3 s13 fun h => absurd (by obtain ⟨x, e, _⟩ := key.mp h; rw [e]; exact decide_eq_true rfl) l
    refine ⟨_, rfl, rfl, false, nnS w4, iteF ?_⟩
    by_cases w5 : z = "move"
    · subst w5
      have key := isE_move h0 h1 h2 h3 hTT rfl
      refine ⟨_, rfl, rfl, true, yyS, iteT ⟨_, rfl, a, _, rfl, .inr (sq s13), rfl, _, rfl, ite2 (fun l => ?_) (fun l => ?_)⟩⟩
      · obtain ⟨x, y, rfl⟩ := two (lenR (n := 2) l)
        refine ⟨_, rfl, a, _, _, y3, x, rfl, s13 _ _ ha, rfl, rfl, rfl, tg s13 x (by simp), (hT x (by simp)).2, fun H4 s4 => ⟨_, rfl, ?_⟩⟩
        have s14 := s13.trans s4
        cases hx : endsB "move" y3 x with
        | false =>
          refine iteF (no H4 s14 fun h => ?_)
          obtain ⟨x', y', e, k1, k2⟩ := key.mp h
          cases e
          rw [hx] at k1
          exact nomatch k1
        | true =>
          refine iteT ⟨_, rfl, a, _, 6, _, rfl, rfl, sq s14, atI_nat (j := 6) rfl, 10, 9, rfl, rfl, cpow9, _, 1, _, rfl, tg s14 y (by simp), fin _ H4 s14 ?_⟩
          rw [key, e9]
          exact ⟨fun h => ⟨x, y, rfl, hx, h⟩, fun ⟨x', y', e, _, k2⟩ => by cases e; exact k2⟩
      · exact no H3 s13 fun h => absurd (by obtain ⟨x, y, e, _⟩ := key.mp h; rw [e]; exact decide_eq_true rfl) l
    refine ⟨_, rfl, rfl, false, nnS w5, iteF ?_⟩
    by_cases w6 : z = "some"
    · subst w6
      have key := isE_some h0 h1 h2 h3 hTT rfl
      refine ⟨_, rfl, rfl, true, yyS, iteT ⟨_, rfl, a, _, rfl, .inr (sq s13), rfl, _, rfl, ite2 (fun l => ?_) (fun l => ?_)⟩⟩
      · obtain ⟨x, rfl⟩ := one (lenR (n := 1) l)
        refine ⟨_, rfl, a, _, _, y3, x, rfl, s13 _ _ ha, rfl, rfl, rfl, tg s13 x (by simp), (hT x (by simp)).2, fun H4 s4 => fin _ H4 (s13.trans s4) ?_⟩
        rw [key]
        exact ⟨fun h => ⟨x, rfl, h⟩, fun ⟨x', e, k2⟩ => by cases e; exact k2⟩
      · exact no H3 s13 fun h => absurd (by obtain ⟨x, e, _⟩ := key.mp h; rw [e]; exact decide_eq_true rfl) l
    refine ⟨_, rfl, rfl, false, nnS w6, iteF ?_⟩
    by_cases w7 : z = "count"
    rotate_left
    · refine ⟨_, rfl, rfl, _, rfl, ite2 (fun e => absurd (V.str.inj (of_decide_eq_true e)) w7) (fun e => no H3 s13 fun h => ?_)⟩
      obtain ⟨f, ef⟩ := isE_word h
      have hw := f.word_in
      rw [← V.str.inj ef] at hw
      simp only [words7, List.mem_cons, List.not_mem_nil, or_false] at hw
      rcases hw with h | h | h | h | h | h | h
      · exact absurd h w3
      · exact absurd h w4
      · exact absurd h w5
      · exact absurd h w6
      · exact absurd h w1
      · exact absurd h w7
      · exact absurd h w2
    subst w7
    have key := isE_count h0 h1 h2 h3 hTT
    refine ⟨_, rfl, rfl, true, yyS, iteT ⟨_, rfl, a, _, rfl, .inr (sq s13), rfl, _, rfl, ite2 (fun l => ?_) (fun l => ?_)⟩⟩
    · obtain ⟨x, y, rfl⟩ := two (lenR (n := 2) l)
      refine ⟨_, rfl, a, _, 5, _, rfl, rfl, sq s13, atI_nat (j := 5) rfl, 10, 9, rfl, rfl, cpow9, _, 0, _, rfl, tg s13 x (by simp), _, rfl, ?_⟩
      cases hx : whB 0 (10 ^ (9 : Int).toNat) x with
      | false =>
        rw [e9] at hx
        refine iteF (no H3 s13 fun h => ?_)
        obtain ⟨x', y', e, k1, k2⟩ := key.mp h
        cases e
        rw [hx] at k1
        exact nomatch k1
      | true =>
        rw [e9] at hx
        refine iteT ⟨_, rfl, a, _, 6, _, rfl, rfl, sq s13, atI_nat (j := 6) rfl, _, rfl, tg s13 y (by simp), (hT y (by simp)).2, fun H4 s4 => fin _ H4 (s13.trans s4) ?_⟩
        rw [key]
        exact ⟨fun h => ⟨x, y, rfl, hx, h⟩, fun ⟨x', y', e, _, k2⟩ => by cases e; exact k2⟩
    · exact no H3 s13 fun h => absurd (by obtain ⟨x, y, e, _⟩ := key.mp h; rw [e]; exact decide_eq_true rfl) l
end
/-! ### entries read -/
theorem lc_zipLT {K : PySem.W.Frag} {a b : Addr} {xs ys : List V} {g : TG} {tt : TT} {te : TE} {vs : List Nat} {σ : L2.St} {H1 : Hp} {D : Addr} {Qd : Hp → Prop} (hlen : xs.length = ys.length) (Pv : Nat → Hp → Prop) (h0 : Pv 0 (upd H1 D (.lst []))) (hl : ∀ i H, i ≤ xs.length → Pv i H → SqL K H a xs ∧ SqT K H b ys)
    (hs : ∀ i x y T H, xs[i]? = some x → ys[i]? = some y → Pv i H → H T = none → g (.ref T) (wipe σ vs) (upd H T (.tup [x, y])) fun σ2 H2 => wipe σ2 vs = wipe σ vs ∧ tt σ2 H2 fun b H3 =>
      if b = true then te σ2 H3 fun y H4 => ∃ acc, H4 D = some (.lst acc) ∧ acc.length < sizeLine ∧ Pv (i + 1) (upd H4 D (.lst (acc ++ [y]))) else Pv (i + 1) H3) (hd : ∀ H, Pv xs.length H → Qd H) :
    ∃ W : Nat → Nat → Hp → Prop, (∃ m, W 0 m (upd H1 D (.lst []))) ∧ ∀ i m H, W i m H →
      ((ItzLT K a b).stop i H ∧ Qd H) ∨ ((ItzLT K a b).go i H ∧ ∃ Nx : Hp → Prop, (∀ H', Nx H' → ∃ m', m' < m ∧ W (i + 1) m' H') ∧ ∀ x H', (ItzLT K a b).yld i H x H' → g x (wipe σ vs) H' fun σ2 H2 => wipe σ2 vs = wipe σ vs ∧ tt σ2 H2 fun b H3 =>
        if b = true then te σ2 H3 fun y H4 => ∃ acc, H4 D = some (.lst acc) ∧ acc.length < sizeLine ∧ Nx (upd H4 D (.lst (acc ++ [y]))) else Nx H3) := by
  refine ⟨fun i m H => m = xs.length - i ∧ i ≤ xs.length ∧ Pv i H, ⟨_, rfl, Nat.zero_le _, h0⟩, ?_⟩
  rintro i m H ⟨rfl, hi, p⟩
  obtain ⟨qa, qb⟩ := hl i H hi p
  by_cases lt : i < xs.length
  · refine .inr ⟨⟨xs, ys, _, _, qa, qb, List.getElem?_eq_getElem lt, List.getElem?_eq_getElem (by omega)⟩, Pv (i + 1), fun H' p' => ⟨xs.length - (i + 1), by omega, rfl, lt, p'⟩, fun v H' y => ?_⟩
    obtain ⟨T, x', y', rfl, nT, rfl, f1, f2⟩ := y
    exact hs i x' y' T H (f1 xs qa) (f2 ys qb) p nT
  · have e : i = xs.length := by omega
    subst e
    exact .inl ⟨⟨xs, ys, qa, qb, hlen, rfl⟩, hd H p⟩
/-- a word read as a part of its sort -/
def partInV (x s : Str) : V := if s = "name" then .str x else if s ≠ "end" then numV x else if x = "-" then .str "" else if x = "" then .non else .str x
theorem partIn_back {v : V} {x : Str} (h : PartOk v) (hx : x ∈ sorts6) (f : fitB v x = true) : partInV (partT v) x = v := by
  have nn : ∀ {y : Str}, nmV (.str y) = true → y ≠ "" ∧ y ≠ "-" := fun {y} z => by
    have z' : nameB y = true := z
    refine ⟨name_ne z', fun e => ?_⟩
    rw [e] at z'
    revert z'
    decide +kernel
  have nmstr : nmV v = true → ∃ y, v = .str y := fun z => by
    rcases h with ⟨y, rfl, _⟩ | ⟨i, rfl, _⟩
    · exact ⟨y, rfl⟩
    · exact absurd z (by unfold nmV; simp)
  unfold fitB at f
  unfold partInV
  by_cases e1 : x = "name"
  · rw [if_pos e1] at f ⊢
    obtain ⟨y, rfl⟩ := nmstr f
    show V.str (if y = "" then "-" else y) = _
    rw [if_neg (nn f).1]
  · rw [if_neg e1] at f ⊢
    by_cases e2 : x = "end"
    · rw [if_pos e2] at f
      rw [if_neg (fun z => z e2)]
      rcases Bool.or_eq_true _ _ |>.mp f with z | z
      · rw [of_decide_eq_true z]
        rfl
      · obtain ⟨y, rfl⟩ := nmstr z
        have p : partT (.str y) = y := if_neg (nn z).1
        rw [p, if_neg (nn z).2, if_neg (nn z).1]
    · rw [if_neg e2] at f
      rw [if_pos e2]
      rcases h with ⟨y, rfl, _⟩ | ⟨i, rfl, h0, h1⟩
      · exact absurd f (by unfold inB; simp)
      · exact numV_int h0 h1
def spPartIn (T : Addr) : Sp := fun vs H Q _ => ∃ x s : Str, vs = [.str x, .str s] ∧ x.length ≤ sizeLine ∧ GxR.TabG H T ∧ ∀ H', GxR.Tabbed T H H' → Q (partInV x s) H'
section
variable {P : Program} {w : World} {K : PySem.W.Frag} {mg : Str → Option Value} {base : Heap}
abbrev sPartInN : List Str := ["word", "sort"]
theorem sc_sPartIn : FnScope sPartInN ["word", "sort"] (defScope sPartIn) := ⟨rfl, rfl, rfl, by decide +kernel, rfl, by decide +kernel, by decide +kernel⟩
theorem ok_partIn {f fN T : Addr} {fd dN : FuncData} (F : Fun K "part_in" "part_in" sPartIn f fd) (NO : DefT P w K mg base "number_of" 1 fN dN ["word"] (spNumber T)) (mO : ∃ t, mg "OUTSIDE" = some (.str "-" t)) : FnOk P w K mg base CX0 2 f fd ["word", "sort"] (spPartIn T) := by
  refine F.ok sc_sPartIn (fun vs H Q E h => ?_) (fun cdv A outer s H vs Q E hr h => ?_)
  · obtain ⟨x, s, rfl, _⟩ := h
    rfl
  · obtain ⟨x, s, rfl, hz, tg, q⟩ := h
    obtain ⟨tO, mO⟩ := mO
    have nd := sc_sPartIn.nd
    refine ⟨_, pss_cons (ps_if (pt_cmpR op_eq (pv 1) pe_str (nomark _)) (pss_one (ps_ret (pv 0))) pss_nil)
      (pss_cons (ps_if (pt_cmpR op_ne (pv 1) pe_str (nomark _)) (pss_one (ps_ret (pe_call NO.ok hr (by rfl) NO.g NO.kp NO.b .nil pass0 (pa_cons (pv 0) pa_nil)))) pss_nil)
      (pss_cons (ps_if (pt_cmpR op_eq (pv 0) (pe_glob (v := .str "-") rfl mO ⟨_, rfl⟩) (nomark _)) (pss_one (ps_ret pe_str)) pss_nil)
      (pss_one (ps_ret (pe_ifExp (pt_cmpR op_eq (pv 0) pe_str (nomark _)) pe_non (pv 0)))))), ?_⟩
    have q0 := q H ⟨tg, fun _ _ => rfl⟩
    refine ⟨_, rfl, rfl, _, rfl, ?_⟩
    unfold partInV at q q0
    by_cases e1 : s = "name"
    · rw [decide_eq_true (congrArg V.str e1)]
      rw [if_pos e1] at q0
      exact iteT ⟨_, rfl, q0⟩
    rw [decide_eq_false fun z => e1 (V.str.inj z)]
    rw [if_neg e1] at q q0
    refine iteF ⟨_, rfl, rfl, _, rfl, ?_⟩
    by_cases e2 : s = "end"
    · rw [decide_eq_true (congrArg V.str e2)]
      rw [if_neg (fun z => z e2)] at q q0
      refine iteF ⟨_, rfl, rfl, _, rfl, ?_⟩
      by_cases e3 : x = "-"
      · rw [decide_eq_true (congrArg V.str e3)]
        rw [if_pos e3] at q0
        exact iteT q0
      rw [decide_eq_false fun z => e3 (V.str.inj z)]
      rw [if_neg e3] at q0
      refine iteF ⟨_, rfl, rfl, _, rfl, ?_⟩
      by_cases e4 : x = ""
      · rw [decide_eq_true (congrArg V.str e4)]
        rw [if_pos e4] at q0
        exact iteT q0
      rw [decide_eq_false fun z => e4 (V.str.inj z)]
      rw [if_neg e4] at q0
      exact iteF ⟨_, rfl, q0⟩
    · rw [decide_eq_false fun z => e2 (V.str.inj z)]
      rw [if_pos e2] at q
      exact iteT ⟨_, rfl, x, rfl, hz, tg, q⟩
end
/-! ### texts of entries are told by their entries -/
theorem last_cases {α : Type} (xs : List α) : xs = [] ∨ ∃ us u, xs = us ++ [u] := by
  cases h : xs.reverse with
  | nil => exact .inl (List.reverse_eq_nil_iff.mp h)
  | cons u r =>
    refine .inr ⟨r.reverse, u, ?_⟩
    have := congrArg List.reverse h
    rw [List.reverse_reverse, List.reverse_cons] at this
    exact this
theorem toDigits_snoc {m d : Nat} (hm : 0 < m) (hd : d < 10) : Nat.toDigits 10 (10 * m + d) = Nat.toDigits 10 m ++ [Nat.digitChar d] := by
  have t := Nat.toDigits_append_toDigits (b := 10) (n := m) (d := d) (by decide) hm hd
  rw [← t, Nat.toDigits_of_lt_base hd]
theorem digit_char : ∀ c : Nat, 48 ≤ c → c ≤ 57 → (Nat.digitChar (c - 48)).toNat = c := by
  intro c h1 h2
  have all : ∀ d : Nat, d < 10 → (Nat.digitChar d).toNat = d + 48 := by decide
  rw [all (c - 48) (by omega)]
  omega
theorem digits_back : ∀ (cs : List Nat), NumText.AllDigits cs → ∀ a r, cs = a :: r → (a ≠ 48 ∨ r = []) → (Nat.toDigits 10 (NumText.digitsVal cs)).map Char.toNat = cs := by
  intro cs
  induction h : cs.length using Nat.strongRecOn generalizing cs with
  | _ n ih =>
    intro ad a r e z
    rcases last_cases cs with rfl | ⟨us, u, rfl⟩
    · exact absurd e (by simp)
    · have hu : 48 ≤ u ∧ u ≤ 57 := ad u (by simp)
      have val : NumText.digitsVal (us ++ [u]) = NumText.digitsVal us * 10 + (u - 48) := by
        unfold NumText.digitsVal
        rw [List.foldl_append]
        rfl
      cases us with
      | nil =>
        rw [val]
        show List.map Char.toNat (Nat.toDigits 10 (0 * 10 + (u - 48))) = [u]
        rw [Nat.zero_mul, Nat.zero_add, Nat.toDigits_of_lt_base (by omega : u - 48 < 10)]
        show [(Nat.digitChar (u - 48)).toNat] = [u]
        rw [digit_char u hu.1 hu.2]
      | cons b us =>
        have eb : b = a := (List.cons.inj e).1
        have ne : a ≠ 48 := by
          rcases z with z | z
          · exact z
          · rw [z] at e
            have := congrArg List.length e
            simp at this
        have adu : NumText.AllDigits (b :: us) := fun c hc => ad c (List.mem_append_left _ hc)
        have prev := ih (b :: us).length (by rw [← h]; simp) (b :: us) rfl adu b us rfl (.inl (eb ▸ ne))
        have pos : 0 < NumText.digitsVal (b :: us) := by
          cases e0 : NumText.digitsVal (b :: us) with
          | succ k => exact Nat.succ_pos k
          | zero =>
            rw [e0] at prev
            have : (Nat.toDigits 10 0).map Char.toNat = [48] := by decide
            rw [this] at prev
            have : b = 48 := (List.cons.inj prev).1.symm
            exact absurd (eb ▸ this) ne
        rw [val, Nat.mul_comm, toDigits_snoc pos (by omega), List.map_append, prev]
        show _ ++ [(Nat.digitChar (u - 48)).toNat] = _
        rw [digit_char u hu.1 hu.2]
theorem starts_zero {x : Str} {r : List Nat} (e : x.cps.toList = 48 :: r) : Txt.startswith x "0" = true := by
  have l1 : ("0" : Str).length = 1 := by decide +kernel
  have l2 : ("0" : Str).cps.toList = [48] := by decide +kernel
  have lx : x.length = x.cps.toList.length := by simp [Str.length]
  unfold Txt.startswith
  rw [Bool.and_eq_true]
  refine ⟨decide_eq_true (by rw [l1, lx, e]; simp), ?_⟩
  unfold Builtin.Str.subAt
  have : x.cps.extract 0 (0 + ("0" : Str).length) = ("0" : Str).cps := by
    apply Array.ext'
    rw [Array.toList_extract, e, l1, l2]
    rfl
  rw [this]
  exact beq_self_eq_true _
/-- a word that is a number is that number's text -/
theorem numT_back {x : Str} (h : numOk x = true) : numT ((NumText.digitsVal x.cps.toList : Nat) : Int) = x := by
  unfold numOk at h
  rw [Bool.and_eq_true, Bool.and_eq_true, Bool.and_eq_true] at h
  obtain ⟨⟨⟨h1, _⟩, h3⟩, h4⟩ := h
  have ad : NumText.AllDigits x.cps.toList := fun c hc => (figB_iff c).mp (List.all_eq_true.mp h3 c hc)
  have lx : x.length = x.cps.toList.length := by simp [Str.length]
  have h1 := of_decide_eq_true h1
  apply str_ext
  rw [PySem.W.KIN.signs_num]
  cases e : x.cps.toList with
  | nil => rw [lx, e] at h1; exact absurd h1 (by decide)
  | cons a r =>
    rw [← e]
    refine digits_back _ ad a r e ?_
    by_cases z : a = 48
    · right
      rw [z] at e
      have st := starts_zero e
      rw [st] at h4
      have x0 : x = "0" := by
        by_cases q : x = "0"
        · exact q
        · rw [decide_eq_false q] at h4
          exact absurd h4 (by decide)
      have l2 : ("0" : Str).cps.toList = [48] := by decide +kernel
      rw [x0, l2] at e
      exact (List.cons.inj e).2.symm
    · exact .inl z
theorem numV_back {x : Str} {i : Int} (h : numV x = .int i) : numT i = x ∧ 0 ≤ i := by
  unfold numV at h
  by_cases z : numOk x = true
  · rw [if_pos z] at h
    rw [← V.int.inj h]
    exact ⟨numT_back z, Int.natCast_nonneg _⟩
  · rw [if_neg z] at h
    exact V.noConfusion h
/-- what is read as a fitting part is written as that word -/
theorem partIn_word {x s : Str} (hs : s ∈ sorts6) (f : fitB (partInV x s) s = true) : partT (partInV x s) = x ∧ PartOk (partInV x s) := by
  unfold fitB at f
  unfold partInV at f ⊢
  have nme : ∀ {y : Str}, nmV (.str y) = true → partT (.str y) = y ∧ PartOk (.str y) := fun {y} z => ⟨if_neg (name_ne z), .inl ⟨y, rfl, .inr (.inl z)⟩⟩
  by_cases e1 : s = "name"
  · rw [if_pos e1] at f ⊢
    rw [if_pos e1] at f
    exact nme f
  · rw [if_neg e1] at f ⊢
    rw [if_neg e1] at f
    by_cases e2 : s = "end"
    · rw [if_pos e2] at f
      rw [if_neg (fun z => z e2)] at f ⊢
      by_cases e3 : x = "-"
      · rw [if_pos e3]
        exact ⟨by rw [e3]; rfl, .inl ⟨"", rfl, .inl rfl⟩⟩
      · rw [if_neg e3] at f ⊢
        by_cases e4 : x = ""
        · rw [if_pos e4] at f
          exact absurd f (by decide)
        · rw [if_neg e4] at f ⊢
          rcases Bool.or_eq_true _ _ |>.mp f with z | z
          · exact absurd (V.str.inj (of_decide_eq_true z)) e4
          · exact nme z
    · rw [if_neg e2] at f
      rw [if_pos e2] at f ⊢
      cases e : numV x with
      | int i =>
        have b := numV_back e
        rw [e] at f
        refine ⟨b.1, .inr ⟨i, rfl, b.2, ?_⟩⟩
        unfold inB at f
        have f' : (decide ((bnd s).1 ≤ i) && decide (i ≤ (bnd s).2)) = true := f
        rw [Bool.and_eq_true] at f'
        have le := of_decide_eq_true f'.2
        have : (bnd s).2 ≤ 1000000000 := by
          unfold bnd
          split
          · decide
          · split <;> decide
        omega
      | _ => rw [e] at f; exact absurd f (by unfold inB; simp)
/-! ### any text read as an entry -/
theorem fine_parts {e : Ent} (h : e.Fine) : ∀ v ∈ e.vals, PartOk v := by
  intro v hv
  rcases List.mem_cons.mp hv with rfl | hv
  · exact .inl ⟨_, rfl, .inr (.inr (Ent.word_in e))⟩
  obtain ⟨i, hi⟩ := List.mem_iff_getElem?.mp (show v ∈ e.parts from hv)
  have li := (List.getElem?_eq_some_iff.mp hi).1
  have ls : i < e.sorts.length := by rw [← e.len_parts]; exact li
  have hs : e.sorts[i]? = some e.sorts[i] := List.getElem?_eq_getElem ls
  obtain ⟨_, f⟩ := h.fit i v _ hi hs
  generalize e.sorts[i] = s at f
  unfold fitB at f
  have nm : nmV v = true → PartOk v := fun z => by
    cases v with
    | str y => exact .inl ⟨y, rfl, .inr (.inl z)⟩
    | _ => exact absurd z (by unfold nmV; simp)
  by_cases e1 : s = "name"
  · rw [if_pos e1] at f
    exact nm f
  · rw [if_neg e1] at f
    by_cases e2 : s = "end"
    · rw [if_pos e2] at f
      rcases Bool.or_eq_true _ _ |>.mp f with z | z
      · exact .inl ⟨"", of_decide_eq_true z, .inl rfl⟩
      · exact nm z
    · rw [if_neg e2] at f
      cases v with
      | int i =>
        have f' : (decide ((bnd s).1 ≤ i) && decide (i ≤ (bnd s).2)) = true := f
        rw [Bool.and_eq_true] at f'
        have lo := of_decide_eq_true f'.1
        have hi := of_decide_eq_true f'.2
        have b : 0 ≤ (bnd s).1 ∧ (bnd s).2 ≤ 1000000000 := by
          unfold bnd
          split
          · decide
          · split <;> decide
        exact .inr ⟨i, rfl, by omega, by omega⟩
      | _ => exact absurd f (by unfold inB; simp)
theorem words_ent {e : Ent} (h : e.Fine) : Txt.split (entT e) " " = e.vals.map partT :=
  split_blank (by unfold Ent.vals; simp) fun y hy => by
    obtain ⟨v, hv, rfl⟩ := List.mem_map.mp hy
    exact (part_cln (fine_parts h v hv)).1
theorem ent_of_words {e : Ent} {x : Str} (h : Txt.split x " " = e.vals.map partT) : x = entT e := by
  have j := StrLaws.join_split x " "
  rw [h, ← TL.join_eq] at j
  exact j.symm
theorem word_part (e : Ent) : partT (.str e.word) = e.word := if_neg fun z => by
  have := word_short (Ent.word_in e)
  rw [z] at this
  revert this
  decide +kernel
theorem head_word {e : Ent} {x w0 : Str} {ws : List Str} (h : e.Fine) (hx : x = entT e) (hw : Txt.split x " " = w0 :: ws) : w0 = e.word ∧ ws = e.parts.map partT := by
  rw [hx, words_ent h] at hw
  have : e.vals.map partT = e.word :: e.parts.map partT := by
    show partT (.str e.word) :: e.parts.map partT = _
    rw [word_part]
  rw [this] at hw
  have h2 := List.cons.inj hw
  exact ⟨h2.1.symm, h2.2.symm⟩
theorem mem_len {y : Str} : ∀ {xs : List Str} {sep : Str}, y ∈ xs → y.length ≤ (Str.join sep xs).length := by
  intro xs
  induction xs with
  | nil => intro sep h; exact nomatch h
  | cons a r ih =>
    intro sep h
    have e1 : (Str.join sep (a :: r)).length = (glue sep a r).length := by rw [← TL.join_eq, join_glue]
    rw [e1, glue_len]
    rcases List.mem_cons.mp h with rfl | h
    · omega
    · cases r with
      | nil => exact nomatch h
      | cons b r =>
        have := ih (sep := sep) h
        rw [← TL.join_eq, join_glue, glue_len] at this
        simp only [List.map_cons, List.sum_cons, List.length_cons, Nat.add_mul, Nat.one_mul] at this ⊢
        omega
theorem split_len {x sep y : Str} (h : y ∈ Txt.split x sep) : y.length ≤ x.length := by
  have := mem_len (sep := sep) h
  rw [StrLaws.join_split] at this
  exact this
/-- the parts that are read of words -/
def readV (ws ss : List Str) : List V := List.zipWith partInV ws ss
theorem readV_len {ws ss : List Str} (h : ws.length = ss.length) : (readV ws ss).length = ss.length := by
  unfold readV
  rw [List.length_zipWith, h, Nat.min_self]
theorem readV_get {ws ss : List Str} {i : Nat} {x s : Str} (h1 : ws[i]? = some x) (h2 : ss[i]? = some s) : (readV ws ss)[i]? = some (partInV x s) := by
  unfold readV
  rw [List.getElem?_zipWith, h1, h2]
/-- words that are read as an entry are the entry's words -/
theorem read_isE {f : Ent} {x : Str} {ws : List Str} (hw : Txt.split x " " = f.word :: ws) (l : ws.length = f.sorts.length) {e : Ent} (he : e.Fine) (hv : V.str f.word :: readV ws f.sorts = e.vals) : x = entT e := by
  refine ent_of_words ?_
  rw [hw]
  have h2 := List.cons.inj (show V.str f.word :: readV ws f.sorts = V.str e.word :: e.parts from hv)
  have ew : f.word = e.word := V.str.inj h2.1
  show _ = partT (.str e.word) :: e.parts.map partT
  rw [word_part, ew, ← h2.2]
  congr 1
  have es : f.sorts = e.sorts := sorts_word ew
  refine List.ext_getElem? fun i => ?_
  rw [List.getElem?_map]
  by_cases li : i < ws.length
  · have h1 : ws[i]? = some ws[i] := List.getElem?_eq_getElem li
    have h3 : f.sorts[i]? = some (f.sorts[i]'(by omega)) := List.getElem?_eq_getElem (by omega)
    rw [readV_get h1 h3, h1]
    have gp : e.parts[i]? = some (partInV ws[i] (f.sorts[i]'(by omega))) := by rw [← h2.2]; exact readV_get h1 h3
    obtain ⟨_, fit⟩ := he.fit i _ _ gp (by rw [← es]; exact h3)
    exact congrArg some (partIn_word (f.sorts_in _ (List.mem_of_getElem? h3)) fit).1.symm
  · rw [List.getElem?_eq_none (by omega), List.getElem?_eq_none (by rw [readV_len l]; omega)]
    rfl
theorem isE_read {f e : Ent} {ws : List Str} (he : e.Fine) (ew : f.word = e.word) (hws : ws = e.parts.map partT) : V.str f.word :: readV ws f.sorts = e.vals := by
  show _ = V.str e.word :: e.parts
  rw [ew]
  congr 1
  have es : f.sorts = e.sorts := sorts_word ew
  rw [es, hws]
  refine List.ext_getElem? fun i => ?_
  by_cases li : i < e.parts.length
  · have h1 : e.parts[i]? = some e.parts[i] := List.getElem?_eq_getElem li
    have h3 : e.sorts[i]? = some (e.sorts[i]'(by rw [← e.len_parts]; exact li)) := List.getElem?_eq_getElem _
    have h4 : (e.parts.map partT)[i]? = some (partT e.parts[i]) := by rw [List.getElem?_map, h1]; rfl
    rw [readV_get h4 h3, h1]
    obtain ⟨_, fit⟩ := he.fit i _ _ h1 h3
    have ok : PartOk e.parts[i] := fine_parts he _ (List.mem_cons_of_mem _ (List.getElem_mem li))
    exact congrArg some (partIn_back ok (e.sorts_in _ (List.mem_of_getElem? h3)) fit)
  · rw [List.getElem?_eq_none (by rw [readV_len (by rw [List.length_map, e.len_parts])]; rw [← e.len_parts]; omega), List.getElem?_eq_none (by omega)]
def spEntryInA (Ts : List Addr) : Sp := fun vs H Q _ => ∃ x : Str, vs = [.str x] ∧ x.length ≤ 90000 ∧ TabsG Ts H ∧ (∀ e : Ent, e.Fine → x = entT e → ∀ (tp : Addr) (H' : Hp), TB1 Ts H H' → H tp = none → H' tp = some (.tup e.vals) → Q (.ref tp) H') ∧ ((∀ e : Ent, e.Fine → x ≠ entT e) → ∀ H', TB1 Ts H H' → Q .non H')
/-! ### entry_in of any text -/
section
variable {P : Program} {w : World} {K : PySem.W.Frag} {mg : Str → Option Value} {base : Heap}
theorem split_cons (x : Str) {sep : Str} (hs : 0 < sep.length) : ∃ w0 ws, Txt.split x sep = w0 :: ws := by
  cases h : Txt.split x sep with
  | cons a r => exact ⟨a, r, rfl⟩
  | nil =>
    exfalso
    have j := StrLaws.join_split x sep
    rw [h] at j
    have lx : x.length = 0 := by rw [← j]; rfl
    unfold Txt.split at h
    rw [if_pos (by rw [Bool.or_eq_true]; exact .inl (decide_eq_true (by omega)))] at h
    exact absurd h (by simp)
theorem thg_part {x s : Str} {H : Hp} (l : x.length ≤ 90000) : Thg H (partInV x s) := by
  unfold partInV numV
  split
  · exact .str x (by omega)
  · split
    · split
      · exact .int _
      · exact .non
    · split
      · exact .str "" (by decide +kernel)
      · split
        · exact .non
        · exact .str x (by omega)
theorem kl_get {aF t0 : Addr} {w0 : Str} {H3 : Hp} {Qx : V → Hp → Prop} (hF : ∀ e : Ent, ∃ aS, KDct K w aF e.word (.ref aS) ∧ ∀ H, SqT K H aS (e.sorts.map V.str)) (hN : ∀ z : Str, z ∉ words7 → KLook K w aF z none) (h0 : H3 t0 = some (.tup []))
    (go : ∀ (b : Addr) (ss : List Str), (∀ H' : Hp, TK H3 H' → SqT K H' b (ss.map V.str)) → ((∃ f : Ent, f.word = w0 ∧ ss = f.sorts) ∨ (w0 ∉ words7 ∧ ss = [])) → Qx (.ref b) H3) :
    ∃ r, KLook K w aF w0 r ∧ match r with | some u => ∃ v, RelV v u ∧ Qx v H3 | none => Qx (.ref t0) H3 := by
  by_cases h : w0 ∈ words7
  · obtain ⟨f, rfl⟩ := word_of h
    obtain ⟨aS, ⟨es, n, u, hl, hk, hn, ru⟩, sq⟩ := hF f
    exact ⟨some u, ⟨es, n, hl, hk, hn⟩, .ref aS, ru, go aS f.sorts (fun H' _ => sq H') (.inl ⟨f, rfl, rfl⟩)⟩
  · exact ⟨none, hN w0 h, go t0 [] (fun H' k => SqT.of (k _ _ h0)) (.inr ⟨h, rfl⟩)⟩
abbrev sEntryInN : List Str := ["text", "words", "sorts", "parts", "word", "sort", "entry"]
theorem sc_sEntryIn : FnScope sEntryInN ["text"] (defScope sEntryIn) := ⟨rfl, rfl, rfl, by decide +kernel, rfl, by decide +kernel, by decide +kernel⟩
set_option maxHeartbeats 1000000 in
theorem ok_entryInA {f fP fI T T1 T2 aF : Addr} {Ts : List Addr} {fd dP dI : FuncData} (F : Fun K "entry_in" "entry_in" sEntryIn f fd) (PI : DefT P w K mg base "part_in" 2 fP dP ["word", "sort"] (spPartIn T)) (IE : DefT P w K mg base "is_entry" 4 fI dI ["thing"] (spIsEntryA T1 T2))
    (i0 : T ∈ Ts) (i1 : T1 ∈ Ts) (i2 : T2 ∈ Ts) (ml : mg "len" = none) (mz : mg "zip" = none) (mF : mg "FORMS" = some (.ref aF)) (smF : (aF == sysModules) = false) (hF : ∀ e : Ent, ∃ aS, KDct K w aF e.word (.ref aS) ∧ ∀ H, SqT K H aS (e.sorts.map V.str)) (hN : ∀ z : Str, z ∉ words7 → KLook K w aF z none) : FnOk P w K mg base CX0 5 f fd ["text"] (spEntryInA Ts) := by
  refine F.ok sc_sEntryIn (fun vs H Q E h => ?_) (fun cdv A outer s H vs Q E hr h => ?_)
  · obtain ⟨x, rfl, _⟩ := h
    rfl
  · obtain ⟨x, rfl, l9, tg, qy, qn⟩ := h
    have nd := sc_sEntryIn.nd
    have hr2 : Room 2 _ := hr.mono (by decide)
    refine ⟨_, pss_cons (ps_set (i := 1) nd rfl (Or.inl rfl) (pe_split (pv 0) pe_str))
      (pss_cons (ps_set (i := 2) nd rfl (Or.inl rfl) (pe_kget2 (pe_glob (v := .ref aF) (u := .ref aF) (by rfl) mF rfl) (pe_ix ix_list (pv 1) pe_int (fun _ _ => rfl)) (pe_tup pa_nil) ⟨rfl, rfl, rfl, rfl⟩))
      (pss_cons (ps_if (pt_cmpR op_ne (pe_callB call_len_seq (by rfl) ml PySem.boot_len (pa_cons (pv 1) pa_nil)) (pe_op op_add (pe_callB call_len_seq (by rfl) ml PySem.boot_len (pa_cons (pv 2) pa_nil)) pe_int) (nomark _)) (pss_one (ps_ret pe_non)) pss_nil)
      (pss_cons (ps_setLc (i := 3) (own := [("word", 4), ("sort", 5)]) (g := gTup K 2 (gCons (gName 4) (gCons (gName 5) gNil))) (tt := tYes) (te := tCall (spPartIn T) [] E0 (tCons (tVar 4) (tCons (tVar 5) tNil))) rfl nd rfl rfl (sw_true rfl rfl rfl (by decide +kernel)) (pi_zipLT (by rfl) mz (pa_cons (pe_slice sl_list (pv 1) (po_some pe_int) po_none) (pa_cons (pv 2) pa_nil))) (blkOk_by (N := sEntryInN) (sc := defScope sEntryIn) (by decide +kernel)) (fun _ _ _ _ _ => (pg_tup (by rfl) (pgs_cons (pg_name (i := 4) nd rfl (Or.inl rfl)) (pgs_cons (pg_name (i := 5) nd rfl (Or.inl rfl)) pgs_nil)))) (fun _ _ _ _ _ => pts_nil) (fun _ _ _ _ _ => (pe_call PI.ok hr2 (by rfl) PI.g PI.kp PI.b .nil pass0 (pa_cons (pv 4) (pa_cons (pv 5) pa_nil)))))
      (pss_cons (ps_set (i := 6) nd rfl (Or.inl rfl) (pe_tup (pa_cons (pe_ix ix_list (pv 1) pe_int (fun _ _ => rfl)) (StX.pa_star (pv 3) pa_nil))))
      (pss_one (ps_ret (pe_ifExp (pt_val (pe_call IE.ok hr (by rfl) IE.g IE.kp IE.b .nil pass0 (pa_cons (pv 6) pa_nil))) (pv 6) pe_non))))))), ?_⟩
    refine ⟨_, rfl, ⟨_, rfl⟩, _, _, rfl, rfl, (by decide +kernel), (by rw [sizeLine_eq]; omega), fun wl nwl => ?_⟩
    obtain ⟨w0, ws, hw⟩ := split_cons x (sep := " ") (by decide +kernel)
    have lw : ∀ y ∈ w0 :: ws, y.length ≤ 90000 := fun y hy => Nat.le_trans (split_len (hw ▸ hy)) l9
    rw [hw]
    have s1 := @same_new _ _ (.lst ((w0 :: ws).map V.str)) nwl
    have h1 : (upd H wl (.lst ((w0 :: ws).map V.str))) wl = some (.lst ((w0 :: ws).map V.str)) := upd_same
    generalize upd H wl (.lst ((w0 :: ws).map V.str)) = H1 at s1 h1
    have a0 : atI ((w0 :: ws).map V.str) 0 = some (.str w0) := atI_nat (j := 0) rfl
    obtain ⟨r0, kl0⟩ : ∃ r, KLook K w aF w0 r := by
      by_cases h : w0 ∈ words7
      · obtain ⟨f, rfl⟩ := word_of h
        obtain ⟨aS, ⟨es, n, u, hl, hk, hn, ru⟩, sq⟩ := hF f
        exact ⟨some u, ⟨es, n, hl, hk, hn⟩⟩
      · exact ⟨none, hN w0 h⟩
    refine ⟨aF, rfl, smF, ⟨w0, r0, kl0⟩, _, rfl, wl, _, 0, _, rfl, rfl, SqL.of h1, a0, w0, rfl, (by show 0 ≤ sizeLine; decide), fun t0 nt0 => ?_⟩
    have s2 := @same_new _ _ (.tup []) nt0
    have ht0 : (upd H1 t0 (.tup [])) t0 = some (.tup []) := upd_same
    generalize upd H1 t0 (.tup []) = H2 at s2 ht0
    have h12 := s2 _ _ h1
    have s02 := s1.trans s2
    refine kl_get hF hN ht0 fun b ss sq cs => ?_
    -- what the text is
    have s6 : ∀ s ∈ ss, s ∈ sorts6 := by
      rcases cs with ⟨f, _, rfl⟩ | ⟨_, rfl⟩
      · exact f.sorts_in
      · exact fun s h => nomatch h
    have len_no : ws.length ≠ ss.length → ∀ e : Ent, e.Fine → x ≠ entT e := fun nl e he hx => by
      obtain ⟨ew, ep⟩ := head_word he hx hw
      rcases cs with ⟨f, fw, rfl⟩ | ⟨nw, rfl⟩
      · refine nl ?_
        rw [ep, List.length_map, e.len_parts, sorts_word (fw.trans ew)]
      · exact nw (ew ▸ Ent.word_in e)
    have yes : ws.length = ss.length → IsE (.str w0 :: readV ws ss) → ∃ e : Ent, e.Fine ∧ V.str w0 :: readV ws ss = e.vals ∧ x = entT e := fun l ⟨e, he, hv⟩ => by
      rcases cs with ⟨f, fw, rfl⟩ | ⟨nw, rfl⟩
      · subst fw
        exact ⟨e, he, hv, read_isE hw l he hv⟩
      · have h2 := List.cons.inj (show V.str w0 :: readV ws [] = V.str e.word :: e.parts from hv)
        exact absurd (V.str.inj h2.1 ▸ Ent.word_in e) nw
    have no : ¬ IsE (.str w0 :: readV ws ss) → ∀ e : Ent, e.Fine → x ≠ entT e := fun ni e he hx => by
      obtain ⟨ew, ep⟩ := head_word he hx hw
      rcases cs with ⟨f, fw, rfl⟩ | ⟨nw, rfl⟩
      · subst fw
        exact ni ⟨e, he, isE_read he ew ep⟩
      · exact nw (ew ▸ Ent.word_in e)
    have s900 : ∀ v ∈ readV ws ss, ∀ H' : Hp, Thg H' v := fun v hv H' => by
      obtain ⟨i, hi⟩ := List.mem_iff_getElem?.mp hv
      unfold readV at hi
      rw [List.getElem?_zipWith] at hi
      cases e1 : ws[i]? with
      | none => rw [e1] at hi; exact nomatch hi
      | some y =>
        cases e2 : ss[i]? with
        | none => rw [e1, e2] at hi; exact nomatch hi
        | some s =>
          rw [e1, e2] at hi
          rw [← Option.some.inj hi]
          exact thg_part (lw y (List.mem_cons_of_mem _ (List.mem_of_getElem? e1)))
    have l6 : ss.length ≤ 6 := by
      rcases cs with ⟨f, _, rfl⟩ | ⟨_, rfl⟩
      · have := vals_len10 f
        have : f.vals.length = f.sorts.length + 1 := vals_len f
        omega
      · exact Nat.zero_le _
    have b2 : TB1 Ts H H2 := .same tg s02
    by_cases l : ws.length = ss.length
    · refine ⟨_, rfl, wl, _, rfl, .inl (SqL.of h12), _, rfl, b, _, rfl, .inr (sq H2 fun _ _ e => e), _, 1, rfl, rfl, rfl, false, ?_, iteF ?_⟩
      · refine congrArg V.bl ?_
        have l1 : (((w0 :: ws).map V.str).length : Int) = ((ss.map V.str).length : Int) + 1 := by
          rw [List.length_map, List.length_map, List.length_cons, l]
          rfl
        rw [l1, decide_eq_true rfl]
        rfl
      refine ⟨_, rfl, 1, rfl, wl, _, rfl, SqL.of h12, fun wp nwp => ?_⟩
      have s3 := @same_new _ _ (.lst (cutV ((w0 :: ws).map V.str) (some 1) none)) nwp
      have h3 : (upd H2 wp (.lst (cutV ((w0 :: ws).map V.str) (some 1) none))) wp = some (.lst (ws.map V.str)) := by
        rw [upd_same, show cutV ((w0 :: ws).map V.str) (some 1) none = ((w0 :: ws).map V.str).drop 1 from cut_tail (k := 1)]
        rfl
      generalize upd H2 wp (.lst (cutV ((w0 :: ws).map V.str) (some 1) none)) = H3 at s3 h3
      have s03 := s02.trans s3
      have tg3 := tabs_sm s03 tg
      refine ⟨_, rfl, wp, b, _, _, rfl, SqL.of h3, sq H3 (TK.of s3), fun D nD => ?_⟩
      have s4 := @same_new _ _ (.lst []) nD
      refine lc_zipLT (K := K) (a := wp) (b := b) (xs := ws.map V.str) (ys := ss.map V.str) (by rw [List.length_map, List.length_map, l]) (fun j H' => TB1 Ts H3 H' ∧ H' D = some (.lst ((readV ws ss).take j))) ⟨.same tg3 s4, upd_same⟩ (fun j H' _ z => ⟨SqL.of (z.1.lst h3), sq H' ((TK.of s3).tr z.1.tk)⟩) ?_ ?_
      · rintro j x' y TT H5 hx hy ⟨b5, hD5⟩ nT
        rw [List.getElem?_map] at hx hy
        obtain ⟨y', hy', rfl⟩ := Option.map_eq_some_iff.mp hx
        obtain ⟨srt, hsrt, rfl⟩ := Option.map_eq_some_iff.mp hy
        have s6' := @same_new _ _ (.tup [V.str y', V.str srt]) nT
        have b6 : TB1 Ts H3 (upd H5 TT (.tup [V.str y', V.str srt])) := b5.tr (.same b5.1 s6')
        have hD6 := s6' _ _ hD5
        refine ⟨TT, _, rfl, SqT.of upd_same, rfl, _, _, rfl, _, _, rfl, rfl, rfl, yesT ?_⟩
        refine ⟨_, rfl, _, rfl, y', srt, rfl, szBig (by have := lw y' (List.mem_cons_of_mem _ (List.mem_of_getElem? hy')); omega), b6.1 T i0, fun H7 tb7 => ?_⟩
        have b7 : TB1 Ts H3 H7 := b6.tr (.tab tb7 b6.1 i0)
        have hD7 : H7 D = some (.lst ((readV ws ss).take j)) := (TB1.tab tb7 b6.1 i0).lst hD6
        refine ⟨_, hD7, smallBig (by rw [List.length_take, readV_len l]; omega), b7.put nD hD7, ?_⟩
        rw [upd_same, take_sn (readV_get hy' hsrt)]
      · rintro H5 ⟨b5, hD5⟩
        rw [List.length_map, l, ← readV_len l, List.take_length] at hD5
        have h15 : H5 wl = some (.lst ((w0 :: ws).map V.str)) := b5.lst (s3 _ _ h12)
        refine ⟨_, rfl, wl, _, 0, _, rfl, rfl, SqL.of h15, a0, _, rfl, D, readV ws ss, rfl, .inr (SqL.of hD5), ?_⟩
        refine (show (V.str w0 :: (readV ws ss ++ [])).length ≤ sizeLine ∧ ∀ p, H5 p = none → _ from ?_)
        rw [List.append_nil]
        refine ⟨?_, fun tp ntp => ?_⟩
        · show ((readV ws ss).length + 1) ≤ sizeLine
          rw [readV_len l]
          exact Nat.le_of_lt (smallBig (by omega))
        have s6' := @same_new _ _ (.tup (V.str w0 :: readV ws ss)) ntp
        have htp : (upd H5 tp (.tup (V.str w0 :: readV ws ss))) tp = some (.tup (V.str w0 :: readV ws ss)) := upd_same
        generalize upd H5 tp (.tup (V.str w0 :: readV ws ss)) = H6 at s6' htp
        have b05 := (TB1.same tg s03).tr b5
        have b6 : TB1 Ts H H6 := b05.tr (.same b5.1 s6')
        refine ⟨_, rfl, .ref tp, rfl, b6.1 T1 i1, b6.1 T2 i2, .inr ⟨tp, _, rfl, htp, ?_, ?_, fun ie H7 tb7 => ?_, fun ni H7 tb7 => ?_⟩⟩
        · rw [List.length_cons, readV_len l]
          omega
        · intro v hv
          rcases List.mem_cons.mp hv with rfl | hv
          · exact .str w0 (by have := lw w0 List.mem_cons_self; omega)
          · exact s900 v hv H6
        · have b7 : TB1 Ts H6 H7 := .of2 b6.1 i1 i2 tb7
          obtain ⟨e, he, hv, hx⟩ := yes l ie
          exact ⟨true, rfl, iteT ⟨_, rfl, qy e he hx tp H7 (b6.tr b7) (b05.free _ ntp) (hv ▸ b7.tk _ _ htp)⟩⟩
        · have b7 : TB1 Ts H6 H7 := .of2 b6.1 i1 i2 tb7
          exact ⟨false, rfl, iteF (qn (no ni) H7 (b6.tr b7))⟩
    · refine ⟨_, rfl, wl, _, rfl, .inl (SqL.of h12), _, rfl, b, _, rfl, .inr (sq H2 fun _ _ e => e), _, 1, rfl, rfl, rfl, true, ?_, iteT (qn (len_no l) H2 b2)⟩
      refine congrArg V.bl ?_
      rw [decide_eq_false]
      · rfl
      · intro z
        have z' := V.int.inj z
        rw [List.length_map, List.length_map, List.length_cons] at z'
        exact l (by omega)
end
/-! ### the law's own numbers -/
def lnum (x : Str) : Int := if numOk x = true then (NumText.digitsVal x.cps.toList : Nat) else -1
theorem un0 {a : Nat} (h : a + 64 < cLine) : a < cLine := by omega
def badF (l : List Nat) : List Str := (l.filter fun c => !decide (c ∈ figs.cps.toList)).map fun c => ⟨#[c]⟩
theorem badF_nil (l : List Nat) : (badF l).isEmpty = l.all figB := by
  unfold badF
  induction l with
  | nil => rfl
  | cons c r ih =>
    rw [List.filter_cons, List.all_cons]
    unfold figB at ih ⊢
    by_cases b : c ∈ figs.cps.toList
    · rw [decide_eq_true b]
      simpa using ih
    · rw [decide_eq_false b]
      rfl
def spLNumber : Sp := fun vs H Q _ => ∃ x : Str, vs = [.str x] ∧ x.length ≤ 100000 ∧ ∀ H', Same H H' → Q (.int (lnum x)) H'
theorem len_emp {x : Str} (h : x.length = 0) : x = "" := by
  apply str_ext
  have : x.length = x.cps.toList.length := by simp [Str.length]
  rw [this] at h
  rw [List.length_eq_zero_iff.mp h]
  decide +kernel
theorem zero_starts {x : Str} : Txt.startswith x "0" = true → ∃ r, x.cps.toList = 48 :: r := fun h => by
  unfold Txt.startswith at h
  rw [Bool.and_eq_true] at h
  have h2 := h.2
  unfold Builtin.Str.subAt at h2
  have h3 : x.cps.extract 0 (0 + ("0" : Str).length) = ("0" : Str).cps := by simpa using h2
  have l1 : ("0" : Str).length = 1 := by decide +kernel
  have l2 : ("0" : Str).cps.toList = [48] := by decide +kernel
  have h4 := congrArg Array.toList h3
  rw [Array.toList_extract, l1, l2] at h4
  cases e : x.cps.toList with
  | nil => rw [e] at h4; exact absurd h4 (by simp)
  | cons a r =>
    rw [e] at h4
    have h5 : [a] = [48] := by simpa using h4
    exact ⟨r, by rw [(List.cons.inj h5).1]⟩
section
variable {P : Program} {w : World} {K : PySem.W.Frag} {mg : Str → Option Value} {base : Heap}
abbrev sLNumberN : List Str := ["_law_word", "_law_sign"]
theorem sc_sLNumber : FnScope sLNumberN ["_law_word"] (defScope sLNumber) := ⟨rfl, rfl, rfl, by decide +kernel, rfl, by decide +kernel, by decide +kernel⟩
theorem ok_lnumber {f : Addr} {fd : FuncData} (F : Fun K "_law_number" "_law_number" sLNumber f fd) (ml : mg "len" = none) (mi : mg "int" = none) : FnOk P w K mg base CX0 1 f fd ["_law_word"] spLNumber := by
  refine F.ok sc_sLNumber (fun vs H Q E h => ?_) (fun cdv A outer s H vs Q E hr h => ?_)
  · obtain ⟨x, rfl, _⟩ := h
    rfl
  · obtain ⟨x, rfl, l1, q⟩ := h
    have nd := sc_sLNumber.nd
    refine ⟨_, pss_cons (ps_if (PW.pt (pw_or (pt_cmpR op_eq (pv 0) pe_str (nomark _)) (pw_or (pt_cmpR op_gt (pe_callB call_len_str (by rfl) ml PySem.boot_len (pa_cons (pv 0) pa_nil)) pe_int (nomark _)) (pw_or1 (pt_cmpR (op_neNil (un0 hr.units)) (pe_lc (own := [("_law_sign", 1)]) (g := gName 1) (tt := _) (te := tVar 1) rfl nd (pi_str (pv 0)) (blkOk_by (N := sLNumberN) (sc := defScope sLNumber) (by decide +kernel)) (fun _ _ _ _ _ => (pg_name (i := 1) nd rfl (Or.inl rfl))) (fun _ _ _ _ _ => (pts_one (pt_cmpR op_notIn_sign (pv 1) pe_str (by rfl)))) (fun _ _ _ _ _ => (pv 1))) (pe_lst pa_nil) (nomark _)))))) (pss_one (ps_ret (pe_un un_neg pe_int))) pss_nil)
      (pss_cons (ps_if (PW.pt (pw_and (pt_cmpR op_eq (pe_ix ix_str (pv 0) pe_int (fun _ _ => rfl)) pe_str (nomark _)) (pw_and1 (pt_cmpR op_ne (pv 0) pe_str (nomark _))))) (pss_one (ps_ret (pe_un un_neg pe_int))) pss_nil)
      (pss_one (ps_ret (pe_callTy call_int_str (by rfl) mi (by decide +kernel) (pa_cons (pv 0) pa_nil))))), ?_⟩
    have hz : x.length ≤ sizeLine := Nat.le_of_lt (smallBig (by omega))
    have fail : numOk x = false → ∀ H', Same H H' → Q (.int (-1)) H' := fun z H' sm => by
      have e := q H' sm
      unfold lnum at e
      rw [z] at e
      exact e
    refine ⟨_, rfl, rfl, _, rfl, ?_⟩
    by_cases e0 : x = ""
    · rw [decide_eq_true (congrArg V.str e0)]
      have nk : numOk x = false := by rw [e0]; decide +kernel
      exact iteT ⟨1, rfl, fail nk H fun _ _ e => e⟩
    rw [decide_eq_false fun z => e0 (V.str.inj z)]
    refine iteF ⟨_, rfl, x, rfl, hz, _, 60, rfl, rfl, _, rfl, ?_⟩
    by_cases e1 : (60 : Int) < (x.length : Int)
    · rw [decide_eq_true e1]
      have nk : numOk x = false := by
        unfold numOk
        rw [decide_eq_false (show ¬ (x.length : Int) ≤ 60 by omega), Bool.and_false]
        rfl
      exact iteT ⟨1, rfl, fail nk H fun _ _ e => e⟩
    rw [decide_eq_false e1]
    refine iteF ?_
    refine ⟨_, rfl, x, rfl, fun D nD => lc_it walk_str (fun i H' => Same H H' ∧ H' D = some (.lst ((badF (x.cps.toList.take i)).map V.str))) ⟨same_new nD, upd_same⟩ (fun _ _ _ _ => True.intro) ?_ ?_⟩
    · rintro i v H1 H2 hi ⟨s1, h1⟩ ⟨rfl, cc, hc, rfl⟩
      have hc' : x.cps.toList[i]? = some cc := by rw [Array.getElem?_toList]; exact hc
      have tk : badF (x.cps.toList.take (i + 1)) = badF (x.cps.toList.take i) ++ badF [cc] := by
        rw [List.take_add_one, hc']
        unfold badF
        rw [List.filter_append, List.map_append]
        rfl
      refine ⟨rfl, _, rfl, cc, figs, rfl, rfl, _, rfl, ?_⟩
      have lb : (badF (x.cps.toList.take i)).length ≤ 100000 := by
        unfold badF
        rw [List.length_map]
        refine Nat.le_trans (List.length_filter_le _ _) (Nat.le_trans (List.length_take_le _ _) (Nat.le_trans (Nat.le_of_lt hi) l1))
      by_cases b : cc ∈ figs.cps.toList
      · rw [decide_eq_true b]
        refine iteF ⟨s1, ?_⟩
        rw [tk]
        have : badF [cc] = [] := by
          unfold badF
          rw [List.filter_cons, decide_eq_true b]
          rfl
        rw [this, List.append_nil]
        exact h1
      · rw [decide_eq_false b]
        refine iteT ⟨_, rfl, _, h1, ?_, ?_, ?_⟩
        · rw [List.length_map]
          exact Nat.lt_of_le_of_lt lb (by decide)
        · exact fun a o e => by
            rw [upd_ne (fun w => by rw [w] at e; rw [nD] at e; exact nomatch e)]
            exact s1 a o e
        · rw [tk]
          have : badF [cc] = [⟨#[cc]⟩] := by
            unfold badF
            rw [List.filter_cons, decide_eq_false b]
            rfl
          rw [this, List.map_append]
          exact upd_same
    · rintro H2 ⟨s2, h2⟩
      refine ⟨Nat.zero_le _, fun p np => ?_⟩
      have s3 : Same H2 (upd H2 p (.lst [])) := same_new np
      have h3 : (upd H2 p (.lst [])) p = some (.lst []) := upd_same
      have hD := s3 _ _ h2
      generalize upd H2 p (.lst []) = H3 at s3 h3 hD ⊢
      have full : x.cps.toList.take x.cps.size = x.cps.toList := List.take_of_length_le (Nat.le_of_eq (Array.length_toList ..))
      rw [full] at hD
      have s03 := s2.trans s3
      refine ⟨D, p, _, rfl, rfl, SqL.of hD, SqL.of h3, ?_⟩
      have ie : ((badF x.cps.toList).map V.str).isEmpty = x.cps.toList.all figB := by
        rw [← badF_nil]
        cases badF x.cps.toList <;> rfl
      cases e4 : x.cps.toList.all figB with
      | false =>
        rw [e4] at ie
        have nk : numOk x = false := by
          unfold numOk
          rw [e4, Bool.and_false]
          rfl
        exact ⟨true, by rw [if_pos rfl, ie]; rfl, iteT ⟨1, rfl, fail nk _ s03⟩⟩
      | true =>
        rw [e4] at ie
        refine ⟨false, by rw [if_pos rfl, ie]; rfl, iteF ?_⟩
        have e2 : (1 : Int) ≤ (x.length : Int) := by
          by_cases z : x.length = 0
          · exact absurd (len_emp z) e0
          · omega
        have ad : NumText.AllDigits x.cps.toList := fun c hc => (figB_iff c).mp (List.all_eq_true.mp e4 c hc)
        have lx : x.length = x.cps.toList.length := by simp [Str.length]
        have hl : (x.length : Int) ≤ 60 := by omega
        have fin : numOk x = true → tRet (tCB (fun xs H Q => ∃ a n, xs = [V.str a] ∧ intText? a = some n ∧ a.length ≤ 640 ∧ Q (V.int n) H) (tCons (tVar 0) tNil)) { nx := fun x H' => Q V.non H', rt := Q } (L2.start sLNumberN [V.str x]) H3 := fun ok => by
          have e7 : lnum x = (NumText.digitsVal x.cps.toList : Nat) := by unfold lnum; rw [if_pos ok]
          have e3 := q H3 s03
          rw [e7] at e3
          exact ⟨_, rfl, x, _, rfl, intText_digits ad (fun z => by rw [lx, z] at e2; exact absurd e2 (by decide)) (by omega), by omega, e3⟩
        cases ex : x.cps.toList with
        | nil => rw [lx, ex] at e2; exact absurd e2 (by decide)
        | cons a r =>
          have at0' : atI x.cps.toList 0 = some a := by rw [ex]; exact atI_nat (j := 0) rfl
          have z48 : ("0" : Str) = ⟨#[48]⟩ := by decide +kernel
          refine ⟨_, rfl, x, 0, a, rfl, rfl, hz, at0', rfl, _, rfl, ?_⟩
          by_cases a48 : a = 48
          · subst a48
            have st := starts_zero ex
            rw [decide_eq_true (congrArg V.str z48.symm)]
            refine iteT ⟨_, rfl, rfl, _, rfl, ?_⟩
            by_cases e6 : x = "0"
            · rw [decide_eq_true (congrArg V.str e6)]
              refine iteF (fin ?_)
              rw [e6]
              decide +kernel
            · rw [decide_eq_false fun z => e6 (V.str.inj z)]
              have nk : numOk x = false := by
                unfold numOk
                rw [st, decide_eq_false e6, show (!(true && !false)) = false from rfl, Bool.and_false]
              exact iteT ⟨1, rfl, fail nk H3 s03⟩
          · have ne : ¬ (⟨#[a]⟩ : Str) = "0" := fun z => by
              rw [z48] at z
              have h5 : (#[a] : Array Nat) = #[48] := congrArg Str.cps z
              exact a48 (by simpa using h5)
            rw [decide_eq_false fun z => ne (V.str.inj z)]
            have ns : Txt.startswith x "0" = false := by
              cases e : Txt.startswith x "0" with
              | false => rfl
              | true =>
                obtain ⟨r', e'⟩ := zero_starts e
                rw [ex] at e'
                exact absurd (List.cons.inj e').1 a48
            refine iteF (iteF (fin ?_))
            unfold numOk
            rw [decide_eq_true e2, decide_eq_true hl, e4, ns]
            rfl
end
/-! ### d.update(e) -/
theorem mt_update {X : Cx} : MtR X "dict.update" (fun x vs H Q => ∃ (d o : Addr) (kvs more : List (Key × V)), x = .ref d ∧ vs = [.ref o] ∧ d ≠ o ∧ H d = some (.dK kvs) ∧ Rd H o (.dK more) ∧ kvs.length + more.length ≤ 1000 ∧ Q .non (upd H d (.dK (mergeK kvs more)))) := by
  intro pins s σ H x vs v us Q I rx rv h
  obtain ⟨d, o, kvs, more, rfl, rfl, ne, hd, ho, hz, q⟩ := h
  cases rx
  obtain ⟨u, rfl, r1⟩ := vals1 rv
  cases r1
  obtain ⟨zo, oS, vo, ro, dd⟩ := dk_rd I.hok ho
  obtain ⟨zd, dS, vd, rd, dd2⟩ := dk_of I.hok hd
  have e1 := rd.length
  have e2 := ro.length
  refine call_meetsIn PySem.F.slot_dict_update dd2.typeIs PySem.F.entry_dict_update (PySem.F.args_dict_update_2 _ _) (PySem.meets_dict_update (mixKind X.prog X.w) d o ne oS) ⟨vd, vo, dd2, dd, (by rw [← e1, ← e2, sizeLine_eq]; omega), fun h' d' _ hs => ?_⟩
  have hz2 : (mergeK kvs more).length ≤ sizeLine := by
    have := length_mergeK more kvs
    rw [sizeLine_eq]
    omega
  exact ⟨.non, _, d_write I (by rw [hd]; exact True.intro) hs (let ⟨q, _, _, hq, _⟩ := d'; ⟨q, hq⟩) (dk_new hz2 dS (ro.merge rd) d'), rfl, q⟩
/-! ### the law's own reading of an entry -/
def numsAt (z : Str) : List Int := if z = "come" then [2, 5, 6] else if z = "go" then [2, 5] else if z = "move" then [2, 6] else if z = "some" then [2] else if z = "swap" then [2] else if z = "count" then [2, 5] else [2]
def lenAt (z : Str) : Int := if z = "come" then 7 else if z = "go" then 6 else if z = "move" then 7 else if z = "some" then 6 else if z = "swap" then 5 else if z = "count" then 7 else 5
def partL (x s : Str) : V := if s = "name" then .str x else if s ≠ "end" then .int (lnum x) else if x = "-" then .str "" else .str x
def lawL (ws ss : List Str) : List V := List.zipWith partL ws ss
theorem part_same {x s : Str} (nx : x ≠ "") (h : fitB (partL x s) s = true ∨ fitB (partInV x s) s = true) : partL x s = partInV x s := by
  unfold partL partInV at *
  by_cases e1 : s = "name"
  · rw [if_pos e1, if_pos e1]
  rw [if_neg e1, if_neg e1]
  by_cases e2 : s = "end"
  · have n2 : ¬ (s ≠ "end") := fun z => z e2
    rw [if_neg n2, if_neg n2]
    by_cases e3 : x = "-"
    · rw [if_pos e3, if_pos e3]
    · rw [if_neg e3, if_neg e3, if_neg nx]
  · rw [if_pos e2, if_pos e2]
    rw [if_neg e1, if_neg e1, if_pos e2, if_pos e2] at h
    unfold lnum numV at h ⊢
    by_cases e3 : numOk x = true
    · rw [if_pos e3, if_pos e3]
    · rw [if_neg e3, if_neg e3] at h
      exfalso
      unfold fitB at h
      rw [if_neg e1, if_neg e2, if_neg e1, if_neg e2] at h
      rcases h with h | h
      · have f' : (decide ((bnd s).1 ≤ -1) && decide ((-1 : Int) ≤ (bnd s).2)) = true := h
        rw [Bool.and_eq_true] at f'
        have lo := of_decide_eq_true f'.1
        have b : 0 ≤ (bnd s).1 := by
          unfold bnd
          split
          · decide
          · split <;> decide
        omega
      · exact absurd h (by unfold inB; simp)
theorem lawL_len {ws ss : List Str} (h : ws.length = ss.length) : (lawL ws ss).length = ss.length := by
  unfold lawL
  rw [List.length_zipWith, h, Nat.min_self]
theorem lawL_get {ws ss : List Str} {i : Nat} {x s : Str} (h1 : ws[i]? = some x) (h2 : ss[i]? = some s) : (lawL ws ss)[i]? = some (partL x s) := by
  unfold lawL
  rw [List.getElem?_zipWith, h1, h2]
/-- the two readings are one where one of them is an entry -/
theorem law_same {f : Ent} {ws : List Str} (l : ws.length = f.sorts.length) (ne : ∀ y ∈ ws, y ≠ "") (h : IsE (.str f.word :: lawL ws f.sorts) ∨ IsE (.str f.word :: readV ws f.sorts)) : lawL ws f.sorts = readV ws f.sorts := by
  have same : ∀ (xs : List V), xs.length = f.sorts.length → IsE (.str f.word :: xs) → ∀ (i : Nat) (v : V) (s : Str), xs[i]? = some v → f.sorts[i]? = some s → fitB v s = true := fun xs lx ⟨e, he, hv⟩ i v s h1 h2 => by
    have h3 := List.cons.inj (show V.str f.word :: xs = V.str e.word :: e.parts from hv)
    have es : f.sorts = e.sorts := sorts_word (V.str.inj h3.1)
    exact (he.fit i v s (h3.2 ▸ h1) (es ▸ h2)).2
  refine List.ext_getElem? fun i => ?_
  by_cases li : i < ws.length
  · have h1 : ws[i]? = some ws[i] := List.getElem?_eq_getElem li
    have h3 : f.sorts[i]? = some (f.sorts[i]'(by omega)) := List.getElem?_eq_getElem (by omega)
    rw [lawL_get h1 h3, readV_get h1 h3]
    refine congrArg some (part_same (ne _ (List.getElem_mem li)) ?_)
    rcases h with h | h
    · exact .inl (same _ (lawL_len l) h i _ _ (lawL_get h1 h3) h3)
    · exact .inr (same _ (readV_len l) h i _ _ (readV_get h1 h3) h3)
  · rw [List.getElem?_eq_none (by rw [lawL_len l]; omega), List.getElem?_eq_none (by rw [readV_len l]; omega)]
def setN (W : List Str) (ns : List Int) : List V := ns.foldl (fun l n => l.set n.toNat (.int (lnum (W.getD n.toNat "")))) (W.map V.str)
def fin5 (W : List Str) (l : List V) : List V := if W.head? = some ("some" : Str) ∧ W[5]? = some ("-" : Str) then l.set 5 (.str "") else l
theorem pl_n {x : Str} : partL x "name" = .str x := if_pos rfl
theorem pl_num {x s : Str} (h1 : (s == ("name" : Str)) = false) (h2 : (s == ("end" : Str)) = false) : partL x s = .int (lnum x) := by
  have n1 : ¬ s = "name" := fun e => by rw [e, beq_self_eq_true] at h1; cases h1
  have n2 : s ≠ "end" := fun e => by rw [e, beq_self_eq_true] at h2; cases h2
  unfold partL
  rw [if_neg n1, if_pos n2]
theorem pl_e {x : Str} : partL x "end" = if x = "-" then .str "" else .str x := by
  unfold partL
  rw [if_neg ken, if_neg (fun z => z rfl)]
theorem fin5_no {w0 : Str} {W : List Str} {l : List V} (h : (w0 == ("some" : Str)) = false) : fin5 (w0 :: W) l = l := by
  unfold fin5
  rw [if_neg]
  rintro ⟨e, _⟩
  have e' : w0 = "some" := Option.some.inj e
  rw [e', beq_self_eq_true] at h
  cases h
theorem nums_come : numsAt "come" = [2, 5, 6] := by decide +kernel
theorem nums_go : numsAt "go" = [2, 5] := by decide +kernel
theorem nums_move : numsAt "move" = [2, 6] := by decide +kernel
theorem nums_some : numsAt "some" = [2] := by decide +kernel
theorem nums_swap : numsAt "swap" = [2] := by decide +kernel
theorem nums_count : numsAt "count" = [2, 5] := by decide +kernel
theorem nums_look : numsAt "look" = [2] := by decide +kernel
theorem law_list {f : Ent} {ws : List Str} (l : ws.length = f.sorts.length) : fin5 (f.word :: ws) (setN (f.word :: ws) (numsAt f.word)) = .str f.word :: lawL ws f.sorts := by
  have mo : ∀ {x : Str}, partL x "moment" = .int (lnum x) := pl_num (by decide +kernel) (by decide +kernel)
  have ma : ∀ {x : Str}, partL x "many" = .int (lnum x) := pl_num (by decide +kernel) (by decide +kernel)
  have pr : ∀ {x : Str}, partL x "price" = .int (lnum x) := pl_num (by decide +kernel) (by decide +kernel)
  have co : ∀ {x : Str}, partL x "counted" = .int (lnum x) := pl_num (by decide +kernel) (by decide +kernel)
  cases f with
  | come n m g p k r =>
    match ws, l with
    | [a, b, c, d, e, h], _ =>
      show fin5 ("come" :: [a, b, c, d, e, h]) (setN ("come" :: [a, b, c, d, e, h]) (numsAt "come")) = .str "come" :: [partL a "name", partL b "moment", partL c "name", partL d "name", partL e "many", partL h "price"]
      rw [fin5_no (by decide +kernel), nums_come, pl_n, mo, pl_n, pl_n, ma, pr]
      rfl
  | go n m g p k =>
    match ws, l with
    | [a, b, c, d, e], _ =>
      show fin5 ("go" :: [a, b, c, d, e]) (setN ("go" :: [a, b, c, d, e]) (numsAt "go")) = .str "go" :: [partL a "name", partL b "moment", partL c "name", partL d "name", partL e "many"]
      rw [fin5_no (by decide +kernel), nums_go, pl_n, mo, pl_n, pl_n, ma]
      rfl
  | move n m g o t k =>
    match ws, l with
    | [a, b, c, d, e, h], _ =>
      show fin5 ("move" :: [a, b, c, d, e, h]) (setN ("move" :: [a, b, c, d, e, h]) (numsAt "move")) = .str "move" :: [partL a "name", partL b "moment", partL c "name", partL d "name", partL e "name", partL h "many"]
      rw [fin5_no (by decide +kernel), nums_move, pl_n, mo, pl_n, pl_n, pl_n, ma]
      rfl
  | some_ n m g o t =>
    match ws, l with
    | [a, b, c, d, e], _ =>
      show fin5 ("some" :: [a, b, c, d, e]) (setN ("some" :: [a, b, c, d, e]) (numsAt "some")) = .str "some" :: [partL a "name", partL b "moment", partL c "name", partL d "name", partL e "end"]
      rw [nums_some, pl_n, mo, pl_n, pl_n, pl_e]
      unfold fin5
      by_cases z : e = "-"
      · rw [if_pos z, if_pos ⟨rfl, by rw [← z]; rfl⟩]
        rfl
      · rw [if_neg z, if_neg (fun q => z (Option.some.inj q.2))]
        rfl
  | swap n m o t =>
    match ws, l with
    | [a, b, c, d], _ =>
      show fin5 ("swap" :: [a, b, c, d]) (setN ("swap" :: [a, b, c, d]) (numsAt "swap")) = .str "swap" :: [partL a "name", partL b "moment", partL c "name", partL d "name"]
      rw [fin5_no (by decide +kernel), nums_swap, pl_n, mo, pl_n, pl_n]
      rfl
  | count n m g p k hd =>
    match ws, l with
    | [a, b, c, d, e, h], _ =>
      show fin5 ("count" :: [a, b, c, d, e, h]) (setN ("count" :: [a, b, c, d, e, h]) (numsAt "count")) = .str "count" :: [partL a "name", partL b "moment", partL c "name", partL d "name", partL e "counted", partL h "name"]
      rw [fin5_no (by decide +kernel), nums_count, pl_n, mo, pl_n, pl_n, co, pl_n]
      rfl
  | look n m g p =>
    match ws, l with
    | [a, b, c, d], _ =>
      show fin5 ("look" :: [a, b, c, d]) (setN ("look" :: [a, b, c, d]) (numsAt "look")) = .str "look" :: [partL a "name", partL b "moment", partL c "name", partL d "name"]
      rw [fin5_no (by decide +kernel), nums_look, pl_n, mo, pl_n, pl_n]
      rfl
/-- at t: a length and a list of places -/
def PairAt (H : Hp) (t : Addr) (n : Int) (ns : List Int) : Prop := ∃ l, H t = some (.tup [V.int n, V.ref l]) ∧ H l = some (.lst (ns.map V.int))
theorem PairAt.on {H H' : Hp} {t : Addr} {n : Int} {ns : List Int} (s : Same H H') (h : PairAt H t n ns) : PairAt H' t n ns := by
  obtain ⟨l, h1, h2⟩ := h
  exact ⟨l, s _ _ h1, s _ _ h2⟩
theorem PairAt.upd {H : Hp} {t d : Addr} {n : Int} {ns : List Int} {kvs : List (Key × V)} {o : HO} (hd : H d = some (.dK kvs)) (h : PairAt H t n ns) : PairAt (upd H d o) t n ns := by
  obtain ⟨l, h1, h2⟩ := h
  exact ⟨l, (upd_ne (ne_of h1 hd (by intro z; cases z))).trans h1, (upd_ne (ne_of h2 hd (by intro z; cases z))).trans h2⟩
theorem tp3 {σ : L2.St} {H : Hp} {Q : VK} {n a b c : Int} (go : ∀ t H', Same H H' → PairAt H' t n [a, b, c] → Q (.ref t) H') : tTup (tCons (tC (V.int n)) (tCons (tLst (tCons (tC (V.int a)) (tCons (tC (V.int b)) (tCons (tC (V.int c)) tNil)))) tNil)) σ H Q := by
  refine ⟨(by show 3 ≤ sizeLine; decide), fun l nl => ⟨(by show 2 ≤ sizeLine; decide), fun t nt => ?_⟩⟩
  have s1 := @same_new _ _ (.lst [V.int a, .int b, .int c]) nl
  have s2 := @same_new _ _ (.tup [V.int n, .ref l]) nt
  exact go t _ (s1.trans s2) ⟨l, upd_same, s2 _ _ upd_same⟩
theorem tp2 {σ : L2.St} {H : Hp} {Q : VK} {n a b : Int} (go : ∀ t H', Same H H' → PairAt H' t n [a, b] → Q (.ref t) H') : tTup (tCons (tC (V.int n)) (tCons (tLst (tCons (tC (V.int a)) (tCons (tC (V.int b)) tNil))) tNil)) σ H Q := by
  refine ⟨(by show 2 ≤ sizeLine; decide), fun l nl => ⟨(by show 2 ≤ sizeLine; decide), fun t nt => ?_⟩⟩
  have s1 := @same_new _ _ (.lst [V.int a, .int b]) nl
  have s2 := @same_new _ _ (.tup [V.int n, .ref l]) nt
  exact go t _ (s1.trans s2) ⟨l, upd_same, s2 _ _ upd_same⟩
theorem tp1 {σ : L2.St} {H : Hp} {Q : VK} {n a : Int} (go : ∀ t H', Same H H' → PairAt H' t n [a] → Q (.ref t) H') : tTup (tCons (tC (V.int n)) (tCons (tLst (tCons (tC (V.int a)) tNil)) tNil)) σ H Q := by
  refine ⟨(by show 1 ≤ sizeLine; decide), fun l nl => ⟨(by show 2 ≤ sizeLine; decide), fun t nt => ?_⟩⟩
  have s1 := @same_new _ _ (.lst [V.int a]) nl
  have s2 := @same_new _ _ (.tup [V.int n, .ref l]) nt
  exact go t _ (s1.trans s2) ⟨l, upd_same, s2 _ _ upd_same⟩
theorem tp3k {k : V} {σ : L2.St} {H : Hp} {Q : V → VK} {n a b c : Int} (go : ∀ t H', Same H H' → PairAt H' t n [a, b, c] → Q k (.ref t) H') : tC k σ H fun x H1 => tTup (tCons (tC (V.int n)) (tCons (tLst (tCons (tC (V.int a)) (tCons (tC (V.int b)) (tCons (tC (V.int c)) tNil)))) tNil)) σ H1 (Q x) := tp3 go
theorem tp2k {k : V} {σ : L2.St} {H : Hp} {Q : V → VK} {n a b : Int} (go : ∀ t H', Same H H' → PairAt H' t n [a, b] → Q k (.ref t) H') : tC k σ H fun x H1 => tTup (tCons (tC (V.int n)) (tCons (tLst (tCons (tC (V.int a)) (tCons (tC (V.int b)) tNil))) tNil)) σ H1 (Q x) := tp2 go
theorem tp1k {k : V} {σ : L2.St} {H : Hp} {Q : V → VK} {n a : Int} (go : ∀ t H', Same H H' → PairAt H' t n [a] → Q k (.ref t) H') : tC k σ H fun x H1 => tTup (tCons (tC (V.int n)) (tCons (tLst (tCons (tC (V.int a)) tNil)) tNil)) σ H1 (Q x) := tp1 go
def fmK (t1 t2 t3 t4 t5 t6 t7 : Addr) : List (Key × V) := [(Sum.inr "come", .ref t1), (Sum.inr "go", .ref t2), (Sum.inr "move", .ref t3), (Sum.inr "some", .ref t4), (Sum.inr "swap", .ref t5), (Sum.inr "count", .ref t6), (Sum.inr "look", .ref t7)]
theorem fm_new {t1 t2 t3 t4 t5 t6 t7 : Addr} : mergeK (mergeK [] [(Sum.inr "come", V.ref t1), (Sum.inr "go", .ref t2), (Sum.inr "move", .ref t3), (Sum.inr "some", .ref t4), (Sum.inr "swap", .ref t5)]) (mergeK [] [(Sum.inr "count", V.ref t6), (Sum.inr "look", .ref t7)]) = fmK t1 t2 t3 t4 t5 t6 t7 := rfl
theorem lens (f : Ent) : lenAt f.word = (f.sorts.length : Int) + 1 := by
  cases f with
  | come n m g p k r => exact (by decide +kernel : lenAt "come" = ((6 : Nat) : Int) + 1)
  | go n m g p k => exact (by decide +kernel : lenAt "go" = ((5 : Nat) : Int) + 1)
  | move n m g o t k => exact (by decide +kernel : lenAt "move" = ((6 : Nat) : Int) + 1)
  | some_ n m g o t => exact (by decide +kernel : lenAt "some" = ((5 : Nat) : Int) + 1)
  | swap n m o t => exact (by decide +kernel : lenAt "swap" = ((4 : Nat) : Int) + 1)
  | count n m g p k hd => exact (by decide +kernel : lenAt "count" = ((6 : Nat) : Int) + 1)
  | look n m g p => exact (by decide +kernel : lenAt "look" = ((4 : Nat) : Int) + 1)
theorem nums_rise (f : Ent) : (numsAt f.word).Pairwise (· < ·) := by
  have all : ∀ z ∈ words7, (numsAt z).Pairwise (· < ·) := by decide +kernel
  exact all _ (Ent.word_in f)
theorem nums_in (f : Ent) : ∀ n ∈ numsAt f.word, 0 ≤ n ∧ n < lenAt f.word := by
  have all : ∀ z ∈ words7, ∀ n ∈ numsAt z, 0 ≤ n ∧ n < lenAt z := by decide +kernel
  exact all _ (Ent.word_in f)
theorem setN_snoc (W : List Str) (ns : List Int) (n : Int) : setN W (ns ++ [n]) = (setN W ns).set n.toNat (.int (lnum (W.getD n.toNat ""))) := by
  unfold setN
  rw [List.foldl_append]
  rfl
theorem setN_len (W : List Str) (ns : List Int) : (setN W ns).length = W.length := by
  rcases last_cases ns with rfl | ⟨us, u, rfl⟩
  · exact List.length_map ..
  · induction h : us.length using Nat.strongRecOn generalizing us u with
    | _ k ih =>
      rw [setN_snoc, List.length_set]
      rcases last_cases us with rfl | ⟨us', u', rfl⟩
      · exact List.length_map ..
      · exact ih us'.length (by rw [← h]; simp) us' u' rfl
theorem setN_get (W : List Str) : ∀ (ns : List Int) (k : Nat), (∀ n ∈ ns, n.toNat ≠ k) → (setN W ns)[k]? = (W.map V.str)[k]? := by
  intro ns
  induction h : ns.length using Nat.strongRecOn generalizing ns with
  | _ m ih =>
    intro k hk
    rcases last_cases ns with rfl | ⟨us, u, rfl⟩
    · rfl
    · rw [setN_snoc, List.getElem?_set_ne (hk u (by simp))]
      exact ih us.length (by rw [← h]; simp) us rfl k fun n hn => hk n (by simp [hn])
theorem fm_get {t1 t2 t3 t4 t5 t6 t7 : Addr} {H : Hp} (p1 : PairAt H t1 7 [2, 5, 6]) (p2 : PairAt H t2 6 [2, 5]) (p3 : PairAt H t3 7 [2, 6]) (p4 : PairAt H t4 6 [2]) (p5 : PairAt H t5 5 [2]) (p6 : PairAt H t6 7 [2, 5]) (p7 : PairAt H t7 5 [2]) (f : Ent) :
    ∃ t, valV (fmK t1 t2 t3 t4 t5 t6 t7) (Sum.inr f.word) = some (.ref t) ∧ PairAt H t (lenAt f.word) (numsAt f.word) := by
  have e1 : lenAt "come" = 7 := by decide +kernel
  have e2 : lenAt "go" = 6 := by decide +kernel
  have e3 : lenAt "move" = 7 := by decide +kernel
  have e4 : lenAt "some" = 6 := by decide +kernel
  have e5 : lenAt "swap" = 5 := by decide +kernel
  have e6 : lenAt "count" = 7 := by decide +kernel
  have e7 : lenAt "look" = 5 := by decide +kernel
  cases f with
  | come n m g p k r => exact ⟨t1, rfl, by show PairAt H t1 (lenAt "come") (numsAt "come"); rw [e1, nums_come]; exact p1⟩
  | go n m g p k => exact ⟨t2, rfl, by show PairAt H t2 (lenAt "go") (numsAt "go"); rw [e2, nums_go]; exact p2⟩
  | move n m g o t k => exact ⟨t3, rfl, by show PairAt H t3 (lenAt "move") (numsAt "move"); rw [e3, nums_move]; exact p3⟩
  | some_ n m g o t => exact ⟨t4, rfl, by show PairAt H t4 (lenAt "some") (numsAt "some"); rw [e4, nums_some]; exact p4⟩
  | swap n m o t => exact ⟨t5, rfl, by show PairAt H t5 (lenAt "swap") (numsAt "swap"); rw [e5, nums_swap]; exact p5⟩
  | count n m g p k hd => exact ⟨t6, rfl, by show PairAt H t6 (lenAt "count") (numsAt "count"); rw [e6, nums_count]; exact p6⟩
  | look n m g p => exact ⟨t7, rfl, by show PairAt H t7 (lenAt "look") (numsAt "look"); rw [e7, nums_look]; exact p7⟩
theorem fm_none {t1 t2 t3 t4 t5 t6 t7 : Addr} {z : Str} (h : z ∉ words7) : valV (fmK t1 t2 t3 t4 t5 t6 t7) (Sum.inr z) = none := by
  have ne : ∀ y ∈ words7, decide ((Sum.inr y : Key) = Sum.inr z) = false := fun y hy => decide_eq_false fun e => h (Sum.inr.inj e ▸ hy)
  unfold valV fmK
  simp only [List.find?_cons, ne "come" (by simp [words7]), ne "go" (by simp [words7]), ne "move" (by simp [words7]), ne "some" (by simp [words7]), ne "swap" (by simp [words7]), ne "count" (by simp [words7]), ne "look" (by simp [words7]), List.find?_nil]
  rfl
theorem part_ne {v : V} (h : PartOk v) : partT v ≠ "" := by
  rcases h with ⟨y, rfl, h⟩ | ⟨i, rfl, h0, h1⟩
  · show (if y = "" then ("-" : Str) else y) ≠ ""
    by_cases z : y = ""
    · rw [if_pos z]
      decide +kernel
    · rw [if_neg z]
      exact z
  · intro z
    have := (num_len h0 h1).1
    have z' : numT i = "" := z
    rw [z'] at this
    revert this
    decide +kernel
theorem nums2 (f : Ent) : ∀ n ∈ numsAt f.word, 2 ≤ n := by
  have all : ∀ z ∈ words7, ∀ n ∈ numsAt z, 2 ≤ n := by decide +kernel
  exact all _ (Ent.word_in f)
theorem in_joinL {c : Nat} {p : List Nat} : ∀ {sep : List Nat} {ps : List (List Nat)}, p ∈ ps → c ∈ p → c ∈ TL.joinL sep ps := by
  intro sep ps
  induction ps with
  | nil => intro h; exact nomatch h
  | cons a r ih =>
    intro h hc
    cases r with
    | nil =>
      rcases List.mem_cons.mp h with rfl | h
      · exact hc
      · exact nomatch h
    | cons b r =>
      show c ∈ a ++ (sep ++ TL.joinL sep (b :: r))
      rcases List.mem_cons.mp h with rfl | h
      · exact List.mem_append_left _ hc
      · exact List.mem_append_right _ (List.mem_append_right _ (ih h hc))
theorem split_sub {x sep y : Str} (h : y ∈ Txt.split x sep) : ∀ c ∈ y.cps.toList, c ∈ x.cps.toList := fun c hc => by
  have j := StrLaws.join_split x sep
  have t : TL.tl x = TL.joinL (TL.tl sep) ((Txt.split x sep).map TL.tl) := by rw [← TL.tl_join, j]
  show c ∈ TL.tl x
  rw [t]
  exact in_joinL (List.mem_map.mpr ⟨y, h, rfl⟩) hc
theorem strOk_sub {x y : Str} (h : PyData.strOk x = true) (s : ∀ c ∈ y.cps.toList, c ∈ x.cps.toList) : PyData.strOk y = true := by
  unfold PyData.strOk at h ⊢
  rw [← Array.all_toList, List.all_eq_true] at h ⊢
  exact fun c hc => h c (s c hc)
theorem okv_part {x s : Str} (h : PyData.strOk x = true) : Okv (partL x s) := fun z hz => by
  unfold partL at hz
  split at hz
  · rw [← V.str.inj hz]; exact h
  · split at hz
    · exact V.noConfusion hz
    · split at hz
      · rw [← V.str.inj hz]; decide +kernel
      · rw [← V.str.inj hz]; exact h
theorem thg_partL {x s : Str} {H : Hp} (l : x.length ≤ 90000) : Thg H (partL x s) := by
  unfold partL
  split
  · exact .str x (by omega)
  · split
    · exact .int _
    · split
      · exact .str "" (by decide +kernel)
      · exact .str x (by omega)
def spLEntryIn : Sp := fun vs H Q _ => ∃ x : Str, vs = [.str x] ∧ x.length ≤ 90000 ∧ PyData.strOk x = true ∧ (∀ e : Ent, e.Fine → x = entT e → ∀ (l tp : Addr) (H' : Hp), Same H H' → H' l = some (.lst [V.ref tp]) → H' tp = some (.tup e.vals) → Q (.ref l) H') ∧ ((∀ e : Ent, e.Fine → x ≠ entT e) → ∀ (l : Addr) (H' : Hp), Same H H' → H' l = some (.lst []) → Q (.ref l) H')
section
variable {P : Program} {w : World} {K : PySem.W.Frag} {mg : Str → Option Value} {base : Heap}
abbrev sLEntryInN : List Str := ["_law_line_here", "_law_words_here", "_law_forms", "_law_number_here"]
theorem sc_sLEntryIn : FnScope sLEntryInN ["_law_line_here"] (defScope sLEntryIn) := ⟨rfl, rfl, rfl, by decide +kernel, rfl, by decide +kernel, by decide +kernel⟩
set_option maxHeartbeats 1000000 in
theorem ok_lentryIn {f fN fI : Addr} {fd dN dI : FuncData} (F : Fun K "_law_entry_in" "_law_entry_in" sLEntryIn f fd) (LN : DefT P w K mg base "_law_number" 1 fN dN ["_law_word"] spLNumber) (LI : DefT P w K mg base "_law_is_entry" 3 fI dI ["_law_thing"] spLIsE)
    (ml : mg "len" = none) (mt : mg "tuple" = none) (mi : mg "int" = none) : FnOk P w K mg base CX0 4 f fd ["_law_line_here"] spLEntryIn := by
  refine F.ok sc_sLEntryIn (fun vs H Q E h => ?_) (fun cdv A outer s H vs Q E hr h => ?_)
  · obtain ⟨x, rfl, _⟩ := h
    rfl
  · obtain ⟨x, rfl, l9, so, qy, qn⟩ := h
    have hu := hu_of hr
    have nd := sc_sLEntryIn.nd
    have hr1 : Room 1 _ := hr.mono (by decide)
    refine ⟨_, pss_cons (ps_set (i := 1) nd rfl (Or.inl rfl) (pe_split (pv 0) pe_str))
      (pss_cons (ps_set (i := 2) nd rfl (Or.inl rfl) (pe_disp (pps_cons pe_str (pe_tup (pa_cons pe_int (pa_cons (pe_lst (pa_cons pe_int (pa_cons pe_int (pa_cons pe_int pa_nil)))) pa_nil))) (pps_cons pe_str (pe_tup (pa_cons pe_int (pa_cons (pe_lst (pa_cons pe_int (pa_cons pe_int pa_nil))) pa_nil))) (pps_cons pe_str (pe_tup (pa_cons pe_int (pa_cons (pe_lst (pa_cons pe_int (pa_cons pe_int pa_nil))) pa_nil))) (pps_cons pe_str (pe_tup (pa_cons pe_int (pa_cons (pe_lst (pa_cons pe_int pa_nil)) pa_nil))) (pps_cons pe_str (pe_tup (pa_cons pe_int (pa_cons (pe_lst (pa_cons pe_int pa_nil)) pa_nil))) pps_nil))))) (by rfl) (by rfl) (fun z => by cases z) (by decide)))
      (pss_cons (ps_expr (pe_bm PySem.F.plainAttrs_dict PySem.F.slot_dict_update PySem.F.type_dict_update mt_update (pv 2) (pa_cons (pe_disp (pps_cons pe_str (pe_tup (pa_cons pe_int (pa_cons (pe_lst (pa_cons pe_int (pa_cons pe_int pa_nil))) pa_nil))) (pps_cons pe_str (pe_tup (pa_cons pe_int (pa_cons (pe_lst (pa_cons pe_int pa_nil)) pa_nil))) pps_nil)) (by rfl) (by rfl) (fun z => by cases z) (by decide)) pa_nil)))
      (pss_cons (ps_if (PW.pt (pw_or (pt_cmp (pc_dnotin hu (pe_ix ix_list (pv 1) pe_int (fun _ _ => rfl)) (pv 2))) (pw_or (pt_cmpR op_ne (pe_callB call_len_seq (by rfl) ml PySem.boot_len (pa_cons (pv 1) pa_nil)) (pe_ix ix_tup (pe_dget hu (pv 2) (pe_ix ix_list (pv 1) pe_int (fun _ _ => rfl)) (fun _ _ => rfl)) pe_int (fun _ _ => rfl)) (nomark _)) (pw_or1 (pt_cmpR op_in_seq pe_str (pv 1) (by rfl)))))) (pss_one (ps_ret (pe_lst pa_nil))) pss_nil)
      (pss_cons (ps_for PassesOwn.never rfl (pi_list (pe_ix ix_tup (pe_dget hu (pv 2) (pe_ix ix_list (pv 1) pe_int (fun _ _ => rfl)) (fun _ _ => rfl)) pe_int (fun _ _ => rfl))) (pg_name (i := 3) nd rfl (Or.inl rfl))
        (pss_one (ps_asg (pe_call LN.ok hr1 (by rfl) LN.g LN.kp LN.b .nil pass0 (pa_cons (pe_ix ix_list (pv 1) (pv 3) (fun _ _ => rfl)) pa_nil)) (pg_sub (pv 1) (pv 3) set_list))))
      (C8.pss_cut (ps_if (PW.pt (pw_and (pt_cmpR op_eq (pe_ix ix_list (pv 1) pe_int (fun _ _ => rfl)) pe_str (nomark _)) (pw_and1 (pt_cmpR op_eq (pe_ix ix_list (pv 1) pe_int (fun _ _ => rfl)) pe_str (nomark _))))) (pss_one (ps_asg pe_str (pg_sub (pv 1) pe_int set_list))) pss_nil)
      (pss_one (ps_ret (pe_slice sl_list (pe_lst (pa_cons (pe_callTy call_tuple_of (by rfl) mt (by decide +kernel) (pa_cons (pv 1) pa_nil)) pa_nil)) (po_some (pe_callTy call_int1 (by rfl) mi (by decide +kernel) (pa_cons (pe_not (pe_call LI.ok hr (by rfl) LI.g LI.kp LI.b .nil pass0 (pa_cons (pe_callTy call_tuple_of (by rfl) mt (by decide +kernel) (pa_cons (pv 1) pa_nil)) pa_nil))) pa_nil))) po_none)))))))), ?_⟩
    refine ⟨_, rfl, ⟨_, rfl⟩, _, _, rfl, rfl, (by decide +kernel), (by rw [sizeLine_eq]; omega), fun wl nwl => ?_⟩
    obtain ⟨w0, ws, hw⟩ := split_cons x (sep := " ") (by decide +kernel)
    have lw : ∀ y ∈ w0 :: ws, y.length ≤ 90000 := fun y hy => Nat.le_trans (split_len (hw ▸ hy)) l9
    rw [hw]
    have s1 := @same_new _ _ (.lst ((w0 :: ws).map V.str)) nwl
    have h1 : (upd H wl (.lst ((w0 :: ws).map V.str))) wl = some (.lst ((w0 :: ws).map V.str)) := upd_same
    generalize upd H wl (.lst ((w0 :: ws).map V.str)) = H1 at s1 h1
    have a0 : atI ((w0 :: ws).map V.str) 0 = some (.str w0) := atI_nat (j := 0) rfl
    refine fun d nd => ?_
    have s2 := @same_new _ _ (.dK []) nd
    have hd2 : (upd H1 d (.dK [])) d = some (.dK []) := upd_same
    generalize upd H1 d (.dK []) = H2 at s2 hd2
    dsimp only [tPairs]
    refine tp3k fun t1 H3 s3 p1 => ?_
    refine tp2k fun t2 H4 s4 p2 => ?_
    refine tp2k fun t3 H5 s5 p3 => ?_
    refine tp1k fun t4 H6 s6 p4 => ?_
    refine tp1k fun t5 H7 s7 p5 => ?_
    have hd7 := s7 _ _ (s6 _ _ (s5 _ _ (s4 _ _ (s3 _ _ hd2))))
    refine ⟨hd7, [(Sum.inr "come", V.ref t1), (Sum.inr "go", .ref t2), (Sum.inr "move", .ref t3), (Sum.inr "some", .ref t4), (Sum.inr "swap", .ref t5)], rfl, (by show 5 ≤ 15; decide), ?_⟩
    have s27 : Same H2 H7 := s3.trans (s4.trans (s5.trans (s6.trans s7)))
    have q1 := (p1.on (s4.trans (s5.trans (s6.trans s7)))).upd (o := .dK (mergeK [] [(Sum.inr "come", V.ref t1), (Sum.inr "go", .ref t2), (Sum.inr "move", .ref t3), (Sum.inr "some", .ref t4), (Sum.inr "swap", .ref t5)])) hd7
    have q2 := (p2.on (s5.trans (s6.trans s7))).upd (o := .dK (mergeK [] [(Sum.inr "come", V.ref t1), (Sum.inr "go", .ref t2), (Sum.inr "move", .ref t3), (Sum.inr "some", .ref t4), (Sum.inr "swap", .ref t5)])) hd7
    have q3 := (p3.on (s6.trans s7)).upd (o := .dK (mergeK [] [(Sum.inr "come", V.ref t1), (Sum.inr "go", .ref t2), (Sum.inr "move", .ref t3), (Sum.inr "some", .ref t4), (Sum.inr "swap", .ref t5)])) hd7
    have q4 := (p4.on s7).upd (o := .dK (mergeK [] [(Sum.inr "come", V.ref t1), (Sum.inr "go", .ref t2), (Sum.inr "move", .ref t3), (Sum.inr "some", .ref t4), (Sum.inr "swap", .ref t5)])) hd7
    have q5 := p5.upd (o := .dK (mergeK [] [(Sum.inr "come", V.ref t1), (Sum.inr "go", .ref t2), (Sum.inr "move", .ref t3), (Sum.inr "some", .ref t4), (Sum.inr "swap", .ref t5)])) hd7
    have s18 : Same H1 (upd H7 d (.dK (mergeK [] [(Sum.inr "come", V.ref t1), (Sum.inr "go", .ref t2), (Sum.inr "move", .ref t3), (Sum.inr "some", .ref t4), (Sum.inr "swap", .ref t5)]))) := fun b o e => (upd_ne (ne_of_none e nd)).trans (s27 _ _ (s2 _ _ e))
    have hd8 : (upd H7 d (.dK (mergeK [] [(Sum.inr "come", V.ref t1), (Sum.inr "go", .ref t2), (Sum.inr "move", .ref t3), (Sum.inr "some", .ref t4), (Sum.inr "swap", .ref t5)]))) d = some (.dK (mergeK [] [(Sum.inr "come", V.ref t1), (Sum.inr "go", .ref t2), (Sum.inr "move", .ref t3), (Sum.inr "some", .ref t4), (Sum.inr "swap", .ref t5)])) := upd_same
    generalize upd H7 d (.dK (mergeK [] [(Sum.inr "come", V.ref t1), (Sum.inr "go", .ref t2), (Sum.inr "move", .ref t3), (Sum.inr "some", .ref t4), (Sum.inr "swap", .ref t5)])) = H8 at q1 q2 q3 q4 q5 s18 hd8
    refine ⟨_, rfl, .inr (.inr (.inl ⟨rfl, .inl ⟨_, hd8⟩⟩)), ?_⟩
    refine fun o no => ?_
    have s9 := @same_new _ _ (.dK []) no
    have ho9 : (upd H8 o (.dK [])) o = some (.dK []) := upd_same
    generalize upd H8 o (.dK []) = H9 at s9 ho9
    dsimp only [tPairs]
    refine tp2k fun t6 H10 s10 p6 => ?_
    refine tp1k fun t7 H11 s11 p7 => ?_
    have ho11 := s11 _ _ (s10 _ _ ho9)
    refine ⟨ho11, [(Sum.inr "count", V.ref t6), (Sum.inr "look", .ref t7)], rfl, (by show 2 ≤ 15; decide), ?_⟩
    have s811 : Same H8 H11 := s9.trans (s10.trans s11)
    have hdo : d ≠ o := fun z => by rw [z, no] at hd8; cases hd8
    have s8u : Same H8 (upd H11 o (.dK (mergeK [] [(Sum.inr "count", V.ref t6), (Sum.inr "look", .ref t7)]))) := fun b u e => (upd_ne (ne_of_none e no)).trans (s811 _ _ e)
    have hdu := s8u _ _ hd8
    have r6 := (p6.on s11).upd (o := .dK (mergeK [] [(Sum.inr "count", V.ref t6), (Sum.inr "look", .ref t7)])) ho11
    have r7 := p7.upd (o := .dK (mergeK [] [(Sum.inr "count", V.ref t6), (Sum.inr "look", .ref t7)])) ho11
    have q1 := q1.on s8u
    have q2 := q2.on s8u
    have q3 := q3.on s8u
    have q4 := q4.on s8u
    have q5 := q5.on s8u
    have s1u := s18.trans s8u
    have hou : (upd H11 o (.dK (mergeK [] [(Sum.inr "count", V.ref t6), (Sum.inr "look", .ref t7)]))) o = some (.dK (mergeK [] [(Sum.inr "count", V.ref t6), (Sum.inr "look", .ref t7)])) := upd_same
    generalize upd H11 o (.dK (mergeK [] [(Sum.inr "count", V.ref t6), (Sum.inr "look", .ref t7)])) = H12 at s8u hdu r6 r7 q1 q2 q3 q4 q5 s1u hou
    refine ⟨d, o, _, _, rfl, rfl, hdo, hdu, .inl hou, (by show 5 + 2 ≤ 1000; decide), ?_⟩
    rw [fm_new]
    have gets := fm_get (q1.upd (o := .dK (fmK t1 t2 t3 t4 t5 t6 t7)) hdu) (q2.upd hdu) (q3.upd hdu) (q4.upd hdu) (q5.upd hdu) (r6.upd hdu) (r7.upd hdu)
    have s1v : Same H1 (upd H12 d (.dK (fmK t1 t2 t3 t4 t5 t6 t7))) := fun b u e => (upd_ne (ne_of_none e nd)).trans (s1u _ _ e)
    have hdv : (upd H12 d (.dK (fmK t1 t2 t3 t4 t5 t6 t7))) d = some (.dK (fmK t1 t2 t3 t4 t5 t6 t7)) := upd_same
    generalize upd H12 d (.dK (fmK t1 t2 t3 t4 t5 t6 t7)) = H13 at gets s1v hdv
    have h1v := s1v _ _ h1
    have s0v := s1.trans s1v
    clear q1 q2 q3 q4 q5 r6 r7 s8u hdu s1u hou s18 hd8 s811 s9 ho9 s10 s11 p6 p7 ho11 no hdo
    have none_ : (∀ e : Ent, e.Fine → x ≠ entT e) → ∀ (Hz : Hp), Same H Hz → (0 ≤ sizeLine) ∧ ∀ l, Hz l = none → Q (.ref l) (upd Hz l (.lst [])) := fun z Hz sz => ⟨by decide, fun l nl => qn z l _ (sz.trans (same_new nl)) upd_same⟩
    by_cases w7 : w0 ∈ words7
    rotate_left
    · have no : ∀ e : Ent, e.Fine → x ≠ entT e := fun e he hx => w7 ((head_word he hx hw).1 ▸ Ent.word_in e)
      exact ⟨_, rfl, wl, _, 0, _, rfl, rfl, SqL.of h1v, a0, _, rfl, d, none, rfl, .inl ⟨_, Sum.inr w0, .inl hdv, rfl, (fm_none w7).symm⟩, true, rfl, iteT (none_ no _ s0v)⟩
    obtain ⟨f, rfl⟩ := word_of w7
    obtain ⟨t, ht, l, hp1, hp2⟩ := gets f
    refine ⟨_, rfl, wl, _, 0, _, rfl, rfl, SqL.of h1v, a0, _, rfl, d, some (.ref t), rfl, .inl ⟨_, Sum.inr f.word, .inl hdv, rfl, ht.symm⟩, false, rfl, iteF ?_⟩
    have dget : DGet H13 d (.str f.word) (some (.ref t)) := .inl ⟨_, Sum.inr f.word, .inl hdv, rfl, ht.symm⟩
    by_cases ll : ws.length = f.sorts.length
    rotate_left
    · have no : ∀ e : Ent, e.Fine → x ≠ entT e := fun e he hx => by
        obtain ⟨ew, ep⟩ := head_word he hx hw
        refine ll ?_
        rw [ep, List.length_map, e.len_parts, sorts_word ew]
      refine ⟨_, rfl, wl, _, rfl, .inl (SqL.of h1v), _, rfl, _, rfl, wl, _, 0, _, rfl, rfl, SqL.of h1v, a0, d, _, rfl, dget, t, _, 0, _, rfl, rfl, SqT.of hp1, atI_nat (j := 0) rfl, rfl, true, ?_, iteT (none_ no _ s0v)⟩
      refine congrArg V.bl ?_
      rw [decide_eq_false]
      · rfl
      · intro z
        have z' := V.int.inj z
        rw [lens, List.length_map, List.length_cons] at z'
        exact ll (by omega)
    have lW : (((f.word :: ws).map V.str).length : Int) = lenAt f.word := by rw [lens, List.length_map, List.length_cons, ll]; rfl
    refine ⟨_, rfl, wl, _, rfl, .inl (SqL.of h1v), _, rfl, _, rfl, wl, _, 0, _, rfl, rfl, SqL.of h1v, a0, d, _, rfl, dget, t, _, 0, _, rfl, rfl, SqT.of hp1, atI_nat (j := 0) rfl, rfl, false, ?_, iteF ?_⟩
    · refine congrArg V.bl ?_
      rw [lW, decide_eq_true rfl]
      rfl
    have a1 : (f.word :: ws).map V.str |>.all flatV := all_flat _
    refine ⟨_, rfl, wl, _, rfl, .inl (SqL.of h1v), rfl, a1, ?_⟩
    by_cases em : ("" : Str) ∈ f.word :: ws
    · have no : ∀ e : Ent, e.Fine → x ≠ entT e := fun e he hx => by
        rw [hx, words_ent he] at hw
        rw [← hw] at em
        obtain ⟨v, hv, hz⟩ := List.mem_map.mp em
        exact part_ne (fine_parts he v hv) hz
      refine ⟨true, ?_, iteT (none_ no _ s0v)⟩
      rw [if_neg (by decide), inV_iff, decide_eq_true em]
    refine ⟨false, ?_, iteF ?_⟩
    · rw [if_neg (by decide), inV_iff, decide_eq_false em]
    have lne : l ≠ wl := fun z => by
      rw [z, h1v] at hp2
      have e : V.str f.word :: ws.map V.str = (numsAt f.word).map V.int := HO.lst.inj (Option.some.inj hp2)
      generalize numsAt f.word = N at e
      cases N with
      | nil => cases e
      | cons a r => exact V.noConfusion (List.cons.inj e).1
    refine ⟨_, rfl, _, rfl, wl, _, 0, _, rfl, rfl, SqL.of h1v, a0, d, _, rfl, dget, t, _, 1, _, rfl, rfl, SqT.of hp1, atI_nat (j := 1) rfl, l, rfl, ⟨_, SqL.of hp2⟩, ?_⟩
    refine for_list (K := K) (a := l) (xs := (numsAt f.word).map V.int) (fun i σ H' => ∃ y3, σ = [some (.str x), some (.ref wl), some (.ref d), y3] ∧ Same H H' ∧ H' wl = some (.lst (setN (f.word :: ws) ((numsAt f.word).take i))) ∧ H' l = some (.lst ((numsAt f.word).map V.int)))
      ⟨_, rfl, s0v, h1v, hp2⟩ (fun i σ H' _ z => by obtain ⟨_, _, _, _, z⟩ := z; exact SqL.of z) ?_ ?_
    · rintro i v σ H14 hv ⟨y3, rfl, s14, hW, hl⟩
      rw [List.getElem?_map] at hv
      obtain ⟨n, hn, rfl⟩ := Option.map_eq_some_iff.mp hv
      have nin := nums_in f n (List.mem_of_getElem? hn)
      have ln : (setN (f.word :: ws) ((numsAt f.word).take i)).length = (f.word :: ws).length := setN_len _ _
      have lW' : ((f.word :: ws).length : Int) = lenAt f.word := by rw [← lW, List.length_map]
      have lk : n.toNat < (f.word :: ws).length := by omega
      have hy : (f.word :: ws)[n.toNat]? = some (f.word :: ws)[n.toNat] := List.getElem?_eq_getElem lk
      generalize (f.word :: ws)[n.toNat] = y at hy
      have en : ((n.toNat : Nat) : Int) = n := by omega
      have at' : atI (setN (f.word :: ws) ((numsAt f.word).take i)) n = some (.str y) := by
        have h := atI_nat (xs := setN (f.word :: ws) ((numsAt f.word).take i)) (j := n.toNat) (v := .str y) (by
          rw [setN_get _ _ _ fun m hm => ?_, List.getElem?_map, hy]
          · rfl
          · obtain ⟨j, hj⟩ := List.mem_iff_getElem?.mp hm
            obtain ⟨lj, ej⟩ := List.getElem?_eq_some_iff.mp hj
            obtain ⟨li, ei⟩ := List.getElem?_eq_some_iff.mp hn
            rw [List.length_take] at lj
            rw [List.getElem_take] at ej
            have lt := List.pairwise_iff_getElem.mp (nums_rise f) j i (by omega) li (by omega)
            rw [ej, ei] at lt
            have := nums_in f m (List.mem_of_mem_take hm)
            omega)
        rw [en] at h
        exact h
      have ix : ixN (setN (f.word :: ws) ((numsAt f.word).take i)).length n = some n.toNat := by
        unfold ixN
        rw [if_pos nin.1, if_pos (by rw [ln]; omega)]
      refine ⟨_, rfl, _, rfl, wl, _, n, _, rfl, rfl, SqL.of hW, at', y, rfl, Nat.le_trans (lw y (List.mem_of_getElem? hy)) (by decide), fun H15 s15 => ⟨_, rfl, _, rfl, wl, _, n, _, rfl, rfl, s15 _ _ hW, ix, ?_⟩⟩
      have gd : (f.word :: ws).getD n.toNat "" = y := by rw [List.getD_eq_getElem?_getD, hy]; rfl
      refine ⟨_, rfl, fun b o e => (upd_ne (ne_of_none e nwl)).trans (s15 _ _ (s14 _ _ e)), ?_, (upd_ne lne).trans (s15 _ _ hl)⟩
      rw [upd_same, take_sn hn, setN_snoc, gd]
    rintro σ H14 ⟨y3, rfl, s14, hW, hl⟩
    rw [List.length_map, List.take_length] at hW
    have g0 : atI (setN (f.word :: ws) (numsAt f.word)) 0 = some (.str f.word) := atI_nat (j := 0) (by
      rw [setN_get _ _ _ fun m hm => by have := nums2 f m hm; omega]
      rfl)
    refine ⟨fun σ' H' => ∃ y3, σ' = [some (.str x), some (.ref wl), some (.ref d), y3] ∧ Same H H' ∧ H' wl = some (.lst (fin5 (f.word :: ws) (setN (f.word :: ws) (numsAt f.word)))), ?_, ?_⟩
    · refine ⟨_, rfl, wl, _, 0, _, rfl, rfl, SqL.of hW, g0, rfl, _, rfl, ?_⟩
      by_cases sm : f.word = "some"
      · rw [decide_eq_true (congrArg V.str sm)]
        have l5 : 5 < (f.word :: ws).length := by
          have e1 : lenAt f.word = 6 := by rw [sm]; decide +kernel
          have e2 : ((f.word :: ws).length : Int) = lenAt f.word := by rw [← lW, List.length_map]
          omega
        have hy : (f.word :: ws)[5]? = some (f.word :: ws)[5] := List.getElem?_eq_getElem l5
        generalize (f.word :: ws)[5] = y at hy
        have ns : numsAt f.word = [2] := by rw [sm]; exact nums_some
        have g5 : atI (setN (f.word :: ws) (numsAt f.word)) 5 = some (.str y) := atI_nat (j := 5) (by
          rw [setN_get _ _ _ fun m hm => by (rw [ns] at hm; rw [List.mem_singleton.mp hm]; decide), List.getElem?_map, hy]
          rfl)
        refine iteT ⟨_, rfl, wl, _, 5, _, rfl, rfl, SqL.of hW, g5, rfl, _, rfl, ?_⟩
        by_cases yd : y = "-"
        · rw [decide_eq_true (congrArg V.str yd)]
          have ix : ixN (setN (f.word :: ws) (numsAt f.word)).length 5 = some 5 := by
            unfold ixN
            rw [if_pos (by decide), if_pos (by rw [setN_len]; omega)]
            rfl
          refine iteT ⟨_, rfl, wl, _, 5, _, rfl, rfl, hW, ix, _, rfl, fun b o e => (upd_ne (ne_of_none e nwl)).trans (s14 _ _ e), ?_⟩
          rw [upd_same]
          unfold fin5
          rw [if_pos ⟨by rw [← sm]; rfl, by rw [hy, yd]⟩]
        · rw [decide_eq_false fun z => yd (V.str.inj z)]
          refine iteF ⟨_, rfl, s14, ?_⟩
          unfold fin5
          rw [if_neg fun z => yd (Option.some.inj (hy.symm.trans z.2))]
          exact hW
      · rw [decide_eq_false fun z => sm (V.str.inj z)]
        refine iteF (iteF ⟨_, rfl, s14, ?_⟩)
        unfold fin5
        rw [if_neg fun z => sm (Option.some.inj z.1)]
        exact hW
    rintro σ H15 ⟨y3, rfl, s15, hW⟩
    rw [law_list ll] at hW
    have ne : ∀ y ∈ ws, y ≠ "" := fun y hy z => em (z ▸ List.mem_cons_of_mem _ hy)
    have okl : ∀ v ∈ V.str f.word :: lawL ws f.sorts, ∀ H' : Hp, Thg H' v ∧ Okv v := fun v hv H' => by
      rcases List.mem_cons.mp hv with rfl | hv
      · refine ⟨.str f.word (by have := lw f.word List.mem_cons_self; omega), fun z hz => ?_⟩
        rw [← V.str.inj hz]
        exact strOk_sub so (split_sub (x := x) (sep := " ") (hw ▸ List.mem_cons_self))
      obtain ⟨i, hi⟩ := List.mem_iff_getElem?.mp hv
      unfold lawL at hi
      rw [List.getElem?_zipWith] at hi
      cases e1 : ws[i]? with
      | none => rw [e1] at hi; exact nomatch hi
      | some y =>
        cases e2 : f.sorts[i]? with
        | none => rw [e1, e2] at hi; exact nomatch hi
        | some s' =>
          rw [e1, e2] at hi
          rw [← Option.some.inj hi]
          have my : y ∈ f.word :: ws := List.mem_cons_of_mem _ (List.mem_of_getElem? e1)
          exact ⟨thg_partL (lw y my), okv_part (strOk_sub so (split_sub (x := x) (sep := " ") (hw ▸ my)))⟩
    have le6 : f.sorts.length ≤ 6 := by
      have := vals_len10 f
      have : f.vals.length = f.sorts.length + 1 := vals_len f
      omega
    refine ⟨_, rfl, wl, _, rfl, .inl ⟨SqL.of hW, fun tp ntp => ⟨(by show 1 ≤ sizeLine; decide), fun ll' nll => ?_⟩⟩⟩
    have s16 := @same_new _ _ (.tup (V.str f.word :: lawL ws f.sorts)) ntp
    have htp : (upd H15 tp (.tup (V.str f.word :: lawL ws f.sorts))) tp = some (.tup (V.str f.word :: lawL ws f.sorts)) := upd_same
    generalize upd H15 tp (.tup (V.str f.word :: lawL ws f.sorts)) = H16 at s16 htp nll
    have s17 := @same_new _ _ (.lst [V.ref tp]) nll
    have hll : (upd H16 ll' (.lst [V.ref tp])) ll' = some (.lst [V.ref tp]) := upd_same
    generalize upd H16 ll' (.lst [V.ref tp]) = H17 at s17 hll
    have hW17 := s17 _ _ (s16 _ _ hW)
    refine ⟨_, rfl, wl, _, rfl, .inl ⟨SqL.of hW17, fun tq ntq => ?_⟩⟩
    have s18 := @same_new _ _ (.tup (V.str f.word :: lawL ws f.sorts)) ntq
    refine ⟨.ref tq, rfl, .inr ⟨tq, _, rfl, upd_same, by rw [List.length_cons, lawL_len ll]; omega, fun v hv => okl v hv _, fun b hb H19 s19 => ?_⟩⟩
    have s17' := s18.trans s19
    have s0 : Same H H19 := s15.trans (s16.trans (s17.trans s17'))
    have hl19 := s17' _ _ hll
    have ht19 := s17' _ _ (s17 _ _ htp)
    cases b with
    | true =>
      have ie := hb.mp rfl
      have eq := law_same ll ne (.inl ie)
      rw [eq] at ie ht19
      obtain ⟨e, he, hv⟩ := ie
      have hx := read_isE hw ll he hv
      refine ⟨true, rfl, .inr ⟨_, rfl, 0, rfl, ll', _, rfl, SqL.of hl19, fun p np => ?_⟩⟩
      have s20 := @same_new _ _ (.lst (cutV [V.ref tp] (some 0) none)) np
      have hp : (upd H19 p (.lst (cutV [V.ref tp] (some 0) none))) p = some (.lst [V.ref tp]) := by
        rw [upd_same, show cutV [V.ref tp] (some 0) none = [V.ref tp].drop 0 from cut_tail (k := 0)]
        rfl
      exact qy e he hx p tp _ (s0.trans s20) hp (by rw [s20 _ _ ht19, hv])
    | false =>
      have ni : ¬ IsE (V.str f.word :: lawL ws f.sorts) := fun z => absurd (hb.mpr z) (by decide)
      have no : ∀ e : Ent, e.Fine → x ≠ entT e := fun e he hx => by
        obtain ⟨ew, ep⟩ := head_word he hx hw
        have ie : IsE (.str f.word :: readV ws f.sorts) := ⟨e, he, isE_read he ew ep⟩
        have eq := law_same ll ne (.inr ie)
        rw [← eq] at ie
        exact ni ie
      refine ⟨false, rfl, .inr ⟨_, rfl, 1, rfl, ll', _, rfl, SqL.of hl19, fun p np => ?_⟩⟩
      have s20 := @same_new _ _ (.lst (cutV [V.ref tp] (some 1) none)) np
      have hp : (upd H19 p (.lst (cutV [V.ref tp] (some 1) none))) p = some (.lst []) := by
        rw [upd_same, show cutV [V.ref tp] (some 1) none = [V.ref tp].drop 1 from cut_tail (k := 1)]
        rfl
      exact qn no p _ (s0.trans s20) hp
end
/-! ### houses read -/
theorem for_enumL {K : PySem.W.Frag} {a : Addr} {xs : List V} {g : TG} {tb : TS} {D : Ends} {σ : L2.St} {H : Hp} (Pv : Nat → L2.St → Hp → Prop) (h0 : Pv 0 σ H) (hl : ∀ i σ H, i ≤ xs.length → Pv i σ H → SqL K H a xs)
    (hs : ∀ (i : Nat) x T σ H, xs[i]? = some x → Pv i σ H → H T = none → g (.ref T) σ (upd H T (.tup [V.int (i : Int), x])) fun σ2 H2 => tb { D with nx := Pv (i + 1), ct := Pv (i + 1), bk := D.nx } σ2 H2) (hd : ∀ σ H, Pv xs.length σ H → D.nx σ H) :
    ∃ W : Nat → Nat → L2.St → Hp → Prop, (∃ m, W 0 m σ H) ∧ ∀ i m σ H, W i m σ H →
      ((Ite K a).stop i H ∧ D.nx σ H) ∨ ((Ite K a).go i H ∧ ∃ N : L2.St → Hp → Prop, (∀ σ' H', N σ' H' → ∃ m', m' < m ∧ W (i + 1) m' σ' H') ∧ ∀ x H', (Ite K a).yld i H x H' → g x σ H' fun σ2 H2 => tb { D with nx := N, ct := N, bk := D.nx } σ2 H2) := by
  refine ⟨fun i m σ H => m = xs.length - i ∧ i ≤ xs.length ∧ Pv i σ H, ⟨xs.length, rfl, Nat.zero_le _, h0⟩, ?_⟩
  rintro i m σ H ⟨rfl, hi, p⟩
  have q := hl i σ H hi p
  by_cases lt : i < xs.length
  · refine .inr ⟨⟨xs, _, q, List.getElem?_eq_getElem lt⟩, Pv (i + 1), fun σ' H' p' => ⟨xs.length - (i + 1), by omega, rfl, lt, p'⟩, fun v H' y => ?_⟩
    obtain ⟨T, x, rfl, nT, rfl, f⟩ := y
    exact hs i x T σ H (f xs q) p nT
  · have e : i = xs.length := by omega
    subst e
    exact .inl ⟨⟨xs, q, Nat.le_refl _⟩, hd σ H p⟩
/-- all(.. for x, y in zip(xs, ys)), lists of any lengths -/
theorem all_zipL {K : PySem.W.Frag} {T a b : Addr} {xs ys : List V} {g : TG} {tt : TT} {te : TE} {vs : List Nat} {σ : L2.St} {H : Hp} {Q : VK} (W : Nat → Hp → Prop) (tg : GxR.TabG H T) (h0 : ∀ H2, GxR.Tabbed T H H2 → W 0 H2) (hl : ∀ i H', W i H' → SqL K H' a xs ∧ SqL K H' b ys)
    (step : ∀ i x y t H' (Go : Hp → Prop), xs[i]? = some x → ys[i]? = some y → W i H' → H' t = none → (∀ H4, W (i + 1) H4 → Go H4) → g (.ref t) (wipe σ vs) (upd H' t (.tup [x, y])) fun σ2 H2 => wipe σ2 vs = wipe σ vs ∧ tt σ2 H2 fun b H3 => if b = true then te σ2 H3 fun y H4 => ∃ k, y = .bl k ∧ (if k = true then Go H4 else Q (.bl false) H4) else Go H3)
    (done : ∀ H', W (min xs.length ys.length) H' → Q (.bl true) H') :
    GxR.TabG H T ∧ ∀ H2, GxR.Tabbed T H H2 → ∃ W : Nat → Nat → Hp → Prop, (∃ m, W 0 m H2) ∧
      GTurns (Itz K a b) g tt te vs σ W (fun i m y H' => ∃ k, y = .bl k ∧ (if k = true then ∃ m', m' < m ∧ W (i + 1) m' H' else Q (.bl false) H')) (fun H' => Q (.bl true) H') := by
  refine ⟨tg, fun H2 tb => ⟨fun i m H' => m = min xs.length ys.length - i ∧ i ≤ min xs.length ys.length ∧ W i H', ⟨_, rfl, Nat.zero_le _, h0 H2 tb⟩, ?_⟩⟩
  rintro i m H3 ⟨rfl, hi, w3⟩
  obtain ⟨sa, sb⟩ := hl i H3 w3
  by_cases lt : i < min xs.length ys.length
  · refine .inr ⟨⟨xs, ys, xs[i]'(by omega), ys[i]'(by omega), sa, sb, List.getElem?_eq_getElem _, List.getElem?_eq_getElem _⟩, fun v H' y => ?_⟩
    obtain ⟨t, x', y', rfl, nT, rfl, f1, f2⟩ := y
    exact step i x' y' t H3 (fun H' => ∃ m', m' < min xs.length ys.length - i ∧ m' = min xs.length ys.length - (i + 1) ∧ i + 1 ≤ min xs.length ys.length ∧ W (i + 1) H') (f1 xs sa) (f2 ys sb) w3 nT fun H4 w4 => ⟨_, by omega, rfl, lt, w4⟩
  · have ei : i = min xs.length ys.length := by omega
    exact .inl ⟨⟨xs, ys, sa, sb, by omega⟩, done H3 (ei ▸ w3)⟩
theorem all_lst {K : PySem.W.Frag} {T l : Addr} {xs : List V} {g : TG} {tt : TT} {te : TE} {vs : List Nat} {σ : L2.St} {H : Hp} {Q : VK} {k : Nat} (h : SqL K H l xs) (hv : σ[k]? = some (some (.ref l))) (W : Nat → Hp → Prop) (tg : GxR.TabG H T) (h0 : ∀ H2, GxR.Tabbed T H H2 → W 0 H2) (hl : ∀ i H', i ≤ xs.length → W i H' → SqL K H' l xs)
    (step : ∀ i x H' (Go : Hp → Prop), xs[i]? = some x → W i H' → (∀ H4, W (i + 1) H4 → Go H4) → g x (wipe σ vs) H' fun σ2 H2 => wipe σ2 vs = wipe σ vs ∧ tt σ2 H2 fun b H3 => if b = true then te σ2 H3 fun y H4 => ∃ k, y = .bl k ∧ (if k = true then Go H4 else Q (.bl false) H4) else Go H3)
    (done : ∀ H', W xs.length H' → Q (.bl true) H') : tAllG T (iList K (tVar k)) g tt te vs σ H Q := ⟨_, hv, l, rfl, ⟨_, h⟩, all_over over_l W tg h0 hl step done⟩
theorem any_lst {K : PySem.W.Frag} {T l : Addr} {xs : List V} {g : TG} {tt : TT} {te : TE} {vs : List Nat} {σ : L2.St} {H : Hp} {Q : VK} {k : Nat} (h : SqL K H l xs) (hv : σ[k]? = some (some (.ref l))) (W : Nat → Hp → Prop) (tg : GxR.TabG H T) (h0 : ∀ H2, GxR.Tabbed T H H2 → W 0 H2) (hl : ∀ i H', i ≤ xs.length → W i H' → SqL K H' l xs)
    (step : ∀ i x H' (Go : Hp → Prop), xs[i]? = some x → W i H' → (∀ H4, W (i + 1) H4 → Go H4) → g x (wipe σ vs) H' fun σ2 H2 => wipe σ2 vs = wipe σ vs ∧ tt σ2 H2 fun b H3 => if b = true then te σ2 H3 fun y H4 => ∃ k, y = .bl k ∧ (if k = true then Q (.bl true) H4 else Go H4) else Go H3)
    (done : ∀ H', W xs.length H' → Q (.bl false) H') : tAnyG T (iList K (tVar k)) g tt te vs σ H Q := ⟨_, hv, l, rfl, ⟨_, h⟩, any_over over_l W tg h0 hl step done⟩
/-! rising texts -/
def strLt (a b : Str) : Bool := PySem.W.dataLt (.str a) (.str b)
def riseB (xs : List Str) : Bool := (xs.zip (xs.drop 1)).all fun p => strLt p.1 p.2
theorem strLt_of {a b : Str} (h : leS a b) (n : a ≠ b) : strLt a b = true := by
  have lt : a.cps.toList < b.cps.toList := by
    by_cases z : a.cps.toList < b.cps.toList
    · exact z
    · exact absurd (leS_anti h (List.not_lt.mp z)) n
  show (PyProof.Rows.strKind.blt a.cps.toList b.cps.toList || (!PyProof.Rows.strKind.blt b.cps.toList a.cps.toList && false)) = true
  have l : PyProof.Rows.strKind.blt a.cps.toList b.cps.toList = true := decide_eq_true lt
  rw [l]
  rfl
theorem rise_sorted : ∀ {xs : List Str}, sortedS xs = true → xs.Nodup → riseB xs = true := by
  intro xs so nd
  have pw := sorted_pw so
  unfold riseB
  rw [List.all_eq_true]
  rintro ⟨x, y⟩ hp
  obtain ⟨i, hi⟩ := List.mem_iff_getElem?.mp hp
  obtain ⟨h1, h2⟩ := List.getElem?_zip_eq_some.mp hi
  rw [List.getElem?_drop] at h2
  obtain ⟨l1, e1⟩ := List.getElem?_eq_some_iff.mp h1
  obtain ⟨l2, e2⟩ := List.getElem?_eq_some_iff.mp h2
  have lt : i < 1 + i := by omega
  have le := List.pairwise_iff_getElem.mp pw i (1 + i) l1 l2 lt
  have ne := List.pairwise_iff_getElem.mp nd i (1 + i) l1 l2 lt
  rw [e1, e2] at le ne
  exact strLt_of le ne
def rLtD (K : PySem.W.Frag) : R2 := fun x y H Q => ∃ d e, Dp K H x d ∧ Dp K H y e ∧ PySem.W.alike d e = true ∧ d ≠ .none ∧ min d.depth e.depth ≤ 60 ∧ Q (.bl (PySem.W.dataLt d e)) H
theorem op_ltD {X : Cx} (hu : X.A.units + 64 < cLine) : OpR X (compareOp .Lt) (rLtD X.K) := by
  intro pins s σ H x y v u Q I rx ry h
  obtain ⟨d, e, hd, he, al, nn, dp, q⟩ := h
  obtain ⟨as, r1⟩ := Dp.reads I d x v hd rx
  obtain ⟨bs, r2⟩ := Dp.reads I e y u he ry
  exact PySem.W.lt_data r1 r2 al nn (by omega) ⟨.bl _, H, I, rfl, q⟩
def spAreRising (Ts : List Addr) : Sp := fun vs H Q _ => ∃ (l : Addr) (xs : List Str), vs = [.ref l] ∧ H l = some (.lst (xs.map V.str)) ∧ TabsG Ts H ∧ ∀ H', TB1 Ts H H' → Q (.bl (riseB xs)) H'
def spAhead : Sp := fun vs H Q _ => ∃ (a b : Addr) (e g : Ent), vs = [.ref a, .ref b] ∧ H a = some (.tup e.vals) ∧ H b = some (.tup g.vals) ∧ ∀ H', Same H H' → Q (.bl (PySem.W.dataLt (ordD e) (ordD g))) H'
theorem Good.fine {P G : List Str} {es : List Ent} {m : Nat} (g : Good P G es m) : ∀ e ∈ es, e.Fine := fun e he => by
  obtain ⟨h1, h2, h3, HL, h4, h5⟩ := g.ents e he
  exact (fine_of h5 g.nd g.nm g.gn h4 h1 h2 h3).1
theorem from_own {P G HL : List Str} {e : Ent} (h : e.From P G HL) : ofB e P G = true := by
  have d : ∀ {y : Str} {L : List Str}, y ∈ L → decide (y ∈ L) = true := fun z => decide_eq_true z
  unfold ofB goodOk
  cases e with
  | come n m g p k r => simp [Ent.goodV, Ent.places, h.1, h.2.1]
  | go n m g p k => simp [Ent.goodV, Ent.places, h.1, h.2.1]
  | move n m g o t k => simp [Ent.goodV, Ent.places, h.1, h.2.1, h.2.2.1]
  | some_ n m g o t =>
    obtain ⟨h1, h2, h3⟩ := h
    by_cases z : t = ""
    · simp [Ent.goodV, Ent.places, h1, h2, z]
    · have := (h3.resolve_left z).1
      simp [Ent.goodV, Ent.places, h1, h2, z, this]
  | swap n m o t => simp [Ent.goodV, Ent.places, h.1, h.2.1]
  | count n m g p k hd => simp [Ent.goodV, Ent.places, h.1, h.2.1]
  | look n m g p => simp [Ent.goodV, Ent.places, h.1, h.2]
theorem Good.own {P G : List Str} {es : List Ent} {m : Nat} (g : Good P G es m) : ∀ e ∈ es, ofB e P G = true := fun e he => by
  obtain ⟨h1, h2, h3, HL, h4, h5⟩ := g.ents e he
  exact from_own h5
theorem Good.new {P G : List Str} {es : List Ent} {m : Nat} (g : Good P G es m) {i : Nat} {e : Ent} (h : es[i]? = some e) : e.name ∉ (es.take i).map Ent.name := fun z => by
  obtain ⟨x, hx, hn⟩ := List.mem_map.mp z
  obtain ⟨j, hj⟩ := List.mem_iff_getElem?.mp hx
  obtain ⟨lj, ej⟩ := List.getElem?_eq_some_iff.mp hj
  obtain ⟨li, ei⟩ := List.getElem?_eq_some_iff.mp h
  rw [List.length_take] at lj
  rw [List.getElem_take] at ej
  have := List.pairwise_iff_getElem.mp g.nms j i (by rw [List.length_map]; omega) (by rw [List.length_map]; omega) (by omega)
  rw [List.getElem_map, List.getElem_map, ej, ei] at this
  exact this hn
theorem Good.behind {P G : List Str} {es : List Ent} {m : Nat} (g : Good P G es m) {i : Nat} {e : Ent} (h : es[i]? = some e) : ∀ x ∈ es.take i, PySem.W.dataLt (ordD x) (ordD e) = true := fun x hx => by
  obtain ⟨j, hj⟩ := List.mem_iff_getElem?.mp hx
  obtain ⟨lj, ej⟩ := List.getElem?_eq_some_iff.mp hj
  obtain ⟨li, ei⟩ := List.getElem?_eq_some_iff.mp h
  rw [List.length_take] at lj
  rw [List.getElem_take] at ej
  have := List.pairwise_iff_getElem.mp g.so j i (by rw [List.length_map]; omega) (by rw [List.length_map]; omega) (by omega)
  rw [List.getElem_map, List.getElem_map, ej, ei] at this
  exact this
theorem house_len {P G : List Str} {es : List Ent} {m : Nat} (gd : Good P G es m) (m30 : m ≤ 30) : (houseT P G es).length ≤ 20000 := by
  have bl : ((" " : Str)).length = 1 := by decide +kernel
  have hbl : (("\n" : Str)).length = 1 := by decide +kernel
  have w1 : (("places" : Str)).length = 6 := by decide +kernel
  have w2 : (("\ngoods" : Str)).length = 6 := by decide +kernel
  have sP := sum_le (xs := P) (B := 8) fun y hy => (name_len (gd.nm y hy)).2
  have sG := sum_le (xs := G) (B := 8) fun y hy => (name_len (gd.gn y hy)).2
  have sE := sum_le (xs := es.map entT) (B := 200) fun y hy => by
    obtain ⟨e, he, rfl⟩ := List.mem_map.mp hy
    exact ent_len (gd.parts e he)
  have l6 := gd.le
  have l3 := gd.gl
  have lm := gd.many
  rw [glue_house, glue_len, glue_len, app_len, glue_len, bl, hbl, w1, w2]
  rw [List.length_map] at sE ⊢
  omega
section
variable {P : Program} {w : World} {K : PySem.W.Frag} {mg : Str → Option Value} {base : Heap}
abbrev sAheadN : List Str := ["entry", "other"]
theorem sc_sAhead : FnScope sAheadN ["entry", "other"] (defScope sAhead) := ⟨rfl, rfl, rfl, by decide +kernel, rfl, by decide +kernel, by decide +kernel⟩
theorem ok_ahead {f fO : Addr} {fd fdO : FuncData} (F : Fun K "goes_ahead" "goes_ahead" sAhead f fd) (O : DefT P w K mg base "order_of" 1 fO fdO ["entry"] spOrd) : FnOk P w K mg base CX0 2 f fd ["entry", "other"] spAhead := by
  refine F.ok sc_sAhead (fun vs H Q E h => ?_) (fun cdv A outer s H vs Q E hr h => ?_)
  · obtain ⟨a, b, e, g, rfl, _⟩ := h
    rfl
  · obtain ⟨a, b, e, g, rfl, ha, hb, q⟩ := h
    refine ⟨_, pss_one (ps_ret (pe_cmpR (op_ltD hr.units) (pe_call O.ok hr (by rfl) O.g O.kp O.b .nil pass0 (pa_cons (pv 0) pa_nil)) (pe_call O.ok hr (by rfl) O.g O.kp O.b .nil pass0 (pa_cons (pv 1) pa_nil)) (nomark _))), ?_⟩
    refine ⟨_, rfl, a, e, rfl, ha, fun t1 H1 s1 h1 => ?_⟩
    refine ⟨_, rfl, b, g, rfl, s1 _ _ hb, fun t2 H2 s2 h2 => ?_⟩
    exact ⟨ordD e, ordD g, ord_dp (s2 _ _ h1), ord_dp h2, ord_alike e g, fun z => (by cases z), by show min 1 1 ≤ 60; decide, q H2 (s1.trans s2)⟩
abbrev sAreRisingN : List Str := ["things", "low", "high"]
theorem sc_sAreRising : FnScope sAreRisingN ["things"] (defScope sAreRising) := ⟨rfl, rfl, rfl, by decide +kernel, rfl, by decide +kernel, by decide +kernel⟩
theorem ok_areRising {f cA T : Addr} {Ts : List Addr} {oc kV doc pm ct : Value} {od an : Option Addr} {osl : Array (Option Value)}
    (lk : K.lookup f = some ⟨oc, od, .func (PySem.W.fnOf "are_rising" "are_rising" (defArgs sAreRising) (defBody sAreRising) (defScope sAreRising) .none kV doc pm an (.ref cA) ct), osl⟩) (cdI : PySem.W.codeIn K (.ref cA) "are_rising" = true)
    (TB : GxR.TabB base mg cA T) (i1 : T ∈ Ts) (mal : mg "all" = none) (mz : mg "zip" = none) :
    FnOk P w K mg base CX0 2 f (PySem.W.fnOf "are_rising" "are_rising" (defArgs sAreRising) (defBody sAreRising) (defScope sAreRising) .none kV doc pm an (.ref cA) ct) ["things"] (spAreRising Ts) := by
  refine fn_of lk cdI sc_sAreRising (fun vs H Q E h => ?_) (fun A outer s H vs Q E hr h => ?_)
  · obtain ⟨l, xs, rfl, _⟩ := h
    rfl
  · obtain ⟨l, xs, rfl, hl, tg, q⟩ := h
    have nd := sc_sAreRising.nd
    refine ⟨_, pss_one (ps_ret (pe_allG (T := T) (c := cA) (k := 0) (own := [("low", 1), ("high", 2)]) (g := gTup K 2 (gCons (gName 1) (gCons (gName 2) gNil))) (tt := tYes) (te := tOp (rLtD K) (tVar 1) (tVar 2)) (hr.mono (by decide)) (by rfl) mal rfl nd TB rfl ⟨blkOk_by (N := sAreRisingN) (sc := defScope sAreRising) (by decide +kernel), rfl, by decide +kernel, rfl⟩ (RZ.pi_zipA (by rfl) mz (pa_cons (pv 0) (pa_cons (pe_slice sl_list (pv 0) (po_some pe_int) po_none) pa_nil))) (fun _ _ _ _ _ _ => (pg_tup (by rfl) (pgs_cons (pg_name (i := 1) nd rfl (Or.inl rfl)) (pgs_cons (pg_name (i := 2) nd rfl (Or.inl rfl)) pgs_nil)))) (fun _ _ _ _ _ _ hr' => pts_nil) (fun _ _ _ _ _ _ hr' => (pe_cmpR (op_ltD hr'.units) (pv 1) (pv 2) (nomark _))))), ?_⟩
    refine ⟨_, rfl, _, rfl, 1, rfl, l, _, rfl, SqL.of hl, fun l2 nl2 => ?_⟩
    have s1 := @same_new _ _ (.lst (cutV (xs.map V.str) (some 1) none)) nl2
    have h2 : (upd H l2 (.lst (cutV (xs.map V.str) (some 1) none))) l2 = some (.lst ((xs.drop 1).map V.str)) := by
      rw [upd_same, show cutV (xs.map V.str) (some 1) none = (xs.map V.str).drop 1 from cut_tail (k := 1), List.map_drop]
    generalize upd H l2 (.lst (cutV (xs.map V.str) (some 1) none)) = H1 at s1 h2
    have tg1 := tabs_sm s1 tg
    have h1 := s1 _ _ hl
    have zl : (xs.zip (xs.drop 1)).length = min xs.length (xs.drop 1).length := List.length_zip
    refine ⟨l, l2, _, _, rfl, .inl ⟨SqL.of h1, SqL.of h2, ?_⟩⟩
    refine all_zipL (xs := xs.map V.str) (ys := (xs.drop 1).map V.str) (fun i H' => TB1 Ts H1 H' ∧ ((xs.zip (xs.drop 1)).take i).all (fun p => strLt p.1 p.2) = true) (tg1 T i1) (fun H2 tb => ⟨.tab tb tg1 i1, rfl⟩) (fun i H' z => ⟨SqL.of (z.1.lst h1), SqL.of (z.1.lst h2)⟩) ?_ ?_
    · rintro i x y t H3 Go hx hy ⟨b3, al⟩ nT go
      rw [List.getElem?_map] at hx hy
      obtain ⟨a, ha, rfl⟩ := Option.map_eq_some_iff.mp hx
      obtain ⟨b, hb, rfl⟩ := Option.map_eq_some_iff.mp hy
      have hz : (xs.zip (xs.drop 1))[i]? = some (a, b) := List.getElem?_zip_eq_some.mpr ⟨ha, hb⟩
      have s4 := @same_new _ _ (.tup [V.str a, V.str b]) nT
      have b4 : TB1 Ts H1 (upd H3 t (.tup [V.str a, V.str b])) := b3.tr (.same b3.1 s4)
      refine ⟨t, _, rfl, SqT.of upd_same, rfl, _, _, rfl, _, _, rfl, rfl, rfl, yesT ?_⟩
      refine ⟨_, rfl, _, rfl, .str a, .str b, .str _, .str _, rfl, (fun z => nomatch z), by show min 0 0 ≤ 60; decide, ?_⟩
      refine ⟨strLt a b, rfl, ?_⟩
      cases e : strLt a b with
      | true => exact iteT (go _ ⟨b4, by rw [take_sn hz, List.all_append, al]; simp [e]⟩)
      | false =>
        have fl : riseB xs = false := by
          unfold riseB
          rw [List.all_eq_false]
          exact ⟨(a, b), List.mem_of_getElem? hz, by rw [e]; decide⟩
        have z := q _ ((TB1.same tg s1).tr b4)
        rw [fl] at z
        exact iteF z
    · rintro H3 ⟨b3, al⟩
      have tr : riseB xs = true := by
        unfold riseB
        rw [List.length_map, List.length_map, ← zl, List.take_length] at al
        exact al
      have z := q _ ((TB1.same tg s1).tr b3)
      rw [tr] at z
      exact z
end
/-! ### what a text is read as -/
section
open Classical
theorem vals_ent {e f : Ent} (h : e.vals = f.vals) : e = f := vals_inj h
/-- the entry that a line writes -/
noncomputable def entOf (x : Str) : Option Ent := if h : ∃ e : Ent, e.Fine ∧ x = entT e then some h.choose else none
theorem ent_inj {e f : Ent} (he : e.Fine) (hf : f.Fine) (h : entT e = entT f) : e.vals = f.vals := by
  have h1 := words_ent he
  have hw : Txt.split (entT e) " " = e.word :: e.parts.map partT := by
    rw [h1]
    show partT (.str e.word) :: _ = _
    rw [word_part]
    rfl
  obtain ⟨ew, ep⟩ := head_word hf h hw
  have a := isE_read he rfl rfl
  have b := isE_read (f := e) hf ew ep
  exact a.symm.trans b
theorem entOf_yes {e : Ent} (h : e.Fine) : entOf (entT e) = some e := by
  have x : ∃ f : Ent, f.Fine ∧ entT e = entT f := ⟨e, h, rfl⟩
  unfold entOf
  rw [dif_pos x]
  exact congrArg some (vals_ent (ent_inj h x.choose_spec.1 x.choose_spec.2)).symm
theorem entOf_some {x : Str} {e : Ent} (h : entOf x = some e) : e.Fine ∧ x = entT e := by
  unfold entOf at h
  by_cases z : ∃ f : Ent, f.Fine ∧ x = entT f
  · rw [dif_pos z] at h
    rw [← Option.some.inj h]
    exact z.choose_spec
  · rw [dif_neg z] at h
    cases h
theorem entOf_none {x : Str} (h : entOf x = none) : ∀ e : Ent, e.Fine → x ≠ entT e := fun e he hx => by
  rw [hx, entOf_yes he] at h
  cases h
end
/-- the entry goes behind those -/
def behB (es : List Ent) (e : Ent) : Bool := decide (es.length < 30) && !(es.any fun g => decide (g.name = e.name)) && (match es.getLast? with | none => true | some g => PySem.W.dataLt (ordD g) (ordD e))
def okE (P G : List Str) (es : List Ent) (e : Ent) : Bool := ofB e P G && behB es e
noncomputable def scan (P G : List Str) : List Str → List Ent → Nat → Nat ⊕ List Ent
  | [], es, _ => .inr es
  | l :: ls, es, k => match entOf l with
    | some e => if okE P G es e = true then scan P G ls (es ++ [e]) (k + 1) else .inl k
    | none => .inl k
def nmsB (ws : List Str) (wd : Str) (most : Int) : Bool := match ws with
  | [] => false
  | w :: ns => decide (w = wd) && decide (1 ≤ ns.length) && decide ((ns.length : Int) ≤ most) && ns.all nameB && riseB ns
def namesM (x wd : Str) (most : Int) : Option (List Str) := if nmsB (Txt.split x " ") wd most = true then some ((Txt.split x " ").drop 1) else none
structure NamesAt (x wd : Str) (most : Int) (ns : List Str) : Prop where
  sp : Txt.split x " " = wd :: ns
  n1 : 1 ≤ ns.length
  n2 : (ns.length : Int) ≤ most
  nm : ∀ y ∈ ns, nameB y = true
  ri : riseB ns = true
theorem namesM_iff {x wd : Str} {most : Int} {ns : List Str} : namesM x wd most = some ns ↔ NamesAt x wd most ns := by
  constructor
  · intro h
    unfold namesM at h
    by_cases z : nmsB (Txt.split x " ") wd most = true
    · rw [if_pos z] at h
      cases e : Txt.split x " " with
      | nil => rw [e] at z; cases z
      | cons w r =>
        rw [e] at z h
        unfold nmsB at z
        simp only [Bool.and_eq_true, decide_eq_true_eq] at z
        obtain ⟨⟨⟨⟨a, b⟩, c⟩, d⟩, f⟩ := z
        have hr : r = ns := Option.some.inj h
        subst hr
        exact ⟨by rw [e, a], b, c, List.all_eq_true.mp d, f⟩
    · rw [if_neg z] at h
      cases h
  · intro ⟨sp, n1, n2, nm, ri⟩
    unfold namesM
    rw [if_pos]
    · rw [sp]
      rfl
    · rw [sp]
      unfold nmsB
      simp only [Bool.and_eq_true, decide_eq_true_eq]
      exact ⟨⟨⟨⟨True.intro, n1⟩, n2⟩, List.all_eq_true.mpr nm⟩, ri⟩
/-- a text: the line that is wrong, or the house -/
noncomputable def readM (x : Str) : Nat ⊕ (List Str × List Str × List Ent) := match Txt.split x "\n" with
  | [] => .inl 0
  | l0 :: ls => match namesM l0 "places" 6 with
    | none => .inl 0
    | some P => match ls with
      | [] => .inl 1
      | l1 :: ls => match namesM l1 "goods" 3 with
        | none => .inl 1
        | some G => match scan P G ls [] 2 with
          | .inl k => .inl k
          | .inr es => .inr (P, G, es)
/-! ### defs that may raise -/
structure DefX (P : Program) (w : World) (K : PySem.W.Frag) (mg : Str → Option Value) (base : Heap) (x : Str) (k : Nat) (f : Addr) (fd : FuncData) (ps : List Str) (sp : Sp) : Prop where
  ok : FnOk P w K mg base (L2.CX P w) k f fd ps sp
  g : mg x = some (.ref f)
  kp : PySem.W.keepIn K (.ref f) = true
  b : Binds K fd ps []
/-- an own class of errors over ValueError -/
structure Err (K : PySem.W.Frag) (mg : Str → Option Value) (x : Str) (C : Addr) : Prop where
  gC : mg x = some (.ref C)
  ex : PySem.W.excIn K C [.type "ValueError", .type "Exception", .type "BaseException", .type "object"] "ValueError.__new__" = true
  kp : PySem.W.keepIn K (.ref C) = true
  sb : PySem.W.subIn K (.ref C) (.type "BaseException") = some true
  ty : PySem.W.typeIn K (.ref C) = some (.type "type")
/-! ### what is no entry, entered -/
theorem FnOk.or {P : Program} {w : World} {K : PySem.W.Frag} {mg : Str → Option Value} {base : Heap} {CX : CXT} {k : Nat} {f : Addr} {fd : FuncData} {ps : List Str} {s1 s2 : Sp} (F : FnOk P w K mg base CX k f fd ps s1) (G : FnOk P w K mg base CX k f fd ps s2) :
    FnOk P w K mg base CX k f fd ps (fun vs H Q E => s1 vs H Q E ∨ s2 vs H Q E) :=
  ⟨fun vs H Q E h => h.elim (F.len vs H Q E) (G.len vs H Q E), fun A outer s H args us vs Q E hr he hb hv hs => hs.elim (F.run A outer s H args us vs Q E hr he hb hv) (G.run A outer s H args us vs Q E hr he hb hv)⟩
/-- no entry of these places and goods -/
def NoE (H : Hp) (P G : List Str) (v : V) : Prop := (Thg H v ∧ ∀ a xs, v = .ref a → H a ≠ some (.tup xs)) ∨
  ∃ (a : Addr) (xs : List V), v = .ref a ∧ H a = some (.tup xs) ∧ xs.length ≤ 1000 ∧ (∀ x ∈ xs, Thg H x) ∧ ¬ ∃ e : Ent, e.Fine ∧ ofB e P G = true ∧ xs = e.vals
theorem NoE.on {H H' : Hp} {P G : List Str} {v : V} (k : ∀ a o, H a = some o → (∀ ps, o ≠ .tbl ps) → H' a = some o) (h : NoE H P G v) : NoE H' P G v := by
  rcases h with ⟨t, n⟩ | ⟨a, xs, rfl, ha, lx, hT, no⟩
  · refine .inl ⟨t.on fun a o _ => k a o, fun a xs e h2 => ?_⟩
    subst e
    cases t with
    | lst h => rw [k _ _ h (fun ps z => nomatch z)] at h2; exact nomatch h2
    | tup h => exact n _ _ rfl h
    | dct h => rw [k _ _ h (fun ps z => nomatch z)] at h2; exact nomatch h2
  · exact .inr ⟨a, xs, rfl, k _ _ ha (fun ps z => nomatch z), lx, fun x hx => (hT x hx).on fun a o _ => k a o, no⟩
def spNoEntryOf (Ts : List Addr) : Sp := fun vs H Q _ => ∃ (v : V) (pl gl : Addr) (P G : List Str), vs = [v, .ref pl, .ref gl] ∧ NoE H P G v ∧ H pl = some (.tup (P.map V.str)) ∧ H gl = some (.tup (G.map V.str)) ∧ TabsG Ts H ∧ ∀ H', TB1 Ts H H' → Q (.bl false) H'
def spNoE1 (Ts : List Addr) : Sp := fun vs H Q _ => ∃ (v p1 p2 : V), vs = [v, p1, p2] ∧ TabsG Ts H ∧
  ((Thg H v ∧ ∀ a xs, v = .ref a → H a ≠ some (.tup xs)) ∨ ∃ (a : Addr) (xs : List V), v = .ref a ∧ H a = some (.tup xs) ∧ xs.length ≤ 1000 ∧ (∀ x ∈ xs, Thg H x) ∧ ¬ IsE xs) ∧ ∀ H', TB1 Ts H H' → Q (.bl false) H'
theorem noE_split {Ts : List Addr} {vs : List V} {H : Hp} {Q : VK} {E : XK} (h : spNoEntryOf Ts vs H Q E) : spIsEntryOf Ts vs H Q E ∨ spNoE1 Ts vs H Q E := by
  obtain ⟨v, pl, gl, P, G, rfl, no, hp, hg, tg, q⟩ := h
  rcases no with h | ⟨a, xs, rfl, ha, lx, hT, no⟩
  · exact .inr ⟨_, _, _, rfl, tg, .inl h, q⟩
  · by_cases i : IsE xs
    · obtain ⟨e, fi, rfl⟩ := i
      have ob : ofB e P G = false := Bool.eq_false_iff.mpr fun z => no ⟨e, fi, z, rfl⟩
      exact .inl ⟨a, pl, gl, e, P, G, rfl, ha, fi, hp, hg, tg, fun H' t => by rw [ob]; exact q H' t⟩
    · exact .inr ⟨_, _, _, rfl, tg, .inr ⟨a, xs, rfl, ha, lx, hT, i⟩, q⟩
section
variable {P : Program} {w : World} {K : PySem.W.Frag} {mg : Str → Option Value} {base : Heap}
theorem ok_noEntry1 {f cR T1 T2 T4 fI fG fP : Addr} {Ts : List Addr} {dI dG dP : FuncData} {oc kV doc pm ct : Value} {od an : Option Addr} {osl : Array (Option Value)}
    (lk : K.lookup f = some ⟨oc, od, .func (PySem.W.fnOf "is_entry_of" "is_entry_of" (defArgs sIsEntryOf) (defBody sIsEntryOf) (defScope sIsEntryOf) .none kV doc pm an (.ref cR) ct), osl⟩) (cdI : PySem.W.codeIn K (.ref cR) "is_entry_of" = true)
    (TB : GxR.TabB base mg cR T4) (i1 : T1 ∈ Ts) (i2 : T2 ∈ Ts) (i4 : T4 ∈ Ts) (IE : DefT P w K mg base "is_entry" 4 fI dI ["thing"] (spIsEntryA T1 T2)) (GO : DefT P w K mg base "good_of" 1 fG dG ["entry"] spGood) (PO : DefT P w K mg base "places_of" 1 fP dP ["entry"] spPlaces)
    (mal : mg "all" = none) :
    FnOk P w K mg base CX0 5 f (PySem.W.fnOf "is_entry_of" "is_entry_of" (defArgs sIsEntryOf) (defBody sIsEntryOf) (defScope sIsEntryOf) .none kV doc pm an (.ref cR) ct) ["thing", "places", "goods"] (spNoE1 Ts) := by
  refine fn_of lk cdI sc_sIsEntryOf (fun vs H Q E h => ?_) (fun A outer s H vs Q E hr h => ?_)
  · obtain ⟨v, p1, p2, rfl, _⟩ := h
    rfl
  · obtain ⟨v, p1, p2, rfl, tg, no, q⟩ := h
    have nd := sc_sIsEntryOf.nd
    have hr1 : Room 1 _ := hr.mono (by decide)
    refine ⟨_, pss_cons (ps_if (pt_not (pt_val (pe_call IE.ok hr (by rfl) IE.g IE.kp IE.b .nil pass0 (pa_cons (pv 0) pa_nil)))) (pss_one (ps_ret pe_bl)) pss_nil)
      (pss_cons (ps_set (i := 3) nd rfl (Or.inl rfl) (pe_call GO.ok hr1 (by rfl) GO.g GO.kp GO.b .nil pass0 (pa_cons (pv 0) pa_nil)))
      (pss_cons (ps_if (PW.pt (pw_and (pt_cmpR op_notN (pv 3) pe_non (by rfl)) (pw_and1 (pt_cmpR op_notIn_seq (pv 3) (pv 2) (by rfl))))) (pss_one (ps_ret pe_bl)) pss_nil)
      (pss_one (ps_ret (pe_allG (T := T4) (c := cR) (k := 1) (own := [("place", 4)]) (g := gName 4) (tt := tYes) (te := tOp (rIn K false) (tVar 4) (tVar 1))
          (hr.mono (by decide)) (by rfl) mal rfl nd TB rfl ⟨blkOk_by (N := sIsEntryOfN) (sc := defScope sIsEntryOf) (by decide +kernel), rfl, by decide +kernel, rfl⟩
          (pi_tup (pe_call PO.ok hr1 (by rfl) PO.g PO.kp PO.b .nil pass0 (pa_cons (pv 0) pa_nil))) (fun _ _ _ _ _ _ => pg_name (i := 4) nd rfl (Or.inl rfl)) (fun _ _ _ _ _ _ _ => pts_nil) (fun _ _ _ _ _ _ _ => pe_cmpR op_in_seq (pv 4) (pv 1) (by rfl))))))), ?_⟩
    have fin : ∀ H1, TB2 T1 T2 H H1 → Q (.bl false) H1 := fun H1 b => q H1 (TB1.of2 tg i1 i2 b)
    rcases no with ⟨th, nt⟩ | ⟨a, xs, rfl, ha, lx, hT, no⟩
    · exact ⟨_, rfl, _, rfl, tg T1 i1, tg T2 i2, .inl ⟨th, nt, fun H1 b => ⟨false, rfl, iteT (fin H1 b)⟩⟩⟩
    · exact ⟨_, rfl, _, rfl, tg T1 i1, tg T2 i2, .inr ⟨a, xs, rfl, ha, lx, hT, fun y => absurd y no, fun _ H1 b => ⟨false, rfl, iteT (fin H1 b)⟩⟩⟩
end
/-! ### try .. except X as n, what is caught being kept -/
namespace Kept
def ExV (cls : Value) (d : Option Addr) (a : Addr) : HO := .ext fun h => ∃ (o : Obj) (fv : Array Value), h.get? a = some o ∧ Zc cls d o ∧ o.data = .fields fv
def wKeep (K : PySem.W.Frag) (c : Value) (i n : Nat) (ts : Addr → Value → Option Addr → TS) (D : Ends) : WX := fun cls d τ G => PySem.W.exmOne K cls c = some true ∧
  ∀ a, τ.length = n → G a = none → ts a cls d { nx := fun τ' G' => D.nx (τ'.set i none) (upd G' a (ExV cls d a)), rt := D.rt, bk := fun τ' G' => D.bk (τ'.set i none) G', ct := fun τ' G' => D.ct (τ'.set i none) G' } (τ.set i (some (.ref a))) G
section
variable {X : Cx}
theorem exv_ok {P : Program} {w : World} {G : Hp} {h : Heap} {a : Addr} {cls : Value} {d : Option Addr} {o : Obj} {fv : Array Value} (e : h.get? a = some o) (z : Zc cls d o) (dd : o.data = .fields fv) : ObjOk P w G h a (ExV cls d a) :=
  ⟨⟨o, fv, e, z, dd⟩, ⟨o, e⟩, fun _ _ ⟨u, v, q, r⟩ k => ⟨u, v, k u q, r⟩⟩
/-- an object that is there, and wasn't when the def began, is told of -/
theorem told_of {pins : List (Addr × Obj)} {τ : L2.St} {G : Hp} {z : Shared} {a : Addr} {cls : Value} {d : Option Addr} {o : Obj} {fv : Array Value} (I : Inv X pins τ G z) (ga : z.heap.get? a = some o) (zc : Zc cls d o) (dd : o.data = .fields fv)
    (na : G a = none) (nl : a ≠ X.env.locals) (old : ∀ u, X.s_0.heap.get? a = some u → a ∈ X.ex) (np : ∀ p ∈ X.pn ++ pins, p.1 ≠ a) : Inv X pins τ (upd G a (ExV cls d a)) z := by
  have other : ∀ {b : Addr} {u : HO}, G b = some u → (upd G a (ExV cls d a)) b = some u := fun e => (upd_ne (ne_of_none e na)).trans e
  refine ⟨I.ok, I.os, I.bare, ⟨I.base.keep, I.base.slot, fun b u e n hx => ?_, I.base.there, fun b xs e => other (I.base.tups b xs e), fun b u v e => other (I.base.frzs b u v e), fun b ps e => ?_⟩, I.loc, I.cell, (upd_ne (Ne.symm nl)).trans I.free, fun y c e => ?_, fun p hp => ?_, I.hok.laidN (fun _ _ e => e) na (exv_ok ga zc dd), I.len⟩
  · by_cases q : b = a
    · subst q
      exact absurd (old u e) hx
    · exact (upd_ne q).trans (I.base.free b u e n hx)
  · obtain ⟨more, q⟩ := I.base.tbls b ps e
    exact ⟨more, other q⟩
  · obtain ⟨v, hv⟩ := I.cell y c e
    have q : c ≠ a := fun q => by
      subst q
      obtain ⟨o', e', rest⟩ := hv
      rw [ga] at e'
      cases e'
      rw [dd] at rest
      cases rest
    exact (upd_ne q).trans (I.freeC y c e)
  · obtain ⟨p1, p2, p3⟩ := I.pin p hp
    exact ⟨p1, (upd_ne (np p hp)).trans p2, p3⟩
end
section
variable {X : Cx} {x n : Str} {c : Value} {i : Nat} {body rest : List Stmt} {b1 : Stmt} {q1 q2 q3 : Pos} {tb : WX → TS} {ts : Addr → Value → Option Addr → TS}
theorem ps_try_keep (st : X.stack = X.env :: X.outer) (fr : X.env.frame = some X.env.locals) (ndN : X.N.Nodup) (iy : X.N[i]? = some n) (kl : X.env.kindOf n = some .local) (nm : Names X x c)
    (Hb : ∀ (W : WX) (pn : List (Addr × Obj)) (xe : Value → Shared → Prop), Takes (X.tr pn xe) W → PassesOwn (model X.prog X.w) X.A X.env xe → PSs (X.tr pn xe) body (tb W))
    (Hs : ∀ (a : Addr) (ob : Obj) (cls : Value) (d : Option Addr) (pn : List (Addr × Obj)), Zc cls d ob → (∃ fv, ob.data = .fields fv) → PSs (X.suite a ((a, ob) :: pn)) (b1 :: rest) (ts a cls d)) :
    PS X (.Try body [.ExceptHandler (some (.Name x q1)) (some n) (b1 :: rest) q2] [] [] q3) (fun D τ G => tb (wKeep X.K c i X.N.length ts D) D τ G) := by
  constructor
  intro pins z τ G D I h
  have oX := I.ok
  have frs2 : X.A.frames = some (X.env :: X.outer) := by
    rw [oX.frames, st]
  refine wpAny_Try_except (wpAny_mono ((Hb (wKeep X.K c i X.N.length ts D) (X.pn ++ pins) (fun ev z1 => wpAny (model X.prog X.w) X.A (noteFrame ev X.env) (fun _ z2 => wpAny (model X.prog X.w) X.A (setFlight ev none) (fun _ z3 =>
    wpAny (model X.prog X.w) X.A (handleBy ev X.env [.ExceptHandler (some (.Name x q1)) (some n) (b1 :: rest) q2]) (SP X pins D) X.xe z3) X.xe z2) X.xe z1) (fun ev z' fly => ?_) PassesOwn.looking).run [] z τ G D (I.toTry _) h) (fun fl z1 hsp => ?_) (fun _ _ he => he))
  · obtain ⟨a, B, zI, pins', τ', G', cls, d, rfl, J', ground, up, sky, na, os, ag, match_, yes⟩ := fly
    have J : Inv X pins τ' G' zI := J'.ofTry oX
    show wpAny (model X.prog X.w) X.A (noteFrame (.ref a) X.env) _ _ z'
    refine Sky.land Zc.steady frs2 fr (show Sky B (X.env :: X.outer) a (Zc cls d) X.env.locals z'.heap by rw [← st]; exact sky) fun h3 f3 up3 => ?_
    have J3 : Inv X pins τ' G' { z' with heap := h3 } := J.landed ground f3.1 (up.trans up3) os ag
    obtain ⟨o3, fv3, e3, zc3, dd3⟩ := f3.there
    have nofr : a ∉ frs (X.env :: X.outer) := fun hm => by
      obtain ⟨_, o', e', hnf⟩ := f3.2.2.1.mem hm
      rw [e3] at e'
      cases e'
      exact hnf _ dd3
    have nl : a ≠ X.env.locals := fun q => nofr (List.mem_filterMap.mpr ⟨X.env, List.mem_cons_self, fr.trans (congrArg some q.symm)⟩)
    have nf : a ∉ X.fs := fun hm => by
      obtain ⟨ev, hev, q⟩ := List.mem_filterMap.mp hm
      exact nofr (List.mem_filterMap.mpr ⟨ev, List.mem_cons_of_mem _ hev, q⟩)
    have new : zI.heap.get? a = none := by
      cases q : zI.heap.get? a with
      | none => rfl
      | some u =>
        have := ground a u q (by rw [st]; exact nofr)
        rw [f3.2.1] at this
        cases this
    have old : ∀ u, X.s_0.heap.get? a = some u → a ∈ X.ex := fun u e => by
      by_cases hx : a ∈ X.ex
      · exact hx
      · obtain ⟨o', e'⟩ := J.base.there a u e hx
        rw [new] at e'
        cases e'
    have np : ∀ p ∈ X.pn ++ pins, p.1 ≠ a := fun p hp q => by
      have := (J.pin p hp).1
      rw [q, new] at this
      cases this
    have S3 := J3.suite e3 dd3 na nl nf
    refine wpAny_handleBy_cons (codeAny_handlers_test ?_) (by intro q; cases q)
    have ty : PySem.W.Looks (model X.prog X.w) h3 (typeOf (.ref a)) cls := fun A' Q' E' z4 k q => wpAny_typeOf_ref (k _ _ e3) (by rw [zc3.1]; exact q)
    have hit := PySem.W.exm_one (M := model X.prog X.w) (J3.kIn) ty match_
    have load : ∀ {Q' : Value → Shared → Prop} {E' : Value → Shared → Prop}, Q' c { z' with heap := h3 } → wpAny (model X.prog X.w) (X.A.mark (some (.ref a))) (eval (.Name x q1) X.env) Q' E' { z' with heap := h3 } := fun {Q' E'} q => by
      obtain ⟨gl, dbg, hm | ⟨hm, hv, hnn⟩⟩ := nm
      · exact ld_glob (X := X.suite a ((a, o3) :: (X.pn ++ pins))) S3 gl hm q dbg
      · exact ld_blt (X := X.suite a ((a, o3) :: (X.pn ++ pins))) S3 gl hm hv q hnn dbg
    refine load (hit.here (codeAny_handlers_suite_as (HandSPX.lands_againZ f3 fun h4 f4 up4 => ?_)))
    have J4 : Inv X pins τ' G' { z' with heap := h4 } := J.landed ground f4.1 ((up.trans up3).trans up4) os ag
    obtain ⟨o4, fv4, e4, zc4, dd4⟩ := f4.there
    refine store_ok (X := X.suite a ((a, o4) :: (X.pn ++ pins))) (v := .ref a) (J4.suite e4 dd4 na nl nf) ndN iy (.inl kl) rfl (fun z5 S5 => ?_) (.inr kl)
    refine wpAny_mono ((Hs a o4 cls d (X.pn ++ pins) zc4 ⟨_, dd4⟩).run [] z5 _ G' _ S5 (yes a J'.len na)) (fun fl z6 hsp => ?_) (fun _ _ q => False.elim q)
    have fin : ∀ {τ6 : L2.St} {G6 : Hp} {Q' : Shared → Prop}, Inv X pins τ6 G6 z6 → (∀ z7, Inv X pins (τ6.set i none) G6 z7 → Q' z7) →
        wpAny (model X.prog X.w) X.A (do bindName X.env n .none; unbindBehindTheSuite X.env n q2) (fun _ z7 => Q' z7) X.xe z6 := fun {τ6 G6 Q'} I6 hq => gone_ok I6 ndN iy kl hq
    cases fl with
    | next =>
      obtain ⟨τ6, G6, S6, w6⟩ := hsp
      have p6 := S6.pin (a, o4) (List.mem_append_left _ List.mem_cons_self)
      exact fin (told_of (S6.unsuite oX) p6.1 zc4 dd4 p6.2.1 nl old np) fun z7 J7 => ⟨_, _, J7, w6⟩
    | brk =>
      obtain ⟨τ6, G6, S6, w6⟩ := hsp
      exact fin (S6.unsuite oX) fun z7 J7 => ⟨_, _, J7, w6⟩
    | cont =>
      obtain ⟨τ6, G6, S6, w6⟩ := hsp
      exact fin (S6.unsuite oX) fun z7 J7 => ⟨_, _, J7, w6⟩
    | ret u =>
      obtain ⟨v6, τ6, G6, S6, r6, w6⟩ := hsp
      exact fin (S6.unsuite oX) fun z7 J7 => ⟨_, _, _, J7, r6, w6⟩
  · cases fl with
    | next =>
      obtain ⟨τ1, G1, J1, w1⟩ := hsp
      exact wpAny_execs_nil ⟨τ1, G1, J1.ofTry oX, w1⟩
    | brk =>
      obtain ⟨τ1, G1, J1, w1⟩ := hsp
      exact ⟨τ1, G1, J1.ofTry oX, w1⟩
    | cont =>
      obtain ⟨τ1, G1, J1, w1⟩ := hsp
      exact ⟨τ1, G1, J1.ofTry oX, w1⟩
    | ret u =>
      obtain ⟨v1, τ1, G1, J1, r1, w1⟩ := hsp
      exact ⟨v1, τ1, G1, J1.ofTry oX, r1, w1⟩
end
/-! isinstance of what was kept -/
def rIsX (K : PySem.W.Frag) : List V → Hp → VK → Prop := fun xs G W => ∃ (a D : Addr) (k : V) (kv : Value) (b : Bool), xs = [V.ref a, k] ∧ G a = some (ExV (.ref D) none a) ∧ ExcC K D ∧ (∀ u, RelV k u → u = kv) ∧ PySem.W.kitOne K (.ref D) kv = some b ∧ W (V.bl b) G
theorem inst_at {P : Program} {w : World} {G : Hp} {h : Heap} {a D : Addr} (ok : HOk P w G h) (e : G a = some (ExV (.ref D) none a)) : ∃ o, PySem.W.InstAt h a o D none := by
  obtain ⟨⟨o, fv, g, z, dd⟩, _⟩ := (show ObjOk P w G h a (ExV (.ref D) none a) from ok a _ e)
  obtain ⟨oc, od, dt, sl⟩ := o
  obtain ⟨z1, z2⟩ := z
  dsimp only at z1 z2 dd
  subst z1 z2 dd
  exact ⟨_, g, rfl, rfl, trivial⟩
theorem call_isX {X : Cx} : CallR X (.builtin "isinstance") (rIsX X.K) := by
  rintro pins z τ G xs us W I r ⟨a, D, k, kv, b, rfl, ea, C, hk, e, q⟩
  obtain ⟨u1, u2, rfl, r1, r2⟩ := vals2 r
  obtain rfl : u1 = Value.ref a := r1
  obtain rfl := hk _ r2
  obtain ⟨o, J⟩ := inst_at I.hok ea
  exact PySem.W.kia_one (PySem.W.handS_kitx_exc C.hg C.hk C.hs C.hd C.ha C.hn C.ht C.hm) I.kIn J e (fun q => nomatch q) fun tk => ⟨.bl b, G, I.tok tk, rfl, q⟩
def rIsXT (K : PySem.W.Frag) : List V → Hp → VK → Prop := fun xs G W => ∃ (a D tp : Addr) (cs : List V) (us : List Value) (b : Bool), xs = [V.ref a, V.ref tp] ∧ G a = some (ExV (.ref D) none a) ∧ ExcC K D ∧ G tp = some (.tup cs) ∧ Paired ClsV cs us ∧ PySem.W.kitAny K (.ref D) us = some b ∧ W (V.bl b) G
theorem call_isXT {X : Cx} : CallR X (.builtin "isinstance") (rIsXT X.K) := by
  rintro pins z τ G xs us W I r ⟨a, D, tp, cs, ws, b, rfl, ea, C, et, hk, e, q⟩
  obtain ⟨u1, u2, rfl, r1, r2⟩ := vals2 r
  obtain rfl : u1 = Value.ref a := r1
  obtain rfl : u2 = Value.ref tp := r2
  obtain ⟨o, J⟩ := inst_at I.hok ea
  obtain ⟨_, its, rv, ot, g1, g2, n, g3⟩ := (show ObjOk X.prog X.w G z.heap tp (.tup cs) from I.hok tp _ et)
  obtain rfl := ClsV.all hk rv
  obtain ⟨oc, od, dt, sl⟩ := ot
  dsimp only at g2 g3
  subst g2 g3
  exact PySem.W.kia_tup (PySem.W.handS_kitx_exc C.hg C.hk C.hs C.hd C.ha C.hn C.ht C.hm) I.kIn J g1 e (fun q => nomatch q) fun tk => ⟨.bl b, G, I.tok tk, rfl, q⟩
end Kept
/-! ### NoText: made with a line, kept, its line read -/
def clsS (i j : Nat) : Stmt := match topS i with
  | .ClassDef _ _ _ body _ _ _ _ _ _ _ => body.getD j (.Pass ⟨0, 0, 0, 0⟩)
  | s => s
abbrev sTextInit : Stmt := clsS 35 0
namespace Kept
theorem cls_some {K : PySem.W.Frag} {D : Addr} (h : PySem.W.hasDictIn K D = true) : (PySem.W.clsIn K D).isSome = true := by
  unfold PySem.W.hasDictIn at h
  cases e : PySem.W.clsIn K D with
  | some c => rfl
  | none => rw [e] at h; cases h
theorem inst_atD {P : Program} {w : World} {G : Hp} {h : Heap} {a D dd : Addr} {fs : List (Str × V)} (ok : HOk P w G h) (e : G a = some (ExV (.ref D) (some dd) a)) (ed : G dd = some (.xd fs)) :
    ∃ (o od : Obj) (mA : Str → Option Value), PySem.W.InstAt h a o D (some od) ∧ h.Ns1 dd mA ∧ (∀ f, RelO (fs.lookup f) (mA f)) ∧ h.get? dd = some od := by
  obtain ⟨⟨o, fv, g, z, ddt⟩, _⟩ := (show ObjOk P w G h a (ExV (.ref D) (some dd) a) from ok a _ e)
  have hx : ObjOk P w G h dd (.xd fs) := ok dd _ ed
  obtain ⟨mA, hns, hr⟩ := hx
  obtain ⟨od, ho, hl⟩ := lookIn_ns hns
  exact ⟨o, od, mA, ⟨g, z.1, by unfold PySem.W.notCls; rw [ddt] <;> rfl, by rw [z.2]; exact ho⟩, hns, hr, ho⟩
def rIsD (K : PySem.W.Frag) : List V → Hp → VK → Prop := fun xs G W => ∃ (a D dd : Addr) (fs : List (Str × V)) (k : V) (kv : Value) (b : Bool), xs = [V.ref a, k] ∧ G a = some (ExV (.ref D) (some dd) a) ∧ G dd = some (.xd fs) ∧ ExcC K D ∧ (∀ u, RelV k u → u = kv) ∧ PySem.W.kitOne K (.ref D) kv = some b ∧ W (V.bl b) G
theorem call_isD {X : Cx} : CallR X (.builtin "isinstance") (rIsD X.K) := by
  rintro pins z τ G xs us W I r ⟨a, D, dd, fs, k, kv, b, rfl, ea, ed, C, hk, e, q⟩
  obtain ⟨u1, u2, rfl, r1, r2⟩ := vals2 r
  obtain rfl : u1 = Value.ref a := r1
  obtain rfl := hk _ r2
  obtain ⟨o, od, mA, J, _⟩ := inst_atD I.hok ea ed
  exact PySem.W.kia_one (PySem.W.kitx_exc (gt := none) (cls_some C.hd) C.hg C.hk C.hs C.ha C.hn C.ht C.hm) I.kIn J e (fun q => nomatch q) fun tk => ⟨.bl b, G, I.tok tk, rfl, q⟩
def rIsDT (K : PySem.W.Frag) : List V → Hp → VK → Prop := fun xs G W => ∃ (a D dd tp : Addr) (fs : List (Str × V)) (cs : List V) (us : List Value) (b : Bool), xs = [V.ref a, V.ref tp] ∧ G a = some (ExV (.ref D) (some dd) a) ∧ G dd = some (.xd fs) ∧ ExcC K D ∧ G tp = some (.tup cs) ∧ Paired ClsV cs us ∧ PySem.W.kitAny K (.ref D) us = some b ∧ W (V.bl b) G
theorem call_isDT {X : Cx} : CallR X (.builtin "isinstance") (rIsDT X.K) := by
  rintro pins z τ G xs us W I r ⟨a, D, dd, tp, fs, cs, ws, b, rfl, ea, ed, C, et, hk, e, q⟩
  obtain ⟨u1, u2, rfl, r1, r2⟩ := vals2 r
  obtain rfl : u1 = Value.ref a := r1
  obtain rfl : u2 = Value.ref tp := r2
  obtain ⟨o, od, mA, J, _⟩ := inst_atD I.hok ea ed
  obtain ⟨_, its, rv, ot, g1, g2, n, g3⟩ := (show ObjOk X.prog X.w G z.heap tp (.tup cs) from I.hok tp _ et)
  obtain rfl := ClsV.all hk rv
  obtain ⟨oc, od', dt, sl⟩ := ot
  dsimp only at g2 g3
  subst g2 g3
  exact PySem.W.kia_tup (PySem.W.kitx_exc (gt := none) (cls_some C.hd) C.hg C.hk C.hs C.ha C.hn C.ht C.hm) I.kIn J g1 e (fun q => nomatch q) fun tk => ⟨.bl b, G, I.tok tk, rfl, q⟩
/-- a field of an exception that was kept -/
def tXk (K : PySem.W.Frag) (f : Str) (te : TE) : TE := fun σ H Q => te σ H fun x H1 => ∃ (a C dd : Addr) (fs : List (Str × V)) (v : V), x = .ref a ∧ XfC K C ∧ PySem.W.findIn K (.ref C) f = some none ∧ H1 a = some (ExV (.ref C) (some dd) a) ∧ H1 dd = some (.xd fs) ∧ fs.lookup f = some v ∧ Q v H1
theorem pe_xfk {X : Cx} {e : Expr} {te : TE} {pos : Pos} {n : Str} (he : PE X e te) (hb : attributeBase e n X.env (eval e X.env) = eval e X.env := by rfl) : PE X (.Attribute e n pos) (tXk X.K n te) := by
  refine ⟨fun pins s σ H Q I h => ?_⟩
  refine attr_of hb (thn (he.run pins s σ H _ I h) fun u s1 hh => ?_)
  obtain ⟨x, H1, I1, rx, a, C, dd, fs, v, ex, T, hno, ea, ed, l, q⟩ := hh
  subst ex
  obtain rfl : u = Value.ref a := rx
  obtain ⟨o, od, mA, J, hns, hr, ho⟩ := inst_atD I1.hok ea ed
  obtain ⟨od2, ho2, hl⟩ := lookIn_ns hns
  obtain rfl : od2 = od := Option.some.inj (ho2.symm.trans ho)
  obtain ⟨u, hu, ru⟩ := RelO.some_of (v := v) (o := mA n) (by rw [← l]; exact hr n)
  exact HandSPX.exc_get I1.kIn J T.ga T.gg T.exC (PySem.W.findObj_own T.hdC hno rfl (by rw [hl, hu])) (handed_of ru) ⟨v, H1, I1.tok _, ru, q⟩
end Kept
/-! ### names_in of any line -/
def spNamesInA (Ts : List Addr) : Sp := fun vs H Q _ => ∃ (x wd : Str) (most : Int), vs = [.str x, .str wd, .int most] ∧ x.length ≤ 16000 ∧ TabsG Ts H ∧
  (∀ ns, namesM x wd most = some ns → ∀ (tp : Addr) (H' : Hp), TB1 Ts H H' → H' tp = some (.tup (ns.map V.str)) → Q (.ref tp) H') ∧ (namesM x wd most = none → ∀ H', TB1 Ts H H' → Q .non H')
section
variable {P : Program} {w : World} {K : PySem.W.Frag} {mg : Str → Option Value} {base : Heap}
theorem words_len {x : Str} : (Txt.split x " ").length ≤ x.length + 1 := by
  obtain ⟨a, r, h⟩ := split_cons x (sep := " ") (by decide +kernel)
  have j := StrLaws.join_split x " "
  rw [h, ← TL.join_eq] at j
  have l := congrArg Str.length j
  have bl : ((" " : Str)).length = 1 := by decide +kernel
  rw [join_glue, glue_len, bl] at l
  rw [h, List.length_cons]
  omega
abbrev sNamesInN : List Str := ["line", "word", "most", "first", "names", "name"]
theorem sc_sNamesIn : FnScope sNamesInN ["line", "word", "most"] (defScope sNamesIn) := ⟨rfl, rfl, rfl, by decide +kernel, rfl, by decide +kernel, by decide +kernel⟩
set_option maxHeartbeats 1000000 in
theorem ok_namesInA {f cA T T1 fN fA : Addr} {Ts : List Addr} {dN dA : FuncData} {oc kV doc pm ct : Value} {od an : Option Addr} {osl : Array (Option Value)}
    (lk : K.lookup f = some ⟨oc, od, .func (PySem.W.fnOf "names_in" "names_in" (defArgs sNamesIn) (defBody sNamesIn) (defScope sNamesIn) .none kV doc pm an (.ref cA) ct), osl⟩) (cdI : PySem.W.codeIn K (.ref cA) "names_in" = true)
    (TB : GxR.TabB base mg cA T) (i0 : T ∈ Ts) (i1 : T1 ∈ Ts) (NM : DefT P w K mg base "is_name" 1 fN dN ["thing"] (spName K T1)) (AR : DefT P w K mg base "are_rising" 2 fA dA ["things"] (spAreRising Ts)) (ml : mg "len" = none) (mal : mg "all" = none) (mt : mg "tuple" = none) :
    FnOk P w K mg base CX0 3 f (PySem.W.fnOf "names_in" "names_in" (defArgs sNamesIn) (defBody sNamesIn) (defScope sNamesIn) .none kV doc pm an (.ref cA) ct) ["line", "word", "most"] (spNamesInA Ts) := by
  refine fn_of lk cdI sc_sNamesIn (fun vs H Q E h => ?_) (fun A outer s H vs Q E hr h => ?_)
  · obtain ⟨x, wd, most, rfl, _⟩ := h
    rfl
  · obtain ⟨x, wd, most, rfl, lx, tg, qy, qn⟩ := h
    have nd := sc_sNamesIn.nd
    refine ⟨_, pss_cons (ps_asg (pe_split (pv 0) pe_str) (pg_star (n := 2) (i := 1) rfl (pgs_cons (pg_name (i := 3) nd rfl (Or.inl rfl)) (pgs_star (pg_name (i := 4) nd rfl (Or.inl rfl)) pgs_nil)) (by decide)))
      (pss_cons (ps_if (PW.pt (pw_or (pt_cmpR op_ne (pv 3) (pv 1) (nomark _)) (pw_or1 (pt_not (pt_chain op_le op_le pe_int (pe_callB call_len_seq (by rfl) ml PySem.boot_len (pa_cons (pv 4) pa_nil)) (pv 2)))))) (pss_one (ps_ret pe_non)) pss_nil)
      (pss_cons (ps_if (PW.pt (pw_or (pt_not (pt_val (pe_allG (T := T) (c := cA) (k := 1) (te := tCall (spName K T1) [] E0 (tCons (tVar 5) tNil)) (own := [("name", 5)]) (g := gName 5) (tt := tYes) (hr.mono (by decide)) (by rfl) mal rfl nd TB rfl ⟨blkOk_by (N := sNamesInN) (sc := defScope sNamesIn) (by decide +kernel), rfl, by decide +kernel, rfl⟩ (pi_list (pv 4)) (fun _ _ _ _ _ _ => (pg_name (i := 5) nd rfl (Or.inl rfl))) (fun _ _ _ _ _ _ hr' => pts_nil) (fun _ _ _ _ _ _ hr' => (pe_call NM.ok (hr'.mono (by decide)) (by rfl) NM.g NM.kp NM.b .nil pass0 (pa_cons (pv 5) pa_nil)))))) (pw_or1 (pt_not (pt_val (pe_call AR.ok hr (by rfl) AR.g AR.kp AR.b .nil pass0 (pa_cons (pv 4) pa_nil))))))) (pss_one (ps_ret pe_non)) pss_nil)
      (pss_one (ps_ret (pe_callTy call_tuple_of (by rfl) mt (by decide +kernel) (pa_cons (pv 4) pa_nil)))))), ?_⟩
    refine ⟨_, rfl, ⟨_, rfl⟩, _, _, rfl, rfl, (by decide +kernel), (by rw [sizeLine_eq]; omega), fun wl nwl => ?_⟩
    obtain ⟨w0, ns, hsp⟩ := split_cons x (sep := " ") (by decide +kernel)
    have wlen := words_len (x := x)
    have lw : ∀ y ∈ Txt.split x " ", y.length ≤ 16000 := fun y hy => Nat.le_trans (split_len hy) lx
    have yes : decide (w0 = wd) = true → decide (1 ≤ ns.length) = true → decide ((ns.length : Int) ≤ most) = true → ns.all nameB = true → riseB ns = true → namesM x wd most = some ns := fun a b c d e => by
      unfold namesM
      rw [hsp, if_pos]
      · rfl
      · show (decide (w0 = wd) && decide (1 ≤ ns.length) && decide ((ns.length : Int) ≤ most) && ns.all nameB && riseB ns) = true
        rw [a, b, c, d, e]
        rfl
    have no : (decide (w0 = wd) && decide (1 ≤ ns.length) && decide ((ns.length : Int) ≤ most) && ns.all nameB && riseB ns) = false → namesM x wd most = none := fun a => by
      unfold namesM
      rw [hsp, if_neg]
      show ¬ (decide (w0 = wd) && decide (1 ≤ ns.length) && decide ((ns.length : Int) ≤ most) && ns.all nameB && riseB ns) = true
      rw [a]
      exact fun z => nomatch z
    rw [hsp] at wlen lw ⊢
    rw [List.length_cons] at wlen
    have s1 := @same_new _ _ (.lst ((w0 :: ns).map V.str)) nwl
    have h1 : (upd H wl (.lst ((w0 :: ns).map V.str))) wl = some (.lst ((w0 :: ns).map V.str)) := upd_same
    generalize upd H wl (.lst ((w0 :: ns).map V.str)) = H1 at s1 h1
    refine ⟨wl, (w0 :: ns).map V.str, rfl, SqL.of h1, (by simp), (by rw [List.length_map, List.length_cons]; omega), fun D nD => ?_⟩
    have e1 : (((w0 :: ns).map V.str).drop 1).take (((w0 :: ns).map V.str).length + 1 - 2) = ns.map V.str := by
      rw [List.take_of_length_le (by simp)]
      rfl
    have e2 : ((w0 :: ns).map V.str).take 1 ++ [V.ref D] ++ (((w0 :: ns).map V.str).drop 1).drop (((w0 :: ns).map V.str).length + 1 - 2) = [V.str w0, V.ref D] := by
      rw [List.drop_of_length_le (by simp)]
      rfl
    rw [e1, e2]
    have s2 := @same_new _ _ (.lst (ns.map V.str)) nD
    have h2 : (upd H1 D (.lst (ns.map V.str))) D = some (.lst (ns.map V.str)) := upd_same
    generalize upd H1 D (.lst (ns.map V.str)) = H2 at s2 h2
    have s02 := s1.trans s2
    have b02 : TB1 Ts H H2 := .same tg s02
    have tg2 := tabs_sm s02 tg
    refine ⟨_, _, rfl, _, _, rfl, rfl, ?_⟩
    refine ⟨_, rfl, _, rfl, rfl, ?_⟩
    by_cases ew : w0 = wd
    rotate_left
    · refine ⟨true, congrArg V.bl (by rw [decide_eq_false fun z => ew (V.str.inj z)]; rfl), iteT (qn (no ?_) H2 b02)⟩
      rw [decide_eq_false ew]
      rfl
    refine ⟨false, congrArg V.bl (by rw [decide_eq_true (congrArg V.str ew)]; rfl), iteF ?_⟩
    refine ⟨_, rfl, D, _, rfl, .inl (SqL.of h2), 1, _, rfl, rfl, _, rfl, ?_⟩
    have ll : (ns.map V.str).length = ns.length := List.length_map ..
    by_cases l1 : 1 ≤ ns.length
    rotate_left
    · rw [decide_eq_false (by rw [ll]; omega)]
      refine iteF ⟨false, rfl, iteT (qn (no ?_) H2 b02)⟩
      rw [decide_eq_false l1, Bool.and_false]
      rfl
    rw [decide_eq_true (show (1 : Int) ≤ ((ns.map V.str).length : Int) by rw [ll]; omega)]
    refine iteT ⟨_, rfl, _, most, rfl, rfl, _, rfl, ?_⟩
    by_cases l2 : (ns.length : Int) ≤ most
    rotate_left
    · rw [decide_eq_false (by rw [ll]; exact l2)]
      refine iteT (qn (no ?_) H2 b02)
      rw [decide_eq_false l2, Bool.and_false]
      rfl
    rw [decide_eq_true (show ((ns.map V.str).length : Int) ≤ most by rw [ll]; exact l2)]
    refine iteF ?_
    dsimp only [tNext, tSeq, tIfS, tNot, tB, tOr]
    have okw : (decide (w0 = wd) && decide (1 ≤ ns.length) && decide ((ns.length : Int) ≤ most)) = true := by
      rw [decide_eq_true ew, decide_eq_true l1, decide_eq_true l2]
      rfl
    refine all_lst (k := 4) (SqL.of h2) rfl (fun i H' => TB1 Ts H2 H' ∧ (ns.take i).all nameB = true) (tg2 T i0) (fun H3 tb => ⟨.tab tb tg2 i0, rfl⟩) (fun i H' _ z => SqL.of (z.1.lst h2)) ?_ ?_
    · rintro i v H' Go hx ⟨b, al⟩ go
      rw [List.getElem?_map] at hx
      obtain ⟨y, hy, rfl⟩ := Option.map_eq_some_iff.mp hx
      have ly := lw y (List.mem_cons_of_mem _ (List.mem_of_getElem? hy))
      refine ⟨rfl, yesT ⟨_, rfl, _, rfl, b.1 T1 i1, .inl ⟨y, rfl, (by rw [sizeLine_eq]; omega), fun H3 tb => ?_⟩⟩⟩
      have b3 := b.tr (.tab tb b.1 i1)
      cases ny : nameB y with
      | true => exact ⟨true, rfl, iteT (go _ ⟨b3, by rw [take_sn hy, List.all_append, al]; simp [ny]⟩)⟩
      | false =>
        refine ⟨false, rfl, iteF ⟨false, rfl, iteT (qn (no ?_) H3 (b02.tr b3))⟩⟩
        rw [okw, List.all_eq_false.mpr ⟨y, List.mem_of_getElem? hy, by rw [ny]; exact fun z => nomatch z⟩]
        rfl
    · rintro H3 ⟨b3, al⟩
      rw [ll, List.take_length] at al
      refine ⟨true, rfl, iteF ?_⟩
      refine ⟨_, rfl, D, ns, rfl, b3.lst h2, b3.1, fun H4 b4 => ?_⟩
      have b24 := b3.tr b4
      cases ri : riseB ns with
      | false =>
        refine ⟨false, rfl, iteT (qn (no ?_) H4 (b02.tr b24))⟩
        rw [ri, Bool.and_false]
      | true =>
        refine ⟨true, rfl, iteF ?_⟩
        refine ⟨_, rfl, D, _, rfl, .inl ⟨SqL.of (b24.lst h2), fun tp ntp => ?_⟩⟩
        have s5 := @same_new _ _ (.tup (ns.map V.str)) ntp
        exact qy ns (yes (decide_eq_true ew) (decide_eq_true l1) (decide_eq_true l2) al ri) tp _ ((b02.tr b24).tr (.same b24.1 s5)) upd_same
end
/-! ### goes_behind of any entries -/
def spGoesBehindA (Ts : List Addr) : Sp := fun vs H Q _ => ∃ (a l : Addr) (e : Ent) (us : List Addr) (es : List Ent), vs = [.ref a, .ref l] ∧ H a = some (.tup e.vals) ∧ H l = some (.lst (us.map V.ref)) ∧ EntsAt H us es ∧ es.length ≤ 1000 ∧ TabsG Ts H ∧
  ∀ H', TB1 Ts H H' → Q (.bl (behB es e)) H'
section
variable {P : Program} {w : World} {K : PySem.W.Frag} {mg : Str → Option Value} {base : Heap}
theorem beh_no30 {es : List Ent} {e : Ent} (h : ¬ es.length < 30) : behB es e = false := by
  unfold behB
  rw [decide_eq_false h]
  rfl
theorem beh_name {es : List Ent} {e g : Ent} (h : g ∈ es) (n : g.name = e.name) : behB es e = false := by
  unfold behB
  rw [List.any_eq_true.mpr ⟨g, h, decide_eq_true n⟩, Bool.not_true, Bool.and_false]
  rfl
theorem beh_yes {es : List Ent} {e : Ent} (h : es.length < 30) (n : (es.any fun g => decide (g.name = e.name)) = false) : behB es e = (match es.getLast? with | none => true | some g => PySem.W.dataLt (ordD g) (ordD e)) := by
  unfold behB
  rw [decide_eq_true h, n]
  rfl
abbrev sGoesBehindN : List Str := ["entry", "entries", "other"]
theorem sc_sGoesBehind : FnScope sGoesBehindN ["entry", "entries"] (defScope sGoesBehind) := ⟨rfl, rfl, rfl, by decide +kernel, rfl, by decide +kernel, by decide +kernel⟩
theorem ok_goesBehindA {f cA T fG : Addr} {Ts : List Addr} {dG : FuncData} {oc kV doc pm ct : Value} {od an : Option Addr} {osl : Array (Option Value)}
    (lk : K.lookup f = some ⟨oc, od, .func (PySem.W.fnOf "goes_behind" "goes_behind" (defArgs sGoesBehind) (defBody sGoesBehind) (defScope sGoesBehind) .none kV doc pm an (.ref cA) ct), osl⟩) (cdI : PySem.W.codeIn K (.ref cA) "goes_behind" = true)
    (TB : GxR.TabB base mg cA T) (i0 : T ∈ Ts) (GA : DefT P w K mg base "goes_ahead" 2 fG dG ["entry", "other"] spAhead) (ml : mg "len" = none) (man : mg "any" = none) (mME : ∃ t, mg "MOST_ENTRIES" = some (.int 30 t)) :
    FnOk P w K mg base CX0 3 f (PySem.W.fnOf "goes_behind" "goes_behind" (defArgs sGoesBehind) (defBody sGoesBehind) (defScope sGoesBehind) .none kV doc pm an (.ref cA) ct) ["entry", "entries"] (spGoesBehindA Ts) := by
  refine fn_of lk cdI sc_sGoesBehind (fun vs H Q E h => ?_) (fun A outer s H vs Q E hr h => ?_)
  · obtain ⟨a, l, e, us, es, rfl, _⟩ := h
    rfl
  · obtain ⟨a, l, e, us, es, rfl, ha, hl, en, l1000, tg, q⟩ := h
    obtain ⟨tM, mME⟩ := mME
    have nd := sc_sGoesBehind.nd
    refine ⟨_, pss_cons (ps_if (PW.pt (pw_or (pt_cmpR op_ge (pe_callB call_len_seq (by rfl) ml PySem.boot_len (pa_cons (pv 1) pa_nil)) (pe_glob (v := .int 30) rfl mME ⟨_, rfl⟩) (nomark _)) (pw_or1 (pt_val (pe_anyG (T := T) (c := cA) (k := 0) (own := [("other", 2)]) (g := gName 2) (tt := tYes) (te := tOp rEq (tOp (rIxT K) (tVar 2) (tC (V.int 1))) (tOp (rIxT K) (tVar 0) (tC (V.int 1)))) (hr.mono (by decide)) (by rfl) man rfl nd TB rfl ⟨blkOk_by (N := sGoesBehindN) (sc := defScope sGoesBehind) (by decide +kernel), rfl, by decide +kernel, rfl⟩ (pi_list (pv 1)) (fun _ _ _ _ _ _ => (pg_name (i := 2) nd rfl (Or.inl rfl))) (fun _ _ _ _ _ _ hr' => pts_nil) (fun _ _ _ _ _ _ hr' => (pe_cmpR op_eq (pe_ix ix_tup (pv 2) pe_int (fun _ _ => rfl)) (pe_ix ix_tup (pv 0) pe_int (fun _ _ => rfl)) (nomark _)))))))) (pss_one (ps_ret pe_bl)) pss_nil)
      (pss_one (ps_ret (pe_or (pe_cmpR (op_eqNil (un0 hr.units)) (pv 1) (pe_lst pa_nil) (nomark _)) (pe_one (pe_call GA.ok hr (by rfl) GA.g GA.kp GA.b .nil pass0 (pa_cons (pe_ix ix_list (pv 1) (pe_un un_neg pe_int) (fun _ _ => rfl)) (pa_cons (pv 0) pa_nil))))))), ?_⟩
    have lu := en.len
    have ll : (us.map V.ref).length = es.length := by rw [List.length_map, lu]
    have b00 : TB1 Ts H H := .same tg fun _ _ e => e
    refine ⟨_, rfl, l, _, rfl, .inl (SqL.of hl), _, 30, rfl, rfl, _, rfl, ?_⟩
    by_cases l30 : es.length < 30
    rotate_left
    · have z := q H b00
      rw [beh_no30 l30] at z
      rw [decide_eq_true (show ((us.map V.ref).length : Int) ≥ 30 by rw [ll]; omega)]
      exact iteT z
    rw [decide_eq_false (show ¬ ((us.map V.ref).length : Int) ≥ 30 by rw [ll]; omega)]
    refine iteF ?_
    dsimp only [tNext, tSeq, tIfS, tNot, tB, tOr]
    refine any_lst (k := 1) (SqL.of hl) rfl (fun i H' => TB1 Ts H H' ∧ ((es.take i).any fun g => decide (g.name = e.name)) = false) (tg T i0) (fun H3 tb => ⟨.tab tb tg i0, rfl⟩) (fun i H' _ z => SqL.of (z.1.lst hl)) ?_ ?_
    · rintro i x H' Go hx ⟨b, al⟩ go
      rw [List.getElem?_map] at hx
      obtain ⟨u, hu, rfl⟩ := Option.map_eq_some_iff.mp hx
      obtain ⟨g, hg, htu⟩ := en.get hu
      refine ⟨rfl, yesT ⟨_, rfl, u, _, 1, _, rfl, rfl, SqT.of (b.tk _ _ htu), at1 g, _, rfl, a, _, 1, _, rfl, rfl, SqT.of (b.tk _ _ ha), at1 e, rfl, ?_⟩⟩
      by_cases n : g.name = e.name
      · have z := q H' b
        rw [beh_name (List.mem_of_getElem? hg) n] at z
        exact ⟨true, congrArg V.bl (decide_eq_true (congrArg V.str n)), iteT ⟨true, rfl, iteT z⟩⟩
      · exact ⟨false, congrArg V.bl (decide_eq_false fun z => n (V.str.inj z)), iteF (go _ ⟨b, by rw [take_sn hg, List.any_append, al]; simp [n]⟩)⟩
    · rintro H3 ⟨b3, al⟩
      rw [ll, List.take_length] at al
      rw [beh_yes l30 al] at q
      refine ⟨false, rfl, iteF ?_⟩
      refine ⟨_, rfl, (by show 0 ≤ sizeLine; decide), fun t0 nt0 => ?_⟩
      have s4 := @same_new _ _ (.lst []) nt0
      have b4 := b3.tr (.same b3.1 s4)
      have hl4 := b4.lst hl
      refine ⟨l, t0, us.map V.ref, rfl, rfl, SqL.of hl4, SqL.of upd_same, ?_⟩
      rcases last_cases us with rfl | ⟨us, u, rfl⟩
      · have en0 : es = [] := List.length_eq_zero_iff.mp lu.symm
        rw [en0] at q
        exact ⟨true, rfl, iteT (q _ b4)⟩
      · have lst : (us ++ [u])[us.length]? = some u := by simp
        obtain ⟨g, hg, htu⟩ := en.get lst
        have lg : es.getLast? = some g := by
          rw [List.getLast?_eq_getElem?, ← lu, List.length_append, List.length_singleton, Nat.add_sub_cancel]
          exact hg
        rw [lg] at q
        refine ⟨false, ?_, iteF ?_⟩
        · rw [List.map_append]
          cases us <;> rfl
        have at' : atI ((us ++ [u]).map V.ref) (-1) = some (V.ref u) := by
          rw [List.map_append]
          exact atI_last _ _
        exact ⟨_, rfl, 1, rfl, l, _, _, _, rfl, rfl, SqL.of hl4, at', _, rfl, u, a, g, e, rfl, b4.tk _ _ htu, b4.tk _ _ ha, fun H5 s5 => q _ (b4.tr (.same b4.1 s5))⟩
end
/-! ### entries_in of any lines -/
abbrev lineK (k : Nat) : List (Str × V) := [("line", .int (k : Int))]
def spEntriesInA (Ts : List Addr) (C : Addr) : Sp := fun vs H Q E => ∃ (l hp hg : Addr) (t1 t2 : Str) (P G : List Str) (ls : List Str), vs = [.ref l, .ref hp, .ref hg] ∧ H l = some (.lst ((t1 :: t2 :: ls).map V.str)) ∧ H hp = some (.tup (P.map V.str)) ∧ H hg = some (.tup (G.map V.str)) ∧ (∀ y ∈ ls, y.length ≤ 90000) ∧ TabsG Ts H ∧
  (∀ es, scan P G ls [] 2 = .inr es → ∀ (tp : Addr) (us : List Addr) (H' : Hp), TB1 Ts H H' → H' tp = some (.tup (us.map V.ref)) → EntsAt H' us es → Q (.ref tp) H') ∧
  (∀ k, scan P G ls [] 2 = .inl k → ∀ (d : Addr) (H' : Hp), TB1 Ts H H' → H' d = some (.xd (lineK k)) → E (.ref C) (some d) H')
theorem scan_yes {P G : List Str} {l : Str} {ls : List Str} {es : List Ent} {e : Ent} {k : Nat} (h : entOf l = some e) (ok : okE P G es e = true) : scan P G (l :: ls) es k = scan P G ls (es ++ [e]) (k + 1) := by
  show (match entOf l with | some e => if okE P G es e = true then scan P G ls (es ++ [e]) (k + 1) else .inl k | none => .inl k) = _
  rw [h]
  show (if okE P G es e = true then _ else _) = _
  rw [if_pos ok]
theorem scan_bad {P G : List Str} {l : Str} {ls : List Str} {es : List Ent} {e : Ent} {k : Nat} (h : entOf l = some e) (ok : okE P G es e = false) : scan P G (l :: ls) es k = .inl k := by
  show (match entOf l with | some e => if okE P G es e = true then scan P G ls (es ++ [e]) (k + 1) else .inl k | none => .inl k) = _
  rw [h]
  show (if okE P G es e = true then _ else _) = _
  rw [if_neg (by rw [ok]; exact fun z => nomatch z)]
theorem scan_none {P G : List Str} {l : Str} {ls : List Str} {es : List Ent} {k : Nat} (h : entOf l = none) : scan P G (l :: ls) es k = .inl k := by
  show (match entOf l with | some e => if okE P G es e = true then scan P G ls (es ++ [e]) (k + 1) else .inl k | none => .inl k) = _
  rw [h]
theorem beh_len {es : List Ent} {e : Ent} (h : behB es e = true) : es.length < 30 := by
  by_cases z : es.length < 30
  · exact z
  · unfold behB at h
    rw [decide_eq_false z] at h
    cases h
theorem drop_at {α : Type} {ls : List α} {i : Nat} {y : α} (h : ls[i]? = some y) : ls.drop i = y :: ls.drop (i + 1) := by
  obtain ⟨li, e⟩ := List.getElem?_eq_some_iff.mp h
  rw [List.drop_eq_getElem_cons li, e]
/-- NoText with a line -/
def spNtInit (C : Addr) : Sp := fun vs H Q _ => ∃ (a : Addr) (v : V), vs = [.ref a, v] ∧ H a = some (exo a C none) ∧ ∀ d, H d = none → d ≠ a → Q .non (upd (upd H d (exd d [("line", v)])) a (exo a C (some d)))
theorem nt_raise {H1 : Hp} {C : Addr} {Q : XK} {v : V} (go : ∀ d H', Same H1 H' → H' d = some (.xd [("line", v)]) → Q (.ref C) (some d) H') (a : Addr) (na : H1 a = none) : spNtInit C (.ref a :: ([v] ++ [])) (upd H1 a (exo a C none))
    (fun v H2 => v = .non ∧ ∃ (d : Addr) (fs : List (Str × V)), H2 a = some (exo a C (some d)) ∧ H2 d = some (exd d fs) ∧ H1 d = none ∧ Q (.ref C) (some d) (upd (del H2 a) d (.xd fs))) (fun _ _ _ => False) := by
  refine ⟨a, v, rfl, upd_same, fun d nd ne => ?_⟩
  have nd1 : H1 d = none := (upd_ne ne).symm.trans nd
  refine ⟨rfl, d, [("line", v)], upd_same, (upd_ne ne).trans upd_same, nd1, go d _ (fun b o e => ?_) upd_same⟩
  have ba : b ≠ a := ne_of_none e na
  have bd : b ≠ d := ne_of_none e nd1
  exact (upd_ne bd).trans ((del_ne ba).trans ((upd_ne ba).trans ((upd_ne bd).trans ((upd_ne ba).trans e))))
section
variable {P : Program} {w : World} {K : PySem.W.Frag} {mg : Str → Option Value} {base : Heap}
theorem sc_sTextInit : FnScope ["self", "line"] ["self", "line"] (defScope sTextInit) := ⟨rfl, rfl, rfl, by decide +kernel, rfl, by decide +kernel, by decide +kernel⟩
theorem ok_ntInit {C f : Addr} {fd : FuncData} (T : OexC K C) (no : PySem.W.findIn K (.ref C) "line" = some none) (F : Fun K "__init__" "NoText.__init__" sTextInit f fd) : FnOk P w K mg base CX0 1 f fd ["self", "line"] (spNtInit C) := by
  refine F.ok sc_sTextInit (fun vs H Q E h => ?_) (fun cdv A outer s H vs Q E hr h => ?_)
  · obtain ⟨a, v, rfl, _⟩ := h
    rfl
  · obtain ⟨a, v, rfl, ha, q⟩ := h
    have nd := sc_sTextInit.nd
    refine ⟨_, pss_one (ps_ost (pv 0) (pv 1)), ?_⟩
    exact ⟨_, rfl, _, rfl, a, C, rfl, T, no, .inl ⟨ha, fun dx n ne => q dx n ne⟩⟩
/-- the class NoText -/
structure NtC (P : Program) (w : World) (K : PySem.W.Frag) (mg : Str → Option Value) (base : Heap) (C fI : Addr) (dI : FuncData) : Prop where
  t : OexC K C
  ic : PySem.W.findIn K (.ref C) "__init__" = some (some (.ref fI))
  ti : PySem.W.typeIn K (.ref fI) = some (.type "function")
  ok : FnOk P w K mg base CX0 1 fI dI ["self", "line"] (spNtInit C)
  b : Binds K dI ["self", "line"] []
  g : mg "NoText" = some (.ref C)
abbrev sEntriesInN : List Str := ["lines", "places", "goods", "entries", "at", "line", "entry"]
theorem sc_sEntriesIn : FnScope sEntriesInN ["lines", "places", "goods"] (defScope sEntriesIn) := ⟨rfl, rfl, rfl, by decide +kernel, rfl, by decide +kernel, by decide +kernel⟩
set_option maxHeartbeats 1000000 in
theorem ok_entriesInA {f fE fI fG fN C : Addr} {Ts : List Addr} {fd dE dI dG dN : FuncData} (F : Fun K "entries_in" "entries_in" sEntriesIn f fd) (EI : DefT P w K mg base "entry_in" 5 fE dE ["text"] (spEntryInA Ts)) (IO : DefT P w K mg base "is_entry_of" 5 fI dI ["thing", "places", "goods"] (fun vs H Q E => spIsEntryOf Ts vs H Q E ∨ spNoE1 Ts vs H Q E))
    (GB : DefT P w K mg base "goes_behind" 3 fG dG ["entry", "entries"] (spGoesBehindA Ts)) (NT : NtC P w K mg base C fN dN) (me : mg "enumerate" = none) (mt : mg "tuple" = none) : FnOk P w K mg base (L2.CX P w) 6 f fd ["lines", "places", "goods"] (spEntriesInA Ts C) := by
  refine F.okX sc_sEntriesIn (fun vs H Q E h => ?_) (fun cdv A' outer s H vs Q E hr h => ?_)
  · obtain ⟨l, hp, hg, t1, t2, Ps, G, ls, rfl, _⟩ := h
    rfl
  · obtain ⟨l, hp, hg, t1, t2, Ps, G, ls, rfl, hl, h1, h2, ly, tg, qy, qn⟩ := h
    have nd := sc_sEntriesIn.nd
    have hr3 : Room 3 _ := hr.mono (by decide)
    refine ⟨_, pss_cons (ps_set (i := 3) nd rfl (Or.inl rfl) (pe_lst pa_nil))
      (pss_cons (ps_for (passes_of rfl) rfl (pi_enum (by rfl) me (pa_cons (pe_slice sl_list (pv 0) (po_some pe_int) po_none) pa_nil)) (pg_tup (by rfl) (pgs_cons (pg_name (i := 4) nd rfl (Or.inl rfl)) (pgs_cons (pg_name (i := 5) nd rfl (Or.inl rfl)) pgs_nil)))
        (pss_cons (ps_set (i := 6) nd rfl (Or.inl rfl) (pe_call EI.ok hr (by rfl) EI.g EI.kp EI.b .nil pass0 (pa_cons (pv 5) pa_nil)))
        (pss_cons (ps_if (PW.pt (pw_or (pt_not (pt_val (pe_call IO.ok hr (by rfl) IO.g IO.kp IO.b .nil pass0 (pa_cons (pv 6) (pa_cons (pv 1) (pa_cons (pv 2) pa_nil)))))) (pw_or1 (pt_not (pt_val (pe_call GB.ok hr3 (by rfl) GB.g GB.kp GB.b .nil pass0 (pa_cons (pv 6) (pa_cons (pv 3) pa_nil)))))))) (pss_one (ps_raise rfl (takes_of rfl rfl rfl rfl) (pmk_oex NT.t NT.ic NT.ti NT.ok (hr.mono (by decide)) NT.b .nil pass0 (by rfl) NT.g (pa_cons (pe_op op_add (pv 4) pe_int) pa_nil)))) pss_nil)
        (pss_one (ps_expr (pe_bm PySem.F.plainAttrs_list PySem.F.slot_list_append PySem.F.type_list_append mt_append (pv 3) (pa_cons (pv 6) pa_nil)))))))
      (pss_one (ps_ret (pe_callTy call_tuple_of (by rfl) mt (by decide +kernel) (pa_cons (pv 3) pa_nil))))), ?_⟩
    refine ⟨(by show 0 ≤ sizeLine; decide), fun L nL => ?_⟩
    have s1 := @same_new _ _ (.lst []) nL
    have hL0 : (upd H L (.lst [])) L = some (.lst (([] : List Addr).map V.ref)) := upd_same
    generalize upd H L (.lst []) = H1 at s1 hL0
    refine ⟨_, rfl, 2, rfl, l, _, rfl, SqL.of (s1 _ _ hl), fun l2 nl2 => ?_⟩
    have s2 := @same_new _ _ (.lst (cutV ((t1 :: t2 :: ls).map V.str) (some 2) none)) nl2
    have hl2 : (upd H1 l2 (.lst (cutV ((t1 :: t2 :: ls).map V.str) (some 2) none))) l2 = some (.lst (ls.map V.str)) := by
      rw [upd_same, show cutV ((t1 :: t2 :: ls).map V.str) (some 2) none = ((t1 :: t2 :: ls).map V.str).drop 2 from cut_tail (k := 2)]
      rfl
    generalize upd H1 l2 (.lst (cutV ((t1 :: t2 :: ls).map V.str) (some 2) none)) = H2 at s2 hl2
    have s02 := s1.trans s2
    have tg2 := tabs_sm s02 tg
    refine ⟨l2, _, rfl, SqL.of hl2, ?_⟩
    have l2L : l2 ≠ L := fun z => by rw [z, hL0] at nl2; cases nl2
    refine for_enumL (K := K) (a := l2) (xs := ls.map V.str) (fun i σ H' => ∃ y4 y5 y6, σ = [some (.ref l), some (.ref hp), some (.ref hg), some (.ref L), y4, y5, y6] ∧ TB1 Ts H H' ∧ H' l2 = some (.lst (ls.map V.str)) ∧ ∃ (us : List Addr) (es : List Ent), H' L = some (.lst (us.map V.ref)) ∧ EntsAt H' us es ∧ es.length ≤ 30 ∧ scan Ps G ls [] 2 = scan Ps G (ls.drop i) es (i + 2))
      ⟨_, _, _, rfl, .same tg s02, hl2, [], [], s2 _ _ hL0, .nil, Nat.zero_le _, rfl⟩ (fun i σ H' _ z => by obtain ⟨_, _, _, _, _, z, _⟩ := z; exact SqL.of z) ?_ ?_
    · rintro i x T σ H3 hx ⟨y4, y5, y6, rfl, b3, e3, us, es, hL3, en3, l30, sc⟩ nT
      rw [List.getElem?_map] at hx
      obtain ⟨t, ht, rfl⟩ := Option.map_eq_some_iff.mp hx
      rw [drop_at ht] at sc
      have s4 := @same_new _ _ (.tup [V.int (i : Int), V.str t]) nT
      have b4 : TB1 Ts H (upd H3 T (.tup [V.int (i : Int), V.str t])) := b3.tr (.same b3.1 s4)
      refine ⟨T, _, rfl, SqT.of upd_same, rfl, _, _, rfl, _, _, rfl, rfl, ?_⟩
      have e4 := s4 _ _ e3
      have hL4 := s4 _ _ hL3
      have en4 := en3.on (TK.of s4)
      generalize upd H3 T (.tup [V.int (i : Int), V.str t]) = H4 at s4 b4 e4 hL4 en4
      have fail : ∀ (Hz : Hp), TB1 Ts H Hz → scan Ps G ls [] 2 = .inl (i + 2) → ∀ (d : Addr) (H' : Hp), Same Hz H' → H' d = some (.xd [("line", V.int ((i : Int) + 2))]) → E (.ref C) (some d) H' := fun Hz bz sz d H' s5 hd => qn (i + 2) sz d H' (bz.tr (.same bz.1 s5)) hd
      refine ⟨_, rfl, t, rfl, ly t (List.mem_of_getElem? ht), b4.1, fun e fn hx tp H5 b5 ntp htp => ?_, fun no H5 b5 => ?_⟩
      · have b05 := b4.tr b5
        subst hx
        have eo := entOf_yes fn
        refine ⟨_, rfl, _, rfl, _, rfl, .inl ⟨tp, hp, hg, e, Ps, G, rfl, htp, fn, b05.tk _ _ h1, b05.tk _ _ h2, b05.1, fun H6 b6 => ?_⟩⟩
        have b06 := b05.tr b6
        cases ob : ofB e Ps G with
        | false =>
          refine ⟨false, rfl, iteT ⟨_, rfl, (i : Int), 2, rfl, rfl, (by show 1 ≤ 1000; decide), nt_raise (fail H6 b06 ?_)⟩⟩
          rw [sc, scan_bad eo (by unfold okE; rw [ob]; rfl)]
        | true =>
        refine ⟨true, rfl, iteF ?_⟩
        have hL5 := b5.lst hL4
        have en5 := en4.on b5.tk
        refine ⟨_, rfl, _, rfl, tp, L, e, us, es, rfl, b6.tk _ _ htp, b6.lst hL5, en5.on b6.tk, by omega, b6.1, fun H7 b7 => ?_⟩
        have b57 := b6.tr b7
        have b07 := b05.tr b57
        cases bb : behB es e with
        | false =>
          refine ⟨false, rfl, iteT ⟨_, rfl, (i : Int), 2, rfl, rfl, (by show 1 ≤ 1000; decide), nt_raise (fail H7 b07 ?_)⟩⟩
          rw [sc, scan_bad eo (by unfold okE; rw [ob, bb]; rfl)]
        | true =>
        refine ⟨true, rfl, iteF ?_⟩
        rw [scan_yes eo (by unfold okE; rw [ob, bb]; rfl)] at sc
        have lt30 := beh_len bb
        have hL7 := b57.lst hL5
        have nL' : L ≠ tp := fun z => by rw [z, ntp] at hL4; cases hL4
        have lus : us.length = es.length := en3.len
        refine ⟨_, rfl, .inl ⟨rfl, _, SqL.of hL7⟩, _, rfl, L, _, _, rfl, rfl, hL7, (by rw [List.length_map]; exact small1000 (by omega)), ?_⟩
        refine ⟨_, _, _, rfl, b07.put nL hL7, (upd_ne l2L).trans ((b5.tr b57).lst e4), us ++ [tp], es ++ [e], by rw [upd_same, List.map_append]; rfl, ?_, by rw [List.length_append, List.length_singleton]; omega, sc⟩
        have k8 : TK H7 (upd H7 L (.lst (us.map V.ref ++ [V.ref tp]))) := TK.upd fun xs e => by rw [hL7] at e; cases e
        exact EntsAt.snoc ((en5.on b57.tk).on k8) (k8 _ _ (b57.tk _ _ htp))
      · have b05 := b4.tr b5
        have eo : entOf t = none := by
          cases z : entOf t with
          | none => rfl
          | some e =>
            obtain ⟨fe, te⟩ := entOf_some z
            exact absurd te (no e fe)
        refine ⟨_, rfl, _, rfl, _, rfl, .inr ⟨.non, .ref hp, .ref hg, rfl, b05.1, .inl ⟨.non, fun a xs z => nomatch z⟩, fun H6 b6 => ?_⟩⟩
        refine ⟨false, rfl, iteT ⟨_, rfl, (i : Int), 2, rfl, rfl, (by show 1 ≤ 1000; decide), nt_raise (fail H6 (b05.tr b6) ?_)⟩⟩
        rw [sc, scan_none eo]
    · rintro σ H3 ⟨y4, y5, y6, rfl, b3, e3, us, es, hL3, en3, l30, sc⟩
      rw [List.length_map, List.drop_length] at sc
      refine ⟨_, rfl, L, _, rfl, .inl ⟨SqL.of hL3, fun tp ntp => ?_⟩⟩
      have s4 := @same_new _ _ (.tup (us.map V.ref)) ntp
      exact qy es sc tp us _ (b3.tr (.same b3.1 s4)) upd_same (en3.on (TK.of s4))
end
/-! ### behind a number a token is out -/
namespace Tk74
open CwR
def PEU (X : Cx) (e : Expr) (t : TE) : Prop :=
  ∀ (pins : List (Addr × Obj)) (s : Shared) (σ : L2.St) (H : Hp) (Q : VK), Inv X pins σ H s → t σ H Q → wpAny (model X.prog X.w) X.A (eval e X.env) (fun v s' => 1 ≤ s'.toks ∧ EP X pins σ Q v s') X.xe s
def PAU (X : Cx) (es : List Expr) (t : TA) : Prop :=
  ∀ (pos : Pos) (pins : List (Addr × Obj)) (s : Shared) (σ : L2.St) (H : Hp) (Q : List V → Hp → Prop), Inv X pins σ H s → t σ H Q → wpAny (model X.prog X.w) X.A (spliced (backTo pos (starEach es X.env))) (fun us s' => 1 ≤ s'.toks ∧ AP X pins σ Q us s') X.xe s
section
variable {X : Cx} {e : Expr} {es : List Expr} {te : TE} {t : TA} {pos : Pos}
theorem peu_int {i : Int} {j : Nat} : PEU X (.Constant (.int i) j pos) (tC (.int i)) := fun _ _ _ H _ I h => wpAny_Constant_int ⟨Nat.le_add_left 1 _, .int i, H, I.tok _, ⟨_, rfl⟩, h⟩
theorem pau_here (ha : PEU X e te) (hr : PA X es t) (hs : starEach (e :: es) X.env = (false, eval e X.env) :: starEach es X.env := by rfl) : PAU X (e :: es) (tCons te t) := by
  intro pos pins s σ H Q I h
  rw [hs]
  show wpAny _ _ (spliced ((false, eval e X.env) :: backTo pos (starEach es X.env))) _ _ s
  refine Calls.spliced_cons (thn (ha pins s σ H _ I h) fun u s1 ⟨hk, x, H1, I1, r1, q1⟩ => ?_)
  refine wpAny_mono (PySem.wpAny_toks (hr.run pos pins s1 σ H1 _ I1 q1)) (fun us s2 q => ?_) fun _ _ z => z.2
  obtain ⟨hk2, xs, H2, I2, r2, q2⟩ := q
  exact ⟨Nat.le_trans hk hk2, x :: xs, H2, I2, .cons r1 r2, q2⟩
theorem pau_next (ha : PE X e te) (hr : PAU X es t) (hs : starEach (e :: es) X.env = (false, eval e X.env) :: starEach es X.env := by rfl) : PAU X (e :: es) (tCons te t) := by
  intro pos pins s σ H Q I h
  rw [hs]
  show wpAny _ _ (spliced ((false, eval e X.env) :: backTo pos (starEach es X.env))) _ _ s
  refine Calls.spliced_cons (thn (ha.run pins s σ H _ I h) fun u s1 ⟨x, H1, I1, r1, q1⟩ => ?_)
  exact thn (hr pos pins s1 σ H1 _ I1 q1) fun us s2 ⟨hk, xs, H2, I2, r2, q2⟩ => ⟨hk, x :: xs, H2, I2, .cons r1 r2, q2⟩
theorem peu_call {CX : CXT} {x : Str} {p : Pos} {k : Nat} {f : Addr} {fd : FuncData} {ps : List Str} {sp : Sp} {ds : List Value} {dvs : List V} {E : XK} (F : FnOk X.prog X.w X.K X.mg X.base CX k f fd ps sp) (hr : Room k X.A) (hg : Gl X x) (hm : X.mg x = some (.ref f)) (hk : PySem.W.keepIn X.K (.ref f) = true) (hb : Binds X.K fd ps ds) (hd : Vals dvs ds) (hx : Passes CX X E)
    (ha : PAU X (e :: es) t) (hdb : (x == ("__debug__" : Str)) = false := by decide) (he : starEach (e :: es) X.env = (false, eval e X.env) :: starEach es X.env := by rfl) (hpl : (backTo pos (starEach es X.env)).any (·.1) = false := by rfl) :
    PEU X (.Call (.Name x p) (e :: es) [] pos) (tCall sp dvs E t) := by
  intro pins s σ H Q I h
  refine wpAny_Call_Name_kw (ld_glob I hg hm ?_ hdb)
  refine PySem.W.callWith_K (h₀ := X.base) I.ok.mod.kin hk (thn (ha pos pins s σ H _ I h) fun us s1 ⟨h1, vs, H1, I1, r, q⟩ => ⟨I1.kIn, ?_⟩) he hpl
  exact wpAny_mono (PySem.wpAny_toks (run_fn F hr hb hd hx I1 r q)) (fun v s2 z => ⟨Nat.le_trans h1 z.1, z.2⟩) fun _ _ z => z.2
theorem pss_set {i : Nat} {x : Str} {pos' : Pos} {rest : List Stmt} {u : TS} (hN : X.N.Nodup) (hi : X.N[i]? = some x) (hx : Loc X.env.scope x) (he : PEU X e te) (hr : PSsT X rest u) (hs : swapsWith e (some (.Name x pos')) pos.line X.env = pure false := by rfl) (hf : X.fn x = true ∨ X.env.scope.names.lookup x = some .local := by first | exact .inl rfl | exact .inr rfl | assumption) :
    PSs X (.Assign [.Name x pos'] e pos :: rest) (tSeq (tAsg te (gName i)) u) := by
  refine ⟨fun pins s σ H D I h => ?_⟩
  refine wpAny_execs_cons (wpAny_Assign_Name (thn (he pins s σ H _ I h) fun v s1 ⟨hk, y, H1, I1, r1, q1⟩ => ?_) hs)
  refine wpAny_mono (PySem.wpAny_toks (store_ok (Q := fun _ s' => Inv X pins (σ.set i (some y)) H1 s') (E := X.xe) I1 hN hi hx r1 (fun s2 I2 => I2) hf)) (fun _ s2 z => ?_) (fun _ _ z => z.2)
  exact hr pins s2 _ H1 D (Nat.le_trans hk z.1) z.2 q1
/-- a method of a text that wants a token -/
theorem pet_m1 {o e : Expr} {to te : TE} {id : String} {name : Str} {apos pos : Pos} {r : V → List V → Hp → VK → Prop} (slot : Slot "str" name id) (ty : typeOf (.builtin id) = pure (.type "method_descriptor")) (rule : MtR X id r) (ho : PET X o to) (he : PE X e te)
    (hs : starEach [e] X.env = [(false, eval e X.env)] := by rfl) (hbase : attributeBase o name X.env (eval o X.env) = eval o X.env := by rfl) (hline : (apos.endLine == pos.line) = true := by rfl) :
    PET X (.Call (.Attribute o name apos) [e] [] pos) (tM1 r to te) := by
  intro pins s σ H Q h0 I h
  refine PySem.Call_method1 hbase hs hline (thn (ho pins s σ H _ h0 I h) fun v s1 ⟨x, H1, I1, r1, q1⟩ => ?_)
  obtain ⟨⟨a, rfl⟩, q1⟩ := q1
  obtain ⟨t, rfl⟩ := _root_.id r1
  refine ⟨"str", _, PySem.F.plainAttrs_str, slot, ty, typeIs_str _ _ _, (fun _ e => nomatch e), Calls.callWith_builtin rfl (Calls.evalArgs_plain (Calls.spliced_cons ?_))⟩
  exact thn (he.run pins s1 σ H1 _ I1 q1) fun u s2 ⟨y, H2, I2, r2, q2⟩ => Calls.spliced_nil (rule pins s2 σ H2 _ [y] _ [u] Q I2 r1 (.cons r2 .nil) q2)
theorem pst_set {i : Nat} {x : Str} {pos' : Pos} (hN : X.N.Nodup) (hi : X.N[i]? = some x) (hx : Loc X.env.scope x) (he : PET X e te) (hs : swapsWith e (some (.Name x pos')) pos.line X.env = pure false := by rfl) (hf : X.fn x = true ∨ X.env.scope.names.lookup x = some .local := by first | exact .inl rfl | exact .inr rfl | assumption) :
    PST X (.Assign [.Name x pos'] e pos) (tAsg te (gName i)) := by
  intro pins s σ H D h0 I h
  refine wpAny_Assign_Name (thn (he pins s σ H _ h0 I h) fun v s1 ⟨y, H1, I1, r1, q1⟩ => ?_) hs
  exact store_ok I1 hN hi hx r1 (fun s2 I2 => ⟨_, H1, I2, q1⟩) hf
end
end Tk74
/-! ### read_house of any thing -/
def NoStr (K : PySem.W.Frag) (H : Hp) (v : V) : Prop := ∃ t : String, TyX K H v (.type t) ∧ kitB t "str" = some false
def spReadHouseA (K : PySem.W.Frag) (Ts : List Addr) (C : Addr) : Sp := fun vs H Q E => ∃ v : V, vs = [v] ∧ TabsG Ts H ∧
  ((∃ x : Str, v = .str x ∧ x.length ≤ 16000 ∧ (∀ P G es, readM x = .inr (P, G, es) → ∀ (h : Addr) (H' : Hp), TB1 Ts H H' → HouseAt H' h P G es → Q (.ref h) H') ∧ (∀ k, readM x = .inl k → ∀ (d : Addr) (H' : Hp), TB1 Ts H H' → H' d = some (.xd (lineK k)) → E (.ref C) (some d) H')) ∨
   (NoStr K H v ∧ ∀ (d : Addr) (H' : Hp), TB1 Ts H H' → H' d = some (.xd (lineK 0)) → E (.ref C) (some d) H'))
section
variable {x l0 l1 : Str} {ls : List Str} {P G : List Str}
theorem readM_a (h : Txt.split x "\n" = l0 :: ls) (n : namesM l0 "places" 6 = none) : readM x = .inl 0 := by
  unfold readM
  rw [h]
  dsimp only
  rw [n]
theorem readM_b (h : Txt.split x "\n" = [l0]) (n : namesM l0 "places" 6 = some P) : readM x = .inl 1 := by
  unfold readM
  rw [h]
  dsimp only
  rw [n]
theorem readM_c (h : Txt.split x "\n" = l0 :: l1 :: ls) (n : namesM l0 "places" 6 = some P) (m : namesM l1 "goods" 3 = none) : readM x = .inl 1 := by
  unfold readM
  rw [h]
  dsimp only
  rw [n]
  dsimp only
  rw [m]
theorem readM_d (h : Txt.split x "\n" = l0 :: l1 :: ls) (n : namesM l0 "places" 6 = some P) (m : namesM l1 "goods" 3 = some G) {k : Nat} (s : scan P G ls [] 2 = .inl k) : readM x = .inl k := by
  unfold readM
  rw [h]
  dsimp only
  rw [n]
  dsimp only
  rw [m]
  dsimp only
  rw [s]
theorem readM_e (h : Txt.split x "\n" = l0 :: l1 :: ls) (n : namesM l0 "places" 6 = some P) (m : namesM l1 "goods" 3 = some G) {es : List Ent} (s : scan P G ls [] 2 = .inr es) : readM x = .inr (P, G, es) := by
  unfold readM
  rw [h]
  dsimp only
  rw [n]
  dsimp only
  rw [m]
  dsimp only
  rw [s]
end
section
variable {P : Program} {w : World} {K : PySem.W.Frag} {mg : Str → Option Value} {base : Heap}
abbrev sReadHouseN : List Str := ["text", "lines", "places", "goods"]
theorem sc_sReadHouse : FnScope sReadHouseN ["text"] (defScope sReadHouse) := ⟨rfl, rfl, rfl, by decide +kernel, rfl, by decide +kernel, by decide +kernel⟩
set_option maxHeartbeats 1000000 in
theorem ok_readHouseA {f fN fE fC C : Addr} {Ts : List Addr} {fd dN dE dC : FuncData} (F : Fun K "read_house" "read_house" sReadHouse f fd) (NI : DefT P w K mg base "names_in" 3 fN dN ["line", "word", "most"] (spNamesInA Ts)) (EN : DefX P w K mg base "entries_in" 6 fE dE ["lines", "places", "goods"] (spEntriesInA Ts C)) (NT : NtC P w K mg base C fC dC)
    (mis : mg "isinstance" = none) (mT_str : mg "str" = none) (ml : mg "len" = none) (mMP : ∃ t, mg "MOST_PLACES" = some (.int 6 t)) (mMG : ∃ t, mg "MOST_GOODS" = some (.int 3 t)) : FnOk P w K mg base (L2.CX P w) 7 f fd ["text"] (spReadHouseA K Ts C) := by
  refine F.okX sc_sReadHouse (fun vs H Q E h => ?_) (fun cdv A' outer s H vs Q E hr h => ?_)
  · obtain ⟨v, rfl, _⟩ := h
    rfl
  · obtain ⟨v, rfl, tg, h⟩ := h
    obtain ⟨tP, mMP⟩ := mMP
    obtain ⟨tG, mMG⟩ := mMG
    have nd := sc_sReadHouse.nd
    have hr3 : Room 3 _ := hr.mono (by decide)
    refine ⟨_, pss_cons (ps_if (pt_not (pt_val (pe_callB call_isi (by rfl) mis (by decide +kernel) (pa_cons (pv 0) (pa_cons (pe_bltn (v := .ty "str") (u := .type "str") (by rfl) mT_str (by decide +kernel) rfl) pa_nil))))) (pss_one (ps_raise rfl (takes_of rfl rfl rfl rfl) (pmk_oex NT.t NT.ic NT.ti NT.ok (hr.mono (by decide)) NT.b .nil pass0 (by rfl) NT.g (pa_cons pe_int pa_nil)))) pss_nil)
      (pss_cons (ps_set (i := 1) nd rfl (Or.inl rfl) (pe_split (pv 0) pe_str))
      (pss_cons (ps_set (i := 2) nd rfl (Or.inl rfl) (pe_call NI.ok hr3 (by rfl) NI.g NI.kp NI.b .nil pass0 (pa_cons (pe_ix ix_list (pv 1) pe_int (fun _ _ => rfl)) (pa_cons pe_str (pa_cons (pe_glob (v := .int 6) rfl mMP ⟨_, rfl⟩) pa_nil)))))
      (pss_cons (ps_if (pt_cmpR op_isN (pv 2) pe_non (by rfl)) (pss_one (ps_raise rfl (takes_of rfl rfl rfl rfl) (pmk_oex NT.t NT.ic NT.ti NT.ok (hr.mono (by decide)) NT.b .nil pass0 (by rfl) NT.g (pa_cons pe_int pa_nil)))) pss_nil)
      (pss_cons (ps_set (i := 3) nd rfl (Or.inl rfl) (pe_ifExp (pt_cmpR op_gt (pe_callB call_len_seq (by rfl) ml PySem.boot_len (pa_cons (pv 1) pa_nil)) pe_int (nomark _)) (pe_call NI.ok hr3 (by rfl) NI.g NI.kp NI.b .nil pass0 (pa_cons (pe_ix ix_list (pv 1) pe_int (fun _ _ => rfl)) (pa_cons pe_str (pa_cons (pe_glob (v := .int 3) rfl mMG ⟨_, rfl⟩) pa_nil)))) pe_non))
      (pss_cons (ps_if (pt_cmpR op_isN (pv 3) pe_non (by rfl)) (pss_one (ps_raise rfl (takes_of rfl rfl rfl rfl) (pmk_oex NT.t NT.ic NT.ti NT.ok (hr.mono (by decide)) NT.b .nil pass0 (by rfl) NT.g (pa_cons pe_int pa_nil)))) pss_nil)
      (pss_one (ps_ret (pe_tup (pa_cons (pv 2) (pa_cons (pv 3) (pa_cons (pe_callS EN.ok hr (by rfl) EN.g EN.kp EN.b (fun σ => passAt (takes_of rfl rfl rfl rfl) σ) (pa_cons (pv 1) (pa_cons (pv 2) (pa_cons (pv 3) pa_nil)))) pa_nil))))))))))), ?_⟩
    have one : ∀ v : V, [v].length ≤ 1000 := fun _ => by show 1 ≤ 1000; decide
    rcases h with ⟨x, rfl, l16, qy, qn⟩ | ⟨⟨t, ty, kb⟩, q⟩
    rotate_left
    · refine ⟨_, rfl, _, _, _, _, false, rfl, .ty "str", ty, kit_ty kb, _, rfl, iteT ⟨one _, nt_raise fun d H2 s2 hd => ?_⟩⟩
      exact q d H2 (.same tg s2) hd
    refine ⟨_, rfl, _, _, _, _, true, rfl, .ty "str", .base (.str _), kit_ty (by decide +kernel), _, rfl, iteF ?_⟩
    refine ⟨_, rfl, ⟨_, rfl⟩, _, _, rfl, rfl, (by decide +kernel), (by rw [sizeLine_eq]; omega), fun wl nwl => ?_⟩
    obtain ⟨l0, ls, hsp⟩ := split_cons x (sep := "\n") (by decide +kernel)
    have lw : ∀ y ∈ l0 :: ls, y.length ≤ 16000 := fun y hy => Nat.le_trans (split_len (hsp ▸ hy)) l16
    rw [hsp]
    have s1 := @same_new _ _ (.lst ((l0 :: ls).map V.str)) nwl
    have h1 : (upd H wl (.lst ((l0 :: ls).map V.str))) wl = some (.lst ((l0 :: ls).map V.str)) := upd_same
    generalize upd H wl (.lst ((l0 :: ls).map V.str)) = H1 at s1 h1
    have tg1 := tabs_sm s1 tg
    have b01 : TB1 Ts H H1 := .same tg s1
    refine ⟨_, rfl, wl, _, 0, _, rfl, rfl, SqL.of h1, atI_nat (j := 0) rfl, l0, "places", 6, rfl, lw l0 List.mem_cons_self, tg1, fun Ps hn tp H2 b2 h2 => ?_, fun hn H2 b2 => ?_⟩
    rotate_left
    · refine ⟨_, rfl, rfl, true, congrArg V.bl (decide_eq_true rfl), iteT ⟨one _, nt_raise fun d H3 s3 hd => ?_⟩⟩
      exact qn 0 (readM_a hsp hn) d H3 ((b01.tr b2).tr (.same b2.1 s3)) hd
    refine ⟨_, rfl, rfl, false, congrArg V.bl (decide_eq_false fun z => nomatch z), iteF ?_⟩
    have h12 := b2.lst h1
    have b02 := b01.tr b2
    refine ⟨_, rfl, wl, _, rfl, .inl (SqL.of h12), _, 1, rfl, rfl, _, rfl, ?_⟩
    cases ls with
    | nil =>
      rw [decide_eq_false (show ¬ ((([l0].map V.str).length : Int) > 1) by show ¬ ((1 : Int) > 1); decide)]
      refine iteF ⟨_, rfl, rfl, true, congrArg V.bl (decide_eq_true rfl), iteT ⟨one _, nt_raise fun d H3 s3 hd => ?_⟩⟩
      exact qn 1 (readM_b hsp hn) d H3 (b02.tr (.same b2.1 s3)) hd
    | cons l1 ls =>
      rw [decide_eq_true (show ((((l0 :: l1 :: ls).map V.str).length : Int) > 1) by rw [List.length_map]; show ((ls.length + 1 + 1 : Nat) : Int) > 1; omega)]
      refine iteT ⟨_, rfl, wl, _, 1, _, rfl, rfl, SqL.of h12, atI_nat (j := 1) rfl, l1, "goods", 3, rfl, lw l1 (by simp), b2.1, fun Gs hm tq H3 b3 h3 => ?_, fun hm H3 b3 => ?_⟩
      rotate_left
      · refine ⟨_, rfl, rfl, true, congrArg V.bl (decide_eq_true rfl), iteT ⟨one _, nt_raise fun d H4 s4 hd => ?_⟩⟩
        exact qn 1 (readM_c hsp hn hm) d H4 ((b02.tr b3).tr (.same b3.1 s4)) hd
      refine ⟨_, rfl, rfl, false, congrArg V.bl (decide_eq_false fun z => nomatch z), iteF ?_⟩
      have b03 := b02.tr b3
      refine ⟨_, rfl, _, rfl, _, rfl, _, rfl, _, rfl, wl, tp, tq, l0, l1, Ps, Gs, ls, rfl, b3.lst h12, b3.tk _ _ h2, h3, fun y hy => Nat.le_trans (lw y (List.mem_cons_of_mem _ (List.mem_cons_of_mem _ hy))) (by decide), b3.1, fun es hs te us H4 b4 hte en => ?_, fun k hs d H4 b4 hd => ?_⟩
      · refine ⟨(by show 3 ≤ sizeLine; decide), fun h nh => ?_⟩
        have s5 := @same_new _ _ (.tup [V.ref tp, .ref tq, .ref te]) nh
        have k5 : TK H4 (upd H4 h (.tup [V.ref tp, .ref tq, .ref te])) := TK.of s5
        exact qy Ps Gs es (readM_e hsp hn hm hs) h _ ((b03.tr b4).tr (.same b4.1 s5)) ⟨tp, tq, te, us, upd_same, k5 _ _ (b4.tk _ _ (b3.tk _ _ h2)), k5 _ _ (b4.tk _ _ h3), k5 _ _ hte, en.on k5⟩
      · exact qn k (readM_d hsp hn hm hs) d H4 (b03.tr b4) hd
end
/-! ### what is read is a good house -/
theorem of_good {e : Ent} {P G : List Str} {g : Str} (o : ofB e P G = true) (h : e.goodV = .str g) : g ∈ G := by
  unfold ofB goodOk at o
  rw [h, Bool.and_eq_true] at o
  exact of_decide_eq_true o.1
theorem of_place {e : Ent} {P G : List Str} {y : Str} (o : ofB e P G = true) (h : y ∈ e.places) : y ∈ P := by
  unfold ofB at o
  rw [Bool.and_eq_true] at o
  exact of_decide_eq_true (List.all_eq_true.mp o.2 y h)
theorem wh_int {lo hi i : Int} (h : whB lo hi (.int i) = true) : lo ≤ i ∧ i ≤ hi := by
  have h' : (decide (lo ≤ i) && decide (i ≤ hi)) = true := h
  rw [Bool.and_eq_true] at h'
  exact ⟨of_decide_eq_true h'.1, of_decide_eq_true h'.2⟩
theorem own_from {e : Ent} {P G : List Str} (f : e.Fine) (o : ofB e P G = true) : nameB e.name = true ∧ 0 ≤ e.moment ∧ e.moment ≤ 9999 ∧ ∃ HL : List Str, (∀ y ∈ HL, nameB y = true) ∧ e.From P G HL := by
  have ft := fun i v x h1 h2 => (f.fit i v x h1 h2).2
  have ap := f.apart
  have n0 : nameB e.name = true := by
    have z := ft 0 (.str e.name) "name" rfl (by cases e <;> rfl)
    rw [fit_n] at z
    exact z
  have m0 := wh_int (by
    have z := ft 1 (.int e.moment) "moment" rfl (by cases e <;> rfl)
    rw [fit_mo] at z
    exact z)
  refine ⟨n0, m0.1, m0.2, ?_⟩
  have no : ∀ y ∈ ([] : List Str), nameB y = true := fun y hy => nomatch hy
  cases e with
  | come n m g p k r =>
    have a := wh_int (by have z := ft 4 (.int k) "many" rfl rfl; rw [fit_ma] at z; exact z)
    have b := wh_int (by have z := ft 5 (.int r) "price" rfl rfl; rw [fit_pr] at z; exact z)
    exact ⟨[], no, of_good o rfl, of_place o (by simp [Ent.places]), a.1, a.2, b.1, b.2⟩
  | go n m g p k =>
    have a := wh_int (by have z := ft 4 (.int k) "many" rfl rfl; rw [fit_ma] at z; exact z)
    exact ⟨[], no, of_good o rfl, of_place o (by simp [Ent.places]), a.1, a.2⟩
  | move n m g p t k =>
    have a := wh_int (by have z := ft 5 (.int k) "many" rfl rfl; rw [fit_ma] at z; exact z)
    have nd : p ≠ t := by
      have ap' : [p, t].Nodup := ap
      simpa using ap'
    exact ⟨[], no, of_good o rfl, of_place o (by simp [Ent.places]), of_place o (by simp [Ent.places]), fun _ => nd, a.1, a.2⟩
  | some_ n m g p t =>
    by_cases z : t = ""
    · exact ⟨[], no, of_good o rfl, of_place o (by simp [Ent.places, z]), .inl z⟩
    · have nd : p ≠ t := by
        have ap' : (if t = "" then [p] else [p, t]).Nodup := ap
        rw [if_neg z] at ap'
        simpa using ap'
      exact ⟨[], no, of_good o rfl, of_place o (by simp [Ent.places, z]), .inr ⟨of_place o (by simp [Ent.places, z]), fun _ => nd⟩⟩
  | swap n m p t =>
    have nd : p ≠ t := by
      have ap' : [p, t].Nodup := ap
      simpa using ap'
    exact ⟨[], no, of_place o (by simp [Ent.places]), of_place o (by simp [Ent.places]), fun _ => nd⟩
  | count n m g p k hd =>
    have a := wh_int (by have z := ft 4 (.int k) "counted" rfl rfl; rw [fit_co] at z; exact z)
    have b : nameB hd = true := by have z := ft 5 (.str hd) "name" rfl rfl; rw [fit_n] at z; exact z
    exact ⟨[hd], fun y hy => by rw [List.mem_singleton.mp hy]; exact b, of_good o rfl, of_place o (by simp [Ent.places]), a.1, a.2, List.mem_singleton.mpr rfl⟩
  | look n m g p => exact ⟨[], no, of_good o rfl, of_place o (by simp [Ent.places])⟩
/-! names in their order -/
theorem strLt_le {a b : Str} (h : strLt a b = true) : a.cps.toList < b.cps.toList := by
  have h' : (PyProof.Rows.strKind.blt a.cps.toList b.cps.toList || (!PyProof.Rows.strKind.blt b.cps.toList a.cps.toList && false)) = true := h
  rw [Bool.and_false, Bool.or_false] at h'
  exact of_decide_eq_true h'
theorem rise_cons {a b : Str} {r : List Str} (h : riseB (a :: b :: r) = true) : strLt a b = true ∧ riseB (b :: r) = true := by
  have h' : (strLt a b && riseB (b :: r)) = true := h
  rw [Bool.and_eq_true] at h'
  exact h'
theorem rise_pw : ∀ {xs : List Str}, riseB xs = true → xs.Pairwise fun a b => a.cps.toList < b.cps.toList
  | [], _ => .nil
  | [a], _ => List.pairwise_singleton _ _
  | a :: b :: r, h => by
    obtain ⟨h1, h2⟩ := rise_cons h
    have ih := rise_pw h2
    have lt := strLt_le h1
    refine List.pairwise_cons.mpr ⟨fun y hy => ?_, ih⟩
    rcases List.mem_cons.mp hy with rfl | hy
    · exact lt
    · exact List.lt_trans lt (List.rel_of_pairwise_cons ih hy)
theorem rise_nd {xs : List Str} (h : riseB xs = true) : xs.Nodup := (rise_pw h).imp fun {a b} z e => by
  rw [e] at z
  exact List.lt_irrefl _ z
theorem rise_so : ∀ {xs : List Str}, riseB xs = true → sortedS xs = true
  | [], _ => rfl
  | [a], _ => rfl
  | a :: b :: r, h => by
    obtain ⟨h1, h2⟩ := rise_cons h
    have ih : risingS b r = true := rise_so h2
    show (!ltCps b.cps.toList a.cps.toList && risingS b r) = true
    rw [ih, Bool.and_true, ltCps_eq, decide_eq_false (fun z => List.lt_irrefl _ (List.lt_trans (strLt_le h1) z))]
    rfl
/-! entries in their order -/
theorem dlt_trans {a b c : PyData} (h1 : PySem.W.dataLt a b = true) (h2 : PySem.W.dataLt b c = true) : PySem.W.dataLt a c = true := PyProof.Rows.lex_trans (O := PyProof.Rows.itemOrd) _ _ _ h1 h2
structure EsOk (P G : List Str) (es : List Ent) : Prop where
  l30 : es.length ≤ 30
  nms : (es.map Ent.name).Nodup
  so : (es.map ordD).Pairwise fun a b => PySem.W.dataLt a b = true
  ents : ∀ e ∈ es, e.Fine ∧ ofB e P G = true
theorem EsOk.add {P G : List Str} {es : List Ent} {e : Ent} (h : EsOk P G es) (f : e.Fine) (o : okE P G es e = true) : EsOk P G (es ++ [e]) := by
  unfold okE at o
  rw [Bool.and_eq_true] at o
  obtain ⟨o1, o2⟩ := o
  have lt := beh_len o2
  unfold behB at o2
  rw [Bool.and_eq_true, Bool.and_eq_true] at o2
  obtain ⟨⟨_, n⟩, l⟩ := o2
  have nn : ∀ g ∈ es, g.name ≠ e.name := fun g hg z => by
    have a : (es.any fun g => decide (g.name = e.name)) = true := List.any_eq_true.mpr ⟨g, hg, decide_eq_true z⟩
    rw [a] at n
    cases n
  refine ⟨by rw [List.length_append, List.length_singleton]; omega, ?_, ?_, fun x hx => ?_⟩
  · rw [List.map_append]
    refine List.nodup_append.mpr ⟨h.nms, List.pairwise_singleton _ _, fun a ha b hb => ?_⟩
    obtain ⟨g, hg, rfl⟩ := List.mem_map.mp ha
    have hb' : b = e.name := List.mem_singleton.mp hb
    rw [hb']
    exact nn g hg
  · rw [List.map_append]
    refine List.pairwise_append.mpr ⟨h.so, List.pairwise_singleton _ _, fun a ha b hb => ?_⟩
    have hb' : b = ordD e := List.mem_singleton.mp hb
    rw [hb']
    rcases last_cases es with rfl | ⟨us, u, rfl⟩
    · exact nomatch ha
    rw [List.getLast?_append, List.getLast?_singleton] at l
    have l' : PySem.W.dataLt (ordD u) (ordD e) = true := l
    rw [List.map_append, List.mem_append] at ha
    rcases ha with ha | ha
    · have so := h.so
      rw [List.map_append, List.pairwise_append] at so
      exact dlt_trans (so.2.2 a ha (ordD u) (List.mem_singleton.mpr rfl)) l'
    · have ha' : a = ordD u := List.mem_singleton.mp ha
      rw [ha']
      exact l'
  · rcases List.mem_append.mp hx with hx | hx
    · exact h.ents x hx
    · rw [List.mem_singleton.mp hx]
      exact ⟨f, o1⟩
theorem scan_ok {P G : List Str} : ∀ {ls : List Str} {es fs : List Ent} {k : Nat}, EsOk P G es → scan P G ls es k = .inr fs → EsOk P G fs ∧ ∃ gs, fs = es ++ gs ∧ ls = gs.map entT
  | [], es, fs, k, h, s => by
    have e : es = fs := Sum.inr.inj s
    rw [← e]
    exact ⟨h, [], (List.append_nil _).symm, rfl⟩
  | l :: ls, es, fs, k, h, s => by
    cases eo : entOf l with
    | none => rw [scan_none eo] at s; cases s
    | some e =>
      cases ok : okE P G es e with
      | false => rw [scan_bad eo ok] at s; cases s
      | true =>
        rw [scan_yes eo ok] at s
        obtain ⟨fe, te⟩ := entOf_some eo
        obtain ⟨h2, gs, e1, e2⟩ := scan_ok (h.add fe ok) s
        exact ⟨h2, e :: gs, by rw [e1, List.append_assoc]; rfl, by rw [te, e2]; rfl⟩
theorem scan_of {P G : List Str} : ∀ {gs es : List Ent} {k : Nat}, (∀ i e, gs[i]? = some e → e.Fine ∧ okE P G (es ++ gs.take i) e = true) → scan P G (gs.map entT) es k = .inr (es ++ gs)
  | [], es, k, _ => by
    rw [List.append_nil]
    rfl
  | e :: gs, es, k, h => by
    obtain ⟨fe, oe⟩ := h 0 e rfl
    have oe' : okE P G es e = true := by
      have z := oe
      rw [List.take_zero, List.append_nil] at z
      exact z
    rw [List.map_cons, scan_yes (entOf_yes fe) oe', scan_of (gs := gs) (es := es ++ [e]) fun i f hf => ?_, List.append_assoc]
    · rfl
    · obtain ⟨a, b⟩ := h (i + 1) f hf
      refine ⟨a, ?_⟩
      rw [List.take_succ_cons] at b
      rw [List.append_assoc]
      exact b
theorem join_of {x sep : Str} {ws : List Str} (h : Txt.split x sep = ws) : x = Txt.join sep ws := by
  have j := StrLaws.join_split x sep
  rw [h, ← TL.join_eq] at j
  exact j.symm
/-- what is read is good, and it is written as the text -/
theorem readM_good {x : Str} {P G : List Str} {es : List Ent} (h : readM x = .inr (P, G, es)) : Good P G es es.length ∧ es.length ≤ 30 ∧ x = houseT P G es := by
  obtain ⟨l0, ls, hsp⟩ := split_cons x (sep := "\n") (by decide +kernel)
  cases n : namesM l0 "places" 6 with
  | none => rw [readM_a hsp n] at h; cases h
  | some P' =>
  cases ls with
  | nil => rw [readM_b hsp n] at h; cases h
  | cons l1 ls =>
  cases m : namesM l1 "goods" 3 with
  | none => rw [readM_c hsp n m] at h; cases h
  | some G' =>
  cases s : scan P' G' ls [] 2 with
  | inl k => rw [readM_d hsp n m s] at h; cases h
  | inr es' =>
  rw [readM_e hsp n m s] at h
  have h' := Sum.inr.inj h
  have e1 : P' = P := congrArg Prod.fst h'
  have e2 : G' = G := congrArg (fun z => z.2.1) h'
  have e3 : es' = es := congrArg (fun z => z.2.2) h'
  subst e1 e2 e3
  have nP := namesM_iff.mp n
  have nG := namesM_iff.mp m
  obtain ⟨ok, gs, g1, g2⟩ := scan_ok (show EsOk P' G' [] from ⟨Nat.zero_le _, .nil, .nil, fun e he => (nomatch he)⟩) s
  have g1' : es' = gs := g1
  subst g1'
  refine ⟨⟨rise_nd nP.ri, fun z => ?_, by have := nP.n2; omega, nP.nm, fun z => ?_, by have := nG.n2; omega, nG.nm, rise_nd nG.ri, rfl, ok.nms, rise_so nP.ri, rise_so nG.ri, ok.so, fun e he => own_from (ok.ents e he).1 (ok.ents e he).2⟩, ok.l30, ?_⟩
  · have := nP.n1
    rw [z] at this
    cases this
  · have := nG.n1
    rw [z] at this
    cases this
  · rw [join_of hsp, join_of nP.sp, join_of nG.sp, g2]
    rfl
/-- a good house's text is read as that house -/
theorem readM_house {P G : List Str} {es : List Ent} {m : Nat} (gd : Good P G es m) (m30 : m ≤ 30) : readM (houseT P G es) = .inr (P, G, es) := by
  have cl1 : ∀ y ∈ ("places" : Str) :: P, Cln y := fun y hy => by
    rcases List.mem_cons.mp hy with rfl | hy
    · exact (words2_ok _ (by simp [words2])).2
    · exact cln_name (gd.nm y hy)
  have cl2 : ∀ y ∈ ("goods" : Str) :: G, Cln y := fun y hy => by
    rcases List.mem_cons.mp hy with rfl | hy
    · exact (words2_ok _ (by simp [words2])).2
    · exact cln_name (gd.gn y hy)
  have sp : Txt.split (houseT P G es) "\n" = linesT P G es := split_lines (by unfold linesT; simp) fun y hy => by
    rcases List.mem_cons.mp hy with rfl | hy
    · exact line_cln cl1
    rcases List.mem_cons.mp hy with rfl | hy
    · exact line_cln cl2
    obtain ⟨e, he, rfl⟩ := List.mem_map.mp hy
    refine line_cln fun z hz => ?_
    obtain ⟨v, hv, rfl⟩ := List.mem_map.mp hz
    exact (part_cln (gd.parts e he v hv)).1
  have pp : 1 ≤ P.length := by
    cases e : P with
    | nil => exact absurd e gd.ne
    | cons a r => simp
  have pg : 1 ≤ G.length := by
    cases e : G with
    | nil => exact absurd e gd.ge
    | cons a r => simp
  have l6 := gd.le
  have l3 := gd.gl
  have lm := gd.many
  have nP : namesM (Txt.join " " ("places" :: P)) "places" 6 = some P := namesM_iff.mpr ⟨split_blank (by simp) cl1, pp, by omega, gd.nm, rise_sorted gd.ps gd.nd⟩
  have nG : namesM (Txt.join " " ("goods" :: G)) "goods" 3 = some G := namesM_iff.mpr ⟨split_blank (by simp) cl2, pg, by omega, gd.gn, rise_sorted gd.gs gd.gd⟩
  refine readM_e (ls := es.map entT) sp nP nG ?_
  refine scan_of (es := []) fun i e hi => ⟨gd.fine e (List.mem_of_getElem? hi), ?_⟩
  have li := (List.getElem?_eq_some_iff.mp hi).1
  unfold okE behB
  rw [gd.own e (List.mem_of_getElem? hi), List.nil_append, decide_eq_true (show (es.take i).length < 30 by rw [List.length_take]; omega)]
  have nn : ((es.take i).any fun g => decide (g.name = e.name)) = false := by
    rw [List.any_eq_false]
    exact fun g hg z => gd.new hi (List.mem_map.mpr ⟨g, hg, of_decide_eq_true z⟩)
  rw [nn]
  show (match (es.take i).getLast? with | none => true | some g => PySem.W.dataLt (ordD g) (ordD e)) = true
  cases z : (es.take i).getLast? with
  | none => rfl
  | some g => exact gd.behind hi g (List.mem_of_getLast? z)
/-! ### the law's own reading of names -/
def spLNamesIn : Sp := fun vs H Q _ => ∃ (x wd : Str) (most : Int), vs = [.str x, .str wd, .int most] ∧ x.length ≤ 16000 ∧ PyData.strOk x = true ∧
  (∀ ns, namesM x wd most = some ns → ∀ (l : Addr) (H' : Hp), Same H H' → H' l = some (.lst (ns.map V.str)) → Q (.ref l) H') ∧ (namesM x wd most = none → ∀ (l : Addr) (H' : Hp), Same H H' → H' l = some (.lst []) → Q (.ref l) H')
section
variable {P : Program} {w : World} {K : PySem.W.Frag} {mg : Str → Option Value} {base : Heap}
abbrev sLNamesInN : List Str := ["_law_line_here", "_law_word", "_law_most", "_law_words_here", "_law_names_here", "_law_name", "_law_k"]
theorem sc_sLNamesIn : FnScope sLNamesInN ["_law_line_here", "_law_word", "_law_most"] (defScope sLNamesIn) := ⟨rfl, rfl, rfl, by decide +kernel, rfl, by decide +kernel, by decide +kernel⟩
set_option maxHeartbeats 1000000 in
theorem ok_lnamesIn {f fI : Addr} {fd dI : FuncData} (F : Fun K "_law_names_in" "_law_names_in" sLNamesIn f fd) (LI : DefT P w K mg base "_law_is_name" 1 fI dI ["_law_thing"] spOwn3) (ml : mg "len" = none) (mr : mg "range" = none) : FnOk P w K mg base CX0 2 f fd ["_law_line_here", "_law_word", "_law_most"] spLNamesIn := by
  refine F.ok sc_sLNamesIn (fun vs H Q E h => ?_) (fun cdv A outer s H vs Q E hr h => ?_)
  · obtain ⟨x, wd, most, rfl, _⟩ := h
    rfl
  · obtain ⟨x, wd, most, rfl, lx, so, qy, qn⟩ := h
    have nd := sc_sLNamesIn.nd
    refine ⟨_, pss_cons (ps_set (i := 3) nd rfl (Or.inl rfl) (pe_split (pv 0) pe_str))
      (pss_cons (ps_set (i := 4) nd rfl (Or.inl rfl) (pe_slice sl_list (pv 3) (po_some pe_int) po_none))
      (pss_cons (ps_if (PW.pt (pw_or (pt_cmpR op_ne (pe_ix ix_list (pv 3) pe_int (fun _ _ => rfl)) (pv 1) (nomark _)) (pw_or (pt_cmpR op_gt (pe_callB call_len_seq (by rfl) ml PySem.boot_len (pa_cons (pv 4) pa_nil)) (pv 2) (nomark _)) (pw_or1 (pt_cmpR (op_neNil (un0 hr.units)) (pe_lc (own := [("_law_name", 5)]) (g := gName 5) (tt := tNot (tB (tCall spOwn3 [] E0 (tCons (tVar 5) tNil)))) (te := tVar 5) rfl nd (pi_list (pv 4)) (blkOk_by (N := sLNamesInN) (sc := defScope sLNamesIn) (by decide +kernel)) (fun _ _ _ _ _ => (pg_name (i := 5) nd rfl (Or.inl rfl))) (fun _ _ _ _ _ => (pts_one (pt_not (pt_val (pe_call LI.ok hr (by rfl) LI.g LI.kp LI.b .nil pass0 (pa_cons (pv 5) pa_nil)))))) (fun _ _ _ _ _ => (pv 5))) (pe_lst pa_nil) (nomark _)))))) (pss_one (ps_ret (pe_lst pa_nil))) pss_nil)
      (pss_cons (ps_for PassesOwn.never rfl (pi_range1 rfl mr (pa_cons (pe_op op_sub (pe_callB call_len_seq (by rfl) ml PySem.boot_len (pa_cons (pv 4) pa_nil)) pe_int) pa_nil)) (pg_name (i := 6) nd rfl (Or.inl rfl))
        (pss_one (ps_if (pt_not (pt_cmpR (op_ltD hr.units) (pe_ix ix_list (pv 4) (pv 6) (fun _ _ => rfl)) (pe_ix ix_list (pv 4) (pe_op op_add (pv 6) pe_int) (fun _ _ => rfl)) (nomark _))) (pss_one (ps_ret (pe_lst pa_nil))) pss_nil)))
      (pss_one (ps_ret (pv 4)))))), ?_⟩
    refine ⟨_, rfl, ⟨_, rfl⟩, _, _, rfl, rfl, (by decide +kernel), (by rw [sizeLine_eq]; omega), fun wl nwl => ?_⟩
    obtain ⟨w0, ns, hsp⟩ := split_cons x (sep := " ") (by decide +kernel)
    have wlen := words_len (x := x)
    have lw : ∀ y ∈ Txt.split x " ", y.length ≤ 16000 ∧ PyData.strOk y = true := fun y hy => ⟨Nat.le_trans (split_len hy) lx, strOk_sub so (split_sub hy)⟩
    have yes : decide (w0 = wd) = true → 1 ≤ ns.length → decide ((ns.length : Int) ≤ most) = true → ns.all nameB = true → riseB ns = true → namesM x wd most = some ns := fun a b c d e => by
      unfold namesM
      rw [hsp, if_pos]
      · rfl
      · show (decide (w0 = wd) && decide (1 ≤ ns.length) && decide ((ns.length : Int) ≤ most) && ns.all nameB && riseB ns) = true
        rw [a, decide_eq_true b, c, d, e]
        rfl
    have no : (decide (w0 = wd) && decide (1 ≤ ns.length) && decide ((ns.length : Int) ≤ most) && ns.all nameB && riseB ns) = false → namesM x wd most = none := fun a => by
      unfold namesM
      rw [hsp, if_neg]
      show ¬ (decide (w0 = wd) && decide (1 ≤ ns.length) && decide ((ns.length : Int) ≤ most) && ns.all nameB && riseB ns) = true
      rw [a]
      exact fun z => nomatch z
    rw [hsp] at wlen lw ⊢
    rw [List.length_cons] at wlen
    have s1 := @same_new _ _ (.lst ((w0 :: ns).map V.str)) nwl
    have h1 : (upd H wl (.lst ((w0 :: ns).map V.str))) wl = some (.lst ((w0 :: ns).map V.str)) := upd_same
    generalize upd H wl (.lst ((w0 :: ns).map V.str)) = H1 at s1 h1
    refine ⟨_, rfl, 1, rfl, wl, _, rfl, SqL.of h1, fun D nD => ?_⟩
    have hD : (upd H1 D (.lst (cutV ((w0 :: ns).map V.str) (some 1) none))) D = some (.lst (ns.map V.str)) := by
      rw [upd_same]
      exact congrArg (fun z => some (HO.lst z)) (cut_tail (xs := (w0 :: ns).map V.str) (k := 1))
    have s2 := s1.trans (@same_new _ _ (.lst (cutV ((w0 :: ns).map V.str) (some 1) none)) nD)
    have h2 := (@same_new _ _ (.lst (cutV ((w0 :: ns).map V.str) (some 1) none)) nD) _ _ h1
    generalize upd H1 D (.lst (cutV ((w0 :: ns).map V.str) (some 1) none)) = H2 at hD s2 h2
    have none_ : namesM x wd most = none → ∀ (Hz : Hp), Same H Hz → (0 ≤ sizeLine) ∧ ∀ l, Hz l = none → Q (.ref l) (upd Hz l (.lst [])) := fun z Hz sz => ⟨by decide, fun l nl => qn z l _ (sz.trans (same_new nl)) upd_same⟩
    have ll : (ns.map V.str).length = ns.length := List.length_map ..
    refine ⟨_, rfl, wl, _, 0, _, rfl, rfl, SqL.of h2, atI_nat (j := 0) rfl, _, rfl, rfl, ?_⟩
    by_cases ew : w0 = wd
    rotate_left
    · refine ⟨true, congrArg V.bl (by rw [decide_eq_false fun z => ew (V.str.inj z)]; rfl), iteT (none_ (no ?_) H2 s2)⟩
      rw [decide_eq_false ew]
      rfl
    refine ⟨false, congrArg V.bl (by rw [decide_eq_true (congrArg V.str ew)]; rfl), iteF ?_⟩
    refine ⟨_, rfl, D, _, rfl, .inl (SqL.of hD), _, rfl, _, most, rfl, rfl, _, rfl, ?_⟩
    by_cases l2 : (ns.length : Int) ≤ most
    rotate_left
    · rw [decide_eq_true (show ((ns.map V.str).length : Int) > most by rw [ll]; omega)]
      refine iteT (none_ (no ?_) H2 s2)
      rw [decide_eq_false l2, Bool.and_false]
      rfl
    rw [decide_eq_false (show ¬ ((ns.map V.str).length : Int) > most by rw [ll]; omega)]
    refine iteF ⟨_, rfl, D, rfl, ⟨_, SqL.of hD⟩, fun D3 nD3 => ?_⟩
    have s3 := @same_new _ _ (.lst []) nD3
    refine lc_list (K := K) (a := D) (xs := ns.map V.str) (fun i H' => Same H2 H' ∧ H' D3 = some (.lst (((ns.take i).filter fun y => !nameB y).map V.str))) ⟨s3, upd_same⟩ (fun i H' _ z => SqL.of (z.1 _ _ hD)) ?_ ?_
    · rintro i v H4 hv ⟨s4, hD4⟩
      rw [List.getElem?_map] at hv
      obtain ⟨y, hy, rfl⟩ := Option.map_eq_some_iff.mp hv
      obtain ⟨ly, sy⟩ := lw y (List.mem_cons_of_mem _ (List.mem_of_getElem? hy))
      have li := (List.getElem?_eq_some_iff.mp hy).1
      refine ⟨rfl, _, rfl, .str y, rfl, .str y (by omega), fun z hz => V.str.inj hz ▸ sy, fun H5 s5 => ?_⟩
      have sn : (ns.take (i + 1)).filter (fun y => !nameB y) = (ns.take i).filter (fun y => !nameB y) ++ (if (!nameB y) = true then [y] else []) := by
        rw [take_sn hy, List.filter_append, List.filter_cons]
        rfl
      cases ny : nameB y with
      | true =>
        rw [ny] at sn
        refine ⟨true, by rw [show nmV (.str y) = true from ny], iteF ⟨s4.trans s5, ?_⟩⟩
        rw [sn]
        show H5 D3 = some (.lst (((ns.take i).filter (fun y => !nameB y) ++ []).map V.str))
        rw [List.append_nil]
        exact s5 _ _ hD4
      | false =>
        rw [ny] at sn
        have lf : ((ns.take i).filter fun y => !nameB y).length ≤ i := Nat.le_trans (List.length_filter_le _ _) (by rw [List.length_take]; omega)
        refine ⟨false, by rw [show nmV (.str y) = false from ny], iteT ⟨_, rfl, _, s5 _ _ hD4, (by rw [List.length_map, sizeLine_eq]; omega), fun b o e => (upd_ne (ne_of_none e nD3)).trans (s5 _ _ (s4 _ _ e)), ?_⟩⟩
        rw [upd_same, sn]
        show _ = some (HO.lst (((ns.take i).filter (fun y => !nameB y) ++ [y]).map V.str))
        rw [List.map_append]
        rfl
    rintro H4 ⟨s4, hD4⟩
    rw [ll, List.take_length] at hD4
    refine ⟨(by show 0 ≤ sizeLine; decide), fun D5 nD5 => ?_⟩
    have s5 := @same_new _ _ (.lst []) nD5
    have h5 := @upd_same H4 D5 (.lst [])
    have s25 := s2.trans (s4.trans s5)
    have hD5 := s5 _ _ (s4 _ _ hD)
    refine ⟨D3, D5, _, rfl, rfl, SqL.of (s5 _ _ hD4), SqL.of h5, ?_⟩
    generalize upd H4 D5 (.lst []) = H5 at s5 h5 s25 hD5
    by_cases al : ns.all nameB = true
    rotate_left
    · have ne : ((ns.filter fun y => !nameB y).map V.str).isEmpty = false := by
        obtain ⟨y, hy, ny⟩ := List.all_eq_false.mp (Bool.eq_false_iff.mpr al)
        have : y ∈ ns.filter fun y => !nameB y := List.mem_filter.mpr ⟨hy, by simpa using ny⟩
        cases z : ns.filter fun y => !nameB y with
        | nil => rw [z] at this; exact nomatch this
        | cons a r => rfl
      refine ⟨true, by rw [ne]; rfl, iteT (none_ (no ?_) H5 s25)⟩
      rw [Bool.eq_false_iff.mpr al, Bool.and_false]
      rfl
    have em : ((ns.filter fun y => !nameB y).map V.str).isEmpty = true := by
      rw [List.filter_eq_nil_iff.mpr fun y hy z => by rw [List.all_eq_true.mp al y hy] at z; cases z]
      rfl
    refine ⟨false, by rw [em]; rfl, iteF ?_⟩
    refine ⟨_, rfl, D, _, rfl, .inl (SqL.of hD5), _, 1, rfl, rfl, _, rfl, ?_⟩
    refine ⟨by rw [ll]; exact Int.le_trans (by decide) (show (-1 : Int) ≤ _ by omega), by rw [ll]; exact Int.lt_of_lt_of_le (show _ < (20000 : Int) by omega) (by decide), ?_⟩
    have zl : (ns.zip (ns.drop 1)).length = min ns.length (ns.drop 1).length := List.length_zip
    have dl : (ns.drop 1).length = ns.length - 1 := List.length_drop
    refine for_range (lo := 0) (n := (((ns.map V.str).length : Int) - 1).toNat) (fun k σ H' => ∃ y5 y6, σ = [some (.str x), some (.str wd), some (.int most), some (.ref wl), some (.ref D), y5, y6] ∧ Same H5 H' ∧ ((ns.zip (ns.drop 1)).take k).all (fun p => strLt p.1 p.2) = true)
      ⟨_, _, rfl, fun _ _ e => e, rfl⟩ ?_ ?_
    · rintro k σ H6 hk ⟨y5, y6, rfl, s6, al6⟩
      rw [ll] at hk
      have lk : k + 1 < ns.length := by omega
      have ha : ns[k]? = some ns[k] := List.getElem?_eq_getElem (by omega)
      have hb : ns[k + 1]? = some ns[k + 1] := List.getElem?_eq_getElem lk
      generalize ns[k] = a at ha
      generalize ns[k + 1] = b at hb
      have hz : (ns.zip (ns.drop 1))[k]? = some (a, b) := List.getElem?_zip_eq_some.mpr ⟨ha, by rw [List.getElem?_drop, Nat.add_comm]; exact hb⟩
      have at1 : atI (ns.map V.str) (0 + (k : Int)) = some (.str a) := by
        rw [Int.zero_add]
        exact atI_nat (by rw [List.getElem?_map, ha]; rfl)
      have at2 : atI (ns.map V.str) (0 + (k : Int) + 1) = some (.str b) := by
        rw [Int.zero_add, show (k : Int) + 1 = ((k + 1 : Nat) : Int) from rfl]
        exact atI_nat (by rw [List.getElem?_map, hb]; rfl)
      have hD6 := s6 _ _ hD5
      refine ⟨_, rfl, _, rfl, D, _, _, _, rfl, rfl, SqL.of hD6, at1, _, rfl, _, rfl, _, 1, rfl, rfl, D, _, _, _, rfl, rfl, SqL.of hD6, at2, .str a, .str b, .str _, .str _, rfl, (fun z => nomatch z), by show min 0 0 ≤ 60; decide, ?_⟩
      refine ⟨strLt a b, rfl, ?_⟩
      cases e : strLt a b with
      | true => exact iteF ⟨_, _, rfl, s6, by rw [take_sn hz, List.all_append, al6]; simp [e]⟩
      | false =>
        have fl : riseB ns = false := by
          unfold riseB
          rw [List.all_eq_false]
          exact ⟨(a, b), List.mem_of_getElem? hz, by rw [e]; decide⟩
        refine iteT (none_ (no ?_) H6 (s25.trans s6))
        rw [fl, Bool.and_false]
    · rintro σ H6 ⟨y5, y6, rfl, s6, al6⟩
      have ri : riseB ns = true := by
        unfold riseB
        rw [List.take_of_length_le (by rw [zl, dl, ll]; omega)] at al6
        exact al6
      have hD6 := s6 _ _ hD5
      refine ⟨_, rfl, ?_⟩
      by_cases n1 : 1 ≤ ns.length
      · exact qy ns (yes (decide_eq_true ew) n1 (decide_eq_true l2) al ri) D H6 (s25.trans s6) hD6
      · have e0 : ns = [] := List.length_eq_zero_iff.mp (by omega)
        refine qn (no ?_) D H6 (s25.trans s6) (by rw [e0] at hD6; exact hD6)
        rw [decide_eq_false n1, Bool.and_false]
        rfl
end
/-! ### the law's own word whether an entry goes behind others -/
def spLFits : Sp := fun vs H Q _ => ∃ (a l lp lg : Addr) (e : Ent) (us : List Addr) (es : List Ent) (P G : List Str), vs = [.ref a, .ref l, .ref lp, .ref lg] ∧ H a = some (.tup e.vals) ∧ e.Fine ∧ H l = some (.lst (us.map V.ref)) ∧ EntsAt H us es ∧ es.length ≤ 1000 ∧ H lp = some (.lst (P.map V.str)) ∧ H lg = some (.lst (G.map V.str)) ∧ ∀ H', Same H H' → Q (.bl (okE P G es e)) H'
def fstr (vs : List V) : List Str := vs.filterMap fun v => match v with | .str y => if y = "" then none else some y | _ => none
theorem fstr_snoc (vs : List V) (v : V) : fstr (vs ++ [v]) = fstr vs ++ fstr [v] := List.filterMap_append
theorem fstr_str {y : Str} (h : y ≠ "") : fstr [.str y] = [y] := by simp [fstr, h]
theorem fstr_emp : fstr [.str ""] = [] := rfl
theorem fstr_int (i : Int) : fstr [.int i] = [] := rfl
theorem fstr_len (vs : List V) : (fstr vs).length ≤ vs.length := List.length_filterMap_le _ _
theorem fine_name {e : Ent} (f : e.Fine) {i : Nat} {y : Str} (h1 : e.parts[i]? = some (.str y)) (h2 : e.sorts[i]? = some "name") : y ≠ "" := by
  have z := (f.fit i _ _ h1 h2).2
  rw [fit_n] at z
  exact name_ne z
theorem fstr_two {a b : V} : fstr [a, b] = fstr [a] ++ fstr [b] := fstr_snoc [a] b
theorem fstr_places {e : Ent} (f : e.Fine) (ns : e.word ≠ "swap") : fstr (cutV e.vals (some 4) (some 6)) = e.places := by
  cases e with
  | come n m g p k r =>
    show fstr [.str p, .int k] = [p]
    rw [fstr_two, fstr_str (fine_name f (i := 3) rfl rfl), fstr_int]
    rfl
  | go n m g p k =>
    show fstr [.str p, .int k] = [p]
    rw [fstr_two, fstr_str (fine_name f (i := 3) rfl rfl), fstr_int]
    rfl
  | move n m g o t k =>
    show fstr [.str o, .str t] = [o, t]
    rw [fstr_two, fstr_str (fine_name f (i := 3) rfl rfl), fstr_str (fine_name f (i := 4) rfl rfl)]
    rfl
  | some_ n m g o t =>
    show fstr [.str o, .str t] = if t = "" then [o] else [o, t]
    rw [fstr_two, fstr_str (fine_name f (i := 3) rfl rfl)]
    by_cases z : t = ""
    · rw [z, fstr_emp, if_pos rfl]
      rfl
    · rw [fstr_str z, if_neg z]
      rfl
  | swap n m o t => exact absurd rfl ns
  | count n m g p k hd =>
    show fstr [.str p, .int k] = [p]
    rw [fstr_two, fstr_str (fine_name f (i := 3) rfl rfl), fstr_int]
    rfl
  | look n m g p =>
    show fstr [.str p] = [p]
    rw [fstr_str (fine_name f (i := 3) rfl rfl)]
section
variable {P : Program} {w : World} {K : PySem.W.Frag} {mg : Str → Option Value} {base : Heap}
abbrev sLFitsN : List Str := ["_law_entry_here", "_law_ahead", "_law_places", "_law_goods", "_law_some", "_law_part", "_law_place", "_law_other"]
theorem sc_sLFits : FnScope sLFitsN ["_law_entry_here", "_law_ahead", "_law_places", "_law_goods"] (defScope sLFits) := ⟨rfl, rfl, rfl, by decide +kernel, rfl, by decide +kernel, by decide +kernel⟩
set_option maxHeartbeats 2000000 in
theorem ok_lfits {f fO : Addr} {fd dO : FuncData} (F : Fun K "_law_fits" "_law_fits" sLFits f fd) (OD : DefT P w K mg base "_law_order" 1 fO dO ["_law_entry_here"] spOrd) (mis : mg "isinstance" = none) (mT_str : mg "str" = none) (ml : mg "len" = none) (mli : mg "list" = none) : FnOk P w K mg base CX0 2 f fd ["_law_entry_here", "_law_ahead", "_law_places", "_law_goods"] spLFits := by
  refine F.ok sc_sLFits (fun vs H Q E h => ?_) (fun cdv A outer s H vs Q E hr h => ?_)
  · obtain ⟨a, l, lp, lg, e, us, es, Ps, G, rfl, _⟩ := h
    rfl
  · obtain ⟨a, l, lp, lg, e, us, es, Ps, G, rfl, ha, fe, hl, en, le, hp, hg, q⟩ := h
    have nd := sc_sLFits.nd
    refine ⟨_, pss_cons (ps_setLc (i := 4) (own := [("_law_part", 5)]) (g := gName 5) (tt := tAnd (tB (tCB (rIsi K) (tCons (tVar 5) (tCons (tC (V.ty "str")) tNil)))) (tTest (tOp rNe (tVar 5) (tC (V.str ""))))) (te := tVar 5) rfl nd rfl rfl (sw_true rfl rfl rfl (by decide +kernel)) (pi_tup (pe_slice sl_S (pv 0) (po_some pe_int) (po_some pe_int))) (blkOk_by (N := sLFitsN) (sc := defScope sLFits) (by decide +kernel)) (fun _ _ _ _ _ => (pg_name (i := 5) nd rfl (Or.inl rfl))) (fun _ _ _ _ _ => (pts_one (PW.pt (pw_and (pt_val (pe_callB call_isi (by rfl) mis (by decide +kernel) (pa_cons (pv 5) (pa_cons (pe_bltn (v := .ty "str") (u := .type "str") (by rfl) mT_str (by decide +kernel) rfl) pa_nil)))) (pw_and1 (pt_cmpR op_ne (pv 5) pe_str (nomark _))))))) (fun _ _ _ _ _ => (pv 5)))
      (C8.pss_cut (ps_if (pt_cmpR op_eq (pe_ix ix_tup (pv 0) pe_int (fun _ _ => rfl)) pe_str (nomark _)) (pss_one (ps_set (i := 4) nd rfl (Or.inl rfl) (pe_callTy call_list_of (by rfl) mli (by decide +kernel) (pa_cons (pe_slice sl_S (pv 0) (po_some pe_int) (po_some pe_int)) pa_nil)))) (pss_one (ps_if (pt_cmpR op_notIn_seq (pe_ix ix_tup (pv 0) pe_int (fun _ _ => rfl)) (pv 3) (by rfl)) (pss_one (ps_ret pe_bl)) pss_nil)))
      (pss_cons (ps_if (PW.pt (pw_or (pt_cmpR (op_neNil (un0 hr.units)) (pe_lc (own := [("_law_place", 6)]) (g := gName 6) (tt := tTest (tOp (rIn K true) (tVar 6) (tVar 2))) (te := tVar 6) rfl nd (pi_list (pv 4)) (blkOk_by (N := sLFitsN) (sc := defScope sLFits) (by decide +kernel)) (fun _ _ _ _ _ => (pg_name (i := 6) nd rfl (Or.inl rfl))) (fun _ _ _ _ _ => (pts_one (pt_cmpR op_notIn_seq (pv 6) (pv 2) (by rfl)))) (fun _ _ _ _ _ => (pv 6))) (pe_lst pa_nil) (nomark _)) (pw_or1 (pt_cmpR op_ge (pe_callB call_len_seq (by rfl) ml PySem.boot_len (pa_cons (pv 1) pa_nil)) pe_int (nomark _))))) (pss_one (ps_ret pe_bl)) pss_nil)
      (pss_cons (ps_if (pt_cmpR op_in_seq (pe_ix ix_tup (pv 0) pe_int (fun _ _ => rfl)) (pe_lc (own := [("_law_other", 7)]) (g := gName 7) (tt := tYes) (te := tOp (rIxT K) (tVar 7) (tC (V.int 1))) rfl nd (pi_list (pv 1)) (blkOk_by (N := sLFitsN) (sc := defScope sLFits) (by decide +kernel)) (fun _ _ _ _ _ => (pg_name (i := 7) nd rfl (Or.inl rfl))) (fun _ _ _ _ _ => pts_nil) (fun _ _ _ _ _ => (pe_ix ix_tup (pv 7) pe_int (fun _ _ => rfl)))) (by rfl)) (pss_one (ps_ret pe_bl)) pss_nil)
      (pss_one (ps_ret (pe_or (pe_cmpR (op_eqNil (un0 hr.units)) (pv 1) (pe_lst pa_nil) (nomark _)) (pe_one (pe_cmpR (op_ltD hr.units) (pe_call OD.ok hr (by rfl) OD.g OD.kp OD.b .nil pass0 (pa_cons (pe_ix ix_list (pv 1) (pe_un un_neg pe_int) (fun _ _ => rfl)) pa_nil)) (pe_call OD.ok hr (by rfl) OD.g OD.kp OD.b .nil pass0 (pa_cons (pv 0) pa_nil)) (nomark _))))))))), ?_⟩
    have no : okE Ps G es e = false → ∀ H', Same H H' → Q (.bl false) H' := fun z H' s => by
      have y := q H' s
      rw [z] at y
      exact y
    refine ⟨_, rfl, 4, rfl, 6, rfl, a, _, rfl, ha, fun b H1 s1 hb => ⟨b, rfl, ⟨_, SqT.of hb⟩, fun D nD => ?_⟩⟩
    have cl : (cutV e.vals (some 4) (some 6)).length ≤ 2 := by cases e <;> first | exact Nat.le_refl 2 | exact Nat.le_succ 1
    have cp : ∀ v ∈ cutV e.vals (some 4) (some 6), (∃ y : Str, v = .str y) ∨ ∃ i : Int, v = .int i := fun v hv => by
      rcases fine_parts fe v (mem_cut v hv) with ⟨y, h, _⟩ | ⟨i, h, _⟩
      · exact .inl ⟨y, h⟩
      · exact .inr ⟨i, h⟩
    have fp := fstr_places fe
    generalize cutV e.vals (some 4) (some 6) = xs at hb cl cp fp
    have sD := @same_new _ _ (.lst []) nD
    refine lc_tup (K := K) (a := b) (xs := xs) (fun j H' => Same H1 H' ∧ H' D = some (.lst ((fstr (xs.take j)).map V.str))) ⟨sD, upd_same⟩ (fun j H' _ z => SqT.of (z.1 _ _ hb)) ?_ ?_
    · rintro j v H2 hv ⟨s2, hD⟩
      have sn : fstr (xs.take (j + 1)) = fstr (xs.take j) ++ fstr [v] := by rw [take_sn hv, fstr_snoc]
      rcases cp v (List.mem_of_getElem? hv) with ⟨y, rfl⟩ | ⟨i, rfl⟩
      · refine ⟨rfl, _, rfl, _, _, _, _, true, rfl, .ty "str", .base (.str _), kit_ty (by decide +kernel), true, rfl, iteT ⟨_, rfl, rfl, ?_⟩⟩
        by_cases z : y = ""
        · subst z
          rw [fstr_emp, List.append_nil] at sn
          refine ⟨false, by rw [decide_eq_true rfl]; rfl, iteF ⟨s2, by rw [sn]; exact hD⟩⟩
        · rw [fstr_str z] at sn
          have fl := fstr_len (xs.take j)
          rw [List.length_take] at fl
          refine ⟨true, by rw [decide_eq_false fun q => z (V.str.inj q)]; rfl, iteT ⟨_, rfl, _, hD, (by rw [List.length_map]; exact small1000 (by omega)), fun b o e => (upd_ne (ne_of_none e nD)).trans (s2 _ _ e), ?_⟩⟩
          rw [upd_same, sn, List.map_append]
          rfl
      · rw [fstr_int, List.append_nil] at sn
        refine ⟨rfl, _, rfl, _, _, _, _, false, rfl, .ty "str", .base (.int _), kit_ty (by decide +kernel), false, rfl, iteF (iteF ⟨s2, by rw [sn]; exact hD⟩)⟩
    rintro H2 ⟨s2, hD⟩
    rw [List.take_length] at hD
    have s12 := s1.trans s2
    refine ⟨fun σ' H' => ∃ D', σ' = [some (.ref a), some (.ref l), some (.ref lp), some (.ref lg), some (.ref D'), none, none, none] ∧ Same H H' ∧ H' D' = some (.lst (e.places.map V.str)) ∧ goodOk e G = true, ?_, ?_⟩
    · refine ⟨_, rfl, a, _, 0, _, rfl, rfl, SqT.of (s12 _ _ ha), at0 e, rfl, _, rfl, ?_⟩
      by_cases sw : e.word = "swap"
      · rw [decide_eq_true (congrArg V.str sw)]
        obtain ⟨n, m, o, t, rfl⟩ : ∃ n m o t, e = .swap n m o t := by
          have gv := (sw_word e).mp sw
          cases e with
          | swap n m o t => exact ⟨n, m, o, t, rfl⟩
          | _ => exact nomatch gv
        refine iteT ⟨_, rfl, 3, rfl, 5, rfl, a, _, rfl, s12 _ _ ha, fun b2 H3 s3 hb2 => ⟨b2, _, rfl, .inr (SqT.of hb2), fun D' nD' => ⟨D', rfl, s12.trans (s3.trans (same_new nD')), ?_, rfl⟩⟩⟩
        rw [upd_same]
        rfl
      · rw [decide_eq_false fun z => sw (V.str.inj z)]
        obtain ⟨g, hgv⟩ : ∃ g, e.goodV = .str g := by
          cases e with
          | swap n m o t => exact absurd rfl sw
          | _ => exact ⟨_, rfl⟩
        have gn : e.goodV ≠ .non := fun z => by rw [hgv] at z; cases z
        refine iteF ⟨_, rfl, a, _, 3, _, rfl, rfl, SqT.of (s12 _ _ ha), at3 gn, _, rfl, lg, _, rfl, .inl (SqL.of (s12 _ _ hg)), by rw [hgv]; rfl, all_flat G, ?_⟩
        rw [if_pos rfl, hgv, inV_iff]
        by_cases gG : g ∈ G
        · refine ⟨false, by rw [decide_eq_true gG]; rfl, iteF ⟨D, rfl, s12, ?_, ?_⟩⟩
          · rw [← fp sw]
            exact hD
          · unfold goodOk
            rw [hgv]
            exact decide_eq_true gG
        · refine ⟨true, by rw [decide_eq_false gG]; rfl, iteT (no ?_ H2 s12)⟩
          unfold okE ofB goodOk
          rw [hgv]
          show ((decide (g ∈ G) && _) && _) = false
          rw [decide_eq_false gG]
          rfl
    rintro σ H3 ⟨D', rfl, s3, hD', gk⟩
    have lpl : e.places.length ≤ 2 := by
      cases e with
      | some_ n m g o t =>
        show (if t = "" then [o] else [o, t]).length ≤ 2
        split
        · exact Nat.le_succ 1
        · exact Nat.le_refl 2
      | move n m g o t k => exact Nat.le_refl 2
      | swap n m o t => exact Nat.le_refl 2
      | _ => exact Nat.le_succ 1
    have hp3 := s3 _ _ hp
    refine ⟨_, rfl, D', rfl, ⟨_, SqL.of hD'⟩, fun D2 nD2 => ?_⟩
    have s4 := @same_new _ _ (.lst []) nD2
    refine lc_list (K := K) (a := D') (xs := e.places.map V.str) (fun j H' => Same H3 H' ∧ H' D2 = some (.lst (((e.places.take j).filter fun y => !decide (y ∈ Ps)).map V.str))) ⟨s4, upd_same⟩ (fun j H' _ z => SqL.of (z.1 _ _ hD')) ?_ ?_
    · rintro j v H4 hv ⟨s4, hD2⟩
      rw [List.getElem?_map] at hv
      obtain ⟨y, hy, rfl⟩ := Option.map_eq_some_iff.mp hv
      have sn : (e.places.take (j + 1)).filter (fun y => !decide (y ∈ Ps)) = (e.places.take j).filter (fun y => !decide (y ∈ Ps)) ++ (if (!decide (y ∈ Ps)) = true then [y] else []) := by
        rw [take_sn hy, List.filter_append, List.filter_cons]
        rfl
      refine ⟨rfl, _, rfl, _, rfl, lp, _, rfl, .inl (SqL.of (s4 _ _ hp3)), rfl, all_flat Ps, ?_⟩
      rw [if_pos rfl, inV_iff]
      by_cases iy : y ∈ Ps
      · rw [decide_eq_true iy] at sn
        refine ⟨false, by rw [decide_eq_true iy]; rfl, iteF ⟨s4, ?_⟩⟩
        rw [sn]
        show H4 D2 = some (.lst (((e.places.take j).filter (fun y => !decide (y ∈ Ps)) ++ []).map V.str))
        rw [List.append_nil]
        exact hD2
      · rw [decide_eq_false iy] at sn
        have lf : ((e.places.take j).filter fun y => !decide (y ∈ Ps)).length ≤ 2 := Nat.le_trans (List.length_filter_le _ _) (by rw [List.length_take]; omega)
        refine ⟨true, by rw [decide_eq_false iy]; rfl, iteT ⟨_, rfl, _, hD2, (by rw [List.length_map]; exact small1000 (by omega)), fun b o e => (upd_ne (ne_of_none e nD2)).trans (s4 _ _ e), ?_⟩⟩
        rw [upd_same, sn]
        show _ = some (HO.lst (((e.places.take j).filter (fun y => !decide (y ∈ Ps)) ++ [y]).map V.str))
        rw [List.map_append]
        rfl
    rintro H4 ⟨s4, hD2⟩
    rw [List.length_map, List.take_length] at hD2
    refine ⟨(by show 0 ≤ sizeLine; decide), fun D5 nD5 => ?_⟩
    have s5 := @same_new _ _ (.lst []) nD5
    have h5 := @upd_same H4 D5 (.lst [])
    have s05 := s3.trans (s4.trans s5)
    have hD25 := s5 _ _ hD2
    refine ⟨D2, D5, _, rfl, rfl, SqL.of hD25, SqL.of h5, ?_⟩
    generalize upd H4 D5 (.lst []) = H5 at s5 h5 s05 hD25
    by_cases al : (e.places.all fun y => decide (y ∈ Ps)) = true
    rotate_left
    · have ne : ((e.places.filter fun y => !decide (y ∈ Ps)).map V.str).isEmpty = false := by
        obtain ⟨y, hy, ny⟩ := List.all_eq_false.mp (Bool.eq_false_iff.mpr al)
        have : y ∈ e.places.filter fun y => !decide (y ∈ Ps) := List.mem_filter.mpr ⟨hy, by simpa using ny⟩
        cases z : e.places.filter fun y => !decide (y ∈ Ps) with
        | nil => rw [z] at this; exact nomatch this
        | cons a r => rfl
      refine ⟨true, by rw [ne]; rfl, iteT (no ?_ H5 s05)⟩
      unfold okE ofB
      rw [Bool.eq_false_iff.mpr al, Bool.and_false]
      rfl
    have em : ((e.places.filter fun y => !decide (y ∈ Ps)).map V.str).isEmpty = true := by
      rw [List.filter_eq_nil_iff.mpr fun y hy z => by rw [List.all_eq_true.mp al y hy] at z; cases z]
      rfl
    have ob : ofB e Ps G = true := by
      unfold ofB
      rw [gk, al]
      rfl
    have ok_ : okE Ps G es e = behB es e := by
      unfold okE
      rw [ob, Bool.true_and]
    rw [ok_] at q no
    refine ⟨false, by rw [em]; rfl, iteF ?_⟩
    have lu : us.length = es.length := en.len
    have ll : (us.map V.ref).length = es.length := by rw [List.length_map, lu]
    have hl5 := s05 _ _ hl
    have en5 := en.on (TK.of s05)
    refine ⟨_, rfl, l, _, rfl, .inl (SqL.of hl5), _, 30, rfl, rfl, _, rfl, ?_⟩
    by_cases l30 : es.length < 30
    rotate_left
    · rw [decide_eq_true (show ((us.map V.ref).length : Int) ≥ 30 by rw [ll]; omega)]
      exact iteT (no (beh_no30 l30) H5 s05)
    rw [decide_eq_false (show ¬ ((us.map V.ref).length : Int) ≥ 30 by rw [ll]; omega)]
    refine iteF ⟨_, rfl, a, _, 1, _, rfl, rfl, SqT.of (s05 _ _ ha), at1 e, _, rfl, l, rfl, ⟨_, SqL.of hl5⟩, fun D6 nD6 => ?_⟩
    have s6 := @same_new _ _ (.lst []) nD6
    refine lc_list (K := K) (a := l) (xs := us.map V.ref) (fun j H' => Same H5 H' ∧ H' D6 = some (.lst (((es.take j).map Ent.name).map V.str))) ⟨s6, upd_same⟩ (fun j H' _ z => SqL.of (z.1 _ _ hl5)) ?_ ?_
    · rintro j v H6 hv ⟨s6, hD6⟩
      rw [List.getElem?_map] at hv
      obtain ⟨u, hu, rfl⟩ := Option.map_eq_some_iff.mp hv
      obtain ⟨g, hg, htu⟩ := en5.get hu
      refine ⟨rfl, yesT ⟨_, rfl, u, _, 1, _, rfl, rfl, SqT.of (s6 _ _ htu), at1 g, _, hD6, (by rw [List.length_map, List.length_map, List.length_take]; exact small1000 (by omega)), fun b o e => (upd_ne (ne_of_none e nD6)).trans (s6 _ _ e), ?_⟩⟩
      rw [upd_same, take_sn hg, List.map_append, List.map_append]
      rfl
    rintro H6 ⟨s6, hD6⟩
    rw [List.length_map, lu, List.take_length] at hD6
    have s06 := s05.trans s6
    refine ⟨D6, _, rfl, .inl (SqL.of hD6), rfl, all_flat _, ?_⟩
    rw [if_neg (by decide), inV_iff]
    by_cases nin : e.name ∈ es.map Ent.name
    · obtain ⟨g, hg, gn⟩ := List.mem_map.mp nin
      exact ⟨true, by rw [decide_eq_true nin], iteT (no (beh_name hg gn) H6 s06)⟩
    have nn : (es.any fun g => decide (g.name = e.name)) = false := by
      rw [List.any_eq_false]
      exact fun g hg z => nin (List.mem_map.mpr ⟨g, hg, of_decide_eq_true z⟩)
    rw [beh_yes l30 nn] at q
    refine ⟨false, by rw [decide_eq_false nin], iteF ?_⟩
    refine ⟨_, rfl, (by show 0 ≤ sizeLine; decide), fun t0 nt0 => ?_⟩
    have s7 := @same_new _ _ (.lst []) nt0
    have h7 := @upd_same H6 t0 (.lst [])
    have s07 := s06.trans s7
    generalize upd H6 t0 (.lst []) = H7 at s7 h7 s07
    have hl7 := s07 _ _ hl
    have en7 := en.on (TK.of s07)
    refine ⟨l, t0, us.map V.ref, rfl, rfl, SqL.of hl7, SqL.of h7, ?_⟩
    rcases last_cases us with rfl | ⟨us, u, rfl⟩
    · have en0 : es = [] := List.length_eq_zero_iff.mp lu.symm
      rw [en0] at q
      exact ⟨true, rfl, iteT (q _ s07)⟩
    · have lst : (us ++ [u])[us.length]? = some u := by simp
      obtain ⟨g, hg, htu⟩ := en7.get lst
      have lg' : es.getLast? = some g := by
        rw [List.getLast?_eq_getElem?, ← lu, List.length_append, List.length_singleton, Nat.add_sub_cancel]
        exact hg
      rw [lg'] at q
      refine ⟨false, ?_, iteF ?_⟩
      · rw [List.map_append]
        cases us <;> rfl
      have at' : atI ((us ++ [u]).map V.ref) (-1) = some (V.ref u) := by
        rw [List.map_append]
        exact atI_last _ _
      refine ⟨_, rfl, 1, rfl, l, _, _, _, rfl, rfl, SqL.of hl7, at', u, g, rfl, htu, fun t1 H8 s8 h8 => ?_⟩
      refine ⟨_, rfl, a, e, rfl, s8 _ _ (s07 _ _ ha), fun t2 H9 s9 h9 => ?_⟩
      exact ⟨ordD g, ordD e, ord_dp (s9 _ _ h8), ord_dp h9, ord_alike g e, fun z => (by cases z), by show min 1 1 ≤ 60; decide, q _ (s07.trans (s8.trans s9))⟩
end
/-! ### the law's own word on a text -/
noncomputable def badM (x : Str) : Int := match readM x with
  | .inl k => (k : Int)
  | .inr _ => -1
theorem badM_l {x : Str} {k : Nat} (h : readM x = .inl k) : badM x = (k : Int) := by
  unfold badM
  rw [h]
theorem badM_r {x : Str} {r : List Str × List Str × List Ent} (h : readM x = .inr r) : badM x = -1 := by
  unfold badM
  rw [h]
def spBadLine : Sp := fun vs H Q _ => ∃ x : Str, vs = [.str x] ∧ x.length ≤ 16000 ∧ PyData.strOk x = true ∧ ∀ H', Same H H' → Q (.int (badM x)) H'
section
variable {P : Program} {w : World} {K : PySem.W.Frag} {mg : Str → Option Value} {base : Heap}
theorem lines_len {x : Str} : (Txt.split x "\n").length ≤ x.length + 1 := by
  obtain ⟨a, r, h⟩ := split_cons x (sep := "\n") (by decide +kernel)
  have j := StrLaws.join_split x "\n"
  rw [h, ← TL.join_eq] at j
  have l := congrArg Str.length j
  have bl : (("\n" : Str)).length = 1 := by decide +kernel
  rw [join_glue, glue_len, bl] at l
  rw [h, List.length_cons]
  omega
abbrev sBadLineN : List Str := ["_law_text_here", "_law_lines", "_law_places", "_law_goods", "_law_ahead", "_law_number_here", "_law_some"]
theorem sc_sBadLine : FnScope sBadLineN ["_law_text_here"] (defScope sBadLine) := ⟨rfl, rfl, rfl, by decide +kernel, rfl, by decide +kernel, by decide +kernel⟩
set_option maxHeartbeats 2000000 in
theorem ok_badLine {f fN fE fF : Addr} {fd dN dE dF : FuncData} (F : Fun K "_law_bad_line" "_law_bad_line" sBadLine f fd) (LN : DefT P w K mg base "_law_names_in" 2 fN dN ["_law_line_here", "_law_word", "_law_most"] spLNamesIn) (LE : DefT P w K mg base "_law_entry_in" 4 fE dE ["_law_line_here"] spLEntryIn)
    (LF : DefT P w K mg base "_law_fits" 2 fF dF ["_law_entry_here", "_law_ahead", "_law_places", "_law_goods"] spLFits) (ml : mg "len" = none) (mr : mg "range" = none) : FnOk P w K mg base CX0 5 f fd ["_law_text_here"] spBadLine := by
  refine F.ok sc_sBadLine (fun vs H Q E h => ?_) (fun cdv A outer s H vs Q E hr h => ?_)
  · obtain ⟨x, rfl, _⟩ := h
    rfl
  · obtain ⟨x, rfl, lx, so, q⟩ := h
    have nd := sc_sBadLine.nd
    have hr2 : Room 2 _ := hr.mono (by decide)
    refine ⟨_, pss_cons (ps_set (i := 1) nd rfl (Or.inl rfl) (pe_split (pv 0) pe_str))
      (pss_cons (ps_set (i := 2) nd rfl (Or.inl rfl) (pe_call LN.ok hr2 (by rfl) LN.g LN.kp LN.b .nil pass0 (pa_cons (pe_ix ix_list (pv 1) pe_int (fun _ _ => rfl)) (pa_cons pe_str (pa_cons pe_int pa_nil)))))
      (pss_cons (ps_if (pt_cmpR (op_eqNil (un0 hr.units)) (pv 2) (pe_lst pa_nil) (nomark _)) (pss_one (ps_ret pe_int)) pss_nil)
      (pss_cons (ps_if (pt_cmpR op_eq (pe_callB call_len_seq (by rfl) ml PySem.boot_len (pa_cons (pv 1) pa_nil)) pe_int (nomark _)) (pss_one (ps_ret pe_int)) pss_nil)
      (pss_cons (ps_set (i := 3) nd rfl (Or.inl rfl) (pe_call LN.ok hr2 (by rfl) LN.g LN.kp LN.b .nil pass0 (pa_cons (pe_ix ix_list (pv 1) pe_int (fun _ _ => rfl)) (pa_cons pe_str (pa_cons pe_int pa_nil)))))
      (pss_cons (ps_if (pt_cmpR (op_eqNil (un0 hr.units)) (pv 3) (pe_lst pa_nil) (nomark _)) (pss_one (ps_ret pe_int)) pss_nil)
      (pss_cons (ps_set (i := 4) nd rfl (Or.inl rfl) (pe_lst pa_nil))
      (pss_cons (ps_for PassesOwn.never rfl (pi_range2 rfl mr (pa_cons pe_int (pa_cons (pe_callB call_len_seq (by rfl) ml PySem.boot_len (pa_cons (pv 1) pa_nil)) pa_nil))) (pg_name (i := 5) nd rfl (Or.inl rfl))
        (pss_cons (ps_set (i := 6) nd rfl (Or.inl rfl) (pe_call LE.ok hr (by rfl) LE.g LE.kp LE.b .nil pass0 (pa_cons (pe_ix ix_list (pv 1) (pv 5) (fun _ _ => rfl)) pa_nil)))
        (pss_cons (ps_if (PW.pt (pw_or (pt_cmpR (op_eqNil (un0 hr.units)) (pv 6) (pe_lst pa_nil) (nomark _)) (pw_or1 (pt_not (pt_val (pe_call LF.ok hr2 (by rfl) LF.g LF.kp LF.b .nil pass0 (pa_cons (pe_ix ix_list (pv 6) pe_int (fun _ _ => rfl)) (pa_cons (pv 4) (pa_cons (pv 2) (pa_cons (pv 3) pa_nil)))))))))) (pss_one (ps_ret (pv 5))) pss_nil)
        (pss_one (ps_expr (pe_bm PySem.F.plainAttrs_list PySem.F.slot_list_append PySem.F.type_list_append mt_append (pv 4) (pa_cons (pe_ix ix_list (pv 6) pe_int (fun _ _ => rfl)) pa_nil)))))))
      (pss_one (ps_ret (pe_un un_neg pe_int)))))))))), ?_⟩
    refine ⟨_, rfl, ⟨_, rfl⟩, _, _, rfl, rfl, (by decide +kernel), (by rw [sizeLine_eq]; omega), fun wl nwl => ?_⟩
    obtain ⟨l0, ls, hsp⟩ := split_cons x (sep := "\n") (by decide +kernel)
    have lw : ∀ y ∈ l0 :: ls, y.length ≤ 16000 ∧ PyData.strOk y = true := fun y hy => ⟨Nat.le_trans (split_len (hsp ▸ hy)) lx, strOk_sub so (split_sub (hsp ▸ hy))⟩
    rw [hsp]
    have s1 := @same_new _ _ (.lst ((l0 :: ls).map V.str)) nwl
    have h1 : (upd H wl (.lst ((l0 :: ls).map V.str))) wl = some (.lst ((l0 :: ls).map V.str)) := upd_same
    generalize upd H wl (.lst ((l0 :: ls).map V.str)) = H1 at s1 h1
    have nl : ∀ {k : Nat}, readM x = .inl k → ∀ H', Same H H' → Q (.int (k : Int)) H' := fun z H' s => by
      have y := q H' s
      rw [badM_l z] at y
      exact y
    refine ⟨_, rfl, wl, _, 0, _, rfl, rfl, SqL.of h1, atI_nat (j := 0) rfl, l0, "places", 6, rfl, (lw l0 List.mem_cons_self).1, (lw l0 List.mem_cons_self).2, fun Ps hn lp H2 s2 hlp => ?_, fun hn lp H2 s2 hlp => ?_⟩
    rotate_left
    · refine ⟨_, rfl, (by show 0 ≤ sizeLine; decide), fun E0 nE0 => ?_⟩
      have s3 := @same_new _ _ (.lst []) nE0
      exact ⟨lp, E0, _, rfl, rfl, SqL.of (s3 _ _ hlp), SqL.of upd_same, true, rfl, iteT (nl (readM_a hsp hn) _ (s1.trans (s2.trans s3)))⟩
    have nP := namesM_iff.mp hn
    have emp : ∀ {ns : List Str}, 1 ≤ ns.length → (ns.map V.str).isEmpty = false := fun {ns} h => by
      cases ns with
      | nil => cases h
      | cons a r => rfl
    refine ⟨_, rfl, (by show 0 ≤ sizeLine; decide), fun E0 nE0 => ?_⟩
    have s3 := @same_new _ _ (.lst []) nE0
    have e3 := @upd_same H2 E0 (.lst [])
    have h3 := s3 _ _ (s2 _ _ h1)
    have hlp3 := s3 _ _ hlp
    have s03 := s1.trans (s2.trans s3)
    refine ⟨lp, E0, _, rfl, rfl, SqL.of hlp3, SqL.of e3, false, by rw [if_neg (by decide), emp nP.n1], iteF ?_⟩
    generalize upd H2 E0 (.lst []) = H3 at s3 e3 h3 hlp3 s03
    refine ⟨_, rfl, wl, _, rfl, .inl (SqL.of h3), rfl, _, rfl, ?_⟩
    cases ls with
    | nil =>
      rw [decide_eq_true (show V.int ((List.map V.str [l0]).length : Int) = V.int 1 from rfl)]
      exact iteT (nl (readM_b hsp hn) _ s03)
    | cons l1 ls =>
      rw [decide_eq_false (fun z => by
        have z' := V.int.inj z
        rw [List.length_map, List.length_cons, List.length_cons] at z'
        omega)]
      refine iteF ?_
      refine ⟨_, rfl, wl, _, 1, _, rfl, rfl, SqL.of h3, atI_nat (j := 1) rfl, l1, "goods", 3, rfl, (lw l1 (by simp)).1, (lw l1 (by simp)).2, fun Gs hm lg H4 s4 hlg => ?_, fun hm lg H4 s4 hlg => ?_⟩
      rotate_left
      · refine ⟨_, rfl, (by show 0 ≤ sizeLine; decide), fun E1 nE1 => ?_⟩
        have s5 := @same_new _ _ (.lst []) nE1
        exact ⟨lg, E1, _, rfl, rfl, SqL.of (s5 _ _ hlg), SqL.of upd_same, true, rfl, iteT (nl (readM_c hsp hn hm) _ (s03.trans (s4.trans s5)))⟩
      have nG := namesM_iff.mp hm
      refine ⟨_, rfl, (by show 0 ≤ sizeLine; decide), fun E1 nE1 => ?_⟩
      have s5 := @same_new _ _ (.lst []) nE1
      have e5 := @upd_same H4 E1 (.lst [])
      have h5 := s5 _ _ (s4 _ _ h3)
      have hlp5 := s5 _ _ (s4 _ _ hlp3)
      have hlg5 := s5 _ _ hlg
      have s05 := s03.trans (s4.trans s5)
      refine ⟨lg, E1, _, rfl, rfl, SqL.of hlg5, SqL.of e5, false, by rw [if_neg (by decide), emp nG.n1], iteF ?_⟩
      generalize upd H4 E1 (.lst []) = H5 at s5 e5 h5 hlp5 hlg5 s05
      refine ⟨(by show 0 ≤ sizeLine; decide), fun Ad nA => ?_⟩
      have s6 := @same_new _ _ (.lst []) nA
      have hA0 : (upd H5 Ad (.lst [])) Ad = some (.lst (([] : List Addr).map V.ref)) := upd_same
      generalize upd H5 Ad (.lst []) = H6 at s6 hA0
      refine ⟨_, rfl, wl, _, rfl, .inl (SqL.of (s6 _ _ h5)), ?_⟩
      have ll := lines_len (x := x)
      rw [hsp, List.length_cons, List.length_cons] at ll
      have lm : ((List.map V.str (l0 :: l1 :: ls)).length : Int) = (ls.length : Int) + 2 := by
        rw [List.length_map, List.length_cons, List.length_cons]
        omega
      refine ⟨2, _, rfl, ⟨by decide, by decide, by rw [lm]; exact Int.le_trans (by decide) (show (0 : Int) ≤ _ by omega), by rw [lm]; exact Int.lt_of_lt_of_le (show _ < (20000 : Int) by omega) (by decide)⟩, ?_⟩
      refine for_range (lo := 2) (n := (((List.map V.str (l0 :: l1 :: ls)).length : Int) - 2).toNat) (fun i σ H' => ∃ y5 y6 us es, σ = [some (.str x), some (.ref wl), some (.ref lp), some (.ref lg), some (.ref Ad), y5, y6] ∧ Same H5 H' ∧ H' Ad = some (.lst ((us : List Addr).map V.ref)) ∧ EntsAt H' us es ∧ es.length ≤ 30 ∧ scan Ps Gs ls [] 2 = scan Ps Gs (ls.drop i) es (i + 2))
        ⟨_, _, [], [], rfl, s6, hA0, .nil, Nat.zero_le _, rfl⟩ ?_ ?_
      · rintro i σ H7 hi ⟨y5, y6, us, es, rfl, s7, hA7, en7, l30, sc⟩
        rw [lm] at hi
        have li : i < ls.length := by omega
        have ht : ls[i]? = some ls[i] := List.getElem?_eq_getElem li
        have mt : ls[i] ∈ l0 :: l1 :: ls := List.mem_cons_of_mem _ (List.mem_cons_of_mem _ (List.getElem_mem li))
        generalize ls[i] = t at ht mt
        obtain ⟨lt, st⟩ := lw t mt
        rw [drop_at ht] at sc
        have at' : atI (List.map V.str (l0 :: l1 :: ls)) (2 + (i : Int)) = some (.str t) := by
          rw [show (2 : Int) + (i : Int) = ((i + 2 : Nat) : Int) by omega]
          exact atI_nat (by show (List.map V.str ls)[i]? = _; rw [List.getElem?_map, ht]; rfl)
        have nlk : scan Ps Gs ls [] 2 = .inl (i + 2) → ∀ H', Same H5 H' → Q (.int (2 + (i : Int))) H' := fun z H' s => by
          have y := nl (readM_d hsp hn hm z) H' (s05.trans s)
          rw [show ((i + 2 : Nat) : Int) = 2 + (i : Int) by omega] at y
          exact y
        refine ⟨_, rfl, _, rfl, wl, _, _, _, rfl, rfl, SqL.of (s7 _ _ h5), at', t, rfl, by omega, st, fun e fe hx L tp H8 s8 hL htp => ?_, fun no L H8 s8 hL => ?_⟩
        · subst hx
          have eo := entOf_yes fe
          refine ⟨_, rfl, (by show 0 ≤ sizeLine; decide), fun E2 nE2 => ?_⟩
          have s9 := @same_new _ _ (.lst []) nE2
          have e9 := @upd_same H8 E2 (.lst [])
          have s79 := s8.trans s9
          have hL9 := s9 _ _ hL
          have htp9 := s9 _ _ htp
          refine ⟨L, E2, _, rfl, rfl, SqL.of hL9, SqL.of e9, false, rfl, iteF ?_⟩
          generalize upd H8 E2 (.lst []) = H9 at s9 e9 s79 hL9 htp9
          have s59 := s7.trans s79
          have hA9 := s79 _ _ hA7
          have en9 := en7.on (TK.of s79)
          refine ⟨_, rfl, L, _, 0, _, rfl, rfl, SqL.of hL9, atI_nat (j := 0) rfl, _, rfl, _, rfl, _, rfl, tp, Ad, lp, lg, e, us, es, Ps, Gs, rfl, htp9, fe, hA9, en9, by omega, s59 _ _ hlp5, s59 _ _ hlg5, fun H10 s10 => ?_⟩
          have s510 := s59.trans s10
          cases ok : okE Ps Gs es e with
          | false =>
            refine ⟨false, rfl, iteT ⟨_, rfl, nlk ?_ _ s510⟩⟩
            rw [sc, scan_bad eo ok]
          | true =>
            rw [scan_yes eo ok] at sc
            unfold okE at ok
            rw [Bool.and_eq_true] at ok
            have lt30 := beh_len ok.2
            have hA10 := s10 _ _ hA9
            have lus : us.length = es.length := en7.len
            refine ⟨true, rfl, iteF ?_⟩
            refine ⟨_, rfl, .inl ⟨rfl, _, SqL.of hA10⟩, _, rfl, L, _, 0, _, rfl, rfl, SqL.of (s10 _ _ hL9), atI_nat (j := 0) rfl, Ad, _, _, rfl, rfl, hA10, (by rw [List.length_map]; exact small1000 (by omega)), ?_⟩
            have k8 : TK H10 (upd H10 Ad (.lst (us.map V.ref ++ [V.ref tp]))) := TK.upd fun xs e => by rw [hA10] at e; cases e
            exact ⟨_, _, us ++ [tp], es ++ [e], rfl, fun b o e => (upd_ne (ne_of_none e nA)).trans (s510 _ _ e), by rw [upd_same, List.map_append]; rfl, EntsAt.snoc ((en9.on (TK.of s10)).on k8) (k8 _ _ (s10 _ _ htp9)), by rw [List.length_append, List.length_singleton]; omega, sc⟩
        · have eo : entOf t = none := by
            cases z : entOf t with
            | none => rfl
            | some e =>
              obtain ⟨fe, te⟩ := entOf_some z
              exact absurd te (no e fe)
          refine ⟨_, rfl, (by show 0 ≤ sizeLine; decide), fun E2 nE2 => ?_⟩
          have s9 := @same_new _ _ (.lst []) nE2
          refine ⟨L, E2, _, rfl, rfl, SqL.of (s9 _ _ hL), SqL.of upd_same, true, rfl, iteT ⟨_, rfl, nlk ?_ _ (s7.trans (s8.trans s9))⟩⟩
          rw [sc, scan_none eo]
      · rintro σ H7 ⟨y5, y6, us, es, rfl, s7, hA7, en7, l30, sc⟩
        rw [List.drop_of_length_le (by rw [lm]; omega)] at sc
        have y := q H7 (s05.trans s7)
        rw [badM_r (readM_e hsp hn hm sc)] at y
        exact ⟨1, rfl, y⟩
end
/-! ### which line is told -/
structure O74 where
  cl : Addr
  cd : Addr
  nd : Addr
  ne : Addr
  nf : Addr
  ng : Addr
  ngd : Addr
  nh : Addr
  nm : Addr
  nn : Addr
  np : Addr
  nr : Addr
  nth : Addr
  nti : Addr
  tm : Addr
  tw : Addr
structure G74 (mg : Str → Option Value) (O : O74) (C CE : Addr) : Prop where
  cl : mg "Clash" = some (.ref O.cl)
  cd : mg "Closed" = some (.ref O.cd)
  nd : mg "NoDay" = some (.ref O.nd)
  ne : mg "NoEntry" = some (.ref O.ne)
  nf : mg "NoFilling" = some (.ref O.nf)
  ng : mg "NoGo" = some (.ref O.ng)
  ngd : mg "NoGood" = some (.ref O.ngd)
  nh : mg "NoHouse" = some (.ref O.nh)
  nm : mg "NoMove" = some (.ref O.nm)
  nn : mg "NoName" = some (.ref O.nn)
  np : mg "NoPlace" = some (.ref O.np)
  nr : mg "NoRow" = some (.ref O.nr)
  nth : mg "NoThen" = some (.ref O.nth)
  nti : mg "NoTie" = some (.ref O.nti)
  tm : mg "TooMany" = some (.ref O.tm)
  tw : mg "Twice" = some (.ref O.tw)
  nt : mg "NoText" = some (.ref C)
  gE : mg "CountError" = some (.ref CE)
structure C74 (K : PySem.W.Frag) (O : O74) (C CE : Addr) : Prop where
  ec : ExcC K C
  o1 : PySem.W.kitAny K (.ref C) [.ref O.cl, .ref O.cd, .ref O.nd, .ref O.ne, .ref O.nf, .ref O.ng, .ref O.ngd, .ref O.nh, .ref O.nm, .ref O.nn, .ref O.np] = some false
  o2 : PySem.W.kitAny K (.ref C) [.ref O.nr, .ref O.nth, .ref O.nti, .ref O.tm, .ref O.tw] = some false
  v : PySem.W.kitOne K (.ref C) (.type "ValueError") = some true
  nt : PySem.W.kitOne K (.ref C) (.ref C) = some true
  cm : PySem.W.exmOne K (.ref C) (.ref CE) = some true
  xf : XfC K C
  nl : PySem.W.findIn K (.ref C) "line" = some none
def spLineTold (K : PySem.W.Frag) (Ts : List Addr) : Sp := fun vs H Q _ => ∃ v : V, vs = [v] ∧ TabsG Ts H ∧
  ((∃ x : Str, v = .str x ∧ x.length ≤ 16000 ∧ (∀ r, readM x = .inr r → ∀ H', TB1 Ts H H' → Q .non H') ∧ (∀ k, readM x = .inl k → ∀ H', TB1 Ts H H' → Q (.int (k : Int)) H')) ∨ (NoStr K H v ∧ ∀ H', TB1 Ts H H' → Q (.int 0) H'))
section
variable {P : Program} {w : World} {K : PySem.W.Frag} {mg : Str → Option Value} {base : Heap}
abbrev sLineToldN : List Str := ["_law_thing", "_law_caught", "e"]
theorem sc_sLineTold : FnScope sLineToldN ["_law_thing"] (defScope sLineTold) := ⟨rfl, rfl, rfl, by decide +kernel, rfl, by decide +kernel, by decide +kernel⟩
set_option maxHeartbeats 4000000 in
theorem ok_lineTold {f fR C CE : Addr} {fd dR : FuncData} {O : O74} {Ts : List Addr} (F : Fun K "_law_line_told" "_law_line_told" sLineTold f fd) (RH : DefX P w K mg base "read_house" 7 fR dR ["text"] (spReadHouseA K Ts C)) (G : G74 mg O C CE) (D : C74 K O C CE) (mis : mg "isinstance" = none) (mT_int : mg "int" = none) (mT_bool : mg "bool" = none) (mv : mg "ValueError" = none) : FnOk P w K mg base CX0 8 f fd ["_law_thing"] (spLineTold K Ts) := by
  refine F.ok sc_sLineTold (fun vs H Q E h => ?_) (fun cdv A outer s H vs Q E hr h => ?_)
  · obtain ⟨v, rfl, _⟩ := h
    rfl
  · obtain ⟨v, rfl, tg, h⟩ := h
    have nd := sc_sLineTold.nd
    refine ⟨_, pss_cons (ps_set (i := 1) nd rfl (Or.inl rfl) pe_non)
      (pss_cons (Kept.ps_try_keep (i := 2) rfl rfl nd rfl rfl ⟨rfl, by decide, .inl G.gE⟩ (fun W pn xe tk _ => pss_one (ps_expr (pe_callS RH.ok (hr.mono (by decide)) (by rfl) RH.g RH.kp RH.b (fun σ => passAt tk σ) (pa_cons (pv 0) pa_nil)))) (fun a ob cls d pn hz hf => pss_one (ps_set (i := 1) nd rfl (Or.inl rfl) (pv 2))))
      (pss_cons (ps_if (pt_cmpR op_isN (pv 1) pe_non (by rfl)) (pss_one (ps_ret pe_non)) pss_nil)
      (pss_cons (ps_if (pt_val (pe_callB Kept.call_isDT (by rfl) mis (by decide +kernel) (pa_cons (pv 1) (pa_cons (pe_tup (pa_cons (pe_glob (v := .ref O.cl) (u := .ref O.cl) (by rfl) G.cl rfl) (pa_cons (pe_glob (v := .ref O.cd) (u := .ref O.cd) (by rfl) G.cd rfl) (pa_cons (pe_glob (v := .ref O.nd) (u := .ref O.nd) (by rfl) G.nd rfl) (pa_cons (pe_glob (v := .ref O.ne) (u := .ref O.ne) (by rfl) G.ne rfl) (pa_cons (pe_glob (v := .ref O.nf) (u := .ref O.nf) (by rfl) G.nf rfl) (pa_cons (pe_glob (v := .ref O.ng) (u := .ref O.ng) (by rfl) G.ng rfl) (pa_cons (pe_glob (v := .ref O.ngd) (u := .ref O.ngd) (by rfl) G.ngd rfl) (pa_cons (pe_glob (v := .ref O.nh) (u := .ref O.nh) (by rfl) G.nh rfl) (pa_cons (pe_glob (v := .ref O.nm) (u := .ref O.nm) (by rfl) G.nm rfl) (pa_cons (pe_glob (v := .ref O.nn) (u := .ref O.nn) (by rfl) G.nn rfl) (pa_cons (pe_glob (v := .ref O.np) (u := .ref O.np) (by rfl) G.np rfl) pa_nil)))))))))))) pa_nil)))) (pss_one (ps_ret (pe_un un_neg pe_int))) pss_nil)
      (pss_cons (ps_if (PW.pt (pw_or (pt_val (pe_callB Kept.call_isDT (by rfl) mis (by decide +kernel) (pa_cons (pv 1) (pa_cons (pe_tup (pa_cons (pe_glob (v := .ref O.nr) (u := .ref O.nr) (by rfl) G.nr rfl) (pa_cons (pe_glob (v := .ref O.nth) (u := .ref O.nth) (by rfl) G.nth rfl) (pa_cons (pe_glob (v := .ref O.nti) (u := .ref O.nti) (by rfl) G.nti rfl) (pa_cons (pe_glob (v := .ref O.tm) (u := .ref O.tm) (by rfl) G.tm rfl) (pa_cons (pe_glob (v := .ref O.tw) (u := .ref O.tw) (by rfl) G.tw rfl) pa_nil)))))) pa_nil)))) (pw_or1 (pt_not (pt_val (pe_callB Kept.call_isD (by rfl) mis (by decide +kernel) (pa_cons (pv 1) (pa_cons (pe_bltn (v := .ty "ValueError") (u := .type "ValueError") (by rfl) mv (by decide +kernel) rfl) pa_nil)))))))) (pss_one (ps_ret (pe_un un_neg pe_int))) pss_nil)
      (pss_cons (ps_if (PW.pt (pw_or (pt_not (pt_val (pe_callB Kept.call_isD (by rfl) mis (by decide +kernel) (pa_cons (pv 1) (pa_cons (pe_glob (v := .ref C) (u := .ref C) (by rfl) G.nt rfl) pa_nil))))) (pw_or (pt_val (pe_callB call_isi (by rfl) mis (by decide +kernel) (pa_cons (Kept.pe_xfk (pv 1)) (pa_cons (pe_bltn (v := .ty "bool") (u := .type "bool") (by rfl) mT_bool (by decide +kernel) rfl) pa_nil)))) (pw_or1 (pt_not (pt_val (pe_callB call_isi (by rfl) mis (by decide +kernel) (pa_cons (Kept.pe_xfk (pv 1)) (pa_cons (pe_bltn (v := .ty "int") (u := .type "int") (by rfl) mT_int (by decide +kernel) rfl) pa_nil))))))))) (pss_one (ps_ret (pe_un un_neg pe_int))) pss_nil)
      (pss_one (ps_ret (Kept.pe_xfk (pv 1))))))))), ?_⟩
    obtain ⟨x, rfl, l16, ⟨Ps, Gs, es⟩, hrd, qn⟩ | ⟨k, qk, cs⟩ : (∃ x : Str, v = .str x ∧ x.length ≤ 16000 ∧ ∃ r : List Str × List Str × List Ent, readM x = .inr r ∧ ∀ H', TB1 Ts H H' → Q .non H') ∨ ∃ k : Nat, (∀ H', TB1 Ts H H' → Q (.int (k : Int)) H') ∧ ((∃ x : Str, v = .str x ∧ x.length ≤ 16000 ∧ readM x = .inl k) ∨ (NoStr K H v ∧ k = 0)) := by
      rcases h with ⟨x, rfl, l16, qn, qi⟩ | ⟨ns, q0⟩
      · cases hrd : readM x with
        | inr r => exact .inl ⟨x, rfl, l16, r, hrd, qn r hrd⟩
        | inl k => exact .inr ⟨k, qi k hrd, .inl ⟨x, rfl, l16, hrd⟩⟩
      · exact .inr ⟨0, q0, .inr ⟨ns, rfl⟩⟩
    · refine ⟨_, rfl, .str x, rfl, tg, .inl ⟨x, rfl, l16, fun P' G' es' z h H1 b1 ho => ?_, fun k z => (by rw [hrd] at z; cases z)⟩⟩
      exact ⟨_, rfl, rfl, true, congrArg V.bl (decide_eq_true rfl), iteT (qn H1 b1)⟩
    · refine ⟨_, rfl, v, rfl, tg, ?_⟩
      rcases cs with ⟨x, rfl, l16, hrd⟩ | ⟨ns, rfl⟩
      refine .inl ⟨x, rfl, l16, fun P G es z => (by rw [hrd] at z; cases z), fun k' z dd H1 b1 hd => ?_⟩
      rw [hrd] at z
      obtain rfl : k = k' := Sum.inl.inj z
      rotate_left
      refine .inr ⟨ns, fun dd H1 b1 hd => ?_⟩
      all_goals
        refine ⟨D.cm, fun a _ na => ?_⟩
        refine ⟨_, rfl, ?_⟩
        have s1 := @same_new _ _ (Kept.ExV (.ref C) (some dd) a) na
        have ha : (upd H1 a (Kept.ExV (.ref C) (some dd) a)) a = some (Kept.ExV (.ref C) (some dd) a) := upd_same
        have hd1 := s1 _ _ hd
        have own : ∀ (C : Addr), ClsV (.ref C) (.ref C) := .own
        refine ⟨_, rfl, rfl, false, congrArg V.bl (decide_eq_false fun z => nomatch z), iteF ?_⟩
        refine ⟨_, rfl, (by show 11 ≤ sizeLine; decide), fun tp ntp => ?_⟩
        have s2 := s1.trans (@same_new _ _ (.tup [V.ref O.cl, .ref O.cd, .ref O.nd, .ref O.ne, .ref O.nf, .ref O.ng, .ref O.ngd, .ref O.nh, .ref O.nm, .ref O.nn, .ref O.np]) ntp)
        have ha2 := @same_new _ _ (.tup [V.ref O.cl, .ref O.cd, .ref O.nd, .ref O.ne, .ref O.nf, .ref O.ng, .ref O.ngd, .ref O.nh, .ref O.nm, .ref O.nn, .ref O.np]) ntp _ _ ha
        have hd2 := s2 _ _ hd
        refine ⟨a, C, dd, tp, _, _, _, false, rfl, ha2, hd2, D.ec, upd_same, .cons (own _) (.cons (own _) (.cons (own _) (.cons (own _) (.cons (own _) (.cons (own _) (.cons (own _) (.cons (own _) (.cons (own _) (.cons (own _) (.cons (own _) (.nil))))))))))), D.o1, false, rfl, iteF ?_⟩
        refine ⟨_, rfl, (by show 5 ≤ sizeLine; decide), fun tq ntq => ?_⟩
        have s3 := s2.trans (@same_new _ _ (.tup [V.ref O.nr, .ref O.nth, .ref O.nti, .ref O.tm, .ref O.tw]) ntq)
        have ha3 := @same_new _ _ (.tup [V.ref O.nr, .ref O.nth, .ref O.nti, .ref O.tm, .ref O.tw]) ntq _ _ ha2
        have hd3 := s3 _ _ hd
        refine ⟨a, C, dd, tq, _, _, _, false, rfl, ha3, hd3, D.ec, upd_same, .cons (own _) (.cons (own _) (.cons (own _) (.cons (own _) (.cons (own _) (.nil))))), D.o2, false, rfl, iteF ?_⟩
        refine ⟨_, rfl, a, C, dd, _, .ty "ValueError", .type "ValueError", true, rfl, ha3, hd3, D.ec, fun u r => r, D.v, true, rfl, iteF ?_⟩
        refine ⟨_, rfl, a, C, dd, _, .ref C, .ref C, true, rfl, ha3, hd3, D.ec, fun u r => r, D.nt, true, rfl, iteF ?_⟩
        refine ⟨_, rfl, a, C, dd, _, _, rfl, D.xf, D.nl, ha3, hd3, rfl, ?_⟩
        refine ⟨_, _, _, _, false, rfl, .ty "bool", .base (.int _), kit_ty (by decide +kernel), false, rfl, iteF ?_⟩
        refine ⟨_, rfl, a, C, dd, _, _, rfl, D.xf, D.nl, ha3, hd3, rfl, ?_⟩
        refine ⟨_, _, _, _, true, rfl, .ty "int", .base (.int _), kit_ty (by decide +kernel), true, rfl, iteF ?_⟩
        exact ⟨_, rfl, a, C, dd, _, _, rfl, D.xf, D.nl, ha3, hd3, rfl, qk _ (b1.tr (.same b1.1 s3))⟩
end
/-! ### texts that are bent: their weights -/
theorem op_mulS {X : Cx} : OpR X (binaryOp .Mult) (fun x y H Q => ∃ (a : Str) (n : Int), x = V.str a ∧ y = V.int n ∧ MulOk a n ∧ Q (.str (Txt.mul a n)) H) := by
  rintro pins z τ G x y v u W I rx ry ⟨a, n, rfl, rfl, ok, q⟩
  obtain ⟨t, rfl⟩ := rx
  obtain ⟨t', rfl⟩ := ry
  exact SB.mul ok fun t' tk => ⟨.str (Txt.mul a n), G, I.tok _, ⟨_, rfl⟩, q⟩
def Sm (x : Str) : Prop := ∀ c ∈ x.cps.toList, c < 256
theorem Sm.app {a b : Str} (ha : Sm a) (hb : Sm b) : Sm (a ++ b) := fun c hc => by
  have hc' : c ∈ TL.tl (a ++ b) := hc
  rw [TL.tl_append] at hc'
  rcases List.mem_append.mp hc' with h | h
  · exact ha c h
  · exact hb c h
theorem Sm.sub {x y : Str} (h : Sm x) (s : ∀ c ∈ y.cps.toList, c ∈ x.cps.toList) : Sm y := fun c hc => h c (s c hc)
theorem Sm.ok {x : Str} (h : Sm x) : PyData.strOk x = true := by
  unfold PyData.strOk
  rw [← Array.all_toList, List.all_eq_true]
  exact fun c hc => decide_eq_true (by have := h c hc; omega)
theorem Sm.cut {x : Str} {lo hi : Option Int} (h : Sm x) : Sm (cutS x lo hi) := fun c hc => h c (List.mem_of_mem_drop (List.mem_of_mem_take (show c ∈ (x.cps.toList.drop _).take _ from hc)))
theorem Sm.one {c : Nat} (h : c < 256) : Sm ⟨#[c]⟩ := fun d hd => by
  have hd' : d ∈ [c] := hd
  rw [List.mem_singleton.mp hd']
  exact h
theorem mulok2 (c : Nat) : MulOk ⟨#[c]⟩ 2 := ⟨by decide, fun _ _ => by show ¬ (((1 : Nat) : Int) > (2 ^ 63 - 1) / 2); decide, fun _ _ => rfl⟩
theorem mul2 (c : Nat) : Txt.mul ⟨#[c]⟩ 2 = ⟨#[c, c]⟩ := rfl
theorem mulok61 : MulOk "9" 61 := ⟨by decide, fun _ _ => by decide +kernel, fun _ _ => by decide +kernel⟩
theorem mulok60 : MulOk "9" 60 := ⟨by decide, fun _ _ => by decide +kernel, fun _ _ => by decide +kernel⟩
theorem at_ex75 {α : Type} {xs : List α} {r : Int} (h0 : 0 ≤ r) (h1 : r < (xs.length : Int)) : ∃ v, atI xs r = some v ∧ v ∈ xs := by
  obtain ⟨k, rfl⟩ : ∃ k : Nat, r = (k : Int) := ⟨r.toNat, by omega⟩
  have lk : k < xs.length := by omega
  exact ⟨xs[k], atI_nat (List.getElem?_eq_getElem lk), List.getElem_mem lk⟩
theorem at_neg75 {α : Type} {xs : List α} {r : Int} (h0 : 0 ≤ r) (h1 : r < (xs.length : Int)) : ∃ v, atI xs (r - 1) = some v ∧ v ∈ xs := by
  by_cases z : r = 0
  · subst z
    have lk : xs.length - 1 < xs.length := by omega
    refine ⟨xs[xs.length - 1], ?_, List.getElem_mem lk⟩
    unfold atI ixN
    rw [if_neg (by omega), if_pos (by omega)]
    show xs[_]? = _
    rw [show ((0 : Int) - 1 + (xs.length : Int)).toNat = xs.length - 1 from by omega]
    exact List.getElem?_eq_getElem lk
  · exact at_ex75 (by omega) (by omega)
/-! weights -/
def wl (w : Nat → Nat) (l : List Nat) : Nat := (l.map w).sum
def wt (w : Nat → Nat) (x : Str) : Nat := wl w (TL.tl x)
def one (_ : Nat) : Nat := 1
def ten (c : Nat) : Nat := if c = 10 then 1 else 0
theorem wl_app (w : Nat → Nat) (a b : List Nat) : wl w (a ++ b) = wl w a + wl w b := by
  unfold wl
  rw [List.map_append, List.sum_append]
theorem wt_app (w : Nat → Nat) (a b : Str) : wt w (a ++ b) = wt w a + wt w b := by
  unfold wt
  rw [TL.tl_append, wl_app]
theorem wl_one (l : List Nat) : wl one l = l.length := by
  induction l with
  | nil => rfl
  | cons a r ih =>
    show one a + wl one r = _
    rw [ih, List.length_cons]
    show 1 + r.length = _
    omega
theorem wt_one (x : Str) : wt one x = x.length := by
  have e : x.length = (TL.tl x).length := by simp [Str.length, TL.tl]
  rw [e]
  exact wl_one _
theorem wl_take (w : Nat → Nat) (k : Nat) (l : List Nat) : wl w (l.take k) + wl w (l.drop k) = wl w l := by
  rw [← wl_app, List.take_append_drop]
theorem wt_cut_to (w : Nat → Nat) (x : Str) (k : Nat) : wt w (cutS x none (some (k : Int))) = wl w ((TL.tl x).take k) := by
  unfold cutS wt
  rw [HT.sIx_nat, HT.sIx_none, Nat.sub_zero, List.drop_zero]
  show wl w ((TL.tl x).take (min k x.length)) = _
  have e : x.length = (TL.tl x).length := by simp [Str.length, TL.tl]
  rw [e]
  by_cases h : k ≤ (TL.tl x).length
  · rw [Nat.min_eq_left h]
  · rw [Nat.min_eq_right (by omega), List.take_length, List.take_of_length_le (by omega)]
theorem wt_cut_from (w : Nat → Nat) (x : Str) (k : Nat) : wt w (cutS x (some (k : Int)) none) = wl w ((TL.tl x).drop k) := by
  unfold cutS wt
  rw [HT.sIx_nat, HT.sIx_none]
  show wl w (((TL.tl x).drop (min k x.length)).take (x.length - min k x.length)) = _
  have e : x.length = (TL.tl x).length := by simp [Str.length, TL.tl]
  rw [e, List.take_of_length_le (by rw [List.length_drop]; omega)]
  by_cases h : k ≤ (TL.tl x).length
  · rw [Nat.min_eq_left h]
  · rw [Nat.min_eq_right (by omega), List.drop_length, List.drop_of_length_le (by omega)]
/-- of texts told with s for each -/
def wts (w : Nat → Nat) (s : Nat) (ls : List Str) : Nat := (ls.map (wt w)).sum + ls.length * s
theorem wts_app (w : Nat → Nat) (s : Nat) (a b : List Str) : wts w s (a ++ b) = wts w s a + wts w s b := by
  unfold wts
  rw [List.map_append, List.sum_append, List.length_append, Nat.add_mul]
  omega
theorem wts_one (w : Nat → Nat) (s : Nat) (y : Str) : wts w s [y] = wt w y + s := by
  unfold wts
  simp
theorem wts_two (w : Nat → Nat) (s k : Nat) (ls : List Str) : wts w s (ls.take k) + wts w s (ls.drop k) = wts w s ls := by
  rw [← wts_app, List.take_append_drop]
theorem wts_rev (w : Nat → Nat) (s : Nat) (ls : List Str) : wts w s ls.reverse = wts w s ls := by
  unfold wts
  rw [List.map_reverse, List.sum_reverse, List.length_reverse]
theorem wts_mem {w : Nat → Nat} {s : Nat} {y : Str} : ∀ {ls : List Str}, y ∈ ls → wt w y + s ≤ wts w s ls
  | a :: r, h => by
    have e : wts w s (a :: r) = wts w s [a] + wts w s r := wts_app w s [a] r
    rw [e, wts_one]
    rcases List.mem_cons.mp h with rfl | h
    · omega
    · have := wts_mem (w := w) (s := s) h
      omega
theorem wl_joinL (w : Nat → Nat) (sep : List Nat) : ∀ (ps : List (List Nat)), ps ≠ [] → wl w (TL.joinL sep ps) + wl w sep = (ps.map (wl w)).sum + ps.length * wl w sep
  | [], h => absurd rfl h
  | [a], _ => by
    show wl w a + wl w sep = wl w a + 0 + (0 + 1) * wl w sep
    omega
  | a :: b :: r, _ => by
    have ih := wl_joinL w sep (b :: r) (by simp)
    show wl w (a ++ (sep ++ TL.joinL sep (b :: r))) + wl w sep = wl w a + ((b :: r).map (wl w)).sum + ((b :: r).length + 1) * wl w sep
    rw [wl_app, wl_app, Nat.add_mul]
    omega
theorem wt_join (w : Nat → Nat) (sep : Str) {ls : List Str} (h : ls ≠ []) : wt w (Txt.join sep ls) + wt w sep = wts w (wt w sep) ls := by
  unfold wt wts
  rw [TL.join_eq, TL.tl_join]
  have z := wl_joinL w (TL.tl sep) (ls.map TL.tl) (by simpa using h)
  rw [List.map_map, List.length_map] at z
  exact z
theorem wt_join_le (w : Nat → Nat) (sep : Str) (ls : List Str) : wt w (Txt.join sep ls) ≤ wts w (wt w sep) ls := by
  by_cases h : ls = []
  · rw [h, TL.join_eq]
    unfold wt
    rw [TL.tl_join]
    exact Nat.zero_le _
  · have := wt_join w sep h
    omega
theorem wts_split (w : Nat → Nat) (x : Str) {sep : Str} (hs : 0 < sep.length) : wts w (wt w sep) (Txt.split x sep) = wt w x + wt w sep := by
  obtain ⟨a, r, h⟩ := split_cons x hs
  have e := join_of h
  have z := wt_join w sep (ls := a :: r) (by simp)
  rw [← e] at z
  rw [h]
  exact z.symm
theorem Sm.join {sep : Str} (hs : Sm sep) {l : List Str} (h : ∀ y ∈ l, Sm y) : Sm (Txt.join sep l) := fun c hc => by
  have hc' : c ∈ TL.tl (Txt.join sep l) := hc
  rw [TL.join_eq, TL.tl_join] at hc'
  rcases mem_joinL hc' with q | ⟨p, hp, q⟩
  · exact hs c q
  · obtain ⟨y, hy, rfl⟩ := List.mem_map.mp hp
    exact h y hy c q
/-! one text put in the place of another -/
theorem repl_w {w v : Nat → Nat} {y z : List Nat} (h : ∀ c, w c ≤ v c) (hy : y ≠ []) (hz : wl w z ≤ wl v y) : ∀ (n : Nat) (l : List Nat), l.length ≤ n → wl w (StrLaws.replL y z l) ≤ wl v l
  | 0, l, hl => by
    rw [List.length_eq_zero_iff.mp (Nat.le_zero.mp hl), StrLaws.replL_nil]
    exact Nat.le_refl _
  | n + 1, [], _ => by
    rw [StrLaws.replL_nil]
    exact Nat.le_refl _
  | n + 1, c :: r, hl => by
    rw [List.length_cons] at hl
    by_cases t : (c :: r).take y.length = y
    · rw [StrLaws.replL_hit hy t, wl_app]
      have ly : 0 < y.length := List.length_pos_iff.mpr hy
      have ih := repl_w h hy hz n ((c :: r).drop y.length) (by rw [List.length_drop, List.length_cons]; omega)
      have e := wl_take v y.length (c :: r)
      rw [t] at e
      omega
    · rw [StrLaws.replL_miss t]
      have ih := repl_w h hy hz n r (by omega)
      show w c + wl w (StrLaws.replL y z r) ≤ v c + wl v r
      have := h c
      omega
theorem repl_mem {y z : List Nat} (hy : y ≠ []) {d : Nat} : ∀ (n : Nat) (l : List Nat), l.length ≤ n → d ∈ StrLaws.replL y z l → d ∈ l ∨ d ∈ z
  | 0, l, hl, hd => by
    rw [List.length_eq_zero_iff.mp (Nat.le_zero.mp hl), StrLaws.replL_nil] at hd
    exact nomatch hd
  | n + 1, [], _, hd => by
    rw [StrLaws.replL_nil] at hd
    exact nomatch hd
  | n + 1, c :: r, hl, hd => by
    rw [List.length_cons] at hl
    by_cases t : (c :: r).take y.length = y
    · rw [StrLaws.replL_hit hy t] at hd
      have ly : 0 < y.length := List.length_pos_iff.mpr hy
      rcases List.mem_append.mp hd with hd | hd
      · exact .inr hd
      · rcases repl_mem hy n ((c :: r).drop y.length) (by rw [List.length_drop, List.length_cons]; omega) hd with q | q
        · exact .inl (List.mem_of_mem_drop q)
        · exact .inr q
    · rw [StrLaws.replL_miss t] at hd
      rcases List.mem_cons.mp hd with rfl | hd
      · exact .inl List.mem_cons_self
      · rcases repl_mem hy n r (by omega) hd with q | q
        · exact .inl (List.mem_cons_of_mem _ q)
        · exact .inr q
abbrev nlT : Str := "\n"
abbrev nlW : Str := " \n "
def tri (c : Nat) : Nat := if c = 10 then 3 else 1
theorem tl_nlT : TL.tl nlT = [10] := by decide +kernel
theorem tl_nlW : TL.tl nlW = [32, 10, 32] := by decide +kernel
theorem wl_tri (l : List Nat) : wl tri l = wl one l + 2 * wl ten l := by
  induction l with
  | nil => rfl
  | cons a r ih =>
    show tri a + wl tri r = (one a + wl one r) + 2 * (ten a + wl ten r)
    rw [ih]
    unfold tri one ten
    split <;> omega
theorem repl_to (x : Str) : (Txt.replace x nlT nlW).length ≤ x.length + 2 * wt ten x ∧ wt ten (Txt.replace x nlT nlW) ≤ wt ten x ∧ (Sm x → Sm (Txt.replace x nlT nlW)) := by
  have e : TL.tl (Txt.replace x nlT nlW) = StrLaws.replL (TL.tl nlT) (TL.tl nlW) (TL.tl x) := StrLaws.replace_list (by decide +kernel)
  rw [tl_nlT, tl_nlW] at e
  refine ⟨?_, ?_, fun h c hc => ?_⟩
  · have z := repl_w (w := one) (v := tri) (y := [10]) (z := [32, 10, 32]) (fun c => by unfold one tri; split <;> omega) (by simp) (by decide) _ (TL.tl x) (Nat.le_refl _)
    rw [← wt_one, ← wt_one x]
    unfold wt
    rw [e]
    rw [wl_tri] at z
    exact z
  · have z := repl_w (w := ten) (v := ten) (y := [10]) (z := [32, 10, 32]) (fun c => Nat.le_refl _) (by simp) (by decide) _ (TL.tl x) (Nat.le_refl _)
    unfold wt
    rw [e]
    exact z
  · have hc' : c ∈ TL.tl (Txt.replace x nlT nlW) := hc
    rw [e] at hc'
    rcases repl_mem (by simp) _ (TL.tl x) (Nat.le_refl _) hc' with q | q
    · exact h c q
    · simp only [List.mem_cons, List.not_mem_nil, or_false] at q
      omega
theorem repl_back (x : Str) : (Txt.replace x nlW nlT).length ≤ x.length ∧ wt ten (Txt.replace x nlW nlT) ≤ wt ten x ∧ (Sm x → Sm (Txt.replace x nlW nlT)) := by
  have e : TL.tl (Txt.replace x nlW nlT) = StrLaws.replL (TL.tl nlW) (TL.tl nlT) (TL.tl x) := StrLaws.replace_list (by decide +kernel)
  rw [tl_nlT, tl_nlW] at e
  refine ⟨?_, ?_, fun h c hc => ?_⟩
  · have z := repl_w (w := one) (v := one) (y := [32, 10, 32]) (z := [10]) (fun c => Nat.le_refl _) (by simp) (by decide) _ (TL.tl x) (Nat.le_refl _)
    rw [← wt_one, ← wt_one x]
    unfold wt
    rw [e]
    exact z
  · have z := repl_w (w := ten) (v := ten) (y := [32, 10, 32]) (z := [10]) (fun c => Nat.le_refl _) (by simp) (by decide) _ (TL.tl x) (Nat.le_refl _)
    unfold wt
    rw [e]
    exact z
  · have hc' : c ∈ TL.tl (Txt.replace x nlW nlT) := hc
    rw [e] at hc'
    rcases repl_mem (by simp) _ (TL.tl x) (Nat.le_refl _) hc' with q | q
    · exact h c q
    · simp only [List.mem_cons, List.not_mem_nil, or_false] at q
      omega
/-! ### a word bent -/
theorem sl_to {K : PySem.W.Frag} {σ : L2.St} {H : Hp} {Q : VK} {i j : Nat} {wl : Addr} {k : Nat} {ws : List Str} (h1 : σ[i]? = some (some (.ref wl))) (h2 : σ[j]? = some (some (.int (k : Int)))) (hw : H wl = some (.lst (ws.map V.str)))
    (go : ∀ q H', Same H H' → H' q = some (.lst ((ws.take k).map V.str)) → Q (.ref q) H') : tSl (rSlL K) (tVar i) tNoPart (tPart (tVar j)) σ H Q :=
  ⟨_, h1, _, h2, k, rfl, wl, _, rfl, SqL.of hw, fun q nq => go q _ (same_new nq) (by rw [upd_same, cut_head, List.map_take])⟩
theorem sl_from {K : PySem.W.Frag} {σ : L2.St} {H : Hp} {Q : VK} {i j : Nat} {wl : Addr} {k : Nat} {ws : List Str} (h1 : σ[i]? = some (some (.ref wl))) (h2 : σ[j]? = some (some (.int (k : Int)))) (hw : H wl = some (.lst (ws.map V.str)))
    (go : ∀ q H', Same H H' → H' q = some (.lst ((ws.drop k).map V.str)) → Q (.ref q) H') : tSl (rSlL K) (tVar i) (tPart (tVar j)) tNoPart σ H Q :=
  ⟨_, h1, _, h2, k, rfl, wl, _, rfl, SqL.of hw, fun q nq => go q _ (same_new nq) (by rw [upd_same, cut_tail, List.map_drop])⟩
theorem sl_to1 {K : PySem.W.Frag} {σ : L2.St} {H : Hp} {Q : VK} {i j : Nat} {wl : Addr} {k : Nat} {ws : List Str} (h1 : σ[i]? = some (some (.ref wl))) (h2 : σ[j]? = some (some (.int (k : Int)))) (hw : H wl = some (.lst (ws.map V.str)))
    (go : ∀ q H', Same H H' → H' q = some (.lst ((ws.take (k + 1)).map V.str)) → Q (.ref q) H') : tSl (rSlL K) (tVar i) tNoPart (tPart (tOp (rI0 fun i j => .int (i + j)) (tVar j) (tC (V.int 1)))) σ H Q :=
  ⟨_, h1, _, h2, k, 1, rfl, rfl, _, rfl, wl, _, rfl, SqL.of hw, fun q nq => go q _ (same_new nq) (by rw [upd_same, show ((k : Int) + 1) = ((k + 1 : Nat) : Int) from rfl, cut_head, List.map_take])⟩
theorem sl_from1 {K : PySem.W.Frag} {σ : L2.St} {H : Hp} {Q : VK} {i j : Nat} {wl : Addr} {k : Nat} {ws : List Str} (h1 : σ[i]? = some (some (.ref wl))) (h2 : σ[j]? = some (some (.int (k : Int)))) (hw : H wl = some (.lst (ws.map V.str)))
    (go : ∀ q H', Same H H' → H' q = some (.lst ((ws.drop (k + 1)).map V.str)) → Q (.ref q) H') : tSl (rSlL K) (tVar i) (tPart (tOp (rI0 fun i j => .int (i + j)) (tVar j) (tC (V.int 1)))) tNoPart σ H Q :=
  ⟨_, h1, _, h2, k, 1, rfl, rfl, _, rfl, wl, _, rfl, SqL.of hw, fun q nq => go q _ (same_new nq) (by rw [upd_same, show ((k : Int) + 1) = ((k + 1 : Nat) : Int) from rfl, cut_tail, List.map_drop])⟩
theorem cat_strs {H : Hp} {Q : VK} {q1 q2 : Addr} {xs ys : List Str} (h1 : H q1 = some (.lst (xs.map V.str))) (h2 : H q2 = some (.lst (ys.map V.str))) (l : xs.length + ys.length ≤ 800000) (go : ∀ q H', Same H H' → H' q = some (.lst ((xs ++ ys).map V.str)) → Q (.ref q) H') : rCat (.ref q1) (.ref q2) H Q :=
  ⟨q1, q2, _, _, rfl, rfl, h1, h2, by rw [List.length_map, List.length_map]; exact szBig (by omega), fun q nq => go q _ (same_new nq) (by rw [upd_same, List.map_append])⟩
theorem lst_one {σ : L2.St} {H : Hp} {Q : VK} {i : Nat} {y : Str} (h1 : σ[i]? = some (some (.str y))) (go : ∀ q H', Same H H' → H' q = some (.lst ([y].map V.str)) → Q (.ref q) H') : tLst (tCons (tVar i) tNil) σ H Q :=
  ⟨_, h1, (by show 1 ≤ sizeLine; decide), fun q nq => go q _ (same_new nq) upd_same⟩
theorem lst_but75 {H H' : Hp} {p c l : Addr} {n : Nat} {xs : List V} (pen : PenAt H p c n) (b : But p H H') (e : H l = some (.lst xs)) : H' l = some (.lst xs) := by
  obtain ⟨kvs, ns', a', x', g1, _⟩ := pen.ex
  exact b l _ e (ne_of e g1 (by intro z; cases z))
structure TSs (X : Cx) (st : List Stmt) (t : TS) : Prop where
  run : PSsT X st t
structure TEs (X : Cx) (e : Expr) (t : TE) : Prop where
  run : PET X e t
theorem tss_cons {X : Cx} {st : Stmt} {rest : List Stmt} {t u : TS} (h1 : PS X st t) (h2 : TSs X rest u) : TSs X (st :: rest) (tSeq t u) := ⟨L2.psst_cons (L2.PST.of h1) h2.run⟩
theorem tss_set {X : Cx} {e : Expr} {te : TE} {rest : List Stmt} {u : TS} {i : Nat} {x : Str} {pos pos' : Pos} (hN : X.N.Nodup) (hi : X.N[i]? = some x) (hx : Loc X.env.scope x) (he : TEs X e te) (hr : TSs X rest u) (hs : swapsWith e (some (.Name x pos')) pos.line X.env = pure false := by rfl) (hf : X.fn x = true ∨ X.env.scope.names.lookup x = some .local := by first | exact .inl rfl | exact .inr rfl | assumption) : TSs X (.Assign [.Name x pos'] e pos :: rest) (tSeq (tAsg te (gName i)) u) := ⟨L2.psst_cons (Tk74.pst_set hN hi hx he.run hs hf) hr.run⟩
theorem tss_ret {X : Cx} {e : Expr} {te : TE} {pos : Pos} (he : TEs X e te) : TSs X [.Return (some e) pos] (tSeq (tRet te) tNext) := ⟨CwR.psst_one (CwR.pst_ret he.run)⟩
theorem tss_start {X : Cx} {e : Expr} {te : TE} {rest : List Stmt} {u : TS} {i : Nat} {x : Str} {pos pos' : Pos} (hN : X.N.Nodup) (hi : X.N[i]? = some x) (hx : Loc X.env.scope x) (he : Tk74.PEU X e te) (hr : TSs X rest u) (hs : swapsWith e (some (.Name x pos')) pos.line X.env = pure false := by rfl) (hf : X.fn x = true ∨ X.env.scope.names.lookup x = some .local := by first | exact .inl rfl | exact .inr rfl | assumption) : PSs X (.Assign [.Name x pos'] e pos :: rest) (tSeq (tAsg te (gName i)) u) := Tk74.pss_set hN hi hx he hr.run hs hf
theorem tes_replC {X : Cx} {o : Expr} {to : TE} {y z : Str} {j k : Nat} {c0 c1 apos pos : Pos} (ho : PE X o to) (hyz : (y == z) = false := by decide)
    (hst : starEach [.Constant (.str y) j c0, .Constant (.str z) k c1] X.env = [(false, eval (.Constant (.str y) j c0) X.env), (false, eval (.Constant (.str z) k c1) X.env)] := by rfl)
    (hbase : attributeBase o "replace" X.env (eval o X.env) = eval o X.env := by rfl) (hline : (apos.endLine == pos.line) = true := by rfl) :
    TEs X (.Call (.Attribute o "replace" apos) [.Constant (.str y) j c0, .Constant (.str z) k c1] [] pos) (CwR.tReplC to y z) := ⟨CwR.pet_replC ho hyz hst hbase hline⟩
theorem tes_split {X : Cx} {o e : Expr} {to te : TE} {apos pos : Pos} (ho : TEs X o to) (he : PE X e te) (hs : starEach [e] X.env = [(false, eval e X.env)] := by rfl) (hbase : attributeBase o "split" X.env (eval o X.env) = eval o X.env := by rfl) (hline : (apos.endLine == pos.line) = true := by rfl) :
    TEs X (.Call (.Attribute o "split" apos) [e] [] pos) (tM1 (fun x xs H Q => ∃ a b, x = .str a ∧ xs = [.str b] ∧ (b.length == 0) = false ∧ a.length + 2 ≤ sizeLine ∧ rNewStrs (Txt.split a b) H Q) to te) := ⟨Tk74.pet_m1 PySem.F.slot_str_split PySem.F.type_str_split mt_split ho.run he hs hbase hline⟩
theorem bl1 : ((" " : Str)).length = 1 := by decide +kernel
def oth74 (y : Str) : List Str := [("00" : Str), ("07" : Str), ("-0" : Str), ("+1" : Str), ("1_0" : Str), ("" : Str), ("0" : Str), ("-1" : Str), ("9999" : Str), ("10000" : Str), ("1000000000" : Str), ("1000000001" : Str), Txt.mul "9" 60] ++ [Txt.mul "9" 61, ("abcdefghi" : Str), ("a" : Str), ("zzzzzzzz" : Str), ("A" : Str), ("-" : Str), ("some" : Str), ("look" : Str), ("swap" : Str), ("count" : Str), ("places" : Str)] ++ [y]
theorem oth74_ok {y z : Str} {B N : Nat} (ly : y.length ≤ B) (hB : 61 ≤ B) (ny : wt ten y ≤ N) (sy : Sm y) (h : z ∈ oth74 y) : z.length ≤ B ∧ wt ten z ≤ N ∧ Sm z := by
  have all : ∀ z ∈ [("00" : Str), ("07" : Str), ("-0" : Str), ("+1" : Str), ("1_0" : Str), ("" : Str), ("0" : Str), ("-1" : Str), ("9999" : Str), ("10000" : Str), ("1000000000" : Str), ("1000000001" : Str), Txt.mul "9" 60] ++ [Txt.mul "9" 61, ("abcdefghi" : Str), ("a" : Str), ("zzzzzzzz" : Str), ("A" : Str), ("-" : Str), ("some" : Str), ("look" : Str), ("swap" : Str), ("count" : Str), ("places" : Str)], z.length ≤ 61 ∧ wt ten z = 0 ∧ ∀ c ∈ z.cps.toList, c < 256 := by decide +kernel
  rcases List.mem_append.mp h with h | h
  · have a := all z h
    exact ⟨Nat.le_trans a.1 hB, by rw [a.2.1]; exact Nat.zero_le _, a.2.2⟩
  · rw [List.mem_singleton.mp h]
    exact ⟨ly, ny, sy⟩
def spWordBent : Sp := fun vs H Q _ => ∃ (p c : Addr) (n : Nat) (x : Str), vs = [.ref p, .str x] ∧ PenAt H p c n ∧ n ≤ 80000 ∧ x.length + 2 * wt ten x ≤ 20000 ∧ Sm x ∧
  ∀ (y : Str) (H' : Hp), y.length ≤ 2 * (x.length + 2 * wt ten x) + 63 → wt ten y ≤ 2 * wt ten x → Sm y → PenAt H' p c (n + 4) → But p H H' → Q (.str y) H'
section
variable {P : Program} {w : World} {K : PySem.W.Frag} {mg : Str → Option Value} {base : Heap}
abbrev sWordBentN : List Str := ["_law_pen_here", "_law_text_here", "_law_way", "_law_words_here", "_law_at", "_law_other", "_law_new", "_law_bent_here"]
theorem sc_sWordBent : FnScope sWordBentN ["_law_pen_here", "_law_text_here"] (defScope sWordBent) := ⟨rfl, rfl, rfl, by decide +kernel, rfl, by decide +kernel, by decide +kernel⟩
set_option maxHeartbeats 2000000 in
theorem ok_wordBent {f fT : Addr} {fd dT : FuncData} (F : Fun K "_law_word_bent" "_law_word_bent" sWordBent f fd) (T : TakeT P w K mg base fT dT) (ml : mg "len" = none) : FnOk P w K mg base CX0 2 f fd ["_law_pen_here", "_law_text_here"] spWordBent := by
  refine F.ok sc_sWordBent (fun vs H Q E h => ?_) (fun cdv A outer s H vs Q E hr h => ?_)
  · obtain ⟨p, c, n, x, rfl, _⟩ := h
    rfl
  · obtain ⟨p, c, n, x, rfl, pen, hn, lx, sm, qq⟩ := h
    have nd := sc_sWordBent.nd
    refine ⟨_, tss_start (i := 2) nd rfl (Or.inl rfl) (Tk74.peu_call T.ok hr (by rfl) T.g T.kp T.b .nil pass0 (Tk74.pau_next (pv 0) (Tk74.pau_here Tk74.peu_int pa_nil)))
      (tss_set (i := 3) nd rfl (Or.inl rfl) (tes_split (tes_replC (pv 1) (by decide +kernel)) pe_str)
      (tss_cons (ps_set (i := 4) nd rfl (Or.inl rfl) (pe_call T.ok hr (by rfl) T.g T.kp T.b .nil pass0 (pa_cons (pv 0) (pa_cons (pe_callB call_len_seq (by rfl) ml PySem.boot_len (pa_cons (pv 3) pa_nil)) pa_nil))))
      (tss_cons (ps_set (i := 5) nd rfl (Or.inl rfl) (pe_lst (pa_cons pe_str (pa_cons pe_str (pa_cons pe_str (pa_cons pe_str (pa_cons pe_str (pa_cons pe_str (pa_cons pe_str (pa_cons pe_str (pa_cons pe_str (pa_cons pe_str (pa_cons pe_str (pa_cons pe_str (pa_cons (pe_op op_mulS pe_str pe_int) pa_nil)))))))))))))))
      (tss_cons (ps_set (i := 5) nd rfl (Or.inl rfl) (pe_op op_cat (pv 5) (pe_lst (pa_cons (pe_op op_mulS pe_str pe_int) (pa_cons pe_str (pa_cons pe_str (pa_cons pe_str (pa_cons pe_str (pa_cons pe_str (pa_cons pe_str (pa_cons pe_str (pa_cons pe_str (pa_cons pe_str (pa_cons pe_str pa_nil))))))))))))))
      (tss_cons (ps_set (i := 6) nd rfl (Or.inl rfl) (pe_ix ix_list (pe_op op_cat (pv 5) (pe_lst (pa_cons (pe_ix ix_list (pv 3) (pe_op op_sub (pv 4) pe_int) (fun _ _ => rfl)) pa_nil))) (pe_call T.ok hr (by rfl) T.g T.kp T.b .nil pass0 (pa_cons (pv 0) (pa_cons (pe_op op_add (pe_callB call_len_seq (by rfl) ml PySem.boot_len (pa_cons (pv 5) pa_nil)) pe_int) pa_nil))) (fun _ _ => rfl)))
      (tss_cons (ps_set (i := 7) nd rfl (Or.inl rfl) (pe_lst (pa_cons (pe_op op_cat (pe_slice sl_list (pv 3) po_none (po_some (pv 4))) (pe_slice sl_list (pv 3) (po_some (pe_op op_add (pv 4) pe_int)) po_none)) (pa_cons (pe_op op_cat (pe_slice sl_list (pv 3) po_none (po_some (pe_op op_add (pv 4) pe_int))) (pe_slice sl_list (pv 3) (po_some (pv 4)) po_none)) (pa_cons (pe_op op_cat (pe_op op_cat (pe_slice sl_list (pv 3) po_none (po_some (pv 4))) (pe_lst (pa_cons (pv 6) pa_nil))) (pe_slice sl_list (pv 3) (po_some (pv 4)) po_none)) pa_nil)))))
      (tss_cons (ps_expr (pe_bm PySem.F.plainAttrs_list PySem.F.slot_list_append PySem.F.type_list_append mt_append (pv 7) (pa_cons (pe_op op_cat (pe_op op_cat (pe_slice sl_list (pv 3) po_none (po_some (pv 4))) (pe_lst (pa_cons (pv 6) pa_nil))) (pe_slice sl_list (pv 3) (po_some (pe_op op_add (pv 4) pe_int)) po_none)) pa_nil)))
      (tss_ret (tes_replC (pe_join pe_str (pe_ix ix_list (pv 7) (pv 2) (fun _ _ => rfl))) (by decide +kernel)))))))))), ?_⟩
    refine ⟨_, rfl, p, c, n, 4, rfl, pen, by omega, by decide, by decide, fun r1 H1 a1 b1 pen1 bt1 => ?_⟩
    have hz : ∀ {n : Nat}, n ≤ 800000 → n ≤ sizeLine := fun h => szBig (by omega)
    obtain ⟨rx1, rx2, rx3⟩ := repl_to x
    have rx3 := rx3 sm
    refine ⟨_, rfl, x, rfl, (by rw [show (" \n " : Str).length = 3 from by decide +kernel]; omega), ⟨_, rfl⟩, _, _, rfl, rfl, (by decide +kernel), hz (by show (Txt.replace x nlT nlW).length + 2 ≤ _; omega), fun wl nwl => ?_⟩
    generalize hx' : Txt.replace x (Str.ofString "\n") (Str.ofString " \n ") = x' at nwl ⊢
    replace hx' : Txt.replace x nlT nlW = x' := hx'
    rw [hx'] at rx1 rx2 rx3
    have wS := wts_split one x' (sep := " ") (by decide +kernel)
    have wT := wts_split ten x' (sep := " ") (by decide +kernel)
    rw [wt_one, wt_one, bl1] at wS
    rw [show wt ten " " = 0 from by decide +kernel] at wT
    obtain ⟨w0, wr, hw⟩ := split_cons x' (sep := " ") (by decide +kernel)
    have wsm : ∀ y ∈ Txt.split x' " ", Sm y := fun y hy => rx3.sub (split_sub hy)
    have wle : ∀ y ∈ Txt.split x' " ", y.length ≤ x'.length := fun y hy => split_len hy
    have wne : 1 ≤ (Txt.split x' " ").length := by rw [hw, List.length_cons]; omega
    generalize Txt.split x' " " = ws at wS wT wsm wle wne nwl ⊢
    have wlen : ws.length ≤ x'.length + 1 := by unfold wts at wS; omega
    have s2 := @same_new _ _ (.lst (ws.map V.str)) nwl
    have h2 : (upd H1 wl (.lst (ws.map V.str))) wl = some (.lst (ws.map V.str)) := upd_same
    generalize upd H1 wl (.lst (ws.map V.str)) = H2 at s2 h2 ⊢
    have pen2 := pen1.same s2
    have wlp : wl ≠ p := fun z => pen1.there (z ▸ nwl)
    have lm : (ws.map V.str).length = ws.length := List.length_map ..
    refine ⟨_, rfl, _, rfl, wl, _, rfl, .inl (SqL.of h2), p, c, n + 1, ((ws.map V.str).length : Int), rfl, pen2, by omega, by omega, by omega, fun r5 H5 a5 b5 pen5 bt5 => ?_⟩
    rw [lm] at b5
    have h5 := bt5 _ _ h2 wlp
    refine ⟨"9", 60, rfl, rfl, mulok60, (by show 13 ≤ sizeLine; decide), fun l1 nl1 => ?_⟩
    have s6 := @same_new _ _ (.lst [V.str "00", V.str "07", V.str "-0", V.str "+1", V.str "1_0", V.str "", V.str "0", V.str "-1", V.str "9999", V.str "10000", V.str "1000000000", V.str "1000000001", V.str (Txt.mul "9" 60)]) nl1
    have hl1 := @upd_same H5 l1 (.lst [V.str "00", V.str "07", V.str "-0", V.str "+1", V.str "1_0", V.str "", V.str "0", V.str "-1", V.str "9999", V.str "10000", V.str "1000000000", V.str "1000000001", V.str (Txt.mul "9" 60)])
    have h6 := s6 _ _ h5
    refine ⟨_, rfl, "9", 61, rfl, rfl, mulok61, (by show 11 ≤ sizeLine; decide), fun l2 nl2 => ?_⟩
    have s7 := @same_new _ _ (.lst [V.str (Txt.mul "9" 61), V.str "abcdefghi", V.str "a", V.str "zzzzzzzz", V.str "A", V.str "-", V.str "some", V.str "look", V.str "swap", V.str "count", V.str "places"]) nl2
    refine ⟨l1, l2, _, _, rfl, rfl, s7 _ _ hl1, upd_same, (by show 13 + 11 ≤ sizeLine; decide), fun l3 nl3 => ?_⟩
    have s8 := @same_new _ _ (.lst ([V.str "00", V.str "07", V.str "-0", V.str "+1", V.str "1_0", V.str "", V.str "0", V.str "-1", V.str "9999", V.str "10000", V.str "1000000000", V.str "1000000001", V.str (Txt.mul "9" 60)] ++ [V.str (Txt.mul "9" 61), V.str "abcdefghi", V.str "a", V.str "zzzzzzzz", V.str "A", V.str "-", V.str "some", V.str "look", V.str "swap", V.str "count", V.str "places"])) nl3
    have s58 := s6.trans (s7.trans s8)
    have hl3 : (upd (upd (upd H5 l1 (.lst [V.str "00", V.str "07", V.str "-0", V.str "+1", V.str "1_0", V.str "", V.str "0", V.str "-1", V.str "9999", V.str "10000", V.str "1000000000", V.str "1000000001", V.str (Txt.mul "9" 60)])) l2 (.lst [V.str (Txt.mul "9" 61), V.str "abcdefghi", V.str "a", V.str "zzzzzzzz", V.str "A", V.str "-", V.str "some", V.str "look", V.str "swap", V.str "count", V.str "places"])) l3 (.lst ([V.str "00", V.str "07", V.str "-0", V.str "+1", V.str "1_0", V.str "", V.str "0", V.str "-1", V.str "9999", V.str "10000", V.str "1000000000", V.str "1000000001", V.str (Txt.mul "9" 60)] ++ [V.str (Txt.mul "9" 61), V.str "abcdefghi", V.str "a", V.str "zzzzzzzz", V.str "A", V.str "-", V.str "some", V.str "look", V.str "swap", V.str "count", V.str "places"]))) l3 = some (.lst ([V.str "00", V.str "07", V.str "-0", V.str "+1", V.str "1_0", V.str "", V.str "0", V.str "-1", V.str "9999", V.str "10000", V.str "1000000000", V.str "1000000001", V.str (Txt.mul "9" 60)] ++ [V.str (Txt.mul "9" 61), V.str "abcdefghi", V.str "a", V.str "zzzzzzzz", V.str "A", V.str "-", V.str "some", V.str "look", V.str "swap", V.str "count", V.str "places"])) := upd_same
    generalize upd (upd (upd H5 l1 _) l2 _) l3 _ = H8 at s58 hl3 ⊢
    have h8 := s58 _ _ h5
    have pen8 := pen5.same s58
    have nep : ∀ {a : Addr} {xs : List V} {H : Hp} {n : Nat}, PenAt H p c n → H a = some (.lst xs) → a ≠ p := fun {a xs H n} pen h z => by
      obtain ⟨kvs, _, _, _, g1, _⟩ := pen.ex
      rw [z, g1] at h
      cases h
    obtain ⟨yv, hyv, myv⟩ := at_neg75 (xs := ws.map V.str) a5 (by rw [lm]; exact b5)
    obtain ⟨yo, myo, rfl⟩ := List.mem_map.mp myv
    refine ⟨_, rfl, _, rfl, _, rfl, r5, 1, rfl, rfl, wl, _, r5 - 1, _, rfl, rfl, SqL.of h8, hyv, (by show 1 ≤ sizeLine; decide), fun l4 nl4 => ?_⟩
    have s9 := @same_new _ _ (.lst [V.str yo]) nl4
    refine ⟨l3, l4, _, _, rfl, rfl, s9 _ _ hl3, upd_same, (by show 24 + 1 ≤ sizeLine; decide), fun l5 nl5 => ?_⟩
    have s10 := @same_new _ _ (.lst ([V.str "00", V.str "07", V.str "-0", V.str "+1", V.str "1_0", V.str "", V.str "0", V.str "-1", V.str "9999", V.str "10000", V.str "1000000000", V.str "1000000001", V.str (Txt.mul "9" 60)] ++ [V.str (Txt.mul "9" 61), V.str "abcdefghi", V.str "a", V.str "zzzzzzzz", V.str "A", V.str "-", V.str "some", V.str "look", V.str "swap", V.str "count", V.str "places"] ++ [V.str yo])) nl5
    have s810 := s9.trans s10
    have hl5 : (upd (upd H8 l4 (.lst [V.str yo])) l5 (.lst ([V.str "00", V.str "07", V.str "-0", V.str "+1", V.str "1_0", V.str "", V.str "0", V.str "-1", V.str "9999", V.str "10000", V.str "1000000000", V.str "1000000001", V.str (Txt.mul "9" 60)] ++ [V.str (Txt.mul "9" 61), V.str "abcdefghi", V.str "a", V.str "zzzzzzzz", V.str "A", V.str "-", V.str "some", V.str "look", V.str "swap", V.str "count", V.str "places"] ++ [V.str yo]))) l5 = some (.lst ((oth74 yo).map V.str)) := upd_same
    generalize upd (upd H8 l4 _) l5 _ = H10 at s810 hl5 ⊢
    have hl3b := s810 _ _ hl3
    have h10 := s810 _ _ h8
    have pen10 := pen8.same s810
    have l5p := nep pen10 hl5
    have wlp10 := nep pen10 h10
    have lo : ((oth74 yo).map V.str).length = 25 := by rw [List.length_map]; rfl
    refine ⟨_, rfl, _, rfl, l3, _, rfl, .inl (SqL.of hl3b), _, 1, rfl, rfl, p, c, n + 2, _, rfl, pen10, by omega, by show (1 : Int) ≤ ((24 : Nat) : Int) + 1; decide, by show ((24 : Nat) : Int) + 1 ≤ _; decide, fun r6 H9 a6 b6 pen9 bt9 => ?_⟩
    have hl9 := bt9 _ _ hl5 l5p
    have h9 := bt9 _ _ h10 wlp10
    replace b6 : r6 < 25 := b6
    obtain ⟨nv, hnv, mnv⟩ := at_ex75 (xs := (oth74 yo).map V.str) a6 (by rw [lo]; exact b6)
    obtain ⟨nw, mnw, rfl⟩ := List.mem_map.mp mnv
    have yten : wt ten yo ≤ wt ten x' := by
      have z := wts_mem (w := ten) (s := 0) myo
      omega
    obtain ⟨nwl', nwt, nws⟩ := oth74_ok (B := x'.length + 61) (N := wt ten x') (by have := wle yo myo; omega) (by omega) yten (wsm yo myo) mnw
    refine ⟨l5, _, r6, _, rfl, rfl, SqL.of hl9, hnv, ?_⟩
    obtain ⟨k, rfl⟩ : ∃ k : Nat, r5 = (k : Int) := ⟨r5.toNat, by omega⟩
    have g1 := List.length_take_le k ws
    refine sl_to rfl rfl h9 fun q1 H10 s10 e1 => ?_
    refine sl_from1 rfl rfl (s10 _ _ h9) fun q2 H11 s11 e2 => ?_
    refine cat_strs (s11 _ _ e1) e2 (by rw [List.length_take, List.length_drop]; omega) fun q3 H12 s12 e3 => ?_
    have s912 := s10.trans (s11.trans s12)
    refine sl_to1 rfl rfl (s912 _ _ h9) fun q4 H13 s13 e4 => ?_
    refine sl_from rfl rfl (s13 _ _ (s912 _ _ h9)) fun q5 H14 s14 e5 => ?_
    refine cat_strs (s14 _ _ e4) e5 (by rw [List.length_take, List.length_drop]; omega) fun q6 H15 s15 e6 => ?_
    have s1215 := s13.trans (s14.trans s15)
    have s915 := s912.trans s1215
    refine sl_to rfl rfl (s915 _ _ h9) fun q7 H16 s16 e7 => ?_
    refine lst_one rfl fun q8 H17 s17 e8 => ?_
    refine cat_strs (s17 _ _ e7) e8 (by rw [List.length_take, List.length_singleton]; omega) fun q9 H18 s18 e9 => ?_
    have s1518 := s16.trans (s17.trans s18)
    refine sl_from rfl rfl (s1518 _ _ (s915 _ _ h9)) fun q10 H19 s19 e10 => ?_
    refine cat_strs (s19 _ _ e9) e10 (by rw [List.length_append, List.length_take, List.length_drop, List.length_singleton]; omega) fun q11 H20 s20 e11 => ?_
    have s1520 := s1518.trans (s19.trans s20)
    have s920 := s915.trans s1520
    refine ⟨(by show 3 ≤ sizeLine; decide), fun bl nbl => ?_⟩
    have s21 := @same_new _ _ (.lst [V.ref q3, .ref q6, .ref q11]) nbl
    have hb := @upd_same H20 bl (.lst [V.ref q3, .ref q6, .ref q11])
    generalize upd H20 bl (.lst [V.ref q3, .ref q6, .ref q11]) = H21 at s21 hb ⊢
    have s921 := s920.trans s21
    refine ⟨_, rfl, .inl ⟨rfl, _, SqL.of hb⟩, ?_⟩
    refine sl_to rfl rfl (s921 _ _ h9) fun q12 H22 s22 e12 => ?_
    refine lst_one rfl fun q13 H23 s23 e13 => ?_
    refine cat_strs (s23 _ _ e12) e13 (by rw [List.length_take, List.length_singleton]; omega) fun q14 H24 s24 e14 => ?_
    have s2124 := s22.trans (s23.trans s24)
    refine sl_from1 rfl rfl (s2124 _ _ (s921 _ _ h9)) fun q15 H25 s25 e15 => ?_
    refine cat_strs (s25 _ _ e14) e15 (by rw [List.length_append, List.length_take, List.length_drop, List.length_singleton]; omega) fun q16 H26 s26 e16 => ?_
    have s2126 := s2124.trans (s25.trans s26)
    have hb26 := s2126 _ _ hb
    refine ⟨bl, _, _, rfl, rfl, hb26, (by show 3 < sizeLine; decide), ?_⟩
    have keep : ∀ {a : Addr} {xs : List Str}, H26 a = some (.lst (xs.map V.str)) → (upd H26 bl (.lst ([V.ref q3, .ref q6, .ref q11] ++ [V.ref q16]))) a = some (.lst (xs.map V.str)) := fun {a xs} e => (upd_ne (fun z => by
      rw [z, hb26] at e
      cases xs with
      | nil => exact nomatch (HO.lst.inj (Option.some.inj e))
      | cons y r => exact V.noConfusion (List.cons.inj (HO.lst.inj (Option.some.inj e))).1)).trans e
    have k3 := keep (s2126 _ _ (s21 _ _ (s1520 _ _ (s1215 _ _ e3))))
    have k6 := keep (s2126 _ _ (s21 _ _ (s1520 _ _ e6)))
    have k11 := keep (s2126 _ _ (s21 _ _ e11))
    have k16 := keep e16
    have hbn := @upd_same H26 bl (.lst ([V.ref q3, .ref q6, .ref q11] ++ [V.ref q16]))
    have nbl9 : H9 bl = none := s920.free nbl
    have blp : bl ≠ p := fun z => pen9.there (z ▸ nbl9)
    have fin : But p H9 (upd H26 bl (.lst ([V.ref q3, .ref q6, .ref q11] ++ [V.ref q16]))) ∧ PenAt (upd H26 bl (.lst ([V.ref q3, .ref q6, .ref q11] ++ [V.ref q16]))) p c (n + 2 + 1) := by
      have st : Same H9 (upd H26 bl (.lst ([V.ref q3, .ref q6, .ref q11] ++ [V.ref q16]))) := fun b o e => (upd_ne (ne_of_none e nbl9)).trans (s2126 _ _ (s921 _ _ e))
      exact ⟨fun b o e _ => st _ _ e, pen9.same st⟩
    generalize upd H26 bl (.lst ([V.ref q3, .ref q6, .ref q11] ++ [V.ref q16])) = H27 at k3 k6 k11 k16 hbn fin ⊢
    obtain ⟨v, hv, mv⟩ := at_ex75 (xs := [V.ref q3, .ref q6, .ref q11] ++ [V.ref q16]) (r := r1) a1 (by show r1 < 4; exact b1)
    have w1 := wts_two one 1 k ws
    have w2 := wts_two one 1 (k + 1) ws
    have t1 := wts_two ten 0 k ws
    have t2 := wts_two ten 0 (k + 1) ws
    have n1 := wts_one one 1 nw
    have n2 := wts_one ten 0 nw
    rw [wt_one] at n1
    have sT : ∀ k, ∀ y ∈ ws.take k, Sm y := fun k y hy => wsm y (List.mem_of_mem_take hy)
    have sD : ∀ k, ∀ y ∈ ws.drop k, Sm y := fun k y hy => wsm y (List.mem_of_mem_drop hy)
    have sN : ∀ y ∈ [nw], Sm y := fun y hy => by rw [List.mem_singleton.mp hy]; exact nws
    have sA : ∀ {a b : List Str}, (∀ y ∈ a, Sm y) → (∀ y ∈ b, Sm y) → ∀ y ∈ a ++ b, Sm y := fun ha hb y hy => (List.mem_append.mp hy).elim (ha y) (hb y)
    have md1 : wts one 1 (ws.drop (k + 1)) ≤ wts one 1 (ws.drop k) ∧ wts ten 0 (ws.drop (k + 1)) ≤ wts ten 0 (ws.drop k) := by
      have e : ws.drop (k + 1) = (ws.drop k).drop 1 := by rw [List.drop_drop]
      have z1 := wts_two one 1 1 (ws.drop k)
      have z2 := wts_two ten 0 1 (ws.drop k)
      rw [e]
      exact ⟨by omega, by omega⟩
    obtain ⟨q, ys, rfl, hq, wy, wz, sy⟩ : ∃ (q : Addr) (ys : List Str), v = .ref q ∧ H27 q = some (.lst (ys.map V.str)) ∧ wts one 1 ys ≤ 2 * x'.length + 63 ∧ wts ten 0 ys ≤ 2 * wt ten x' ∧ ∀ y ∈ ys, Sm y := by
      simp only [List.mem_append, List.mem_cons, List.not_mem_nil, or_false] at mv
      rcases mv with (rfl | rfl | rfl) | rfl
      · exact ⟨_, _, rfl, k3, by rw [wts_app]; omega, by rw [wts_app]; omega, sA (sT _) (sD _)⟩
      · exact ⟨_, _, rfl, k6, by rw [wts_app]; omega, by rw [wts_app]; omega, sA (sT _) (sD _)⟩
      · exact ⟨_, _, rfl, k11, by rw [wts_app, wts_app]; omega, by rw [wts_app, wts_app]; omega, sA (sA (sT _) sN) (sD _)⟩
      · exact ⟨_, _, rfl, k16, by rw [wts_app, wts_app]; omega, by rw [wts_app, wts_app]; omega, sA (sA (sT _) sN) (sD _)⟩
    have jl := wt_join_le one " " ys
    rw [wt_one, wt_one, bl1] at jl
    have jt := wt_join_le ten " " ys
    rw [show wt ten " " = 0 from by decide +kernel] at jt
    have js := Sm.join (sep := " ") (by unfold Sm; decide +kernel) sy
    have rb := repl_back (Txt.join " " ys)
    refine ⟨⟨_, rfl⟩, _, rfl, _, rfl, bl, _, r1, _, rfl, rfl, SqL.of hbn, hv, " ", q, ys, rfl, rfl, .inl (SqL.of hq), ?_, ?_⟩
    · rw [bl1]
      unfold wts at wy
      have : (ys.map (wt one)).sum = (ys.map (·.length)).sum := by congr 1; exact List.map_congr_left fun y _ => wt_one y
      exact szBig (by omega)
    · refine ⟨_, rfl, (by rw [show ("\n" : Str).length = 1 from by decide +kernel]; show (Txt.join " " ys).length + ((Txt.join " " ys).length + 1) * 1 ≤ _; omega), ?_⟩
      exact qq _ _ (Nat.le_trans rb.1 (by omega)) (Nat.le_trans rb.2.1 (by omega)) (rb.2.2 js) (fin.2.mono (by omega)) fun b o e ne => fin.1 _ _ (bt9 _ _ (s810 _ _ (s58 _ _ (bt5 _ _ (s2 _ _ (bt1 _ _ e ne)) ne))) ne) ne
end
/-! ### a text that is bent -/
abbrev sg75 : Str := " !\"#$&'()*+,-./0123456789:;<=>?@ABCDEFGHIJKLMNOPQRSTUVWXYZ[\\]^_`abcdefghijklmnopqrstuvwxyz{|}~\n"
theorem sg75_len : 1 ≤ sg75.length ∧ sg75.length ≤ 200 := by decide +kernel
theorem sg75_sm : Sm sg75 := by unfold Sm; decide +kernel
theorem sl_two {K : PySem.W.Frag} {σ : L2.St} {H : Hp} {Q : VK} {i j : Nat} {wl : Addr} {k : Nat} {ws : List Str} (h1 : σ[i]? = some (some (.ref wl))) (h2 : σ[j]? = some (some (.int (k : Int)))) (hw : H wl = some (.lst (ws.map V.str))) (hk : k ≤ ws.length)
    (go : ∀ q H', Same H H' → H' q = some (.lst (((ws.drop k).take 2).map V.str)) → Q (.ref q) H') : tSl (rSlL K) (tVar i) (tPart (tVar j)) (tPart (tOp (rI0 fun i j => .int (i + j)) (tVar j) (tC (V.int 2)))) σ H Q :=
  ⟨_, h1, _, h2, k, rfl, _, h2, k, 2, rfl, rfl, _, rfl, wl, _, rfl, SqL.of hw, fun q nq => go q _ (same_new nq) (by
    rw [upd_same, show ((k : Int) + 2) = ((k + 2 : Nat) : Int) from rfl]
    have e : cutV (ws.map V.str) (some (k : Int)) (some ((k + 2 : Nat) : Int)) = ((ws.map V.str).drop k).take 2 := by
      unfold cutV
      rw [HT.sIx_nat, HT.sIx_nat, List.length_map, Nat.min_eq_left hk]
      by_cases h : k + 2 ≤ ws.length
      · rw [Nat.min_eq_left h, Nat.add_sub_cancel_left]
      · rw [Nat.min_eq_right (by omega), List.take_of_length_le (by rw [List.length_drop, List.length_map]; omega), List.take_of_length_le (by rw [List.length_drop, List.length_map]; omega)]
    rw [e, List.map_take, List.map_drop])⟩
theorem sl_from2 {K : PySem.W.Frag} {σ : L2.St} {H : Hp} {Q : VK} {i j : Nat} {wl : Addr} {k : Nat} {ws : List Str} (h1 : σ[i]? = some (some (.ref wl))) (h2 : σ[j]? = some (some (.int (k : Int)))) (hw : H wl = some (.lst (ws.map V.str)))
    (go : ∀ q H', Same H H' → H' q = some (.lst ((ws.drop (k + 2)).map V.str)) → Q (.ref q) H') : tSl (rSlL K) (tVar i) (tPart (tOp (rI0 fun i j => .int (i + j)) (tVar j) (tC (V.int 2)))) tNoPart σ H Q :=
  ⟨_, h1, _, h2, k, 2, rfl, rfl, _, rfl, wl, _, rfl, SqL.of hw, fun q nq => go q _ (same_new nq) (by rw [upd_same, show ((k : Int) + 2) = ((k + 2 : Nat) : Int) from rfl, cut_tail, List.map_drop])⟩
theorem rev_strs {K : PySem.W.Frag} {σ : L2.St} {H : Hp} {Q : VK} {i : Nat} {wl : Addr} {ws : List Str} (h1 : σ[i]? = some (some (.ref wl))) (hw : H wl = some (.lst (ws.map V.str)))
    (go : ∀ q H', Same H H' → H' q = some (.lst (ws.reverse.map V.str)) → Q (.ref q) H') : tRevL K (tVar i) σ H Q :=
  ⟨_, h1, wl, _, rfl, SqL.of hw, fun q nq => go q _ (same_new nq) (by rw [upd_same, List.map_reverse])⟩
theorem wl_len (l : List Nat) : wl ten l ≤ l.length := by
  induction l with
  | nil => exact Nat.le_refl _
  | cons a r ih =>
    show ten a + wl ten r ≤ r.length + 1
    have : ten a ≤ 1 := by unfold ten; split <;> omega
    omega
theorem ten_len (x : Str) : wt ten x ≤ x.length := by
  have e : x.length = (TL.tl x).length := by simp [Str.length, TL.tl]
  rw [e]
  exact wl_len _
theorem wl_sub (w : Nat → Nat) (a b : Nat) (l : List Nat) : wl w ((l.drop a).take b) ≤ wl w l := by
  have h1 := wl_take w a l
  have h2 := wl_take w b (l.drop a)
  omega
theorem cut_ten (x : Str) (lo hi : Option Int) : wt ten (cutS x lo hi) ≤ wt ten x := by
  unfold cutS wt
  exact wl_sub _ _ _ _
def spBent : Sp := fun vs H Q _ => ∃ (p c : Addr) (n : Nat) (x : Str), vs = [.ref p, .str x] ∧ PenAt H p c n ∧ n ≤ 70000 ∧ 1 ≤ x.length ∧ x.length + 2 * wt ten x ≤ 20000 ∧ Sm x ∧
  ∀ (y : Str) (H' : Hp), y.length ≤ 2 * (x.length + 2 * wt ten x) + 63 → wt ten y ≤ 2 * wt ten x + 2 → Sm y → PenAt H' p c (n + 7) → But p H H' → Q (.str y) H'
section
variable {P : Program} {w : World} {K : PySem.W.Frag} {mg : Str → Option Value} {base : Heap}
abbrev sBentN : List Str := ["_law_pen_here", "_law_text_here", "_law_way", "_law_signs", "_law_sign", "_law_at", "_law_lines", "_law_more", "_law_two", "_law_some"]
theorem sc_sBent : FnScope sBentN ["_law_pen_here", "_law_text_here"] (defScope sBent) := ⟨rfl, rfl, rfl, by decide +kernel, rfl, by decide +kernel, by decide +kernel⟩
set_option maxHeartbeats 2000000 in
theorem ok_bent {f fT fW : Addr} {fd dT dW : FuncData} (F : Fun K "_law_bent" "_law_bent" sBent f fd) (T : TakeT P w K mg base fT dT) (WB : DefT P w K mg base "_law_word_bent" 2 fW dW ["_law_pen_here", "_law_text_here"] spWordBent) (ml : mg "len" = none) : FnOk P w K mg base CX0 3 f fd ["_law_pen_here", "_law_text_here"] spBent := by
  refine F.ok sc_sBent (fun vs H Q E h => ?_) (fun cdv A outer s H vs Q E hr h => ?_)
  · obtain ⟨p, c, n, x, rfl, _⟩ := h
    rfl
  · obtain ⟨p, c, n, x, rfl, pen, hn, l1, lx, sm, qq⟩ := h
    have nd := sc_sBent.nd
    have hu := hu_of hr
    have hr1 : Room 1 _ := hr.mono (by decide)
    refine ⟨_, pss_cons (ps_set (i := 2) nd rfl (Or.inl rfl) (pe_call T.ok hr1 (by rfl) T.g T.kp T.b .nil pass0 (pa_cons (pv 0) (pa_cons pe_int pa_nil))))
      (pss_cons (ps_set (i := 3) nd rfl (Or.inl rfl) pe_str)
      (pss_cons (ps_set (i := 4) nd rfl (Or.inl rfl) (pe_ix ix_str (pv 3) (pe_call T.ok hr1 (by rfl) T.g T.kp T.b .nil pass0 (pa_cons (pv 0) (pa_cons (pe_callB call_len_str (by rfl) ml PySem.boot_len (pa_cons (pv 3) pa_nil)) pa_nil))) (fun _ _ => rfl)))
      (pss_cons (ps_set (i := 5) nd rfl (Or.inl rfl) (pe_call T.ok hr1 (by rfl) T.g T.kp T.b .nil pass0 (pa_cons (pv 0) (pa_cons (pe_callB call_len_str (by rfl) ml PySem.boot_len (pa_cons (pv 1) pa_nil)) pa_nil))))
      (pss_cons (ps_if (pt_cmpR op_lt (pv 2) pe_int (nomark _)) (pss_one (ps_ret (pe_op op_add_str (pe_op op_add_str (pe_slice sl_str (pv 1) po_none (po_some (pv 5))) (pe_ix ix_list (pe_lst (pa_cons pe_str (pa_cons (pe_op op_mulS (pe_ix ix_str (pv 1) (pv 5) (fun _ _ => rfl)) pe_int) (pa_cons (pv 4) (pa_cons (pe_op op_add_str (pv 4) (pe_ix ix_str (pv 1) (pv 5) (fun _ _ => rfl))) pa_nil))))) (pv 2) (fun _ _ => rfl))) (pe_slice sl_str (pv 1) (po_some (pe_op op_add (pv 5) pe_int)) po_none)))) pss_nil)
      (pss_cons (ps_if (pt_cmpR op_lt (pv 2) pe_int (nomark _)) (pss_one (ps_ret (pe_call WB.ok hr (by rfl) WB.g WB.kp WB.b .nil pass0 (pa_cons (pv 0) (pa_cons (pv 1) pa_nil))))) pss_nil)
      (pss_cons (ps_set (i := 6) nd rfl (Or.inl rfl) (pe_split (pv 1) pe_str))
      (pss_cons (ps_set (i := 5) nd rfl (Or.inl rfl) (pe_call T.ok hr1 (by rfl) T.g T.kp T.b .nil pass0 (pa_cons (pv 0) (pa_cons (pe_callB call_len_seq (by rfl) ml PySem.boot_len (pa_cons (pv 6) pa_nil)) pa_nil))))
      (pss_cons (ps_set (i := 7) nd rfl (Or.inl rfl) (pe_ix ix_list (pe_lst (pa_cons pe_str (pa_cons pe_str (pa_cons pe_str (pa_cons (pe_ix ix_list (pv 6) pe_int (fun _ _ => rfl)) (pa_cons pe_str (pa_cons (pe_ix ix_list (pv 6) (pv 5) (fun _ _ => rfl)) (pa_cons pe_str pa_nil)))))))) (pe_call T.ok hr1 (by rfl) T.g T.kp T.b .nil pass0 (pa_cons (pv 0) (pa_cons pe_int pa_nil))) (fun _ _ => rfl)))
      (pss_cons (ps_set (i := 8) nd rfl (Or.inl rfl) (pe_slice sl_list (pv 6) (po_some (pv 5)) (po_some (pe_op op_add (pv 5) pe_int))))
      (pss_cons (ps_set (i := 9) nd rfl (Or.inl rfl) (pe_lst (pa_cons (pe_op op_cat (pe_slice sl_list (pv 6) po_none (po_some (pv 5))) (pe_slice sl_list (pv 6) (po_some (pe_op op_add (pv 5) pe_int)) po_none)) (pa_cons (pe_op op_cat (pe_slice sl_list (pv 6) po_none (po_some (pe_op op_add (pv 5) pe_int))) (pe_slice sl_list (pv 6) (po_some (pv 5)) po_none)) (pa_cons (pe_op op_cat (pe_op op_cat (pe_slice sl_list (pv 6) po_none (po_some (pv 5))) (pe_revL (pv 8))) (pe_slice sl_list (pv 6) (po_some (pe_op op_add (pv 5) pe_int)) po_none)) pa_nil)))))
      (pss_cons (ps_expr (pe_bm PySem.F.plainAttrs_list PySem.F.slot_list_append PySem.F.type_list_append mt_append (pv 9) (pa_cons (pe_op op_cat (pe_op op_cat (pe_slice sl_list (pv 6) po_none (po_some (pv 5))) (pe_lst (pa_cons (pv 7) pa_nil))) (pe_slice sl_list (pv 6) (po_some (pv 5)) po_none)) pa_nil)))
      (pss_one (ps_ret (pe_join pe_str (pe_ix ix_list (pv 9) (pe_op op_sub (pv 2) pe_int) (fun _ _ => rfl)))))))))))))))), ?_⟩
    refine ⟨_, rfl, p, c, n, 12, rfl, pen, by omega, by decide, by decide, fun r1 H1 a1 b1 pen1 bt1 => ?_⟩
    have hz : ∀ {n : Nat}, n ≤ 800000 → n ≤ sizeLine := fun h => szBig (by omega)
    have sl := sg75_len
    refine ⟨_, rfl, _, rfl, _, rfl, sg75, rfl, hz (by omega), p, c, n + 1, (sg75.length : Int), rfl, pen1, by omega, by omega, by omega, fun r2 H2 a2 b2 pen2 bt2 => ?_⟩
    obtain ⟨ch, hch, mch⟩ := at_ex75 (xs := sg75.cps.toList) a2 (by rw [Array.length_toList]; exact b2)
    refine ⟨sg75, r2, ch, rfl, rfl, hz (by omega), hch, ?_⟩
    have c256 : ch < 256 := sg75_sm ch mch
    refine ⟨_, rfl, _, rfl, x, rfl, hz (by omega), p, c, n + 2, (x.length : Int), rfl, pen2, by omega, by omega, by omega, fun r3 H3 a3 b3 pen3 bt3 => ?_⟩
    obtain ⟨cx, hcx, mcx⟩ := at_ex75 (xs := x.cps.toList) a3 (by rw [Array.length_toList]; exact b3)
    have x256 : cx < 256 := sm cx mcx
    have bt13 : But p H H3 := fun b o e ne => bt3 _ _ (bt2 _ _ (bt1 _ _ e ne) ne) ne
    refine ⟨_, rfl, r1, 4, rfl, rfl, _, rfl, ite2 (fun z => ?_) (fun z => ?_)⟩
    · have xz : x.length ≤ sizeLine := hz (by omega)
      have one : ∀ k : Nat, (⟨#[k]⟩ : Str).length = 1 := fun _ => rfl
      obtain ⟨y, hy, my⟩ : ∃ y : Str, atI ([("" : Str), Txt.mul ⟨#[cx]⟩ 2, ⟨#[ch]⟩, ⟨#[ch]⟩ ++ ⟨#[cx]⟩].map V.str) r1 = some (.str y) ∧ y ∈ [("" : Str), Txt.mul ⟨#[cx]⟩ 2, ⟨#[ch]⟩, ⟨#[ch]⟩ ++ ⟨#[cx]⟩] := by
        obtain ⟨v, hv, mv⟩ := at_ex75 (xs := [("" : Str), Txt.mul ⟨#[cx]⟩ 2, ⟨#[ch]⟩, ⟨#[ch]⟩ ++ ⟨#[cx]⟩].map V.str) a1 (by show r1 < 4; exact of_decide_eq_true z)
        obtain ⟨y, hy, rfl⟩ := List.mem_map.mp mv
        exact ⟨y, hv, hy⟩
      have yy : y.length ≤ 2 ∧ wt ten y ≤ 2 ∧ Sm y := by
        simp only [List.mem_cons, List.not_mem_nil, or_false] at my
        rcases my with rfl | rfl | rfl | rfl
        · exact ⟨by decide +kernel, by decide +kernel, by unfold Sm; decide +kernel⟩
        · rw [mul2]
          refine ⟨by show 2 ≤ 2; decide, Nat.le_trans (ten_len _) (by show 2 ≤ 2; decide), fun d hd => ?_⟩
          have hd' : d ∈ [cx, cx] := hd
          simp only [List.mem_cons, List.not_mem_nil, or_false, or_self] at hd'
          rw [hd']
          exact x256
        · exact ⟨by show 1 ≤ 2; decide, Nat.le_trans (ten_len _) (by show 1 ≤ 2; decide), .one c256⟩
        · exact ⟨by rw [app_len, one, one]; decide, Nat.le_trans (ten_len _) (by rw [app_len, one, one]; decide), (Sm.one c256).app (.one x256)⟩
      refine ⟨_, rfl, _, rfl, r3, rfl, x, rfl, xz, _, rfl, _, rfl, x, r3, cx, rfl, rfl, xz, hcx, ⟨#[cx]⟩, 2, rfl, rfl, mulok2 cx, _, rfl, _, rfl, _, rfl, _, rfl, x, r3, cx, rfl, rfl, xz, hcx, _, _, rfl, rfl, (by rw [one, one]; exact hz (by decide)), (by show 4 ≤ sizeLine; decide), fun l nl => ?_⟩
      have s4 := @same_new _ _ (.lst ([("" : Str), Txt.mul ⟨#[cx]⟩ 2, ⟨#[ch]⟩, ⟨#[ch]⟩ ++ ⟨#[cx]⟩].map V.str)) nl
      have lc1 := cutS_length x none (some r3)
      have lc2 := cutS_length x (some (r3 + 1)) none
      refine ⟨_, rfl, l, _, r1, _, rfl, rfl, SqL.of upd_same, hy, _, _, rfl, rfl, hz (by omega), _, rfl, _, rfl, r3, 1, rfl, rfl, _, rfl, x, rfl, xz, _, _, rfl, rfl, hz (by rw [app_len]; omega), ?_⟩
      exact qq _ _ (by rw [app_len, app_len]; omega) (by rw [wt_app, wt_app]; have := cut_ten x none (some r3); have := cut_ten x (some (r3 + 1)) none; omega) ((sm.cut.app yy.2.2).app sm.cut) ((pen3.same s4).mono (by omega)) fun b o e ne => s4 _ _ (bt13 _ _ e ne)
    · refine ⟨_, rfl, r1, 8, rfl, rfl, _, rfl, ite2 (fun z8 => ?_) (fun z8 => ?_)⟩
      · refine ⟨_, rfl, _, rfl, p, c, n + 3, x, rfl, pen3, by omega, by omega, sm, fun y H' ly ty sy penY bY => ?_⟩
        exact qq y H' (by omega) (by omega) sy (penY.mono (by omega)) fun b o e ne => bY _ _ (bt13 _ _ e ne) ne
      have z4 : 8 ≤ r1 := by
        have := of_decide_eq_false (Bool.eq_false_iff.mpr z8)
        omega
      refine ⟨_, rfl, ⟨_, rfl⟩, x, _, rfl, rfl, (by decide +kernel), hz (by omega), fun wl nwl => ?_⟩
      have wS := wts_split one x (sep := nlT) (by decide +kernel)
      have wT := wts_split ten x (sep := nlT) (by decide +kernel)
      rw [wt_one, wt_one, show nlT.length = 1 from by decide +kernel] at wS
      rw [show wt ten nlT = 1 from by decide +kernel] at wT
      obtain ⟨w0, wr, hw⟩ := split_cons x (sep := nlT) (by decide +kernel)
      have wsm : ∀ y ∈ Txt.split x nlT, Sm y := fun y hy => sm.sub (split_sub hy)
      have wle : ∀ y ∈ Txt.split x nlT, y.length ≤ x.length := fun y hy => split_len hy
      have wne : 1 ≤ (Txt.split x nlT).length := by rw [hw, List.length_cons]; omega
      replace hw : (Txt.split x nlT)[0]? = some w0 := by rw [hw]; rfl
      replace nwl : H3 wl = none := nwl
      show tSeq _ _ _ _ (upd H3 wl (.lst ((Txt.split x nlT).map V.str)))
      generalize Txt.split x nlT = ws at wS wT wsm wle wne hw
      have wlen : ws.length ≤ x.length + 1 := by unfold wts at wS; omega
      have s2 := @same_new _ _ (.lst (ws.map V.str)) nwl
      have h2 : (upd H3 wl (.lst (ws.map V.str))) wl = some (.lst (ws.map V.str)) := upd_same
      generalize upd H3 wl (.lst (ws.map V.str)) = H4 at s2 h2 ⊢
      have pen4 := pen3.same s2
      have wlp : wl ≠ p := fun z => pen3.there (z ▸ nwl)
      have lm : (ws.map V.str).length = ws.length := List.length_map ..
      refine ⟨_, rfl, _, rfl, wl, _, rfl, .inl (SqL.of h2), p, c, n + 3, ((ws.map V.str).length : Int), rfl, pen4, by omega, by omega, by omega, fun r5 H5 a5 b5 pen5 bt5 => ?_⟩
      rw [lm] at b5
      have h5 := bt5 _ _ h2 wlp
      have nep : ∀ {a : Addr} {xs : List V} {H : Hp} {n : Nat}, PenAt H p c n → H a = some (.lst xs) → a ≠ p := fun {a xs H n} pen h z => by
        obtain ⟨kvs, _, _, _, g1, _⟩ := pen.ex
        rw [z, g1] at h
        cases h
      obtain ⟨yv, hyv, myv⟩ := at_ex75 (xs := ws.map V.str) a5 (by rw [lm]; exact b5)
      obtain ⟨yo, myo, rfl⟩ := List.mem_map.mp myv
      have h0v : atI (ws.map V.str) 0 = some (.str w0) := atI_nat (j := 0) (by rw [List.getElem?_map, hw]; rfl)
      have m0 : w0 ∈ ws := List.mem_of_getElem? hw
      refine ⟨_, rfl, wl, _, 0, _, rfl, rfl, SqL.of h5, h0v, _, rfl, _, rfl, wl, _, r5, _, rfl, rfl, SqL.of h5, hyv, (by show 7 ≤ sizeLine; decide), fun l1 nl1 => ?_⟩
      have s6 := @same_new _ _ (.lst ([("" : Str), " ", "look", w0, "goods a", yo, "look zzzzzzzz 9999 a a"].map V.str)) nl1
      have hl1 : (upd H5 l1 (.lst ([("" : Str), " ", "look", w0, "goods a", yo, "look zzzzzzzz 9999 a a"].map V.str))) l1 = some (.lst ([("" : Str), " ", "look", w0, "goods a", yo, "look zzzzzzzz 9999 a a"].map V.str)) := upd_same
      show tCall _ _ _ _ _ (upd H5 l1 (.lst ([("" : Str), " ", "look", w0, "goods a", yo, "look zzzzzzzz 9999 a a"].map V.str))) _
      generalize upd H5 l1 (.lst ([("" : Str), " ", "look", w0, "goods a", yo, "look zzzzzzzz 9999 a a"].map V.str)) = H8 at s6 hl1 ⊢
      have h8 := s6 _ _ h5
      have pen8 := pen5.same s6
      refine ⟨_, rfl, p, c, n + 4, 7, rfl, pen8, by omega, by decide, by decide, fun r6 H9 a6 b6 pen9 bt9 => ?_⟩
      have hl9 := bt9 _ _ hl1 (nep pen8 hl1)
      have h9 := bt9 _ _ h8 (nep pen8 h8)
      obtain ⟨nv, hnv, mnv⟩ := at_ex75 (xs := [("" : Str), " ", "look", w0, "goods a", yo, "look zzzzzzzz 9999 a a"].map V.str) a6 (by show r6 < 7; exact b6)
      obtain ⟨nw, mnw, rfl⟩ := List.mem_map.mp mnv
      have tenOf : ∀ y ∈ ws, wt ten y + 1 ≤ wt ten x + 1 := fun y hy => by
        have z := wts_mem (w := ten) (s := 1) hy
        omega
      obtain ⟨nwl', nwt, nws⟩ : nw.length ≤ x.length + 22 ∧ wt ten nw ≤ wt ten x ∧ Sm nw := by
        have all : ∀ z ∈ [("" : Str), " ", "look", "goods a", "look zzzzzzzz 9999 a a"], z.length ≤ 22 ∧ wt ten z = 0 ∧ ∀ c ∈ z.cps.toList, c < 256 := by decide +kernel
        have fix : ∀ z ∈ [("" : Str), " ", "look", "goods a", "look zzzzzzzz 9999 a a"], z.length ≤ x.length + 22 ∧ wt ten z ≤ wt ten x ∧ Sm z := fun z hz => ⟨by have := (all z hz).1; omega, by have := (all z hz).2.1; omega, (all z hz).2.2⟩
        have mem : ∀ z ∈ ws, z.length ≤ x.length + 22 ∧ wt ten z ≤ wt ten x ∧ Sm z := fun z hz => ⟨by have := wle z hz; omega, by have := tenOf z hz; omega, wsm z hz⟩
        simp only [List.mem_cons, List.not_mem_nil, or_false] at mnw
        rcases mnw with rfl | rfl | rfl | rfl | rfl | rfl | rfl
        · exact fix _ (by simp)
        · exact fix _ (by simp)
        · exact fix _ (by simp)
        · exact mem _ m0
        · exact fix _ (by simp)
        · exact mem _ myo
        · exact fix _ (by simp)
      refine ⟨l1, _, r6, _, rfl, rfl, SqL.of hl9, hnv, ?_⟩
      obtain ⟨k, rfl⟩ : ∃ k : Nat, r5 = (k : Int) := ⟨r5.toNat, by omega⟩
      have g1 := List.length_take_le k ws
      refine sl_two rfl rfl h9 (by omega) fun q0 H9' s9' e0 => ?_
      have h9' := s9' _ _ h9
      refine sl_to rfl rfl h9' fun q1 H10 s10 e1 => ?_
      refine sl_from1 rfl rfl (s10 _ _ h9') fun q2 H11 s11 e2 => ?_
      refine cat_strs (s11 _ _ e1) e2 (by rw [List.length_take, List.length_drop]; omega) fun q3 H12 s12 e3 => ?_
      have s912 := s10.trans (s11.trans s12)
      refine sl_to1 rfl rfl (s912 _ _ h9') fun q4 H13 s13 e4 => ?_
      refine sl_from rfl rfl (s13 _ _ (s912 _ _ h9')) fun q5 H14 s14 e5 => ?_
      refine cat_strs (s14 _ _ e4) e5 (by rw [List.length_take, List.length_drop]; omega) fun q6 H15 s15 e6 => ?_
      have s1215 := s13.trans (s14.trans s15)
      have s915 := s912.trans s1215
      refine sl_to rfl rfl (s915 _ _ h9') fun q7 H16 s16 e7 => ?_
      refine rev_strs rfl (s16 _ _ (s915 _ _ e0)) fun q8 H17 s17 e8 => ?_
      refine cat_strs (s17 _ _ e7) e8 (by rw [List.length_take, List.length_reverse, List.length_take, List.length_drop]; omega) fun q9 H18 s18 e9 => ?_
      have s1518 := s16.trans (s17.trans s18)
      refine sl_from2 rfl rfl (s1518 _ _ (s915 _ _ h9')) fun q10 H19 s19 e10 => ?_
      refine cat_strs (s19 _ _ e9) e10 (by rw [List.length_append, List.length_take, List.length_reverse, List.length_take, List.length_drop, List.length_drop]; omega) fun q11 H20 s20 e11 => ?_
      have s1520 := s1518.trans (s19.trans s20)
      have s920 := s915.trans s1520
      refine ⟨(by show 3 ≤ sizeLine; decide), fun bl nbl => ?_⟩
      have s21 := @same_new _ _ (.lst [V.ref q3, .ref q6, .ref q11]) nbl
      have hb := @upd_same H20 bl (.lst [V.ref q3, .ref q6, .ref q11])
      generalize upd H20 bl (.lst [V.ref q3, .ref q6, .ref q11]) = H21 at s21 hb ⊢
      have s921 := s920.trans s21
      refine ⟨_, rfl, .inl ⟨rfl, _, SqL.of hb⟩, ?_⟩
      refine sl_to rfl rfl (s921 _ _ h9') fun q12 H22 s22 e12 => ?_
      refine lst_one rfl fun q13 H23 s23 e13 => ?_
      refine cat_strs (s23 _ _ e12) e13 (by rw [List.length_take, List.length_singleton]; omega) fun q14 H24 s24 e14 => ?_
      have s2124 := s22.trans (s23.trans s24)
      refine sl_from rfl rfl (s2124 _ _ (s921 _ _ h9')) fun q15 H25 s25 e15 => ?_
      refine cat_strs (s25 _ _ e14) e15 (by rw [List.length_append, List.length_take, List.length_drop, List.length_singleton]; omega) fun q16 H26 s26 e16 => ?_
      have s2126 := s2124.trans (s25.trans s26)
      have hb26 := s2126 _ _ hb
      refine ⟨bl, _, _, rfl, rfl, hb26, (by show 3 < sizeLine; decide), ?_⟩
      have keep : ∀ {a : Addr} {xs : List Str}, H26 a = some (.lst (xs.map V.str)) → (upd H26 bl (.lst ([V.ref q3, .ref q6, .ref q11] ++ [V.ref q16]))) a = some (.lst (xs.map V.str)) := fun {a xs} e => (upd_ne (fun z => by
        rw [z, hb26] at e
        cases xs with
        | nil => exact nomatch (HO.lst.inj (Option.some.inj e))
        | cons y r => exact V.noConfusion (List.cons.inj (HO.lst.inj (Option.some.inj e))).1)).trans e
      have k3 := keep (s2126 _ _ (s21 _ _ (s1520 _ _ (s1215 _ _ e3))))
      have k6 := keep (s2126 _ _ (s21 _ _ (s1520 _ _ e6)))
      have k11 := keep (s2126 _ _ (s21 _ _ e11))
      have k16 := keep e16
      have hbn := @upd_same H26 bl (.lst ([V.ref q3, .ref q6, .ref q11] ++ [V.ref q16]))
      have nbl9 : H9 bl = none := (s9'.trans s920).free nbl
      have blp : bl ≠ p := fun z => pen9.there (z ▸ nbl9)
      have fin : But p H9 (upd H26 bl (.lst ([V.ref q3, .ref q6, .ref q11] ++ [V.ref q16]))) ∧ PenAt (upd H26 bl (.lst ([V.ref q3, .ref q6, .ref q11] ++ [V.ref q16]))) p c (n + 4 + 1) := by
        have st : Same H9 (upd H26 bl (.lst ([V.ref q3, .ref q6, .ref q11] ++ [V.ref q16]))) := fun b o e => (upd_ne (ne_of_none e nbl9)).trans (s2126 _ _ (s921 _ _ (s9' _ _ e)))
        exact ⟨fun b o e _ => st _ _ e, pen9.same st⟩
      generalize upd H26 bl (.lst ([V.ref q3, .ref q6, .ref q11] ++ [V.ref q16])) = H27 at k3 k6 k11 k16 hbn fin ⊢
      obtain ⟨v, hv, mv⟩ := at_ex75 (xs := [V.ref q3, .ref q6, .ref q11] ++ [V.ref q16]) (r := r1 - 8) (by omega) (by show r1 - 8 < 4; omega)
      have w1 := wts_two one 1 k ws
      have w2 := wts_two one 1 (k + 1) ws
      have t1 := wts_two ten 1 k ws
      have t2 := wts_two ten 1 (k + 1) ws
      have n1 := wts_one one 1 nw
      have n2 := wts_one ten 1 nw
      rw [wt_one] at n1
      have sT : ∀ k, ∀ y ∈ ws.take k, Sm y := fun k y hy => wsm y (List.mem_of_mem_take hy)
      have sD : ∀ k, ∀ y ∈ ws.drop k, Sm y := fun k y hy => wsm y (List.mem_of_mem_drop hy)
      have sN : ∀ y ∈ [nw], Sm y := fun y hy => by rw [List.mem_singleton.mp hy]; exact nws
      have sR : ∀ y ∈ ((ws.drop k).take 2).reverse, Sm y := fun y hy => sD k y (List.mem_of_mem_take (List.mem_reverse.mp hy))
      have sA : ∀ {a b : List Str}, (∀ y ∈ a, Sm y) → (∀ y ∈ b, Sm y) → ∀ y ∈ a ++ b, Sm y := fun ha hb y hy => (List.mem_append.mp hy).elim (ha y) (hb y)
      have md1 : wts one 1 (ws.drop (k + 1)) ≤ wts one 1 (ws.drop k) ∧ wts ten 1 (ws.drop (k + 1)) ≤ wts ten 1 (ws.drop k) := by
        have e : ws.drop (k + 1) = (ws.drop k).drop 1 := by rw [List.drop_drop]
        have z1 := wts_two one 1 1 (ws.drop k)
        have z2 := wts_two ten 1 1 (ws.drop k)
        rw [e]
        exact ⟨by omega, by omega⟩
      have md2 : wts one 1 ((ws.drop k).take 2).reverse + wts one 1 (ws.drop (k + 2)) = wts one 1 (ws.drop k) ∧ wts ten 1 ((ws.drop k).take 2).reverse + wts ten 1 (ws.drop (k + 2)) = wts ten 1 (ws.drop k) := by
        have e : ws.drop (k + 2) = (ws.drop k).drop 2 := by rw [List.drop_drop]
        rw [e, wts_rev, wts_rev]
        exact ⟨wts_two one 1 2 (ws.drop k), wts_two ten 1 2 (ws.drop k)⟩
      obtain ⟨q, ys, rfl, hq, wy, wz, sy⟩ : ∃ (q : Addr) (ys : List Str), v = .ref q ∧ H27 q = some (.lst (ys.map V.str)) ∧ wts one 1 ys ≤ 2 * x.length + 63 ∧ wts ten 1 ys ≤ 2 * wt ten x + 2 ∧ ∀ y ∈ ys, Sm y := by
        simp only [List.mem_append, List.mem_cons, List.not_mem_nil, or_false] at mv
        rcases mv with (rfl | rfl | rfl) | rfl
        · exact ⟨_, _, rfl, k3, by rw [wts_app]; omega, by rw [wts_app]; omega, sA (sT _) (sD _)⟩
        · exact ⟨_, _, rfl, k6, by rw [wts_app]; omega, by rw [wts_app]; omega, sA (sT _) (sD _)⟩
        · exact ⟨_, _, rfl, k11, by rw [wts_app, wts_app]; omega, by rw [wts_app, wts_app]; omega, sA (sA (sT _) sR) (sD _)⟩
        · exact ⟨_, _, rfl, k16, by rw [wts_app, wts_app]; omega, by rw [wts_app, wts_app]; omega, sA (sA (sT _) sN) (sD _)⟩
      have jl := wt_join_le one nlT ys
      rw [wt_one, wt_one, show nlT.length = 1 from by decide +kernel] at jl
      have jt := wt_join_le ten nlT ys
      rw [show wt ten nlT = 1 from by decide +kernel] at jt
      have js := Sm.join (sep := nlT) (by unfold Sm; decide +kernel) sy
      refine ⟨⟨_, rfl⟩, _, rfl, _, rfl, r1, 8, rfl, rfl, bl, _, r1 - 8, _, rfl, rfl, SqL.of hbn, hv, nlT, q, ys, rfl, rfl, .inl (SqL.of hq), ?_, ?_⟩
      · rw [show nlT.length = 1 from by decide +kernel]
        unfold wts at wy
        have : (ys.map (wt one)).sum = (ys.map (·.length)).sum := by congr 1; exact List.map_congr_left fun y _ => wt_one y
        exact szBig (by omega)
      · exact qq _ _ (by omega) (by omega) js (fin.2.mono (by omega)) fun b o e ne => fin.1 _ _ (bt9 _ _ (s6 _ _ (bt5 _ _ (s2 _ _ (bt13 _ _ e ne)) ne)) ne) ne
end
/-! ### whether a text is taken as it must be -/
def spRight (Ts : List Addr) : Sp := fun vs H Q _ => ∃ x : Str, vs = [.str x] ∧ x.length ≤ 16000 ∧ PyData.strOk x = true ∧ TabsG Ts H ∧ ∀ H', TB1 Ts H H' → Q (.bl true) H'
section
variable {P : Program} {w : World} {K : PySem.W.Frag} {mg : Str → Option Value} {base : Heap}
abbrev sLRightN : List Str := ["_law_text_here", "_law_due", "_law_found"]
theorem sc_sLRight : FnScope sLRightN ["_law_text_here"] (defScope sLRight) := ⟨rfl, rfl, rfl, by decide +kernel, rfl, by decide +kernel, by decide +kernel⟩
set_option maxHeartbeats 2000000 in
theorem ok_right {f fB fL fH fR C : Addr} {fd dB dL dH dR : FuncData} {Ts : List Addr} (F : Fun K "_law_right" "_law_right" sLRight f fd)
    (BL : DefT P w K mg base "_law_bad_line" 5 fB dB ["_law_text_here"] spBadLine) (LT : DefT P w K mg base "_law_line_told" 8 fL dL ["_law_thing"] (spLineTold K Ts))
    (HT : DefT P w K mg base "house_text" 3 fH dH ["house"] (spHouseText Ts)) (RH : DefT P w K mg base "read_house" 7 fR dR ["text"] (fun vs H Q _ => spReadHouseA K Ts C vs H Q (fun _ _ _ => False))) :
    FnOk P w K mg base CX0 9 f fd ["_law_text_here"] (spRight Ts) := by
  refine F.ok sc_sLRight (fun vs H Q E h => ?_) (fun cdv A outer s H vs Q E hr h => ?_)
  · obtain ⟨x, rfl, _⟩ := h
    rfl
  · obtain ⟨x, rfl, l16, so, tg, q⟩ := h
    have nd := sc_sLRight.nd
    have hr3 : Room 3 _ := hr.mono (by decide)
    have hr5 : Room 5 _ := hr.mono (by decide)
    have hr7 : Room 7 _ := hr.mono (by decide)
    refine ⟨_, pss_cons (ps_set (i := 1) nd rfl (Or.inl rfl) (pe_call BL.ok hr5 (by rfl) BL.g BL.kp BL.b .nil pass0 (pa_cons (pv 0) pa_nil)))
      (pss_cons (ps_set (i := 2) nd rfl (Or.inl rfl) (pe_call LT.ok hr (by rfl) LT.g LT.kp LT.b .nil pass0 (pa_cons (pv 0) pa_nil)))
      (pss_cons (ps_if (pt_cmpR op_ge (pv 1) pe_int (nomark _)) (pss_one (ps_ret (pe_cmpR op_eq (pv 2) (pv 1) (nomark _)))) pss_nil)
      (pss_one (ps_ret (pe_and (pe_cmpR op_isN (pv 2) pe_non (by rfl)) (pe_one (pe_cmpR op_eq (pe_call HT.ok hr3 (by rfl) HT.g HT.kp HT.b .nil pass0 (pa_cons (pe_call RH.ok hr7 (by rfl) RH.g RH.kp RH.b .nil pass0 (pa_cons (pv 0) pa_nil)) pa_nil)) (pv 0) (nomark _)))))))), ?_⟩
    refine ⟨_, rfl, x, rfl, l16, so, fun H1 s1 => ?_⟩
    have b1 : TB1 Ts H H1 := .same tg s1
    cases hrd : readM x with
    | inl k =>
      rw [badM_l hrd]
      refine ⟨_, rfl, .str x, rfl, b1.1, .inl ⟨x, rfl, l16, fun r z => (by rw [hrd] at z; cases z), fun k' z H2 b2 => ?_⟩⟩
      rw [hrd] at z
      obtain rfl : k = k' := Sum.inl.inj z
      refine ⟨_, rfl, (k : Int), 0, rfl, rfl, true, congrArg V.bl (decide_eq_true (Int.ofNat_nonneg k)), iteT ⟨_, rfl, _, rfl, rfl, ?_⟩⟩
      rw [decide_eq_true rfl]
      exact q H2 (b1.tr b2)
    | inr r =>
      obtain ⟨Ps, Gs, es⟩ := r
      rw [badM_r hrd]
      obtain ⟨gd, m30, hx⟩ := readM_good hrd
      refine ⟨_, rfl, .str x, rfl, b1.1, .inl ⟨x, rfl, l16, fun r z H2 b2 => ?_, fun k' z => (by rw [hrd] at z; cases z)⟩⟩
      have b12 := b1.tr b2
      refine ⟨_, rfl, -1, 0, rfl, rfl, false, rfl, iteF ?_⟩
      refine ⟨_, rfl, rfl, true, congrArg V.bl (decide_eq_true rfl), iteT ?_⟩
      refine ⟨_, rfl, .str x, rfl, b12.1, .inl ⟨x, rfl, l16, fun P' G' es' z' h H3 b3 ho => ?_, fun k' z' => (by rw [hrd] at z'; cases z')⟩⟩
      rw [hrd] at z'
      cases z'
      have b13 := b12.tr b3
      refine ⟨h, Ps, Gs, es, _, rfl, ho, gd, m30, b13.1, fun H4 b4 => ⟨_, rfl, rfl, ?_⟩⟩
      rw [decide_eq_true (congrArg V.str hx.symm)]
      exact q H4 (b13.tr b4)
end
/-! ### a promise that may raise, where it doesn't -/
theorem FnOk.calm {P : Program} {w : World} {K : PySem.W.Frag} {mg : Str → Option Value} {base : Heap} {k : Nat} {f : Addr} {fd : FuncData} {ps : List Str} {sp : Sp} (F : FnOk P w K mg base (L2.CX P w) k f fd ps sp) : FnOk P w K mg base CX0 k f fd ps (fun vs H Q _ => sp vs H Q (fun _ _ _ => False)) :=
  ⟨fun vs H Q E h => F.len vs H Q _ h, fun A outer s H args us vs Q E hr he hb hv hs => codeAny_mono (F.run A outer s H args us vs Q _ hr he hb hv hs) fun r s' h => by
    cases r with
    | ok fl => cases fl <;> exact h
    | error e =>
      obtain ⟨_, _, _, _, _, _, _, _, _, _, _, _, hE⟩ := h
      exact False.elim hE⟩
/-! ### what the law needs -/
theorem PenAt.tb {Ts : List Addr} {H H' : Hp} {p c : Addr} {n : Nat} (pen : PenAt H p c n) (b : TB1 Ts H H') : PenAt H' p c n := by
  obtain ⟨kvs, ns, a, x, g1, g2, g3, g4, g5, g6, g7⟩ := pen.ex
  exact ⟨kvs, ns, a, x, b.2 _ _ g1 fun _ z => (nomatch z), g2, g3, g4, g5, b.2 _ _ g6 fun _ z => (nomatch z), g7⟩
theorem tabs_but {Ts : List Addr} {H H' : Hp} {p c : Addr} {n : Nat} (pen : PenAt H p c n) (b : But p H H') (t : TabsG Ts H) : TabsG Ts H' := fun T hT => by
  obtain ⟨kvs, ns, a, x, g1, _⟩ := pen.ex
  obtain ⟨ps, e, ok⟩ := t T hT
  exact ⟨ps, b T _ e (ne_of e g1 (by intro z; cases z)), ok⟩
theorem tk_but {H H' : Hp} {p c : Addr} {n : Nat} (pen : PenAt H p c n) (b : But p H H') : TK H H' := fun a xs e => by
  obtain ⟨kvs, ns, u, x, g1, _⟩ := pen.ex
  exact b a _ e (ne_of e g1 (by intro z; cases z))
theorem tk_upd {H : Hp} {l : Addr} {xs : List V} {o : HO} (e : H l = some (.lst xs)) : TK H (upd H l o) := fun a ys h => (upd_ne (ne_of h e (by intro z; cases z))).trans h
theorem ne_same {x : V} : V.bl (!decide (x = x)) = .bl false := by
  rw [decide_eq_true rfl]
  rfl
theorem nostr_of {K : PySem.W.Frag} {H : Hp} {v : V} (t : Thg H v) (ns : ∀ z, v ≠ .str z) : NoStr K H v := by
  obtain ⟨n, ty, mn, e1, _⟩ := t.ty (K := K)
  refine ⟨n, ty, ?_⟩
  rw [kit_str mn, decide_eq_false]
  exact fun z => by
    obtain ⟨y, hy⟩ := e1.mp z
    exact ns y hy
theorem cln_sm {y : Str} (h : Cln y) : Sm y := fun c hc => (h.k c hc).1
theorem wl_no {l : List Nat} (h : 10 ∉ l) : wl ten l = 0 := by
  induction l with
  | nil => rfl
  | cons a r ih =>
    show ten a + wl ten r = 0
    rw [ih fun z => h (List.mem_cons_of_mem _ z)]
    unfold ten
    rw [if_neg (fun z : a = 10 => h (z ▸ List.mem_cons_self))]
theorem wts_zero {ls : List Str} (h : ∀ y ∈ ls, wt ten y = 0) : wts ten 1 ls = ls.length := by
  induction ls with
  | nil => rfl
  | cons a r ih =>
    have e : wts ten 1 (a :: r) = wts ten 1 [a] + wts ten 1 r := wts_app ten 1 [a] r
    rw [e, wts_one, ih fun y hy => h y (List.mem_cons_of_mem _ hy), h a List.mem_cons_self, List.length_cons]
    omega
theorem ent_len98 {e : Ent} (h : ∀ v ∈ e.vals, PartOk v) : (entT e).length ≤ 98 := by
  have s := sum_le (xs := e.vals.map partT) (B := 13) fun y hy => by
    obtain ⟨v, hv, rfl⟩ := List.mem_map.mp hy
    exact (part_cln (h v hv)).2
  have l := join_len " " (e.vals.map partT)
  have l7 : e.vals.length ≤ 7 := by cases e <;> exact Nat.le_of_ble_eq_true rfl
  rw [bl1] at l
  rw [List.length_map] at s l
  show (Txt.join " " (e.vals.map partT)).length ≤ 98
  omega
/-- the lines of a house -/
theorem lines_facts {P G : List Str} {es : List Ent} {m : Nat} (gd : Good P G es m) : ∀ y ∈ linesT P G es, (y.length ≤ 98) ∧ 10 ∉ TL.tl y ∧ Sm y := by
  have sb : Sm " " := by unfold Sm; decide +kernel
  have names : ∀ (w : Str) (N : List Str), w ∈ words2 → N.length ≤ 6 → (∀ y ∈ N, nameB y = true) → (Txt.join " " (w :: N)).length ≤ 98 ∧ 10 ∉ TL.tl (Txt.join " " (w :: N)) ∧ Sm (Txt.join " " (w :: N)) := fun w N hw l6 hn => by
    have cl : ∀ y ∈ w :: N, Cln y := fun y hy => by
      rcases List.mem_cons.mp hy with rfl | hy
      · exact (words2_ok _ hw).2
      · exact cln_name (hn y hy)
    have ll : ∀ y ∈ w :: N, y.length ≤ 8 := fun y hy => by
      rcases List.mem_cons.mp hy with rfl | hy
      · exact (words2_ok _ hw).1
      · exact (name_len (hn y hy)).2
    have s := sum_le ll
    have l := join_len " " (w :: N)
    rw [bl1] at l
    rw [List.length_cons] at s l
    exact ⟨by omega, line_cln cl, Sm.join sb fun y hy => cln_sm (cl y hy)⟩
  intro y hy
  rcases List.mem_cons.mp hy with rfl | hy
  · exact names _ _ (by simp [words2]) gd.le gd.nm
  rcases List.mem_cons.mp hy with rfl | hy
  · exact names _ _ (by simp [words2]) (Nat.le_trans gd.gl (by decide)) gd.gn
  · obtain ⟨e, he, rfl⟩ := List.mem_map.mp hy
    have ok := gd.parts e he
    have cl : ∀ y ∈ e.vals.map partT, Cln y := fun y hy => by
      obtain ⟨v, hv, rfl⟩ := List.mem_map.mp hy
      exact (part_cln (ok v hv)).1
    exact ⟨ent_len98 ok, line_cln cl, Sm.join sb fun y hy => cln_sm (cl y hy)⟩
theorem house_facts {P G : List Str} {es : List Ent} {m : Nat} (gd : Good P G es m) (m30 : m ≤ 30) : (houseT P G es).length ≤ 3200 ∧ 1 ≤ (houseT P G es).length ∧ wt ten (houseT P G es) ≤ 31 ∧ Sm (houseT P G es) := by
  have lf := lines_facts gd
  have ll : (linesT P G es).length ≤ 32 := by
    have := gd.many
    show ((es.map entT).length + 1 + 1) ≤ 32
    rw [List.length_map]
    omega
  have s := sum_le (xs := linesT P G es) (B := 98) fun y hy => (lf y hy).1
  have l := join_len nlT (linesT P G es)
  rw [show nlT.length = 1 from by decide +kernel] at l
  have t := wt_join ten nlT (ls := linesT P G es) (by unfold linesT; simp)
  rw [show wt ten nlT = 1 from by decide +kernel, wts_zero fun y hy => wl_no (lf y hy).2.1] at t
  refine ⟨by show (Txt.join nlT (linesT P G es)).length ≤ 3200; have : (linesT P G es).length * 98 ≤ 32 * 98 := Nat.mul_le_mul_right _ ll; omega, ?_, by show wt ten (Txt.join nlT (linesT P G es)) ≤ 31; omega, Sm.join (by unfold Sm; decide +kernel) fun y hy => (lf y hy).2.2⟩
  have e := readM_house gd m30
  have h0 := wt_one (houseT P G es)
  have hs := wt_join one nlT (ls := linesT P G es) (by unfold linesT; simp)
  rw [show wt one nlT = 1 from by decide +kernel] at hs
  have h2 : 2 ≤ wts one 1 (linesT P G es) := by
    unfold wts linesT
    simp only [List.length_cons]
    omega
  show 1 ≤ (houseT P G es).length
  rw [← h0]
  show 1 ≤ wt one (Txt.join nlT (linesT P G es))
  omega
def Ok74 (y : Str) : Prop := y.length ≤ 16000 ∧ Sm y
/-- between two texts that come to the law's list -/
structure JT (Ts : List Addr) (l p c : Addr) (n B : Nat) (H0 H : Hp) : Prop where
  pen : PenAt H p c n
  tg : TabsG Ts H
  tk : TK H0 H
  ls : ∃ ys : List Str, H l = some (.lst (ys.map V.str)) ∧ ys.length ≤ B ∧ ∀ y ∈ ys, Ok74 y
theorem JT.but {Ts : List Addr} {l p c : Addr} {n n' B : Nat} {H0 H H' : Hp} (j : JT Ts l p c n B H0 H) (lp : l ≠ p) (pen : PenAt H' p c n') (b : But p H H') : JT Ts l p c n' B H0 H' := by
  obtain ⟨ys, h1, h2, h3⟩ := j.ls
  exact ⟨pen, tabs_but j.pen b j.tg, j.tk.tr (tk_but j.pen b), ys, b _ _ h1 lp, h2, h3⟩
theorem JT.put {Ts : List Addr} {l p c : Addr} {n B : Nat} {H0 H : Hp} {ys : List Str} {y : Str} (j : JT Ts l p c n B H0 H) (lp : l ≠ p) (lc : l ≠ c) (h : H l = some (.lst (ys.map V.str))) (lb : ys.length ≤ B) (ok : ∀ y ∈ ys, Ok74 y) (oy : Ok74 y) : JT Ts l p c n (B + 1) H0 (upd H l (.lst (ys.map V.str ++ [V.str y]))) :=
  ⟨j.pen.upd lp lc, tabs_upd j.tg h, j.tk.tr (tk_upd h), ys ++ [y], by rw [upd_same, List.map_append]; rfl, by rw [List.length_append, List.length_singleton]; omega, fun z hz => by
    rcases List.mem_append.mp hz with hz | hz
    · exact ok z hz
    · rw [List.mem_singleton.mp hz]
      exact oy⟩
/-! ### the law -/
theorem sl_toC {K : PySem.W.Frag} {σ : L2.St} {H : Hp} {Q : VK} {i : Nat} {wl : Addr} {ws : List Str} (k : Nat) (h1 : σ[i]? = some (some (.ref wl))) (hw : H wl = some (.lst (ws.map V.str)))
    (go : ∀ q H', Same H H' → H' q = some (.lst ((ws.take k).map V.str)) → Q (.ref q) H') : tSl (rSlL K) (tVar i) tNoPart (tPart (tC (V.int (k : Int)))) σ H Q :=
  ⟨_, h1, k, rfl, wl, _, rfl, SqL.of hw, fun q nq => go q _ (same_new nq) (by rw [upd_same, cut_head, List.map_take])⟩
theorem sl_fromC {K : PySem.W.Frag} {σ : L2.St} {H : Hp} {Q : VK} {i : Nat} {wl : Addr} {ws : List Str} (k : Nat) (h1 : σ[i]? = some (some (.ref wl))) (hw : H wl = some (.lst (ws.map V.str)))
    (go : ∀ q H', Same H H' → H' q = some (.lst ((ws.drop k).map V.str)) → Q (.ref q) H') : tSl (rSlL K) (tVar i) (tPart (tC (V.int (k : Int)))) tNoPart σ H Q :=
  ⟨_, h1, k, rfl, wl, _, rfl, SqL.of hw, fun q nq => go q _ (same_new nq) (by rw [upd_same, cut_tail, List.map_drop])⟩
section
variable {P : Program} {w : World} {K : PySem.W.Frag} {mg : Str → Option Value} {base : Heap}
abbrev sLawN : List Str := ["_law_script", "_law_pen_here", "_law_many_here", "_law_house_here", "_law_text_here", "_law_last", "_law_lines", "_law_more", "_law_turn", "_law_bent_here", "_law_thing"]
theorem sc_sLaw : FnScope sLawN ["_law_script"] (defScope sLaw) := ⟨rfl, rfl, rfl, by decide +kernel, rfl, by decide +kernel, by decide +kernel⟩
def spLaw (K : PySem.W.Frag) (Ts : List Addr) : Sp := fun vs H Q _ => ∃ (a : Addr) (ns : List Int), vs = [.ref a] ∧ SqL K H a (ns.map V.int) ∧ TabsG Ts H ∧ ∀ H', Q (.bl true) H'
set_option maxHeartbeats 8000000 in
theorem ok_law {f : Addr} {fd : FuncData} (F : Fun K "law" "law" sLaw f fd) {Ts : List Addr}
    {fP fT fO fX fB fR fL fQ C : Addr} {dP dT dO dX dB dR dL dQ : FuncData}
    (GP : DefT P w K mg base "_law_pen" 1 fP dP ["_law_script"] (spPen K)) (T : TakeT P w K mg base fT dT)
    (HS : DefT P w K mg base "_law_house" 5 fO dO ["_law_pen_here", "_law_many_here"] spHouse)
    (LX : DefT P w K mg base "_law_text" 2 fX dX ["_law_house_here"] spText)
    (B : DefT P w K mg base "_law_bent" 3 fB dB ["_law_pen_here", "_law_text_here"] spBent)
    (R : DefT P w K mg base "_law_right" 9 fR dR ["_law_text_here"] (spRight Ts))
    (LT : DefT P w K mg base "_law_line_told" 8 fL dL ["_law_thing"] (spLineTold K Ts))
    (RH : DefT P w K mg base "read_house" 7 fQ dQ ["text"] (fun vs H Q _ => spReadHouseA K Ts C vs H Q (fun _ _ _ => False)))
    (mp : mg "repr" = none) (mr : mg "range" = none) : FnG P w K mg base 10 f fd ["_law_script"] (spLaw K Ts) := by
  refine Fun.okG F sc_sLaw (fun vs H Q E h => ?_) (fun cdv A outer s H vs Q E hG hr h => ?_)
  · obtain ⟨a, ns, rfl, _⟩ := h
    rfl
  · obtain ⟨a, ns, rfl, hS, tg, q⟩ := h
    have hr2 : Room 2 _ := hr.mono (by decide)
    have nd := sc_sLaw.nd
    have hr1 : Room 1 _ := hr.mono (by decide)
    have hr2 : Room 2 _ := hr.mono (by decide)
    have hr3 : Room 3 _ := hr.mono (by decide)
    have hr5 : Room 5 _ := hr.mono (by decide)
    have hr7 : Room 7 _ := hr.mono (by decide)
    have hr8 : Room 8 _ := hr.mono (by decide)
    refine ⟨_, pss_cons (ps_set (i := 1) nd rfl (Or.inl rfl) (pe_call GP.ok hr1 (by rfl) GP.g GP.kp GP.b .nil pass0 (pa_cons (pv 0) pa_nil)))
      (pss_cons (ps_set (i := 2) nd rfl (Or.inl rfl) (pe_ix ix_list (pe_lst (pa_cons pe_int (pa_cons pe_int (pa_cons (pe_op op_add pe_int (pe_call T.ok hr1 (by rfl) T.g T.kp T.b .nil pass0 (pa_cons (pv 1) (pa_cons pe_int pa_nil)))) (pa_cons (pe_op op_add pe_int (pe_call T.ok hr1 (by rfl) T.g T.kp T.b .nil pass0 (pa_cons (pv 1) (pa_cons pe_int pa_nil)))) pa_nil))))) (pe_call T.ok hr1 (by rfl) T.g T.kp T.b .nil pass0 (pa_cons (pv 1) (pa_cons pe_int pa_nil))) (fun _ _ => rfl)))
      (pss_cons (ps_set (i := 3) nd rfl (Or.inl rfl) (pe_call HS.ok hr5 (by rfl) HS.g HS.kp HS.b .nil pass0 (pa_cons (pv 1) (pa_cons (pv 2) pa_nil))))
      (pss_cons (ps_set (i := 4) nd rfl (Or.inl rfl) (pe_call LX.ok hr2 (by rfl) LX.g LX.kp LX.b .nil pass0 (pa_cons (pv 3) pa_nil)))
      (pss_cons (ps_set (i := 5) nd rfl (Or.inl rfl) (pe_op op_add_str (pe_op op_add_str (pe_op op_add_str pe_str (pe_ix ix_tup (pe_ix ix_tup (pv 3) pe_int (fun _ _ => rfl)) pe_int (fun _ _ => rfl))) pe_str) (pe_ix ix_tup (pe_ix ix_tup (pv 3) pe_int (fun _ _ => rfl)) pe_int (fun _ _ => rfl))))
      (pss_cons (ps_set (i := 6) nd rfl (Or.inl rfl) (pe_split (pv 4) pe_str))
      (pss_cons (ps_set (i := 7) nd rfl (Or.inl rfl) (pe_lst (pa_cons (pv 4) (pa_cons (pe_op op_add_str (pe_op op_add_str (pv 4) pe_str) (pv 5)) (pa_cons (pe_op op_add_str (pv 4) pe_str) (pa_cons (pe_op op_add_str pe_str (pv 4)) (pa_cons (pe_ix ix_list (pv 6) pe_int (fun _ _ => rfl)) (pa_cons pe_str (pa_cons pe_str pa_nil)))))))))
      (pss_cons (ps_set (i := 7) nd rfl (Or.inl rfl) (pe_op op_cat (pv 7) (pe_lst (pa_cons (pe_op op_add_str (pe_op op_add_str (pe_op op_add_str (pe_ix ix_list (pv 6) pe_int (fun _ _ => rfl)) pe_str) (pe_ix ix_list (pv 6) pe_int (fun _ _ => rfl))) pe_str) (pa_cons (pe_join pe_str (pe_op op_cat (pe_slice sl_list (pv 6) po_none (po_some pe_int)) (pe_slice sl_list (pv 6) (po_some pe_int) po_none))) pa_nil)))))
      (pss_cons (ps_set (i := 7) nd rfl (Or.inl rfl) (pe_op op_cat (pv 7) (pe_lst (pa_cons pe_str (pa_cons pe_str pa_nil)))))
      (pss_cons (ps_expr (pe_bm PySem.F.plainAttrs_list PySem.F.slot_list_append PySem.F.type_list_append mt_append (pv 7) (pa_cons pe_str pa_nil)))
      (pss_cons (ps_for PassesOwn.never rfl (pi_range1 rfl mr (pa_cons pe_int pa_nil)) (pg_name (i := 8) nd rfl (Or.inl rfl))
        (pss_cons (ps_set (i := 9) nd rfl (Or.inl rfl) (pe_call B.ok hr3 (by rfl) B.g B.kp B.b .nil pass0 (pa_cons (pv 1) (pa_cons (pv 4) pa_nil))))
        (pss_cons (ps_expr (pe_bm PySem.F.plainAttrs_list PySem.F.slot_list_append PySem.F.type_list_append mt_append (pv 7) (pa_cons (pv 9) pa_nil)))
        (pss_one (ps_if (pt_cmpR op_ne (pv 9) pe_str (nomark _)) (pss_one (ps_expr (pe_bm PySem.F.plainAttrs_list PySem.F.slot_list_append PySem.F.type_list_append mt_append (pv 7) (pa_cons (pe_call B.ok hr3 (by rfl) B.g B.kp B.b .nil pass0 (pa_cons (pv 1) (pa_cons (pv 9) pa_nil))) pa_nil)))) pss_nil)))))
      (pss_cons (ps_for PassesOwn.never rfl (pi_list (pv 7)) (pg_name (i := 10) nd rfl (Or.inl rfl))
        (pss_one (ps_if (pt_not (pt_val (pe_call R.ok hr (by rfl) R.g R.kp R.b .nil pass0 (pa_cons (pv 10) pa_nil)))) (pss_one (ps_ret pe_bl)) pss_nil)))
      (pss_cons (ps_for PassesOwn.never rfl (pi_list (pe_lst (pa_cons pe_non (pa_cons pe_int (pa_cons pe_bl (pa_cons (pe_lst (pa_cons (pv 4) pa_nil)) (pa_cons (pe_tup (pa_cons (pv 4) pa_nil)) (pa_cons pe_dnewK (pa_cons (pv 3) pa_nil))))))))) (pg_name (i := 10) nd rfl (Or.inl rfl))
        (pss_one (ps_if (pt_cmpR op_ne (pe_call LT.ok hr8 (by rfl) LT.g LT.kp LT.b .nil pass0 (pa_cons (pv 10) pa_nil)) pe_int (nomark _)) (pss_one (ps_ret pe_bl)) pss_nil)))
      (pss_one (ps_ret (pe_cmpR op_eq (pe_callB (cr_repr hG hr.units) (by rfl) mp (by decide +kernel) (pa_cons (pe_call RH.ok hr7 (by rfl) RH.g RH.kp RH.b .nil pass0 (pa_cons (pv 4) pa_nil)) pa_nil)) (pe_callB (cr_repr hG hr.units) (by rfl) mp (by decide +kernel) (pa_cons (pv 3) pa_nil)) (nomark _)))))))))))))))), ?_⟩
    refine ⟨_, rfl, a, ns, rfl, hS, fun p c H1 np nc pen1 sm1 => ?_⟩
    refine ⟨_, rfl, p, c, 0, 8, rfl, pen1, by omega, by decide, by decide, fun r1 H2 a1 c1 pen2 bt2 => ⟨1, r1, rfl, rfl, _, rfl, p, c, 1, 8, rfl, pen2, by omega, by decide, by decide, fun r2 H3 a2 c2 pen3 bt3 => ⟨1, r2, rfl, rfl, (by show 4 ≤ sizeLine; decide), fun l nl => ?_⟩⟩⟩
    have sl := @same_new _ _ (.lst [V.int 29, .int 30, .int (1 + r1), .int (1 + r2)]) nl
    refine ⟨_, rfl, p, c, 2, 4, rfl, pen3.same sl, by omega, by decide, by decide, fun r3 H5 a3 c3 pen5 bt5 => ?_⟩
    have nlp : l ≠ p := fun z => pen3.there (z ▸ nl)
    obtain ⟨mo, hm1, hm2⟩ := at_ints (ns := [29, 30, 1 + r1, 1 + r2]) (r := r3) a3 (by show r3 < 4; omega)
    refine ⟨l, _, _, _, rfl, rfl, SqL.of (bt5 l _ upd_same nlp), hm1, ?_⟩
    have hmo : 0 ≤ mo ∧ mo ≤ 30 := by
      simp only [List.mem_cons, List.not_mem_nil, or_false] at hm2
      rcases hm2 with rfl | rfl | rfl | rfl <;> omega
    obtain ⟨m, rfl⟩ : ∃ m : Nat, mo = m := ⟨mo.toNat, (Int.toNat_of_nonneg hmo.1).symm⟩
    have m30 : m ≤ 30 := by omega
    have tg5 : TabsG Ts H5 := tabs_but (pen3.same sl) bt5 (tabs_sm sl (tabs_but pen2 bt3 (tabs_but pen1 bt2 (tabs_sm sm1 tg))))
    refine ⟨_, rfl, _, rfl, p, c, _, m, rfl, pen5, by omega, m30, fun h Ps G es H6 ho gd pen6 bt6 => ?_⟩
    have tg6 : TabsG Ts H6 := tabs_but pen5 bt6 tg5
    have sh := gd.short (by omega)
    refine ⟨_, rfl, h, Ps, G, es, m, rfl, ho, gd, m30, fun H7 s7 => ?_⟩
    have ho7 := ho.on (TK.of s7)
    have tg7 := tabs_sm s7 tg6
    have pen7 := pen6.same s7
    have rdt := readM_house gd m30
    obtain ⟨xl, x1, xt, xs⟩ := house_facts gd m30
    have lf := lines_facts gd
    have hsp : Txt.split (houseT Ps G es) nlT = linesT Ps G es := split_lines (by unfold linesT; simp) fun y hy => (lf y hy).2.1
    obtain ⟨hp, hg, he, tps, g1, g2, g3, g4, g5⟩ := ho7.ex
    obtain ⟨p0, pr, eP⟩ : ∃ p0 pr, Ps = p0 :: pr := by
      cases e : Ps with
      | nil => exact absurd e gd.ne
      | cons a r => exact ⟨a, r, rfl⟩
    obtain ⟨q0, qr, eG⟩ : ∃ q0 qr, G = q0 :: qr := by
      cases e : G with
      | nil => exact absurd e gd.ge
      | cons a r => exact ⟨a, r, rfl⟩
    have np0 := gd.nm p0 (by rw [eP]; exact List.mem_cons_self)
    have nq0 := gd.gn q0 (by rw [eG]; exact List.mem_cons_self)
    have lp0 := (name_len np0).2
    have lq0 := (name_len nq0).2
    have smp := cln_sm (cln_name np0)
    have smq := cln_sm (cln_name nq0)
    have at1 : atI (G.map V.str) 0 = some (.str q0) := by rw [eG]; exact atI_nat (j := 0) rfl
    have at0 : atI (Ps.map V.str) 0 = some (.str p0) := by rw [eP]; exact atI_nat (j := 0) rfl
    have hz : ∀ {n : Nat}, n ≤ 800000 → n ≤ sizeLine := fun h => szBig (by omega)
    have lk : ("look zzzzzzzz 9999 " : Str).length = 19 := by decide +kernel
    have sk : Sm "look zzzzzzzz 9999 " := by unfold Sm; decide +kernel
    have sb : Sm " " := by unfold Sm; decide +kernel
    have sn : Sm nlT := by unfold Sm; decide +kernel
    have ln : nlT.length = 1 := by decide +kernel
    refine ⟨_, rfl, h, _, 1, _, rfl, rfl, SqT.of g1, atI_nat (j := 1) rfl, hg, _, 0, _, rfl, rfl, SqT.of g3, at1, _, _, rfl, rfl, hz (by rw [lk]; omega), _, _, rfl, rfl, hz (by rw [app_len, lk, bl1]; omega), _, rfl, h, _, 0, _, rfl, rfl, SqT.of g1, atI_nat (j := 0) rfl, hp, _, 0, _, rfl, rfl, SqT.of g2, at0, _, _, rfl, rfl, hz (by rw [app_len, app_len, lk, bl1]; omega), ?_⟩
    have lla : ("look zzzzzzzz 9999 " ++ q0 ++ " " ++ p0 : Str).length ≤ 36 := by rw [app_len, app_len, app_len, lk, bl1]; omega
    have sla : Sm ("look zzzzzzzz 9999 " ++ q0 ++ " " ++ p0) := ((sk.app smq).app sb).app smp
    generalize ("look zzzzzzzz 9999 " ++ q0 ++ " " ++ p0 : Str) = la at lla sla ⊢
    obtain ⟨l0, l1, lr, hws⟩ : ∃ l0 l1 lr, linesT Ps G es = l0 :: l1 :: lr := ⟨_, _, _, rfl⟩
    have wsn := lf
    rw [hws] at wsn hsp
    obtain ⟨l0l, _, l0s⟩ := wsn l0 (by simp)
    obtain ⟨l1l, _, l1s⟩ := wsn l1 (by simp)
    have wS := wts_split one (houseT Ps G es) (sep := nlT) (by decide +kernel)
    rw [wt_one, wt_one, ln, hsp] at wS
    generalize hx : houseT Ps G es = x at *
    refine ⟨_, rfl, ⟨_, rfl⟩, x, _, rfl, rfl, (by decide +kernel), hz (by omega), fun wl nwl => ?_⟩
    replace nwl : H7 wl = none := nwl
    show tSeq _ _ _ _ (upd H7 wl (.lst ((Txt.split x nlT).map V.str)))
    rw [hsp]
    have s8 := @same_new _ _ (.lst ((l0 :: l1 :: lr).map V.str)) nwl
    have h8 := @upd_same H7 wl (.lst ((l0 :: l1 :: lr).map V.str))
    generalize upd H7 wl (.lst ((l0 :: l1 :: lr).map V.str)) = H8 at s8 h8 ⊢
    have i0 : atI ((l0 :: l1 :: lr).map V.str) 0 = some (.str l0) := atI_nat (j := 0) rfl
    have i1 : atI ((l0 :: l1 :: lr).map V.str) 1 = some (.str l1) := atI_nat (j := 1) rfl
    refine ⟨_, rfl, _, rfl, _, _, rfl, rfl, hz (by show x.length + nlT.length ≤ _; omega), _, rfl, _, _, rfl, rfl, hz (by show (x ++ nlT).length + la.length ≤ _; rw [app_len]; omega), _, rfl, _, _, rfl, rfl, hz (by show x.length + nlT.length ≤ _; omega), _, rfl, _, _, rfl, rfl, hz (by show nlT.length + x.length ≤ _; omega), _, rfl, wl, _, 0, _, rfl, rfl, SqL.of h8, i0, (by show 7 ≤ sizeLine; decide), fun m1 nm1 => ?_⟩
    have T1 : H8 m1 = none := nm1
    have s9 := @same_new _ _ (.lst ([x, x ++ nlT ++ la, x ++ nlT, nlT ++ x, l0, "", "places"].map V.str)) nm1
    have h9 := @upd_same H8 m1 (.lst ([x, x ++ nlT ++ la, x ++ nlT, nlT ++ x, l0, "", "places"].map V.str))
    show tSeq _ _ _ _ (upd H8 m1 (.lst ([x, x ++ nlT ++ la, x ++ nlT, nlT ++ x, l0, "", "places"].map V.str)))
    generalize upd H8 m1 (.lst ([x, x ++ nlT ++ la, x ++ nlT, nlT ++ x, l0, "", "places"].map V.str)) = H9 at s9 h9 ⊢
    have h89 := s9 _ _ h8
    refine ⟨_, rfl, ?_⟩
    refine ⟨_, rfl, wl, _, 0, _, rfl, rfl, SqL.of h89, i0, _, _, rfl, rfl, hz (by show l0.length + nlT.length ≤ _; omega), _, rfl, wl, _, 1, _, rfl, rfl, SqL.of h89, i1, _, _, rfl, rfl, hz (by show (l0 ++ nlT).length + l1.length ≤ _; rw [app_len]; omega), _, _, rfl, rfl, hz (by show (l0 ++ nlT ++ l1).length + (" " : Str).length ≤ _; rw [app_len, app_len, bl1]; omega), ⟨_, rfl⟩, ?_⟩
    refine sl_toC 1 rfl h89 fun q1 H10 s10 e1 => ?_
    refine sl_fromC 2 rfl (s10 _ _ h89) fun q2 H11 s11 e2 => ?_
    have lws : (l0 :: l1 :: lr).length ≤ x.length + 1 := by unfold wts at wS; omega
    refine cat_strs (s11 _ _ e1) e2 (by have := List.length_take_le 1 (l0 :: l1 :: lr); rw [List.length_drop]; omega) fun q3 H12 s12 e3 => ?_
    have wJ : wts one 1 ((l0 :: l1 :: lr).take 1 ++ (l0 :: l1 :: lr).drop 2) ≤ x.length + 1 := by
      have z1 := wts_two one 1 1 (l0 :: l1 :: lr)
      have z2 : wts one 1 ((l0 :: l1 :: lr).drop 1) = wts one 1 [l1] + wts one 1 ((l0 :: l1 :: lr).drop 2) := wts_app one 1 [l1] lr
      rw [wts_app]
      omega
    have sJ : ∀ y ∈ (l0 :: l1 :: lr).take 1 ++ (l0 :: l1 :: lr).drop 2, Sm y := fun y hy => (List.mem_append.mp hy).elim (fun h => (wsn y (List.mem_of_mem_take h)).2.2) fun h => (wsn y (List.mem_of_mem_drop h)).2.2
    generalize (l0 :: l1 :: lr).take 1 ++ (l0 :: l1 :: lr).drop 2 = js at e3 wJ sJ
    have jl := wt_join_le one nlT js
    rw [wt_one, wt_one, ln] at jl
    have jS := Sm.join sn sJ
    refine ⟨nlT, q3, js, rfl, rfl, .inl (SqL.of e3), ?_, (by show 2 ≤ sizeLine; decide), fun m2 nm2 => ?_⟩
    · rw [ln]
      unfold wts at wJ
      have : (js.map (wt one)).sum = (js.map (·.length)).sum := by congr 1; exact List.map_congr_left fun y _ => wt_one y
      exact hz (by omega)
    have s912 := s10.trans (s11.trans s12)
    have s13 := @same_new _ _ (.lst ([l0 ++ nlT ++ l1 ++ " ", Txt.join nlT js].map V.str)) nm2
    have h13 := @upd_same H12 m2 (.lst ([l0 ++ nlT ++ l1 ++ " ", Txt.join nlT js].map V.str))
    show rCat _ _ (upd H12 m2 (.lst ([l0 ++ nlT ++ l1 ++ " ", Txt.join nlT js].map V.str))) _
    generalize upd H12 m2 (.lst ([l0 ++ nlT ++ l1 ++ " ", Txt.join nlT js].map V.str)) = H13 at s13 h13 ⊢
    have s913 := s912.trans s13
    refine cat_strs (s913 _ _ h9) h13 (by show 7 + 2 ≤ 800000; decide) fun m3 H14 s14 h14 => ?_
    refine ⟨_, rfl, (by show 2 ≤ sizeLine; decide), fun m4 nm4 => ?_⟩
    have s15 := @same_new _ _ (.lst ([("places a b c d e f g\ngoods h" : Str), "places a b c d e f\ngoods a b c d"].map V.str)) nm4
    have h15 := @upd_same H14 m4 (.lst ([("places a b c d e f g\ngoods h" : Str), "places a b c d e f\ngoods a b c d"].map V.str))
    show rCat _ _ (upd H14 m4 (.lst ([("places a b c d e f g\ngoods h" : Str), "places a b c d e f\ngoods a b c d"].map V.str))) _
    generalize upd H14 m4 (.lst ([("places a b c d e f g\ngoods h" : Str), "places a b c d e f\ngoods a b c d"].map V.str)) = H15 at s15 h15 ⊢
    refine ⟨m3, m4, _, _, rfl, rfl, s15 _ _ h14, h15, (by show 9 + 2 ≤ sizeLine; decide), fun M nM => ?_⟩
    have s16 := @same_new _ _ (.lst (([x, x ++ nlT ++ la, x ++ nlT, nlT ++ x, l0, "", "places"] ++ [l0 ++ nlT ++ l1 ++ " ", Txt.join nlT js] ++ [("places a b c d e f g\ngoods h" : Str), "places a b c d e f\ngoods a b c d"]).map V.str)) nM
    have h16 := @upd_same H15 M (.lst (([x, x ++ nlT ++ la, x ++ nlT, nlT ++ x, l0, "", "places"] ++ [l0 ++ nlT ++ l1 ++ " ", Txt.join nlT js] ++ [("places a b c d e f g\ngoods h" : Str), "places a b c d e f\ngoods a b c d"]).map V.str))
    show tSeq _ _ _ _ (upd H15 M (.lst (([x, x ++ nlT ++ la, x ++ nlT, nlT ++ x, l0, "", "places"] ++ [l0 ++ nlT ++ l1 ++ " ", Txt.join nlT js] ++ [("places a b c d e f g\ngoods h" : Str), "places a b c d e f\ngoods a b c d"]).map V.str)))
    have lit : ∀ z ∈ [("" : Str), "places", "places a b c d e f g\ngoods h", "places a b c d e f\ngoods a b c d", "places a b c d e f\ngoods a b c"], z.length ≤ 16000 ∧ ∀ c ∈ z.cps.toList, c < 256 := by decide +kernel
    have okA : ∀ y ∈ [x, x ++ nlT ++ la, x ++ nlT, nlT ++ x, l0, "", "places"] ++ [l0 ++ nlT ++ l1 ++ " ", Txt.join nlT js] ++ [("places a b c d e f g\ngoods h" : Str), "places a b c d e f\ngoods a b c d"], Ok74 y := fun y hy => by
      simp only [List.mem_append, List.mem_cons, List.not_mem_nil, or_false] at hy
      rcases hy with ((rfl | rfl | rfl | rfl | rfl | rfl | rfl) | rfl | rfl) | rfl | rfl
      · exact ⟨by omega, xs⟩
      · exact ⟨by rw [app_len, app_len]; omega, (xs.app sn).app sla⟩
      · exact ⟨by rw [app_len]; omega, xs.app sn⟩
      · exact ⟨by rw [app_len]; omega, sn.app xs⟩
      · exact ⟨by omega, l0s⟩
      · exact lit _ (by simp)
      · exact lit _ (by simp)
      · exact ⟨by rw [app_len, app_len, app_len, bl1]; omega, ((l0s.app sn).app l1s).app sb⟩
      · exact ⟨by omega, jS⟩
      · exact lit _ (by simp)
      · exact lit _ (by simp)
    have lA : ([x, x ++ nlT ++ la, x ++ nlT, nlT ++ x, l0, "", "places"] ++ [l0 ++ nlT ++ l1 ++ " ", Txt.join nlT js] ++ [("places a b c d e f g\ngoods h" : Str), "places a b c d e f\ngoods a b c d"]).length = 11 := rfl
    generalize [x, x ++ nlT ++ la, x ++ nlT, nlT ++ x, l0, "", "places"] ++ [l0 ++ nlT ++ l1 ++ " ", Txt.join nlT js] ++ [("places a b c d e f g\ngoods h" : Str), "places a b c d e f\ngoods a b c d"] = A at s16 h16 okA lA ⊢
    generalize upd H15 M (.lst (A.map V.str)) = H16 at s16 h16 ⊢
    have s716 := s8.trans (s9.trans (s913.trans (s14.trans (s15.trans s16))))
    have pen16 := pen7.same s716
    have nM7 : H7 M = none := (s8.trans (s9.trans (s913.trans (s14.trans s15)))).free nM
    have Mp : M ≠ p := fun z => pen7.there (z ▸ nM7)
    have Mc : M ≠ c := fun z => pen7.cells (z ▸ nM7)
    have J16 : JT Ts M p c 1503 11 H7 H16 := ⟨pen16.mono (by omega), tabs_sm s716 tg7, TK.of s716, A, h16, Nat.le_of_eq lA, okA⟩
    refine ⟨_, rfl, .inl ⟨rfl, _, SqL.of h16⟩, M, _, _, rfl, rfl, h16, (by rw [List.length_map, lA]; decide), ?_⟩
    have J17 := J16.put Mp Mc h16 (Nat.le_of_eq lA) okA (y := "places a b c d e f\ngoods a b c") (lit _ (by simp))
    show tSeq _ _ _ _ (upd H16 M (.lst (A.map V.str ++ [V.str "places a b c d e f\ngoods a b c"])))
    generalize upd H16 M (.lst (A.map V.str ++ [V.str "places a b c d e f\ngoods a b c"])) = H17 at J17 ⊢
    have big : ∀ {n : Nat}, n ≤ 100 → n < sizeLine := fun h => smallBig (by omega)
    refine ⟨9, rfl, by decide, by decide, ?_⟩
    refine for_range (lo := 0) (n := 9) (fun i σ H' => ∃ y8 y9 y10, σ = [some (.ref a), some (.ref p), some (.int m), some (.ref h), some (.str x), some (.str la), some (.ref wl), some (.ref M), y8, y9, y10] ∧ JT Ts M p c (1600 + 20 * i) (12 + 2 * i) H7 H')
      ⟨_, _, _, rfl, J17.pen.mono (by omega), J17.tg, J17.tk, J17.ls⟩ ?_ ?_
    · rintro i σ H18 hi ⟨y8, y9, y10, rfl, J18⟩
      refine ⟨_, rfl, _, rfl, p, c, _, x, rfl, J18.pen, by omega, x1, by omega, xs, fun y H19 ly ty sy pen19 bt19 => ?_⟩
      have J19 := J18.but Mp pen19 bt19
      obtain ⟨ys, hM, lys, oys⟩ := J19.ls
      have oy : Ok74 y := ⟨by omega, sy⟩
      refine ⟨_, rfl, .inl ⟨rfl, _, SqL.of hM⟩, _, rfl, M, _, _, rfl, rfl, hM, big (by rw [List.length_map]; omega), ?_⟩
      have J20 := J19.put Mp Mc hM lys oys oy
      generalize upd H19 M (.lst (ys.map V.str ++ [V.str y])) = H20 at J20 ⊢
      refine ⟨_, rfl, rfl, _, rfl, ite2 (fun z => ?_) (fun z => ?_)⟩
      · have y1 : 1 ≤ y.length := by
          rcases Nat.eq_zero_or_pos y.length with e | e
          · exfalso
            have : y = "" := by
              obtain ⟨cps⟩ := y
              have e' : cps.size = 0 := e
              have : cps = #[] := Array.eq_empty_of_size_eq_zero e'
              rw [this]
              rfl
            rw [this, decide_eq_true rfl] at z
            exact nomatch z
          · exact e
        obtain ⟨ys2, hM2, lys2, oys2⟩ := J20.ls
        refine ⟨_, rfl, .inl ⟨rfl, _, SqL.of hM2⟩, _, rfl, _, rfl, p, c, _, y, rfl, J20.pen, by omega, y1, by omega, sy, fun y2 H21 ly2 ty2 sy2 pen21 bt21 => ?_⟩
        have J21 := J20.but Mp pen21 bt21
        obtain ⟨ys3, hM3, lys3, oys3⟩ := J21.ls
        refine ⟨M, _, _, rfl, rfl, hM3, big (by rw [List.length_map]; omega), ?_⟩
        have J22 := J21.put Mp Mc hM3 lys3 oys3 (y := y2) ⟨by omega, sy2⟩
        exact ⟨_, _, _, rfl, J22.pen.mono (by omega), J22.tg, J22.tk, by obtain ⟨ys, h1, h2, h3⟩ := J22.ls; exact ⟨ys, h1, by omega, h3⟩⟩
      · exact ⟨_, _, _, rfl, J20.pen.mono (by omega), J20.tg, J20.tk, by obtain ⟨ys, h1, h2, h3⟩ := J20.ls; exact ⟨ys, h1, by omega, h3⟩⟩
    rintro σ H18 ⟨y8, y9, y10, rfl, J18⟩
    obtain ⟨ys, hM, lys, oys⟩ := J18.ls
    have tg18 := J18.tg
    have ho18 := ho7.on J18.tk
    refine ⟨_, rfl, M, rfl, ⟨_, SqL.of hM⟩, ?_⟩
    refine for_list (K := K) (a := M) (xs := ys.map V.str) (fun i σ H' => ∃ y10, σ = [some (.ref a), some (.ref p), some (.int m), some (.ref h), some (.str x), some (.str la), some (.ref wl), some (.ref M), y8, y9, y10] ∧ TB1 Ts H18 H') ⟨_, rfl, .same tg18 fun _ _ e => e⟩ (fun i σ H' _ z => by
      obtain ⟨_, _, j⟩ := z
      exact SqL.of (j.lst hM)) ?_ ?_
    · rintro i v σ H19 hv ⟨y10, rfl, b19⟩
      rw [List.getElem?_map] at hv
      obtain ⟨y, hy, rfl⟩ := Option.map_eq_some_iff.mp hv
      obtain ⟨ly, sy⟩ := oys y (List.mem_of_getElem? hy)
      exact ⟨_, rfl, y, rfl, ly, sy.ok, b19.1, fun H20 b20 => ⟨true, rfl, iteF ⟨_, rfl, b19.tr b20⟩⟩⟩
    rintro σ H19 ⟨y10, rfl, b19⟩
    refine ⟨_, rfl, (by show 1 ≤ sizeLine; decide), fun a1 n1 => ⟨_, rfl, (by show 1 ≤ sizeLine; decide), fun a2 n2 => fun a3 n3 => ⟨_, rfl, (by show 7 ≤ sizeLine; decide), fun L nL => ⟨L, rfl, ⟨_, SqL.of upd_same⟩, ?_⟩⟩⟩⟩
    have s1 := @same_new _ _ (.lst [V.str x]) n1
    have e1 := @upd_same H19 a1 (.lst [V.str x])
    generalize upd H19 a1 (.lst [V.str x]) = H20 at s1 e1 n2 n3 nL ⊢
    have s2 := @same_new _ _ (.tup [V.str x]) n2
    have e2 := @upd_same H20 a2 (.tup [V.str x])
    generalize upd H20 a2 (.tup [V.str x]) = H21 at s2 e2 n3 nL ⊢
    have s3 := @same_new _ _ (.dK []) n3
    have e3 := @upd_same H21 a3 (.dK [])
    generalize upd H21 a3 (.dK []) = H22 at s3 e3 nL ⊢
    have s5 := @same_new _ _ (.lst [V.non, .int 7, .bl true, .ref a1, .ref a2, .ref a3, .ref h]) nL
    have e5 := @upd_same H22 L (.lst [V.non, .int 7, .bl true, .ref a1, .ref a2, .ref a3, .ref h])
    generalize upd H22 L (.lst [V.non, .int 7, .bl true, .ref a1, .ref a2, .ref a3, .ref h]) = H23 at s5 e5 ⊢
    have s1923 := s1.trans (s2.trans (s3.trans s5))
    have b23 : TB1 Ts H18 H23 := b19.tr (.same b19.1 s1923)
    have ho23 := ho18.on b23.tk
    obtain ⟨hp', hg', he', tps', g1', _⟩ := ho23.ex
    have th : ∀ v ∈ [V.non, .int 7, .bl true, .ref a1, .ref a2, .ref a3, .ref h], (∀ z, v ≠ .str z) ∧ Thg H23 v := fun v hv => by
      simp only [List.mem_cons, List.not_mem_nil, or_false] at hv
      rcases hv with rfl | rfl | rfl | rfl | rfl | rfl | rfl
      · exact ⟨fun z h => (nomatch h), .non⟩
      · exact ⟨fun z h => (nomatch h), .int 7⟩
      · exact ⟨fun z h => (nomatch h), .bl true⟩
      · exact ⟨fun z h => (nomatch h), .lst (s5 _ _ (s3 _ _ (s2 _ _ e1)))⟩
      · exact ⟨fun z h => (nomatch h), .tup (s5 _ _ (s3 _ _ e2))⟩
      · exact ⟨fun z h => (nomatch h), .dct (s5 _ _ e3)⟩
      · exact ⟨fun z h => (nomatch h), .tup g1'⟩
    refine for_list (K := K) (a := L) (xs := [V.non, .int 7, .bl true, .ref a1, .ref a2, .ref a3, .ref h]) (fun i σ H' => ∃ y10, σ = [some (.ref a), some (.ref p), some (.int m), some (.ref h), some (.str x), some (.str la), some (.ref wl), some (.ref M), y8, y9, y10] ∧ TB1 Ts H23 H') ⟨_, rfl, .same b23.1 fun _ _ e => e⟩ (fun i σ H' _ z => by
      obtain ⟨_, _, j⟩ := z
      exact SqL.of (j.lst e5)) ?_ ?_
    · rintro i v σ H24 hv ⟨y10, rfl, b24⟩
      obtain ⟨ns, tv⟩ := th v (List.mem_of_getElem? hv)
      have tv24 : NoStr K H24 v := nostr_of (tv.on fun b o e h nt => b24.2 b o h nt) ns
      exact ⟨_, rfl, v, rfl, b24.1, .inr ⟨tv24, fun H25 b25 => ⟨rfl, false, ne_same, iteF ⟨_, rfl, b24.tr b25⟩⟩⟩⟩
    rintro σ H24 ⟨y10, rfl, b24⟩
    refine ⟨_, rfl, .str x, rfl, b24.1, .inl ⟨x, rfl, by omega, fun P' G' es' z' h' H25 b25 ho' => ?_, fun k z => (by rw [rdt] at z; cases z)⟩⟩
    rw [rdt] at z'
    cases z'
    have ho25 := ho23.on (b24.tr b25).tk
    refine ⟨h', _, rfl, ho'.dp, sh.sh, sh.nd, Nat.le_trans sh.dp (by decide), sh.fits (by decide), _, rfl, h, _, rfl, ho25.dp, sh.sh, sh.nd, Nat.le_trans sh.dp (by decide), sh.fits (by decide), rfl, ?_⟩
    rw [decide_eq_true rfl]
    exact q H25
end
theorem tab_is {K : PySem.W.Frag} {x : Str} {f c T : Addr} {oc occ : Value} {od odc : Option Addr} {sl slc : Array (Option Value)} {fd : FuncData} {vs : Array Value}
    (a : PySem.W.nsIn K mainGlobals x = some (some (.ref f))) (l : K.lookup f = some ⟨oc, od, .func fd, sl⟩) (hc : fd.code = .ref c) (lc : K.lookup c = some ⟨occ, odc, .fields vs, slc⟩) (hv : (vs[11]? : Option Value) = some (.ref T)) :
    PySem.W.tabIn K x = some (c, T) := by
  unfold PySem.W.tabIn
  simp only [a, l, hc, lc, hv]
set_option maxHeartbeats 4000000 in
theorem all_mk {l : PySem.W.OpenLaw} {q : Program} {loose : List Str} {XP : (Str → Option Value) → Heap → Prop} {w : World} {s0 : Shared} {K : PySem.W.Frag} {h : Heap} {mg mb : Str → Option Value} {fa cE cX fIt cNs cxcl cxcd cxnd cxne cxnf cxng cxngd cxnh cxnm cxnn cxnp cxnr cxnth cxnti cxtm cxtw f1 f2 f3 f4 f5 f6 f7 f8 f9 f10 f11 f12 f13 f14 f15 f16 f17 f18 f19 f20 f21 f22 f23 f24 f25 f26 f27 f28 f29 f30 f31 f32 f33 f34 f35 f36 f37 f38 f39 f40 f41 f42 f43 f44 f45 c1 T1 c3 T3 c4 T4 c6 T6 c11 T11 c12 T12 c17 T17 c19 T19 aFo aBo aRa aFo1 aFo2 aFo3 aFo4 aFo5 aFo6 aFo7 aBo1 aBo2 aBo3 aBo4 : Addr} {dr1 : PySem.DefRec} {dr3 : PySem.DefRec} {dr4 : PySem.DefRec} {dr6 : PySem.DefRec} {dr11 : PySem.DefRec} {dr12 : PySem.DefRec} {dr17 : PySem.DefRec} {dr19 : PySem.DefRec}
    (G : PySem.W.Ground q loose [] XP w s0 mg mb h) (X : K.In h) (hfa : mg "law" = some (.ref fa))
    {od1 an1 odc1 od2 an2 od3 an3 odc3 od4 an4 odc4 od5 an5 od6 an6 odc6 od7 an7 od8 an8 od9 an9 od10 an10 od11 an11 odc11 od12 an12 odc12 od13 an13 od14 an14 od15 an15 od16 an16 od17 an17 odc17 od18 an18 od19 an19 odc19 od20 an20 od21 an21 od22 an22 od23 an23 od24 an24 od25 an25 od26 an26 od27 an27 od28 an28 od29 an29 od30 an30 od31 an31 od32 an32 od33 an33 od34 an34 od35 an35 od36 an36 od37 an37 od38 an38 od39 an39 od40 an40 od41 an41 od42 an42 od43 an43 od44 an44 od45 an45 odFo1 odFo2 odFo3 odFo4 odFo5 odFo6 odFo7 odBo1 odBo2 odBo3 odBo4 : Option Addr} {sl1 slc1 sl2 sl3 slc3 sl4 slc4 sl5 sl6 slc6 sl7 sl8 sl9 sl10 sl11 slc11 sl12 slc12 sl13 sl14 sl15 sl16 sl17 slc17 sl18 sl19 slc19 sl20 sl21 sl22 sl23 sl24 sl25 sl26 sl27 sl28 sl29 sl30 sl31 sl32 sl33 sl34 sl35 sl36 sl37 sl38 sl39 sl40 sl41 sl42 sl43 sl44 sl45 slFo1 slFo2 slFo3 slFo4 slFo5 slFo6 slFo7 slBo1 slBo2 slBo3 slBo4 : Array (Option Value)} {oc1 kV1 dc1 pm1 ct1 occ1 oc2 kV2 dc2 pm2 ct2 cd2 oc3 kV3 dc3 pm3 ct3 occ3 oc4 kV4 dc4 pm4 ct4 occ4 oc5 kV5 dc5 pm5 ct5 cd5 oc6 kV6 dc6 pm6 ct6 occ6 oc7 kV7 dc7 pm7 ct7 cd7 oc8 kV8 dc8 pm8 ct8 cd8 oc9 kV9 dc9 pm9 ct9 cd9 oc10 kV10 dc10 pm10 ct10 cd10 oc11 kV11 dc11 pm11 ct11 occ11 oc12 kV12 dc12 pm12 ct12 occ12 oc13 kV13 dc13 pm13 ct13 cd13 oc14 kV14 dc14 pm14 ct14 cd14 oc15 kV15 dc15 pm15 ct15 cd15 oc16 kV16 dc16 pm16 ct16 cd16 oc17 kV17 dc17 pm17 ct17 occ17 oc18 kV18 dc18 pm18 ct18 cd18 oc19 kV19 dc19 pm19 ct19 occ19 oc20 kV20 dc20 pm20 ct20 cd20 oc21 kV21 dc21 pm21 ct21 cd21 oc22 kV22 dc22 pm22 ct22 cd22 oc23 kV23 dc23 pm23 ct23 cd23 oc24 kV24 dc24 pm24 ct24 cd24 oc25 kV25 dc25 pm25 ct25 cd25 oc26 kV26 dc26 pm26 ct26 cd26 oc27 kV27 dc27 pm27 ct27 cd27 oc28 kV28 dc28 pm28 ct28 cd28 oc29 kV29 dc29 pm29 ct29 cd29 oc30 kV30 dc30 pm30 ct30 cd30 oc31 kV31 dc31 pm31 ct31 cd31 oc32 kV32 dc32 pm32 ct32 cd32 oc33 kV33 dc33 pm33 ct33 cd33 oc34 kV34 dc34 pm34 ct34 cd34 oc35 kV35 dc35 pm35 ct35 cd35 oc36 kV36 dc36 pm36 ct36 cd36 oc37 kV37 dc37 pm37 ct37 cd37 oc38 kV38 dc38 pm38 ct38 cd38 oc39 kV39 dc39 pm39 ct39 cd39 oc40 kV40 dc40 pm40 ct40 cd40 oc41 kV41 dc41 pm41 ct41 cd41 oc42 kV42 dc42 pm42 ct42 cd42 oc43 kV43 dc43 pm43 ct43 cd43 oc44 kV44 dc44 pm44 ct44 cd44 oc45 kV45 dc45 pm45 ct45 cd45 : Value}
    {nFo nFo1 nFo2 nFo3 nFo4 nFo5 nFo6 nFo7 nBo nBo1 nBo2 nBo3 nBo4 nRa : Nat}
    {itFo1 itFo2 itFo3 itFo4 itFo5 itFo6 itFo7 itBo1 itBo2 itBo3 itBo4 vsc1 vsc3 vsc4 vsc6 vsc11 vsc12 vsc17 vsc19 : Array Value}
    {esFo esBo esRa : Array DictEntry}
    {tRa1 tRa2 tRa3 tRa4 tRa5 tRa6 tRa7 tL tN tME tMP tMG tO tFG tMF : Tok}
    {odIt anIt ddX : Option Addr} {slIt : Array (Option Value)} {ocIt kVIt dcIt pmIt cdIt ctIt : Value} {nmX qX : Str} {bsX : List Value} {snX : List Str} {subX : List Value} {abX : Bool} {colX : Option Bool} {m0X m1X m2X m3X m5X : Option Value}
    (a1 : PySem.W.nsIn K mainGlobals "is_name" = some (some (.ref f1)))
    (l1 : K.lookup f1 = some ⟨oc1, od1, .func (PySem.W.fnOf "is_name" "is_name" (defArgs sName) (defBody sName) (defScope sName) .none kV1 dc1 pm1 an1 (.ref c1) ct1), sl1⟩)
    (c_1 : PySem.W.codeIn K (.ref c1) "is_name" = true)
    (k1 : PySem.W.keepIn K (.ref f1) = true)
    (lc1 : K.lookup c1 = some ⟨occ1, odc1, .fields vsc1, slc1⟩)
    (hv1 : (vsc1[11]? : Option Value) = some (.ref T1))
    (nT1 : K.lookup T1 = none)
    (r1 : (PyProof.Rows.recsOf q).find? (fun e => e.name == ("is_name" : Str)) = some dr1)
    (a2 : PySem.W.nsIn K mainGlobals "is_whole" = some (some (.ref f2)))
    (l2 : K.lookup f2 = some ⟨oc2, od2, .func (PySem.W.fnOf "is_whole" "is_whole" (defArgs sWhole) (defBody sWhole) (defScope sWhole) .none kV2 dc2 pm2 an2 cd2 ct2), sl2⟩)
    (c_2 : PySem.W.codeIn K cd2 "is_whole" = true)
    (k2 : PySem.W.keepIn K (.ref f2) = true)
    (a3 : PySem.W.nsIn K mainGlobals "are_rising" = some (some (.ref f3)))
    (l3 : K.lookup f3 = some ⟨oc3, od3, .func (PySem.W.fnOf "are_rising" "are_rising" (defArgs sAreRising) (defBody sAreRising) (defScope sAreRising) .none kV3 dc3 pm3 an3 (.ref c3) ct3), sl3⟩)
    (c_3 : PySem.W.codeIn K (.ref c3) "are_rising" = true)
    (k3 : PySem.W.keepIn K (.ref f3) = true)
    (lc3 : K.lookup c3 = some ⟨occ3, odc3, .fields vsc3, slc3⟩)
    (hv3 : (vsc3[11]? : Option Value) = some (.ref T3))
    (nT3 : K.lookup T3 = none)
    (r3 : (PyProof.Rows.recsOf q).find? (fun e => e.name == ("are_rising" : Str)) = some dr3)
    (a4 : PySem.W.nsIn K mainGlobals "is_entry" = some (some (.ref f4)))
    (l4 : K.lookup f4 = some ⟨oc4, od4, .func (PySem.W.fnOf "is_entry" "is_entry" (defArgs sIsEntry) (defBody sIsEntry) (defScope sIsEntry) .none kV4 dc4 pm4 an4 (.ref c4) ct4), sl4⟩)
    (c_4 : PySem.W.codeIn K (.ref c4) "is_entry" = true)
    (k4 : PySem.W.keepIn K (.ref f4) = true)
    (lc4 : K.lookup c4 = some ⟨occ4, odc4, .fields vsc4, slc4⟩)
    (hv4 : (vsc4[11]? : Option Value) = some (.ref T4))
    (nT4 : K.lookup T4 = none)
    (r4 : (PyProof.Rows.recsOf q).find? (fun e => e.name == ("is_entry" : Str)) = some dr4)
    (a5 : PySem.W.nsIn K mainGlobals "fits" = some (some (.ref f5)))
    (l5 : K.lookup f5 = some ⟨oc5, od5, .func (PySem.W.fnOf "fits" "fits" (defArgs sFits) (defBody sFits) (defScope sFits) .none kV5 dc5 pm5 an5 cd5 ct5), sl5⟩)
    (c_5 : PySem.W.codeIn K cd5 "fits" = true)
    (k5 : PySem.W.keepIn K (.ref f5) = true)
    (a6 : PySem.W.nsIn K mainGlobals "is_entry_of" = some (some (.ref f6)))
    (l6 : K.lookup f6 = some ⟨oc6, od6, .func (PySem.W.fnOf "is_entry_of" "is_entry_of" (defArgs sIsEntryOf) (defBody sIsEntryOf) (defScope sIsEntryOf) .none kV6 dc6 pm6 an6 (.ref c6) ct6), sl6⟩)
    (c_6 : PySem.W.codeIn K (.ref c6) "is_entry_of" = true)
    (k6 : PySem.W.keepIn K (.ref f6) = true)
    (lc6 : K.lookup c6 = some ⟨occ6, odc6, .fields vsc6, slc6⟩)
    (hv6 : (vsc6[11]? : Option Value) = some (.ref T6))
    (nT6 : K.lookup T6 = none)
    (r6 : (PyProof.Rows.recsOf q).find? (fun e => e.name == ("is_entry_of" : Str)) = some dr6)
    (a7 : PySem.W.nsIn K mainGlobals "good_of" = some (some (.ref f7)))
    (l7 : K.lookup f7 = some ⟨oc7, od7, .func (PySem.W.fnOf "good_of" "good_of" (defArgs sGood) (defBody sGood) (defScope sGood) .none kV7 dc7 pm7 an7 cd7 ct7), sl7⟩)
    (c_7 : PySem.W.codeIn K cd7 "good_of" = true)
    (k7 : PySem.W.keepIn K (.ref f7) = true)
    (a8 : PySem.W.nsIn K mainGlobals "places_of" = some (some (.ref f8)))
    (l8 : K.lookup f8 = some ⟨oc8, od8, .func (PySem.W.fnOf "places_of" "places_of" (defArgs sPlacesOf) (defBody sPlacesOf) (defScope sPlacesOf) .none kV8 dc8 pm8 an8 cd8 ct8), sl8⟩)
    (c_8 : PySem.W.codeIn K cd8 "places_of" = true)
    (k8 : PySem.W.keepIn K (.ref f8) = true)
    (a9 : PySem.W.nsIn K mainGlobals "order_of" = some (some (.ref f9)))
    (l9 : K.lookup f9 = some ⟨oc9, od9, .func (PySem.W.fnOf "order_of" "order_of" (defArgs sOrd) (defBody sOrd) (defScope sOrd) .none kV9 dc9 pm9 an9 cd9 ct9), sl9⟩)
    (c_9 : PySem.W.codeIn K cd9 "order_of" = true)
    (k9 : PySem.W.keepIn K (.ref f9) = true)
    (a10 : PySem.W.nsIn K mainGlobals "goes_ahead" = some (some (.ref f10)))
    (l10 : K.lookup f10 = some ⟨oc10, od10, .func (PySem.W.fnOf "goes_ahead" "goes_ahead" (defArgs sAhead) (defBody sAhead) (defScope sAhead) .none kV10 dc10 pm10 an10 cd10 ct10), sl10⟩)
    (c_10 : PySem.W.codeIn K cd10 "goes_ahead" = true)
    (k10 : PySem.W.keepIn K (.ref f10) = true)
    (a11 : PySem.W.nsIn K mainGlobals "number_of" = some (some (.ref f11)))
    (l11 : K.lookup f11 = some ⟨oc11, od11, .func (PySem.W.fnOf "number_of" "number_of" (defArgs sNumberOf) (defBody sNumberOf) (defScope sNumberOf) .none kV11 dc11 pm11 an11 (.ref c11) ct11), sl11⟩)
    (c_11 : PySem.W.codeIn K (.ref c11) "number_of" = true)
    (k11 : PySem.W.keepIn K (.ref f11) = true)
    (lc11 : K.lookup c11 = some ⟨occ11, odc11, .fields vsc11, slc11⟩)
    (hv11 : (vsc11[11]? : Option Value) = some (.ref T11))
    (nT11 : K.lookup T11 = none)
    (r11 : (PyProof.Rows.recsOf q).find? (fun e => e.name == ("number_of" : Str)) = some dr11)
    (a12 : PySem.W.nsIn K mainGlobals "entry_text" = some (some (.ref f12)))
    (l12 : K.lookup f12 = some ⟨oc12, od12, .func (PySem.W.fnOf "entry_text" "entry_text" (defArgs sEntryText) (defBody sEntryText) (defScope sEntryText) .none kV12 dc12 pm12 an12 (.ref c12) ct12), sl12⟩)
    (c_12 : PySem.W.codeIn K (.ref c12) "entry_text" = true)
    (k12 : PySem.W.keepIn K (.ref f12) = true)
    (lc12 : K.lookup c12 = some ⟨occ12, odc12, .fields vsc12, slc12⟩)
    (hv12 : (vsc12[11]? : Option Value) = some (.ref T12))
    (nT12 : K.lookup T12 = none)
    (r12 : (PyProof.Rows.recsOf q).find? (fun e => e.name == ("entry_text" : Str)) = some dr12)
    (a13 : PySem.W.nsIn K mainGlobals "house_text" = some (some (.ref f13)))
    (l13 : K.lookup f13 = some ⟨oc13, od13, .func (PySem.W.fnOf "house_text" "house_text" (defArgs sHouseText) (defBody sHouseText) (defScope sHouseText) .none kV13 dc13 pm13 an13 cd13 ct13), sl13⟩)
    (c_13 : PySem.W.codeIn K cd13 "house_text" = true)
    (k13 : PySem.W.keepIn K (.ref f13) = true)
    (a14 : PySem.W.nsIn K mainGlobals "entry_in" = some (some (.ref f14)))
    (l14 : K.lookup f14 = some ⟨oc14, od14, .func (PySem.W.fnOf "entry_in" "entry_in" (defArgs sEntryIn) (defBody sEntryIn) (defScope sEntryIn) .none kV14 dc14 pm14 an14 cd14 ct14), sl14⟩)
    (c_14 : PySem.W.codeIn K cd14 "entry_in" = true)
    (k14 : PySem.W.keepIn K (.ref f14) = true)
    (a15 : PySem.W.nsIn K mainGlobals "part_in" = some (some (.ref f15)))
    (l15 : K.lookup f15 = some ⟨oc15, od15, .func (PySem.W.fnOf "part_in" "part_in" (defArgs sPartIn) (defBody sPartIn) (defScope sPartIn) .none kV15 dc15 pm15 an15 cd15 ct15), sl15⟩)
    (c_15 : PySem.W.codeIn K cd15 "part_in" = true)
    (k15 : PySem.W.keepIn K (.ref f15) = true)
    (a16 : PySem.W.nsIn K mainGlobals "read_house" = some (some (.ref f16)))
    (l16 : K.lookup f16 = some ⟨oc16, od16, .func (PySem.W.fnOf "read_house" "read_house" (defArgs sReadHouse) (defBody sReadHouse) (defScope sReadHouse) .none kV16 dc16 pm16 an16 cd16 ct16), sl16⟩)
    (c_16 : PySem.W.codeIn K cd16 "read_house" = true)
    (k16 : PySem.W.keepIn K (.ref f16) = true)
    (a17 : PySem.W.nsIn K mainGlobals "names_in" = some (some (.ref f17)))
    (l17 : K.lookup f17 = some ⟨oc17, od17, .func (PySem.W.fnOf "names_in" "names_in" (defArgs sNamesIn) (defBody sNamesIn) (defScope sNamesIn) .none kV17 dc17 pm17 an17 (.ref c17) ct17), sl17⟩)
    (c_17 : PySem.W.codeIn K (.ref c17) "names_in" = true)
    (k17 : PySem.W.keepIn K (.ref f17) = true)
    (lc17 : K.lookup c17 = some ⟨occ17, odc17, .fields vsc17, slc17⟩)
    (hv17 : (vsc17[11]? : Option Value) = some (.ref T17))
    (nT17 : K.lookup T17 = none)
    (r17 : (PyProof.Rows.recsOf q).find? (fun e => e.name == ("names_in" : Str)) = some dr17)
    (a18 : PySem.W.nsIn K mainGlobals "entries_in" = some (some (.ref f18)))
    (l18 : K.lookup f18 = some ⟨oc18, od18, .func (PySem.W.fnOf "entries_in" "entries_in" (defArgs sEntriesIn) (defBody sEntriesIn) (defScope sEntriesIn) .none kV18 dc18 pm18 an18 cd18 ct18), sl18⟩)
    (c_18 : PySem.W.codeIn K cd18 "entries_in" = true)
    (k18 : PySem.W.keepIn K (.ref f18) = true)
    (a19 : PySem.W.nsIn K mainGlobals "goes_behind" = some (some (.ref f19)))
    (l19 : K.lookup f19 = some ⟨oc19, od19, .func (PySem.W.fnOf "goes_behind" "goes_behind" (defArgs sGoesBehind) (defBody sGoesBehind) (defScope sGoesBehind) .none kV19 dc19 pm19 an19 (.ref c19) ct19), sl19⟩)
    (c_19 : PySem.W.codeIn K (.ref c19) "goes_behind" = true)
    (k19 : PySem.W.keepIn K (.ref f19) = true)
    (lc19 : K.lookup c19 = some ⟨occ19, odc19, .fields vsc19, slc19⟩)
    (hv19 : (vsc19[11]? : Option Value) = some (.ref T19))
    (nT19 : K.lookup T19 = none)
    (r19 : (PyProof.Rows.recsOf q).find? (fun e => e.name == ("goes_behind" : Str)) = some dr19)
    (a20 : PySem.W.nsIn K mainGlobals "_law_pen" = some (some (.ref f20)))
    (l20 : K.lookup f20 = some ⟨oc20, od20, .func (PySem.W.fnOf "_law_pen" "_law_pen" (defArgs sPen) (defBody sPen) (defScope sPen) .none kV20 dc20 pm20 an20 cd20 ct20), sl20⟩)
    (c_20 : PySem.W.codeIn K cd20 "_law_pen" = true)
    (k20 : PySem.W.keepIn K (.ref f20) = true)
    (a21 : PySem.W.nsIn K mainGlobals "_law_take" = some (some (.ref f21)))
    (l21 : K.lookup f21 = some ⟨oc21, od21, .func (PySem.W.fnOf "_law_take" "_law_take" (defArgs sTake) (defBody sTake) (defScope sTake) .none kV21 dc21 pm21 an21 cd21 ct21), sl21⟩)
    (c_21 : PySem.W.codeIn K cd21 "_law_take" = true)
    (k21 : PySem.W.keepIn K (.ref f21) = true)
    (a22 : PySem.W.nsIn K mainGlobals "_law_names" = some (some (.ref f22)))
    (l22 : K.lookup f22 = some ⟨oc22, od22, .func (PySem.W.fnOf "_law_names" "_law_names" (defArgs sNames) (defBody sNames) (defScope sNames) .none kV22 dc22 pm22 an22 cd22 ct22), sl22⟩)
    (c_22 : PySem.W.codeIn K cd22 "_law_names" = true)
    (k22 : PySem.W.keepIn K (.ref f22) = true)
    (a23 : PySem.W.nsIn K mainGlobals "_law_words" = some (some (.ref f23)))
    (l23 : K.lookup f23 = some ⟨oc23, od23, .func (PySem.W.fnOf "_law_words" "_law_words" (defArgs sWords) (defBody sWords) (defScope sWords) .none kV23 dc23 pm23 an23 cd23 ct23), sl23⟩)
    (c_23 : PySem.W.codeIn K cd23 "_law_words" = true)
    (k23 : PySem.W.keepIn K (.ref f23) = true)
    (a24 : PySem.W.nsIn K mainGlobals "_law_moments" = some (some (.ref f24)))
    (l24 : K.lookup f24 = some ⟨oc24, od24, .func (PySem.W.fnOf "_law_moments" "_law_moments" (defArgs sMoments) (defBody sMoments) (defScope sMoments) .none kV24 dc24 pm24 an24 cd24 ct24), sl24⟩)
    (c_24 : PySem.W.codeIn K cd24 "_law_moments" = true)
    (k24 : PySem.W.keepIn K (.ref f24) = true)
    (a25 : PySem.W.nsIn K mainGlobals "_law_order" = some (some (.ref f25)))
    (l25 : K.lookup f25 = some ⟨oc25, od25, .func (PySem.W.fnOf "_law_order" "_law_order" (defArgs sOwn) (defBody sOwn) (defScope sOwn) .none kV25 dc25 pm25 an25 cd25 ct25), sl25⟩)
    (c_25 : PySem.W.codeIn K cd25 "_law_order" = true)
    (k25 : PySem.W.keepIn K (.ref f25) = true)
    (a26 : PySem.W.nsIn K mainGlobals "_law_house" = some (some (.ref f26)))
    (l26 : K.lookup f26 = some ⟨oc26, od26, .func (PySem.W.fnOf "_law_house" "_law_house" (defArgs sHouse) (defBody sHouse) (defScope sHouse) .none kV26 dc26 pm26 an26 cd26 ct26), sl26⟩)
    (c_26 : PySem.W.codeIn K cd26 "_law_house" = true)
    (k26 : PySem.W.keepIn K (.ref f26) = true)
    (a27 : PySem.W.nsIn K mainGlobals "_law_many" = some (some (.ref f27)))
    (l27 : K.lookup f27 = some ⟨oc27, od27, .func (PySem.W.fnOf "_law_many" "_law_many" (defArgs sMany) (defBody sMany) (defScope sMany) .none kV27 dc27 pm27 an27 cd27 ct27), sl27⟩)
    (c_27 : PySem.W.codeIn K cd27 "_law_many" = true)
    (k27 : PySem.W.keepIn K (.ref f27) = true)
    (a28 : PySem.W.nsIn K mainGlobals "_law_entry_of" = some (some (.ref f28)))
    (l28 : K.lookup f28 = some ⟨oc28, od28, .func (PySem.W.fnOf "_law_entry_of" "_law_entry_of" (defArgs sEntryOf) (defBody sEntryOf) (defScope sEntryOf) .none kV28 dc28 pm28 an28 cd28 ct28), sl28⟩)
    (c_28 : PySem.W.codeIn K cd28 "_law_entry_of" = true)
    (k28 : PySem.W.keepIn K (.ref f28) = true)
    (a29 : PySem.W.nsIn K mainGlobals "_law_entry" = some (some (.ref f29)))
    (l29 : K.lookup f29 = some ⟨oc29, od29, .func (PySem.W.fnOf "_law_entry" "_law_entry" (defArgs sEntry) (defBody sEntry) (defScope sEntry) .none kV29 dc29 pm29 an29 cd29 ct29), sl29⟩)
    (c_29 : PySem.W.codeIn K cd29 "_law_entry" = true)
    (k29 : PySem.W.keepIn K (.ref f29) = true)
    (a30 : PySem.W.nsIn K mainGlobals "_law_is_name" = some (some (.ref f30)))
    (l30 : K.lookup f30 = some ⟨oc30, od30, .func (PySem.W.fnOf "_law_is_name" "_law_is_name" (defArgs sOwnN) (defBody sOwnN) (defScope sOwnN) .none kV30 dc30 pm30 an30 cd30 ct30), sl30⟩)
    (c_30 : PySem.W.codeIn K cd30 "_law_is_name" = true)
    (k30 : PySem.W.keepIn K (.ref f30) = true)
    (a31 : PySem.W.nsIn K mainGlobals "_law_whole" = some (some (.ref f31)))
    (l31 : K.lookup f31 = some ⟨oc31, od31, .func (PySem.W.fnOf "_law_whole" "_law_whole" (defArgs sLWhole) (defBody sLWhole) (defScope sLWhole) .none kV31 dc31 pm31 an31 cd31 ct31), sl31⟩)
    (c_31 : PySem.W.codeIn K cd31 "_law_whole" = true)
    (k31 : PySem.W.keepIn K (.ref f31) = true)
    (a32 : PySem.W.nsIn K mainGlobals "_law_ends" = some (some (.ref f32)))
    (l32 : K.lookup f32 = some ⟨oc32, od32, .func (PySem.W.fnOf "_law_ends" "_law_ends" (defArgs sEnds) (defBody sEnds) (defScope sEnds) .none kV32 dc32 pm32 an32 cd32 ct32), sl32⟩)
    (c_32 : PySem.W.codeIn K cd32 "_law_ends" = true)
    (k32 : PySem.W.keepIn K (.ref f32) = true)
    (a33 : PySem.W.nsIn K mainGlobals "_law_is_entry" = some (some (.ref f33)))
    (l33 : K.lookup f33 = some ⟨oc33, od33, .func (PySem.W.fnOf "_law_is_entry" "_law_is_entry" (defArgs sLIsEntry) (defBody sLIsEntry) (defScope sLIsEntry) .none kV33 dc33 pm33 an33 cd33 ct33), sl33⟩)
    (c_33 : PySem.W.codeIn K cd33 "_law_is_entry" = true)
    (k33 : PySem.W.keepIn K (.ref f33) = true)
    (a34 : PySem.W.nsIn K mainGlobals "_law_line" = some (some (.ref f34)))
    (l34 : K.lookup f34 = some ⟨oc34, od34, .func (PySem.W.fnOf "_law_line" "_law_line" (defArgs sLine) (defBody sLine) (defScope sLine) .none kV34 dc34 pm34 an34 cd34 ct34), sl34⟩)
    (c_34 : PySem.W.codeIn K cd34 "_law_line" = true)
    (k34 : PySem.W.keepIn K (.ref f34) = true)
    (a35 : PySem.W.nsIn K mainGlobals "_law_text" = some (some (.ref f35)))
    (l35 : K.lookup f35 = some ⟨oc35, od35, .func (PySem.W.fnOf "_law_text" "_law_text" (defArgs sText) (defBody sText) (defScope sText) .none kV35 dc35 pm35 an35 cd35 ct35), sl35⟩)
    (c_35 : PySem.W.codeIn K cd35 "_law_text" = true)
    (k35 : PySem.W.keepIn K (.ref f35) = true)
    (a36 : PySem.W.nsIn K mainGlobals "_law_number" = some (some (.ref f36)))
    (l36 : K.lookup f36 = some ⟨oc36, od36, .func (PySem.W.fnOf "_law_number" "_law_number" (defArgs sLNumber) (defBody sLNumber) (defScope sLNumber) .none kV36 dc36 pm36 an36 cd36 ct36), sl36⟩)
    (c_36 : PySem.W.codeIn K cd36 "_law_number" = true)
    (k36 : PySem.W.keepIn K (.ref f36) = true)
    (a37 : PySem.W.nsIn K mainGlobals "_law_entry_in" = some (some (.ref f37)))
    (l37 : K.lookup f37 = some ⟨oc37, od37, .func (PySem.W.fnOf "_law_entry_in" "_law_entry_in" (defArgs sLEntryIn) (defBody sLEntryIn) (defScope sLEntryIn) .none kV37 dc37 pm37 an37 cd37 ct37), sl37⟩)
    (c_37 : PySem.W.codeIn K cd37 "_law_entry_in" = true)
    (k37 : PySem.W.keepIn K (.ref f37) = true)
    (a38 : PySem.W.nsIn K mainGlobals "_law_names_in" = some (some (.ref f38)))
    (l38 : K.lookup f38 = some ⟨oc38, od38, .func (PySem.W.fnOf "_law_names_in" "_law_names_in" (defArgs sLNamesIn) (defBody sLNamesIn) (defScope sLNamesIn) .none kV38 dc38 pm38 an38 cd38 ct38), sl38⟩)
    (c_38 : PySem.W.codeIn K cd38 "_law_names_in" = true)
    (k38 : PySem.W.keepIn K (.ref f38) = true)
    (a39 : PySem.W.nsIn K mainGlobals "_law_fits" = some (some (.ref f39)))
    (l39 : K.lookup f39 = some ⟨oc39, od39, .func (PySem.W.fnOf "_law_fits" "_law_fits" (defArgs sLFits) (defBody sLFits) (defScope sLFits) .none kV39 dc39 pm39 an39 cd39 ct39), sl39⟩)
    (c_39 : PySem.W.codeIn K cd39 "_law_fits" = true)
    (k39 : PySem.W.keepIn K (.ref f39) = true)
    (a40 : PySem.W.nsIn K mainGlobals "_law_bad_line" = some (some (.ref f40)))
    (l40 : K.lookup f40 = some ⟨oc40, od40, .func (PySem.W.fnOf "_law_bad_line" "_law_bad_line" (defArgs sBadLine) (defBody sBadLine) (defScope sBadLine) .none kV40 dc40 pm40 an40 cd40 ct40), sl40⟩)
    (c_40 : PySem.W.codeIn K cd40 "_law_bad_line" = true)
    (k40 : PySem.W.keepIn K (.ref f40) = true)
    (a41 : PySem.W.nsIn K mainGlobals "_law_word_bent" = some (some (.ref f41)))
    (l41 : K.lookup f41 = some ⟨oc41, od41, .func (PySem.W.fnOf "_law_word_bent" "_law_word_bent" (defArgs sWordBent) (defBody sWordBent) (defScope sWordBent) .none kV41 dc41 pm41 an41 cd41 ct41), sl41⟩)
    (c_41 : PySem.W.codeIn K cd41 "_law_word_bent" = true)
    (k41 : PySem.W.keepIn K (.ref f41) = true)
    (a42 : PySem.W.nsIn K mainGlobals "_law_bent" = some (some (.ref f42)))
    (l42 : K.lookup f42 = some ⟨oc42, od42, .func (PySem.W.fnOf "_law_bent" "_law_bent" (defArgs sBent) (defBody sBent) (defScope sBent) .none kV42 dc42 pm42 an42 cd42 ct42), sl42⟩)
    (c_42 : PySem.W.codeIn K cd42 "_law_bent" = true)
    (k42 : PySem.W.keepIn K (.ref f42) = true)
    (a43 : PySem.W.nsIn K mainGlobals "_law_line_told" = some (some (.ref f43)))
    (l43 : K.lookup f43 = some ⟨oc43, od43, .func (PySem.W.fnOf "_law_line_told" "_law_line_told" (defArgs sLineTold) (defBody sLineTold) (defScope sLineTold) .none kV43 dc43 pm43 an43 cd43 ct43), sl43⟩)
    (c_43 : PySem.W.codeIn K cd43 "_law_line_told" = true)
    (k43 : PySem.W.keepIn K (.ref f43) = true)
    (a44 : PySem.W.nsIn K mainGlobals "_law_right" = some (some (.ref f44)))
    (l44 : K.lookup f44 = some ⟨oc44, od44, .func (PySem.W.fnOf "_law_right" "_law_right" (defArgs sLRight) (defBody sLRight) (defScope sLRight) .none kV44 dc44 pm44 an44 cd44 ct44), sl44⟩)
    (c_44 : PySem.W.codeIn K cd44 "_law_right" = true)
    (k44 : PySem.W.keepIn K (.ref f44) = true)
    (a45 : PySem.W.nsIn K mainGlobals "law" = some (some (.ref f45)))
    (l45 : K.lookup f45 = some ⟨oc45, od45, .func (PySem.W.fnOf "law" "law" (defArgs sLaw) (defBody sLaw) (defScope sLaw) .none kV45 dc45 pm45 an45 cd45 ct45), sl45⟩)
    (c_45 : PySem.W.codeIn K cd45 "law" = true)
    (k45 : PySem.W.keepIn K (.ref f45) = true)
    (ne13 : T1 ≠ T3)
    (ne14 : T1 ≠ T4)
    (ne34 : T3 ≠ T4)
    (ne16 : T1 ≠ T6)
    (ne36 : T3 ≠ T6)
    (ne46 : T4 ≠ T6)
    (ne111 : T1 ≠ T11)
    (ne311 : T3 ≠ T11)
    (ne411 : T4 ≠ T11)
    (ne611 : T6 ≠ T11)
    (ne112 : T1 ≠ T12)
    (ne312 : T3 ≠ T12)
    (ne412 : T4 ≠ T12)
    (ne612 : T6 ≠ T12)
    (ne1112 : T11 ≠ T12)
    (ne117 : T1 ≠ T17)
    (ne317 : T3 ≠ T17)
    (ne417 : T4 ≠ T17)
    (ne617 : T6 ≠ T17)
    (ne1117 : T11 ≠ T17)
    (ne1217 : T12 ≠ T17)
    (ne119 : T1 ≠ T19)
    (ne319 : T3 ≠ T19)
    (ne419 : T4 ≠ T19)
    (ne619 : T6 ≠ T19)
    (ne1119 : T11 ≠ T19)
    (ne1219 : T12 ≠ T19)
    (ne1719 : T17 ≠ T19)
    (AFo : PySem.W.nsIn K mainGlobals "FORMS" = some (some (.ref aFo)))
    (LFo : K.lookup aFo = some ⟨.type "dict", none, .dict esFo nFo, #[]⟩)
    (litFo : PySem.W.KeysLit w.params esFo.toList)
    (lowFo : (aFo == sysModules) = false)
    (gFo1 : PySem.W.nsIn K aFo "come" = some (some (.ref aFo1)))
    (LFo1 : K.lookup aFo1 = some ⟨.type "tuple", odFo1, .seq itFo1 nFo1, slFo1⟩)
    (zFo1 : itFo1.size ≤ sizeLine)
    (vFo1 : Vals ([.str "name", .str "moment", .str "name", .str "name", .str "many", .str "price"] : List V) itFo1.toList)
    (gFo2 : PySem.W.nsIn K aFo "go" = some (some (.ref aFo2)))
    (LFo2 : K.lookup aFo2 = some ⟨.type "tuple", odFo2, .seq itFo2 nFo2, slFo2⟩)
    (zFo2 : itFo2.size ≤ sizeLine)
    (vFo2 : Vals ([.str "name", .str "moment", .str "name", .str "name", .str "many"] : List V) itFo2.toList)
    (gFo3 : PySem.W.nsIn K aFo "move" = some (some (.ref aFo3)))
    (LFo3 : K.lookup aFo3 = some ⟨.type "tuple", odFo3, .seq itFo3 nFo3, slFo3⟩)
    (zFo3 : itFo3.size ≤ sizeLine)
    (vFo3 : Vals ([.str "name", .str "moment", .str "name", .str "name", .str "name", .str "many"] : List V) itFo3.toList)
    (gFo4 : PySem.W.nsIn K aFo "some" = some (some (.ref aFo4)))
    (LFo4 : K.lookup aFo4 = some ⟨.type "tuple", odFo4, .seq itFo4 nFo4, slFo4⟩)
    (zFo4 : itFo4.size ≤ sizeLine)
    (vFo4 : Vals ([.str "name", .str "moment", .str "name", .str "name", .str "end"] : List V) itFo4.toList)
    (gFo5 : PySem.W.nsIn K aFo "swap" = some (some (.ref aFo5)))
    (LFo5 : K.lookup aFo5 = some ⟨.type "tuple", odFo5, .seq itFo5 nFo5, slFo5⟩)
    (zFo5 : itFo5.size ≤ sizeLine)
    (vFo5 : Vals ([.str "name", .str "moment", .str "name", .str "name"] : List V) itFo5.toList)
    (gFo6 : PySem.W.nsIn K aFo "count" = some (some (.ref aFo6)))
    (LFo6 : K.lookup aFo6 = some ⟨.type "tuple", odFo6, .seq itFo6 nFo6, slFo6⟩)
    (zFo6 : itFo6.size ≤ sizeLine)
    (vFo6 : Vals ([.str "name", .str "moment", .str "name", .str "name", .str "counted", .str "name"] : List V) itFo6.toList)
    (gFo7 : PySem.W.nsIn K aFo "look" = some (some (.ref aFo7)))
    (LFo7 : K.lookup aFo7 = some ⟨.type "tuple", odFo7, .seq itFo7 nFo7, slFo7⟩)
    (zFo7 : itFo7.size ≤ sizeLine)
    (vFo7 : Vals ([.str "name", .str "moment", .str "name", .str "name"] : List V) itFo7.toList)
    (ABo : PySem.W.nsIn K mainGlobals "BOUNDS" = some (some (.ref aBo)))
    (LBo : K.lookup aBo = some ⟨.type "dict", none, .dict esBo nBo, #[]⟩)
    (litBo : PySem.W.KeysLit w.params esBo.toList)
    (lowBo : (aBo == sysModules) = false)
    (gBo1 : PySem.W.nsIn K aBo "moment" = some (some (.ref aBo1)))
    (LBo1 : K.lookup aBo1 = some ⟨.type "tuple", odBo1, .seq itBo1 nBo1, slBo1⟩)
    (zBo1 : itBo1.size ≤ sizeLine)
    (vBo1 : Vals ([.int 0, .int 9999] : List V) itBo1.toList)
    (gBo2 : PySem.W.nsIn K aBo "many" = some (some (.ref aBo2)))
    (LBo2 : K.lookup aBo2 = some ⟨.type "tuple", odBo2, .seq itBo2 nBo2, slBo2⟩)
    (zBo2 : itBo2.size ≤ sizeLine)
    (vBo2 : Vals ([.int 1, .int 1000000000] : List V) itBo2.toList)
    (gBo3 : PySem.W.nsIn K aBo "counted" = some (some (.ref aBo3)))
    (LBo3 : K.lookup aBo3 = some ⟨.type "tuple", odBo3, .seq itBo3 nBo3, slBo3⟩)
    (zBo3 : itBo3.size ≤ sizeLine)
    (vBo3 : Vals ([.int 0, .int 1000000000] : List V) itBo3.toList)
    (gBo4 : PySem.W.nsIn K aBo "price" = some (some (.ref aBo4)))
    (LBo4 : K.lookup aBo4 = some ⟨.type "tuple", odBo4, .seq itBo4 nBo4, slBo4⟩)
    (zBo4 : itBo4.size ≤ sizeLine)
    (vBo4 : Vals ([.int 0, .int 1000000000] : List V) itBo4.toList)
    (ARa : PySem.W.nsIn K mainGlobals "RANKS" = some (some (.ref aRa)))
    (LRa : K.lookup aRa = some ⟨.type "dict", none, .dict esRa nRa, #[]⟩)
    (litRa : PySem.W.KeysLit w.params esRa.toList)
    (lowRa : (aRa == sysModules) = false)
    (gRa1 : PySem.W.nsIn K aRa "come" = some (some (.int 1 tRa1)))
    (gRa2 : PySem.W.nsIn K aRa "go" = some (some (.int 1 tRa2)))
    (gRa3 : PySem.W.nsIn K aRa "move" = some (some (.int 1 tRa3)))
    (gRa4 : PySem.W.nsIn K aRa "some" = some (some (.int 1 tRa4)))
    (gRa5 : PySem.W.nsIn K aRa "swap" = some (some (.int 0 tRa5)))
    (gRa6 : PySem.W.nsIn K aRa "count" = some (some (.int 2 tRa6)))
    (gRa7 : PySem.W.nsIn K aRa "look" = some (some (.int 2 tRa7)))
    (zL : PySem.W.nsIn K mainGlobals "LETTERS" = some (some (.str abc tL)))
    (zN : PySem.W.nsIn K mainGlobals "LONGEST_NAME" = some (some (.int 8 tN)))
    (zME : PySem.W.nsIn K mainGlobals "MOST_ENTRIES" = some (some (.int 30 tME)))
    (zMP : PySem.W.nsIn K mainGlobals "MOST_PLACES" = some (some (.int 6 tMP)))
    (zMG : PySem.W.nsIn K mainGlobals "MOST_GOODS" = some (some (.int 3 tMG)))
    (zO : PySem.W.nsIn K mainGlobals "OUTSIDE" = some (some (.str "-" tO)))
    (zFG : PySem.W.nsIn K mainGlobals "FIGURES" = some (some (.str figs tFG)))
    (zMF : PySem.W.nsIn K mainGlobals "MOST_FIGURES" = some (some (.int 60 tMF)))
    (xFo : (esFo.toList.all fun e => match e.key with | .str s _ => words7.any fun y => s == y | _ => false) = true)
    (smF : (aFo == sysModules) = false)
    (HE : PySem.W.nsIn K mainGlobals "CountError" = some (some (.ref cE)))
    (HX : PySem.W.nsIn K mainGlobals "NoText" = some (some (.ref cX)))
    (Hcl : PySem.W.nsIn K mainGlobals "Clash" = some (some (.ref cxcl)))
    (Hcd : PySem.W.nsIn K mainGlobals "Closed" = some (some (.ref cxcd)))
    (Hnd : PySem.W.nsIn K mainGlobals "NoDay" = some (some (.ref cxnd)))
    (Hne : PySem.W.nsIn K mainGlobals "NoEntry" = some (some (.ref cxne)))
    (Hnf : PySem.W.nsIn K mainGlobals "NoFilling" = some (some (.ref cxnf)))
    (Hng : PySem.W.nsIn K mainGlobals "NoGo" = some (some (.ref cxng)))
    (Hngd : PySem.W.nsIn K mainGlobals "NoGood" = some (some (.ref cxngd)))
    (Hnh : PySem.W.nsIn K mainGlobals "NoHouse" = some (some (.ref cxnh)))
    (Hnm : PySem.W.nsIn K mainGlobals "NoMove" = some (some (.ref cxnm)))
    (Hnn : PySem.W.nsIn K mainGlobals "NoName" = some (some (.ref cxnn)))
    (Hnp : PySem.W.nsIn K mainGlobals "NoPlace" = some (some (.ref cxnp)))
    (Hnr : PySem.W.nsIn K mainGlobals "NoRow" = some (some (.ref cxnr)))
    (Hnth : PySem.W.nsIn K mainGlobals "NoThen" = some (some (.ref cxnth)))
    (Hnti : PySem.W.nsIn K mainGlobals "NoTie" = some (some (.ref cxnti)))
    (Htm : PySem.W.nsIn K mainGlobals "TooMany" = some (some (.ref cxtm)))
    (Htw : PySem.W.nsIn K mainGlobals "Twice" = some (some (.ref cxtw)))
    (e6 : PySem.W.specialIn K (.builtin "object.__class__") "__get__" = some (some (.builtin "getset_descriptor.__get__")))
    (e7 : PySem.W.takesIn K (.builtin "object.__class__") = some true)
    (xL : K.lookup cX = some (excClassObj nmX qX cX cNs bsX [.ref cE, .type "ValueError", .type "Exception", .type "BaseException", .type "object"] true snX subX abX colX ddX m0X m1X m2X m3X m5X "ValueError.__new__"))
    (saX : PySem.W.findIn K (.ref cX) "__setattr__" = some (some (.builtin "object.__setattr__")))
    (iX : PySem.W.findIn K (.ref cX) "__init__" = some (some (.ref fIt)))
    (tI : PySem.W.typeIn K (.ref fIt) = some (.type "function"))
    (lI : K.lookup fIt = some ⟨ocIt, odIt, .func (PySem.W.fnOf "__init__" "NoText.__init__" (defArgs sTextInit) (defBody sTextInit) (defScope sTextInit) .none kVIt dcIt pmIt anIt cdIt ctIt), slIt⟩)
    (c_I : PySem.W.codeIn K cdIt "NoText.__init__" = true)
    (kI : PySem.W.keepIn K (.ref fIt) = true)
    (nlX : PySem.W.findIn K (.ref cX) "line" = some none)
    (kpX : PySem.W.keepIn K (.ref cX) = true)
    (sbX : PySem.W.subIn K (.ref cX) (.type "BaseException") = some true)
    (tyX : PySem.W.typeIn K (.ref cX) = some (.type "type"))
    (e1X : PySem.W.findIn K (.ref cX) "__getattribute__" = some (some (.builtin "BaseException.__getattribute__")))
    (e2X : PySem.W.findIn K (.ref cX) "__getattr__" = some none)
    (e4X : PySem.W.hasDictIn K cX = true)
    (e5X : PySem.W.findIn K (.ref cX) "__class__" = some (some (.builtin "object.__class__")))
    (e8X : PySem.W.mroIn K cX (.type "object") = some true)
    (cmX : PySem.W.exmOne K (.ref cX) (.ref cE) = some true)
    (o1X : PySem.W.kitAny K (.ref cX) [.ref cxcl, .ref cxcd, .ref cxnd, .ref cxne, .ref cxnf, .ref cxng, .ref cxngd, .ref cxnh, .ref cxnm, .ref cxnn, .ref cxnp] = some false)
    (o2X : PySem.W.kitAny K (.ref cX) [.ref cxnr, .ref cxnth, .ref cxnti, .ref cxtm, .ref cxtw] = some false)
    (ntX : PySem.W.kitOne K (.ref cX) (.ref cX) = some true)
    (vX : PySem.W.kitOne K (.ref cX) (.type "ValueError") = some true)
    (y_abs : PySem.W.nsIn K mainGlobals "abs" = some none)
    (y_all : PySem.W.nsIn K mainGlobals "all" = some none)
    (y_any : PySem.W.nsIn K mainGlobals "any" = some none)
    (y_bool : PySem.W.nsIn K mainGlobals "bool" = some none)
    (y_enumerate : PySem.W.nsIn K mainGlobals "enumerate" = some none)
    (y_int : PySem.W.nsIn K mainGlobals "int" = some none)
    (y_isinstance : PySem.W.nsIn K mainGlobals "isinstance" = some none)
    (y_len : PySem.W.nsIn K mainGlobals "len" = some none)
    (y_list : PySem.W.nsIn K mainGlobals "list" = some none)
    (y_range : PySem.W.nsIn K mainGlobals "range" = some none)
    (y_repr : PySem.W.nsIn K mainGlobals "repr" = some none)
    (y_set : PySem.W.nsIn K mainGlobals "set" = some none)
    (y_sorted : PySem.W.nsIn K mainGlobals "sorted" = some none)
    (y_str : PySem.W.nsIn K mainGlobals "str" = some none)
    (y_tuple : PySem.W.nsIn K mainGlobals "tuple" = some none)
    (y_zip : PySem.W.nsIn K mainGlobals "zip" = some none)
    (y_ValueError : PySem.W.nsIn K mainGlobals "ValueError" = some none) :
    LawG l w K 10 63 "_law_script" mg fa h := by
  have Gg := G.T.g
  have e := hfa.symm.trans (PySem.W.mg_of X Gg a45)
  cases e
  have n_abs := PySem.W.mg_none_of X Gg y_abs
  have n_all := PySem.W.mg_none_of X Gg y_all
  have n_any := PySem.W.mg_none_of X Gg y_any
  have n_bool := PySem.W.mg_none_of X Gg y_bool
  have n_enumerate := PySem.W.mg_none_of X Gg y_enumerate
  have n_int := PySem.W.mg_none_of X Gg y_int
  have n_isinstance := PySem.W.mg_none_of X Gg y_isinstance
  have n_len := PySem.W.mg_none_of X Gg y_len
  have n_list := PySem.W.mg_none_of X Gg y_list
  have n_range := PySem.W.mg_none_of X Gg y_range
  have n_repr := PySem.W.mg_none_of X Gg y_repr
  have n_set := PySem.W.mg_none_of X Gg y_set
  have n_sorted := PySem.W.mg_none_of X Gg y_sorted
  have n_str := PySem.W.mg_none_of X Gg y_str
  have n_tuple := PySem.W.mg_none_of X Gg y_tuple
  have n_zip := PySem.W.mg_none_of X Gg y_zip
  have n_ValueError := PySem.W.mg_none_of X Gg y_ValueError
  have m_L := PySem.W.mg_of X Gg zL
  have m_N := PySem.W.mg_of X Gg zN
  have m_ME := PySem.W.mg_of X Gg zME
  have m_MP := PySem.W.mg_of X Gg zMP
  have m_MG := PySem.W.mg_of X Gg zMG
  have m_O := PySem.W.mg_of X Gg zO
  have m_FG := PySem.W.mg_of X Gg zFG
  have m_MF := PySem.W.mg_of X Gg zMF
  have m_Fo := PySem.W.mg_of X Gg AFo
  have m_Bo := PySem.W.mg_of X Gg ABo
  have m_Ra := PySem.W.mg_of X Gg ARa
  have F1 := fun_mk (st := sName) l1 c_1 k1
  have b1 := F1.binds (ps := ["thing"]) fun _ _ _ _ _ _ us hl => match us, hl with | [_], _ => rfl
  have g1 := PySem.W.mg_of X Gg a1
  have F2 := fun_mk (st := sWhole) l2 c_2 k2
  have b2 := F2.binds (ps := ["thing"]) fun _ _ _ _ _ _ us hl => match us, hl with | [_], _ => rfl
  have g2 := PySem.W.mg_of X Gg a2
  have F3 := fun_mk (st := sAreRising) l3 c_3 k3
  have b3 := F3.binds (ps := ["things"]) fun _ _ _ _ _ _ us hl => match us, hl with | [_], _ => rfl
  have g3 := PySem.W.mg_of X Gg a3
  have F4 := fun_mk (st := sIsEntry) l4 c_4 k4
  have b4 := F4.binds (ps := ["thing"]) fun _ _ _ _ _ _ us hl => match us, hl with | [_], _ => rfl
  have g4 := PySem.W.mg_of X Gg a4
  have F5 := fun_mk (st := sFits) l5 c_5 k5
  have b5 := F5.binds (ps := ["part", "sort"]) fun _ _ _ _ _ _ us hl => match us, hl with | [_, _], _ => rfl
  have g5 := PySem.W.mg_of X Gg a5
  have F6 := fun_mk (st := sIsEntryOf) l6 c_6 k6
  have b6 := F6.binds (ps := ["thing", "places", "goods"]) fun _ _ _ _ _ _ us hl => match us, hl with | [_, _, _], _ => rfl
  have g6 := PySem.W.mg_of X Gg a6
  have F7 := fun_mk (st := sGood) l7 c_7 k7
  have b7 := F7.binds (ps := ["entry"]) fun _ _ _ _ _ _ us hl => match us, hl with | [_], _ => rfl
  have g7 := PySem.W.mg_of X Gg a7
  have F8 := fun_mk (st := sPlacesOf) l8 c_8 k8
  have b8 := F8.binds (ps := ["entry"]) fun _ _ _ _ _ _ us hl => match us, hl with | [_], _ => rfl
  have g8 := PySem.W.mg_of X Gg a8
  have F9 := fun_mk (st := sOrd) l9 c_9 k9
  have b9 := F9.binds (ps := ["entry"]) fun _ _ _ _ _ _ us hl => match us, hl with | [_], _ => rfl
  have g9 := PySem.W.mg_of X Gg a9
  have F10 := fun_mk (st := sAhead) l10 c_10 k10
  have b10 := F10.binds (ps := ["entry", "other"]) fun _ _ _ _ _ _ us hl => match us, hl with | [_, _], _ => rfl
  have g10 := PySem.W.mg_of X Gg a10
  have F11 := fun_mk (st := sNumberOf) l11 c_11 k11
  have b11 := F11.binds (ps := ["word"]) fun _ _ _ _ _ _ us hl => match us, hl with | [_], _ => rfl
  have g11 := PySem.W.mg_of X Gg a11
  have F12 := fun_mk (st := sEntryText) l12 c_12 k12
  have b12 := F12.binds (ps := ["entry"]) fun _ _ _ _ _ _ us hl => match us, hl with | [_], _ => rfl
  have g12 := PySem.W.mg_of X Gg a12
  have F13 := fun_mk (st := sHouseText) l13 c_13 k13
  have b13 := F13.binds (ps := ["house"]) fun _ _ _ _ _ _ us hl => match us, hl with | [_], _ => rfl
  have g13 := PySem.W.mg_of X Gg a13
  have F14 := fun_mk (st := sEntryIn) l14 c_14 k14
  have b14 := F14.binds (ps := ["text"]) fun _ _ _ _ _ _ us hl => match us, hl with | [_], _ => rfl
  have g14 := PySem.W.mg_of X Gg a14
  have F15 := fun_mk (st := sPartIn) l15 c_15 k15
  have b15 := F15.binds (ps := ["word", "sort"]) fun _ _ _ _ _ _ us hl => match us, hl with | [_, _], _ => rfl
  have g15 := PySem.W.mg_of X Gg a15
  have F16 := fun_mk (st := sReadHouse) l16 c_16 k16
  have b16 := F16.binds (ps := ["text"]) fun _ _ _ _ _ _ us hl => match us, hl with | [_], _ => rfl
  have g16 := PySem.W.mg_of X Gg a16
  have F17 := fun_mk (st := sNamesIn) l17 c_17 k17
  have b17 := F17.binds (ps := ["line", "word", "most"]) fun _ _ _ _ _ _ us hl => match us, hl with | [_, _, _], _ => rfl
  have g17 := PySem.W.mg_of X Gg a17
  have F18 := fun_mk (st := sEntriesIn) l18 c_18 k18
  have b18 := F18.binds (ps := ["lines", "places", "goods"]) fun _ _ _ _ _ _ us hl => match us, hl with | [_, _, _], _ => rfl
  have g18 := PySem.W.mg_of X Gg a18
  have F19 := fun_mk (st := sGoesBehind) l19 c_19 k19
  have b19 := F19.binds (ps := ["entry", "entries"]) fun _ _ _ _ _ _ us hl => match us, hl with | [_, _], _ => rfl
  have g19 := PySem.W.mg_of X Gg a19
  have F20 := fun_mk (st := sPen) l20 c_20 k20
  have b20 := F20.binds (ps := ["_law_script"]) fun _ _ _ _ _ _ us hl => match us, hl with | [_], _ => rfl
  have g20 := PySem.W.mg_of X Gg a20
  have F21 := fun_mk (st := sTake) l21 c_21 k21
  have b21 := F21.binds (ps := ["_law_pen_here", "_law_many_here"]) fun _ _ _ _ _ _ us hl => match us, hl with | [_, _], _ => rfl
  have g21 := PySem.W.mg_of X Gg a21
  have F22 := fun_mk (st := sNames) l22 c_22 k22
  have b22 := F22.binds (ps := ["_law_pen_here", "_law_many_here"]) fun _ _ _ _ _ _ us hl => match us, hl with | [_, _], _ => rfl
  have g22 := PySem.W.mg_of X Gg a22
  have F23 := fun_mk (st := sWords) l23 c_23 k23
  have b23 := F23.binds (ps := ["_law_pen_here", "_law_places", "_law_goods", "_law_entries"]) fun _ _ _ _ _ _ us hl => match us, hl with | [_, _, _, _], _ => rfl
  have g23 := PySem.W.mg_of X Gg a23
  have F24 := fun_mk (st := sMoments) l24 c_24 k24
  have b24 := F24.binds (ps := ["_law_pen_here", "_law_many_here"]) fun _ _ _ _ _ _ us hl => match us, hl with | [_, _], _ => rfl
  have g24 := PySem.W.mg_of X Gg a24
  have F25 := fun_mk (st := sOwn) l25 c_25 k25
  have b25 := F25.binds (ps := ["_law_entry_here"]) fun _ _ _ _ _ _ us hl => match us, hl with | [_], _ => rfl
  have g25 := PySem.W.mg_of X Gg a25
  have F26 := fun_mk (st := sHouse) l26 c_26 k26
  have b26 := F26.binds (ps := ["_law_pen_here", "_law_many_here"]) fun _ _ _ _ _ _ us hl => match us, hl with | [_, _], _ => rfl
  have g26 := PySem.W.mg_of X Gg a26
  have F27 := fun_mk (st := sMany) l27 c_27 k27
  have b27 := F27.binds (ps := ["_law_pen_here"]) fun _ _ _ _ _ _ us hl => match us, hl with | [_], _ => rfl
  have g27 := PySem.W.mg_of X Gg a27
  have F28 := fun_mk (st := sEntryOf) l28 c_28 k28
  have b28 := F28.binds (ps := ["_law_pen_here", "_law_word", "_law_name", "_law_moment", "_law_places", "_law_goods", "_law_hands"]) fun _ _ _ _ _ _ us hl => match us, hl with | [_, _, _, _, _, _, _], _ => rfl
  have g28 := PySem.W.mg_of X Gg a28
  have F29 := fun_mk (st := sEntry) l29 c_29 k29
  have b29 := F29.binds (ps := ["_law_pen_here", "_law_name", "_law_moment", "_law_places", "_law_goods", "_law_hands"]) fun _ _ _ _ _ _ us hl => match us, hl with | [_, _, _, _, _, _], _ => rfl
  have g29 := PySem.W.mg_of X Gg a29
  have F30 := fun_mk (st := sOwnN) l30 c_30 k30
  have b30 := F30.binds (ps := ["_law_thing"]) fun _ _ _ _ _ _ us hl => match us, hl with | [_], _ => rfl
  have g30 := PySem.W.mg_of X Gg a30
  have F31 := fun_mk (st := sLWhole) l31 c_31 k31
  have b31 := F31.binds (ps := ["_law_thing", "_law_least", "_law_most"]) fun _ _ _ _ _ _ us hl => match us, hl with | [_, _, _], _ => rfl
  have g31 := PySem.W.mg_of X Gg a31
  have F32 := fun_mk (st := sEnds) l32 c_32 k32
  have b32 := F32.binds (ps := ["_law_thing"]) fun _ _ _ _ _ _ us hl => match us, hl with | [_], _ => rfl
  have g32 := PySem.W.mg_of X Gg a32
  have F33 := fun_mk (st := sLIsEntry) l33 c_33 k33
  have b33 := F33.binds (ps := ["_law_thing"]) fun _ _ _ _ _ _ us hl => match us, hl with | [_], _ => rfl
  have g33 := PySem.W.mg_of X Gg a33
  have F34 := fun_mk (st := sLine) l34 c_34 k34
  have b34 := F34.binds (ps := ["_law_entry_here"]) fun _ _ _ _ _ _ us hl => match us, hl with | [_], _ => rfl
  have g34 := PySem.W.mg_of X Gg a34
  have F35 := fun_mk (st := sText) l35 c_35 k35
  have b35 := F35.binds (ps := ["_law_house_here"]) fun _ _ _ _ _ _ us hl => match us, hl with | [_], _ => rfl
  have g35 := PySem.W.mg_of X Gg a35
  have F36 := fun_mk (st := sLNumber) l36 c_36 k36
  have b36 := F36.binds (ps := ["_law_word"]) fun _ _ _ _ _ _ us hl => match us, hl with | [_], _ => rfl
  have g36 := PySem.W.mg_of X Gg a36
  have F37 := fun_mk (st := sLEntryIn) l37 c_37 k37
  have b37 := F37.binds (ps := ["_law_line_here"]) fun _ _ _ _ _ _ us hl => match us, hl with | [_], _ => rfl
  have g37 := PySem.W.mg_of X Gg a37
  have F38 := fun_mk (st := sLNamesIn) l38 c_38 k38
  have b38 := F38.binds (ps := ["_law_line_here", "_law_word", "_law_most"]) fun _ _ _ _ _ _ us hl => match us, hl with | [_, _, _], _ => rfl
  have g38 := PySem.W.mg_of X Gg a38
  have F39 := fun_mk (st := sLFits) l39 c_39 k39
  have b39 := F39.binds (ps := ["_law_entry_here", "_law_ahead", "_law_places", "_law_goods"]) fun _ _ _ _ _ _ us hl => match us, hl with | [_, _, _, _], _ => rfl
  have g39 := PySem.W.mg_of X Gg a39
  have F40 := fun_mk (st := sBadLine) l40 c_40 k40
  have b40 := F40.binds (ps := ["_law_text_here"]) fun _ _ _ _ _ _ us hl => match us, hl with | [_], _ => rfl
  have g40 := PySem.W.mg_of X Gg a40
  have F41 := fun_mk (st := sWordBent) l41 c_41 k41
  have b41 := F41.binds (ps := ["_law_pen_here", "_law_text_here"]) fun _ _ _ _ _ _ us hl => match us, hl with | [_, _], _ => rfl
  have g41 := PySem.W.mg_of X Gg a41
  have F42 := fun_mk (st := sBent) l42 c_42 k42
  have b42 := F42.binds (ps := ["_law_pen_here", "_law_text_here"]) fun _ _ _ _ _ _ us hl => match us, hl with | [_, _], _ => rfl
  have g42 := PySem.W.mg_of X Gg a42
  have F43 := fun_mk (st := sLineTold) l43 c_43 k43
  have b43 := F43.binds (ps := ["_law_thing"]) fun _ _ _ _ _ _ us hl => match us, hl with | [_], _ => rfl
  have g43 := PySem.W.mg_of X Gg a43
  have F44 := fun_mk (st := sLRight) l44 c_44 k44
  have b44 := F44.binds (ps := ["_law_text_here"]) fun _ _ _ _ _ _ us hl => match us, hl with | [_], _ => rfl
  have g44 := PySem.W.mg_of X Gg a44
  have F45 := fun_mk (st := sLaw) l45 c_45 k45
  have t1 := tab_is a1 l1 rfl lc1 hv1
  obtain ⟨hd1, tb1⟩ := PySem.W.tab_of G.T X r1 t1
  have t3 := tab_is a3 l3 rfl lc3 hv3
  obtain ⟨hd3, tb3⟩ := PySem.W.tab_of G.T X r3 t3
  have t4 := tab_is a4 l4 rfl lc4 hv4
  obtain ⟨hd4, tb4⟩ := PySem.W.tab_of G.T X r4 t4
  have t6 := tab_is a6 l6 rfl lc6 hv6
  obtain ⟨hd6, tb6⟩ := PySem.W.tab_of G.T X r6 t6
  have t11 := tab_is a11 l11 rfl lc11 hv11
  obtain ⟨hd11, tb11⟩ := PySem.W.tab_of G.T X r11 t11
  have t12 := tab_is a12 l12 rfl lc12 hv12
  obtain ⟨hd12, tb12⟩ := PySem.W.tab_of G.T X r12 t12
  have t17 := tab_is a17 l17 rfl lc17 hv17
  obtain ⟨hd17, tb17⟩ := PySem.W.tab_of G.T X r17 t17
  have t19 := tab_is a19 l19 rfl lc19 hv19
  obtain ⟨hd19, tb19⟩ := PySem.W.tab_of G.T X r19 t19
  have DF : KDict K w aFo esFo nFo := ⟨LFo, litFo, lowFo⟩
  have hF : ∀ e : Ent, ∃ aS, KDct K w aFo e.word (.ref aS) ∧ ∀ H, SqT K H aS (e.sorts.map V.str) := fun e => by
    cases e
    · exact ⟨_, ⟨esFo, nFo, _, LFo, litFo, gFo1, rfl⟩, fun H => .inr ⟨_, _, _, LFo1, rfl, rfl, zFo1, vFo1⟩⟩
    · exact ⟨_, ⟨esFo, nFo, _, LFo, litFo, gFo2, rfl⟩, fun H => .inr ⟨_, _, _, LFo2, rfl, rfl, zFo2, vFo2⟩⟩
    · exact ⟨_, ⟨esFo, nFo, _, LFo, litFo, gFo3, rfl⟩, fun H => .inr ⟨_, _, _, LFo3, rfl, rfl, zFo3, vFo3⟩⟩
    · exact ⟨_, ⟨esFo, nFo, _, LFo, litFo, gFo4, rfl⟩, fun H => .inr ⟨_, _, _, LFo4, rfl, rfl, zFo4, vFo4⟩⟩
    · exact ⟨_, ⟨esFo, nFo, _, LFo, litFo, gFo5, rfl⟩, fun H => .inr ⟨_, _, _, LFo5, rfl, rfl, zFo5, vFo5⟩⟩
    · exact ⟨_, ⟨esFo, nFo, _, LFo, litFo, gFo6, rfl⟩, fun H => .inr ⟨_, _, _, LFo6, rfl, rfl, zFo6, vFo6⟩⟩
    · exact ⟨_, ⟨esFo, nFo, _, LFo, litFo, gFo7, rfl⟩, fun H => .inr ⟨_, _, _, LFo7, rfl, rfl, zFo7, vFo7⟩⟩
  have hB : ∀ x ∈ sorts4, ∃ aT, KDct K w aBo x (.ref aT) ∧ ∀ H, SqT K H aT [.int (bnd x).1, .int (bnd x).2] := fun x hx => by
    simp only [sorts4, List.mem_cons, List.not_mem_nil, or_false] at hx
    rcases hx with rfl | rfl | rfl | rfl
    · exact ⟨_, ⟨esBo, nBo, _, LBo, litBo, gBo1, rfl⟩, fun H => .inr ⟨_, _, _, LBo1, rfl, rfl, zBo1, vBo1⟩⟩
    · exact ⟨_, ⟨esBo, nBo, _, LBo, litBo, gBo2, rfl⟩, fun H => .inr ⟨_, _, _, LBo2, rfl, rfl, zBo2, vBo2⟩⟩
    · exact ⟨_, ⟨esBo, nBo, _, LBo, litBo, gBo3, rfl⟩, fun H => .inr ⟨_, _, _, LBo3, rfl, rfl, zBo3, vBo3⟩⟩
    · exact ⟨_, ⟨esBo, nBo, _, LBo, litBo, gBo4, rfl⟩, fun H => .inr ⟨_, _, _, LBo4, rfl, rfl, zBo4, vBo4⟩⟩
  have hN : ∀ z : Str, z ∉ words7 → KLook K w aFo z none := fun z nz => ⟨esFo, nFo, LFo, litFo, forms_only LFo xFo z nz⟩
  have hR : ∀ e : Ent, KDct K w aRa e.word (.int e.rank) := fun e => by
    cases e
    · exact ⟨esRa, nRa, _, LRa, litRa, gRa1, ⟨_, rfl⟩⟩
    · exact ⟨esRa, nRa, _, LRa, litRa, gRa2, ⟨_, rfl⟩⟩
    · exact ⟨esRa, nRa, _, LRa, litRa, gRa3, ⟨_, rfl⟩⟩
    · exact ⟨esRa, nRa, _, LRa, litRa, gRa4, ⟨_, rfl⟩⟩
    · exact ⟨esRa, nRa, _, LRa, litRa, gRa5, ⟨_, rfl⟩⟩
    · exact ⟨esRa, nRa, _, LRa, litRa, gRa6, ⟨_, rfl⟩⟩
    · exact ⟨esRa, nRa, _, LRa, litRa, gRa7, ⟨_, rfl⟩⟩
  refine ⟨PySem.W.fnOf "law" "law" (defArgs sLaw) (defBody sLaw) (defScope sLaw) .none kV45 dc45 pm45 an45 cd45 ct45, [(c1, T1), (c3, T3), (c4, T4), (c6, T6), (c11, T11), (c12, T12), (c17, T17), (c19, T19)], spLaw K [T1, T3, T4, T6, T11, T12, T17, T19], ⟨fun p hp => ?_, fun p hp => ?_, fun p hp => ?_⟩, fun s v => .of_eq rfl, fun H a ns hlen hT hS => ?_, fun base _ _ TB => ?_⟩
  · simp only [List.mem_cons, List.not_mem_nil, or_false] at hp
    rcases hp with rfl | rfl | rfl | rfl | rfl | rfl | rfl | rfl
    · exact tb1
    · exact tb3
    · exact tb4
    · exact tb6
    · exact tb11
    · exact tb12
    · exact tb17
    · exact tb19
  · simp only [List.mem_cons, List.not_mem_nil, or_false] at hp
    rcases hp with rfl | rfl | rfl | rfl | rfl | rfl | rfl | rfl
    · exact nT1
    · exact nT3
    · exact nT4
    · exact nT6
    · exact nT11
    · exact nT12
    · exact nT17
    · exact nT19
  · simp only [List.mem_cons, List.not_mem_nil, or_false] at hp
    rcases hp with rfl | rfl | rfl | rfl | rfl | rfl | rfl | rfl
    · exact hd1
    · exact hd3
    · exact hd4
    · exact hd6
    · exact hd11
    · exact hd12
    · exact hd17
    · exact hd19
  · refine ⟨a, ns, rfl, hS, fun T hT' => ?_, fun _ => rfl⟩
    simp only [List.mem_cons, List.not_mem_nil, or_false] at hT'
    rcases hT' with rfl | rfl | rfl | rfl | rfl | rfl | rfl | rfl
    · exact ⟨#[], hT (c1, _) (by simp), trivial⟩
    · exact ⟨#[], hT (c3, _) (by simp), trivial⟩
    · exact ⟨#[], hT (c4, _) (by simp), trivial⟩
    · exact ⟨#[], hT (c6, _) (by simp), trivial⟩
    · exact ⟨#[], hT (c11, _) (by simp), trivial⟩
    · exact ⟨#[], hT (c12, _) (by simp), trivial⟩
    · exact ⟨#[], hT (c17, _) (by simp), trivial⟩
    · exact ⟨#[], hT (c19, _) (by simp), trivial⟩
  · have B1 := TB (c1, T1) (by simp)
    have B3 := TB (c3, T3) (by simp)
    have B4 := TB (c4, T4) (by simp)
    have B6 := TB (c6, T6) (by simp)
    have B11 := TB (c11, T11) (by simp)
    have B12 := TB (c12, T12) (by simp)
    have B17 := TB (c17, T17) (by simp)
    have B19 := TB (c19, T19) (by simp)
    have OX : OexC K cX := ⟨⟨_, _, _, _, _, _, _, _, _, _, _, _, _, _, _, xL, by rfl⟩, saX, sbX, tyX, kpX⟩
    have FIt := fun_mk (st := sTextInit) lI c_I kI
    have bIt := FIt.binds (ps := ["self", "line"]) fun _ _ _ _ _ _ us hl => match us, hl with | [_, _], _ => rfl
    have NT : NtC l.prog w K mg base cX fIt _ := ⟨OX, iX, tI, ok_ntInit OX nlX FIt, bIt, PySem.W.mg_of X Gg HX⟩
    have G4 : G74 mg ⟨cxcl, cxcd, cxnd, cxne, cxnf, cxng, cxngd, cxnh, cxnm, cxnn, cxnp, cxnr, cxnth, cxnti, cxtm, cxtw⟩ cX cE := ⟨PySem.W.mg_of X Gg Hcl, PySem.W.mg_of X Gg Hcd, PySem.W.mg_of X Gg Hnd, PySem.W.mg_of X Gg Hne, PySem.W.mg_of X Gg Hnf, PySem.W.mg_of X Gg Hng, PySem.W.mg_of X Gg Hngd, PySem.W.mg_of X Gg Hnh, PySem.W.mg_of X Gg Hnm, PySem.W.mg_of X Gg Hnn, PySem.W.mg_of X Gg Hnp, PySem.W.mg_of X Gg Hnr, PySem.W.mg_of X Gg Hnth, PySem.W.mg_of X Gg Hnti, PySem.W.mg_of X Gg Htm, PySem.W.mg_of X Gg Htw, PySem.W.mg_of X Gg HX, PySem.W.mg_of X Gg HE⟩
    have C4 : C74 K ⟨cxcl, cxcd, cxnd, cxne, cxnf, cxng, cxngd, cxnh, cxnm, cxnn, cxnp, cxnr, cxnth, cxnti, cxtm, cxtw⟩ cX cE := ⟨⟨e1X, e2X, sbX, e4X, e5X, e6, e7, e8X⟩, o1X, o2X, vX, ntX, cmX, ⟨e1X, e2X, sbX, e4X⟩, nlX⟩
    have TT : TakeT l.prog w K mg base f21 _ := ⟨ok_take F21 n_len n_abs, g21, k21, b21⟩
    have NA : DefT l.prog w K mg base "_law_names" 2 f22 _ _ (spNames) := ⟨ok_names F22 TT n_len n_range, g22, k22, b22⟩
    have MY : DefT l.prog w K mg base "_law_many" 2 f27 _ _ (spMany) := ⟨ok_many F27 TT, g27, k27, b27⟩
    have EO : DefT l.prog w K mg base "_law_entry_of" 3 f28 _ _ (spEntryOf) := ⟨ok_entryOf F28 TT MY n_len, g28, k28, b28⟩
    have EN : DefT l.prog w K mg base "_law_entry" 4 f29 _ _ (spEntry) := ⟨ok_entry F29 TT EO, g29, k29, b29⟩
    have GP : DefT l.prog w K mg base "_law_pen" 1 f20 _ _ (spPen K) := ⟨ok_pen F20 n_list, g20, k20, b20⟩
    have WD : DefT l.prog w K mg base "_law_words" 3 f23 _ _ (spWords) := ⟨ok_words F23 TT NA, g23, k23, b23⟩
    have MO : DefT l.prog w K mg base "_law_moments" 2 f24 _ _ (spMoments) := ⟨ok_moments F24 TT n_len n_range n_int, g24, k24, b24⟩
    have OD : DefT l.prog w K mg base "_law_order" 1 f25 _ _ (spOrd) := ⟨ok_own F25 n_int, g25, k25, b25⟩
    have HS : DefT l.prog w K mg base "_law_house" 5 f26 _ _ (spHouse) := ⟨ok_house F26 TT WD MO EN OD n_range n_sorted n_tuple, g26, k26, b26⟩
    have NM : DefT l.prog w K mg base "is_name" 1 f1 _ _ (spName K T1) := ⟨ok_name l1 c_1 ⟨B1.code, B1.bm, B1.gP⟩ n_isinstance n_str n_len n_all ⟨_, m_L⟩ ⟨_, m_N⟩, g1, k1, b1⟩
    have WH : DefT l.prog w K mg base "is_whole" 1 f2 _ _ (spWhole) := ⟨ok_whole F2 n_isinstance n_int n_bool, g2, k2, b2⟩
    have WHA : DefT l.prog w K mg base "is_whole" 1 f2 _ _ (spWholeA) := ⟨ok_wholeA F2 n_isinstance n_int n_bool, g2, k2, b2⟩
    have FI : DefT l.prog w K mg base "fits" 2 f5 _ _ (spFits T1) := ⟨ok_fits F5 NM WH m_Bo hB, g5, k5, b5⟩
    have FIA : DefT l.prog w K mg base "fits" 2 f5 _ _ (spFitsA T1) := ⟨ok_fitsA F5 NM WHA m_Bo hB, g5, k5, b5⟩
    have PO : DefT l.prog w K mg base "places_of" 1 f8 _ _ (spPlaces) := ⟨ok_placesOf F8, g8, k8, b8⟩
    have GO : DefT l.prog w K mg base "good_of" 1 f7 _ _ (spGood) := ⟨ok_good F7, g7, k7, b7⟩
    have IE : DefT l.prog w K mg base "is_entry" 4 f4 _ _ (spIsEntry T1 T4) := ⟨ok_isEntry l4 c_4 ⟨B4.code, B4.bm, B4.gP⟩ ne14 FI PO n_isinstance n_tuple n_len n_str n_all n_zip n_set m_Fo DF hF, g4, k4, b4⟩
    have IEA : DefT l.prog w K mg base "is_entry" 4 f4 _ _ (spIsEntryA T1 T4) := ⟨ok_isEntryA l4 c_4 ⟨B4.code, B4.bm, B4.gP⟩ ne14 FIA PO n_isinstance n_tuple n_len n_str n_all n_zip n_set m_Fo DF hF (forms_only LFo xFo), g4, k4, b4⟩
    have IO : DefT l.prog w K mg base "is_entry_of" 5 f6 _ _ (spIsEntryOf [T1, T3, T4, T6, T11, T12, T17, T19]) := ⟨ok_isEntryOf l6 c_6 ⟨B6.code, B6.bm, B6.gP⟩ (by simp) (by simp) (by simp) IE GO PO n_all, g6, k6, b6⟩
    have IO1 : DefT l.prog w K mg base "is_entry_of" 5 f6 _ _ (spNoE1 [T1, T3, T4, T6, T11, T12, T17, T19]) := ⟨ok_noEntry1 l6 c_6 ⟨B6.code, B6.bm, B6.gP⟩ (by simp) (by simp) (by simp) IEA GO PO n_all, g6, k6, b6⟩
    have IOB : DefT l.prog w K mg base "is_entry_of" 5 f6 _ _ (fun vs H Q E => spIsEntryOf [T1, T3, T4, T6, T11, T12, T17, T19] vs H Q E ∨ spNoE1 [T1, T3, T4, T6, T11, T12, T17, T19] vs H Q E) := ⟨FnOk.or IO.ok IO1.ok, g6, k6, b6⟩
    have OR : DefT l.prog w K mg base "order_of" 1 f9 _ _ (spOrd) := ⟨ok_ord F9 m_Ra hR, g9, k9, b9⟩
    have GA : DefT l.prog w K mg base "goes_ahead" 2 f10 _ _ (spAhead) := ⟨ok_ahead F10 OR, g10, k10, b10⟩
    have AR : DefT l.prog w K mg base "are_rising" 2 f3 _ _ (spAreRising [T1, T3, T4, T6, T11, T12, T17, T19]) := ⟨ok_areRising l3 c_3 ⟨B3.code, B3.bm, B3.gP⟩ (by simp) n_all n_zip, g3, k3, b3⟩
    have ET : DefT l.prog w K mg base "entry_text" 2 f12 _ _ (spEntryText [T1, T3, T4, T6, T11, T12, T17, T19]) := ⟨ok_entryText l12 c_12 ⟨B12.code, B12.bm, B12.gP⟩ (by simp) ⟨_, m_O⟩ n_str, g12, k12, b12⟩
    have HT : DefT l.prog w K mg base "house_text" 3 f13 _ _ (spHouseText [T1, T3, T4, T6, T11, T12, T17, T19]) := ⟨ok_houseText F13 ET, g13, k13, b13⟩
    have NO : DefT l.prog w K mg base "number_of" 1 f11 _ _ (spNumber T11) := ⟨ok_numberOf l11 c_11 ⟨B11.code, B11.bm, B11.gP⟩ n_len n_all n_int ⟨_, m_FG⟩ ⟨_, m_MF⟩, g11, k11, b11⟩
    have PI : DefT l.prog w K mg base "part_in" 2 f15 _ _ (spPartIn T11) := ⟨ok_partIn F15 NO ⟨_, m_O⟩, g15, k15, b15⟩
    have EI : DefT l.prog w K mg base "entry_in" 5 f14 _ _ (spEntryInA [T1, T3, T4, T6, T11, T12, T17, T19]) := ⟨ok_entryInA F14 PI IEA (by simp) (by simp) (by simp) n_len n_zip m_Fo smF hF hN, g14, k14, b14⟩
    have NI : DefT l.prog w K mg base "names_in" 3 f17 _ _ (spNamesInA [T1, T3, T4, T6, T11, T12, T17, T19]) := ⟨ok_namesInA l17 c_17 ⟨B17.code, B17.bm, B17.gP⟩ (by simp) (by simp) NM AR n_len n_all n_tuple, g17, k17, b17⟩
    have GB : DefT l.prog w K mg base "goes_behind" 3 f19 _ _ (spGoesBehindA [T1, T3, T4, T6, T11, T12, T17, T19]) := ⟨ok_goesBehindA l19 c_19 ⟨B19.code, B19.bm, B19.gP⟩ (by simp) GA n_len n_any ⟨_, m_ME⟩, g19, k19, b19⟩
    have ES : DefX l.prog w K mg base "entries_in" 6 f18 _ _ (spEntriesInA [T1, T3, T4, T6, T11, T12, T17, T19] cX) := ⟨ok_entriesInA F18 EI IOB GB NT n_enumerate n_tuple, g18, k18, b18⟩
    have RX : DefX l.prog w K mg base "read_house" 7 f16 _ _ (spReadHouseA K [T1, T3, T4, T6, T11, T12, T17, T19] cX) := ⟨ok_readHouseA F16 NI ES NT n_isinstance n_str n_len ⟨_, m_MP⟩ ⟨_, m_MG⟩, g16, k16, b16⟩
    have RH : DefT l.prog w K mg base "read_house" 7 f16 _ _ (fun vs H Q _ => spReadHouseA K [T1, T3, T4, T6, T11, T12, T17, T19] cX vs H Q (fun _ _ _ => False)) := ⟨FnOk.calm RX.ok, g16, k16, b16⟩
    have LL : DefT l.prog w K mg base "_law_line" 1 f34 _ _ (spLine) := ⟨ok_line F34 n_str, g34, k34, b34⟩
    have LX : DefT l.prog w K mg base "_law_text" 2 f35 _ _ (spText) := ⟨ok_text F35 LL, g35, k35, b35⟩
    have ON : DefT l.prog w K mg base "_law_is_name" 1 f30 _ _ (spOwn3) := ⟨ok_own3 F30 n_isinstance n_str n_len, g30, k30, b30⟩
    have LW : DefT l.prog w K mg base "_law_whole" 1 f31 _ _ (spLWhole) := ⟨ok_lwhole F31 n_isinstance n_int n_bool, g31, k31, b31⟩
    have EE : DefT l.prog w K mg base "_law_ends" 2 f32 _ _ (spEnds) := ⟨ok_ends F32 ON n_isinstance n_str, g32, k32, b32⟩
    have LI : DefT l.prog w K mg base "_law_is_entry" 3 f33 _ _ (spLIsE) := ⟨ok_lisE F33 ON LW EE n_isinstance n_tuple n_len n_str, g33, k33, b33⟩
    have LN : DefT l.prog w K mg base "_law_number" 1 f36 _ _ (spLNumber) := ⟨ok_lnumber F36 n_len n_int, g36, k36, b36⟩
    have LE : DefT l.prog w K mg base "_law_entry_in" 4 f37 _ _ (spLEntryIn) := ⟨ok_lentryIn F37 LN LI n_len n_tuple n_int, g37, k37, b37⟩
    have NN : DefT l.prog w K mg base "_law_names_in" 2 f38 _ _ (spLNamesIn) := ⟨ok_lnamesIn F38 ON n_len n_range, g38, k38, b38⟩
    have LF : DefT l.prog w K mg base "_law_fits" 2 f39 _ _ (spLFits) := ⟨ok_lfits F39 OD n_isinstance n_str n_len n_list, g39, k39, b39⟩
    have BL : DefT l.prog w K mg base "_law_bad_line" 5 f40 _ _ (spBadLine) := ⟨ok_badLine F40 NN LE LF n_len n_range, g40, k40, b40⟩
    have WB : DefT l.prog w K mg base "_law_word_bent" 2 f41 _ _ (spWordBent) := ⟨ok_wordBent F41 TT n_len, g41, k41, b41⟩
    have BE : DefT l.prog w K mg base "_law_bent" 3 f42 _ _ (spBent) := ⟨ok_bent F42 TT WB n_len, g42, k42, b42⟩
    have LT : DefT l.prog w K mg base "_law_line_told" 8 f43 _ _ (spLineTold K [T1, T3, T4, T6, T11, T12, T17, T19]) := ⟨ok_lineTold F43 RX G4 C4 n_isinstance n_int n_bool n_ValueError, g43, k43, b43⟩
    have RI : DefT l.prog w K mg base "_law_right" 9 f44 _ _ (spRight [T1, T3, T4, T6, T11, T12, T17, T19]) := ⟨ok_right F44 BL LT HT RH, g44, k44, b44⟩
    exact ok_law F45 GP TT HS LX BE RI LT RH n_repr n_range
end Shelf
open PySem PySem.W PyProof.Rows
set_option maxHeartbeats 0 in
theorem PySem.Challenge.cw_shelfcounts_k74_what_writes_no_house_holds : PySem.Challenge.rw_shelfcounts_k74_what_writes_no_house.Holds := by
  w_on; o_law; k_head; (case hw => w_witness2)
  k_fill
  refine Shelf.end_G (l := PySem.Challenge.rw_shelfcounts_k74_what_writes_no_house) (n := 63) (k := 10) (x := "_law_script") rfl (by decide) rfl ⟨rfl, by decide, by decide⟩ (fun w h Y => PySem.W.kIn_of Y) ?F
  case F =>
    intro w s0 mg mb fa h G KX hmg
    refine' Shelf.all_mk G KX hmg ?a1 ?l1 ?c_1 ?k1 ?lc1 ?hv1 ?nT1 ?r1 ?a2 ?l2 ?c_2 ?k2 ?a3 ?l3 ?c_3 ?k3 ?lc3 ?hv3 ?nT3 ?r3 ?a4 ?l4 ?c_4 ?k4 ?lc4 ?hv4 ?nT4 ?r4 ?a5 ?l5 ?c_5 ?k5 ?a6 ?l6 ?c_6 ?k6 ?lc6 ?hv6 ?nT6 ?r6 ?a7 ?l7 ?c_7 ?k7 ?a8 ?l8 ?c_8 ?k8 ?a9 ?l9 ?c_9 ?k9 ?a10 ?l10 ?c_10 ?k10 ?a11 ?l11 ?c_11 ?k11 ?lc11 ?hv11 ?nT11 ?r11 ?a12 ?l12 ?c_12 ?k12 ?lc12 ?hv12 ?nT12 ?r12 ?a13 ?l13 ?c_13 ?k13 ?a14 ?l14 ?c_14 ?k14 ?a15 ?l15 ?c_15 ?k15 ?a16 ?l16 ?c_16 ?k16 ?a17 ?l17 ?c_17 ?k17 ?lc17 ?hv17 ?nT17 ?r17 ?a18 ?l18 ?c_18 ?k18 ?a19 ?l19 ?c_19 ?k19 ?lc19 ?hv19 ?nT19 ?r19 ?a20 ?l20 ?c_20 ?k20 ?a21 ?l21 ?c_21 ?k21 ?a22 ?l22 ?c_22 ?k22 ?a23 ?l23 ?c_23 ?k23 ?a24 ?l24 ?c_24 ?k24 ?a25 ?l25 ?c_25 ?k25 ?a26 ?l26 ?c_26 ?k26 ?a27 ?l27 ?c_27 ?k27 ?a28 ?l28 ?c_28 ?k28 ?a29 ?l29 ?c_29 ?k29 ?a30 ?l30 ?c_30 ?k30 ?a31 ?l31 ?c_31 ?k31 ?a32 ?l32 ?c_32 ?k32 ?a33 ?l33 ?c_33 ?k33 ?a34 ?l34 ?c_34 ?k34 ?a35 ?l35 ?c_35 ?k35 ?a36 ?l36 ?c_36 ?k36 ?a37 ?l37 ?c_37 ?k37 ?a38 ?l38 ?c_38 ?k38 ?a39 ?l39 ?c_39 ?k39 ?a40 ?l40 ?c_40 ?k40 ?a41 ?l41 ?c_41 ?k41 ?a42 ?l42 ?c_42 ?k42 ?a43 ?l43 ?c_43 ?k43 ?a44 ?l44 ?c_44 ?k44 ?a45 ?l45 ?c_45 ?k45 ?ne13 ?ne14 ?ne34 ?ne16 ?ne36 ?ne46 ?ne111 ?ne311 ?ne411 ?ne611 ?ne112 ?ne312 ?ne412 ?ne612 ?ne1112 ?ne117 ?ne317 ?ne417 ?ne617 ?ne1117 ?ne1217 ?ne119 ?ne319 ?ne419 ?ne619 ?ne1119 ?ne1219 ?ne1719 ?AFo ?LFo ?litFo ?lowFo ?gFo1 ?LFo1 ?zFo1 ?vFo1 ?gFo2 ?LFo2 ?zFo2 ?vFo2 ?gFo3 ?LFo3 ?zFo3 ?vFo3 ?gFo4 ?LFo4 ?zFo4 ?vFo4 ?gFo5 ?LFo5 ?zFo5 ?vFo5 ?gFo6 ?LFo6 ?zFo6 ?vFo6 ?gFo7 ?LFo7 ?zFo7 ?vFo7 ?ABo ?LBo ?litBo ?lowBo ?gBo1 ?LBo1 ?zBo1 ?vBo1 ?gBo2 ?LBo2 ?zBo2 ?vBo2 ?gBo3 ?LBo3 ?zBo3 ?vBo3 ?gBo4 ?LBo4 ?zBo4 ?vBo4 ?ARa ?LRa ?litRa ?lowRa ?gRa1 ?gRa2 ?gRa3 ?gRa4 ?gRa5 ?gRa6 ?gRa7 ?zL ?zN ?zME ?zMP ?zMG ?zO ?zFG ?zMF ?xFo ?smF ?HE ?HX ?Hcl ?Hcd ?Hnd ?Hne ?Hnf ?Hng ?Hngd ?Hnh ?Hnm ?Hnn ?Hnp ?Hnr ?Hnth ?Hnti ?Htm ?Htw ?e6 ?e7 ?xL ?saX ?iX ?tI ?lI ?c_I ?kI ?nlX ?kpX ?sbX ?tyX ?e1X ?e2X ?e4X ?e5X ?e8X ?cmX ?o1X ?o2X ?ntX ?vX ?y_abs ?y_all ?y_any ?y_bool ?y_enumerate ?y_int ?y_isinstance ?y_len ?y_list ?y_range ?y_repr ?y_set ?y_sorted ?y_str ?y_tuple ?y_zip ?y_ValueError
    (case a1 => k_is); (case l1 => k_is); (case c_1 => k_is); (case k1 => k_is); (case lc1 => k_is); (case hv1 => rfl)
    (case nT1 => kernel_rfl); (case r1 => rfl); (case a2 => k_is); (case l2 => k_is); (case c_2 => k_is); (case k2 => k_is)
    (case a3 => k_is); (case l3 => k_is); (case c_3 => k_is); (case k3 => k_is); (case lc3 => k_is); (case hv3 => rfl)
    (case nT3 => kernel_rfl); (case r3 => rfl); (case a4 => k_is); (case l4 => k_is); (case c_4 => k_is); (case k4 => k_is)
    (case lc4 => k_is); (case hv4 => rfl); (case nT4 => kernel_rfl); (case r4 => rfl); (case a5 => k_is); (case l5 => k_is)
    (case c_5 => k_is); (case k5 => k_is); (case a6 => k_is); (case l6 => k_is); (case c_6 => k_is); (case k6 => k_is)
    (case lc6 => k_is); (case hv6 => rfl); (case nT6 => kernel_rfl); (case r6 => rfl); (case a7 => k_is); (case l7 => k_is)
    (case c_7 => k_is); (case k7 => k_is); (case a8 => k_is); (case l8 => k_is); (case c_8 => k_is); (case k8 => k_is)
    (case a9 => k_is); (case l9 => k_is); (case c_9 => k_is); (case k9 => k_is); (case a10 => k_is); (case l10 => k_is)
    (case c_10 => k_is); (case k10 => k_is); (case a11 => k_is); (case l11 => k_is); (case c_11 => k_is); (case k11 => k_is)
    (case lc11 => k_is); (case hv11 => rfl); (case nT11 => kernel_rfl); (case r11 => rfl); (case a12 => k_is); (case l12 => k_is)
    (case c_12 => k_is); (case k12 => k_is); (case lc12 => k_is); (case hv12 => rfl); (case nT12 => kernel_rfl); (case r12 => rfl)
    (case a13 => k_is); (case l13 => k_is); (case c_13 => k_is); (case k13 => k_is); (case a14 => k_is); (case l14 => k_is)
    (case c_14 => k_is); (case k14 => k_is); (case a15 => k_is); (case l15 => k_is); (case c_15 => k_is); (case k15 => k_is)
    (case a16 => k_is); (case l16 => k_is); (case c_16 => k_is); (case k16 => k_is); (case a17 => k_is); (case l17 => k_is)
    (case c_17 => k_is); (case k17 => k_is); (case lc17 => k_is); (case hv17 => rfl); (case nT17 => kernel_rfl); (case r17 => rfl)
    (case a18 => k_is); (case l18 => k_is); (case c_18 => k_is); (case k18 => k_is); (case a19 => k_is); (case l19 => k_is)
    (case c_19 => k_is); (case k19 => k_is); (case lc19 => k_is); (case hv19 => rfl); (case nT19 => kernel_rfl); (case r19 => rfl)
    (case a20 => k_is); (case l20 => k_is); (case c_20 => k_is); (case k20 => k_is); (case a21 => k_is); (case l21 => k_is)
    (case c_21 => k_is); (case k21 => k_is); (case a22 => k_is); (case l22 => k_is); (case c_22 => k_is); (case k22 => k_is)
    (case a23 => k_is); (case l23 => k_is); (case c_23 => k_is); (case k23 => k_is); (case a24 => k_is); (case l24 => k_is)
    (case c_24 => k_is); (case k24 => k_is); (case a25 => k_is); (case l25 => k_is); (case c_25 => k_is); (case k25 => k_is)
    (case a26 => k_is); (case l26 => k_is); (case c_26 => k_is); (case k26 => k_is); (case a27 => k_is); (case l27 => k_is)
    (case c_27 => k_is); (case k27 => k_is); (case a28 => k_is); (case l28 => k_is); (case c_28 => k_is); (case k28 => k_is)
    (case a29 => k_is); (case l29 => k_is); (case c_29 => k_is); (case k29 => k_is); (case a30 => k_is); (case l30 => k_is)
    (case c_30 => k_is); (case k30 => k_is); (case a31 => k_is); (case l31 => k_is); (case c_31 => k_is); (case k31 => k_is)
    (case a32 => k_is); (case l32 => k_is); (case c_32 => k_is); (case k32 => k_is); (case a33 => k_is); (case l33 => k_is)
    (case c_33 => k_is); (case k33 => k_is); (case a34 => k_is); (case l34 => k_is); (case c_34 => k_is); (case k34 => k_is)
    (case a35 => k_is); (case l35 => k_is); (case c_35 => k_is); (case k35 => k_is); (case a36 => k_is); (case l36 => k_is)
    (case c_36 => k_is); (case k36 => k_is); (case a37 => k_is); (case l37 => k_is); (case c_37 => k_is); (case k37 => k_is)
    (case a38 => k_is); (case l38 => k_is); (case c_38 => k_is); (case k38 => k_is); (case a39 => k_is); (case l39 => k_is)
    (case c_39 => k_is); (case k39 => k_is); (case a40 => k_is); (case l40 => k_is); (case c_40 => k_is); (case k40 => k_is)
    (case a41 => k_is); (case l41 => k_is); (case c_41 => k_is); (case k41 => k_is); (case a42 => k_is); (case l42 => k_is)
    (case c_42 => k_is); (case k42 => k_is); (case a43 => k_is); (case l43 => k_is); (case c_43 => k_is); (case k43 => k_is)
    (case a44 => k_is); (case l44 => k_is); (case c_44 => k_is); (case k44 => k_is); (case a45 => k_is); (case l45 => k_is)
    (case c_45 => k_is); (case k45 => k_is); (case ne13 => decide); (case ne14 => decide); (case ne34 => decide); (case ne16 => decide)
    (case ne36 => decide); (case ne46 => decide); (case ne111 => decide); (case ne311 => decide); (case ne411 => decide); (case ne611 => decide)
    (case ne112 => decide); (case ne312 => decide); (case ne412 => decide); (case ne612 => decide); (case ne1112 => decide); (case ne117 => decide)
    (case ne317 => decide); (case ne417 => decide); (case ne617 => decide); (case ne1117 => decide); (case ne1217 => decide); (case ne119 => decide)
    (case ne319 => decide); (case ne419 => decide); (case ne619 => decide); (case ne1119 => decide); (case ne1219 => decide); (case ne1719 => decide)
    (case AFo => k_is); (case LFo => k_is); (case litFo => repeat' (first | exact True.intro | refine ⟨⟨_, _, rfl, rfl⟩, ?_⟩)); (case lowFo => rfl); (case gFo1 => k_is); (case LFo1 => k_is)
    (case zFo1 => decide); (case vFo1 => repeat' (first | exact .nil | refine .cons ⟨_, rfl⟩ ?_)); (case gFo2 => k_is); (case LFo2 => k_is); (case zFo2 => decide); (case vFo2 => repeat' (first | exact .nil | refine .cons ⟨_, rfl⟩ ?_))
    (case gFo3 => k_is); (case LFo3 => k_is); (case zFo3 => decide); (case vFo3 => repeat' (first | exact .nil | refine .cons ⟨_, rfl⟩ ?_)); (case gFo4 => k_is); (case LFo4 => k_is)
    (case zFo4 => decide); (case vFo4 => repeat' (first | exact .nil | refine .cons ⟨_, rfl⟩ ?_)); (case gFo5 => k_is); (case LFo5 => k_is); (case zFo5 => decide); (case vFo5 => repeat' (first | exact .nil | refine .cons ⟨_, rfl⟩ ?_))
    (case gFo6 => k_is); (case LFo6 => k_is); (case zFo6 => decide); (case vFo6 => repeat' (first | exact .nil | refine .cons ⟨_, rfl⟩ ?_)); (case gFo7 => k_is); (case LFo7 => k_is)
    (case zFo7 => decide); (case vFo7 => repeat' (first | exact .nil | refine .cons ⟨_, rfl⟩ ?_)); (case ABo => k_is); (case LBo => k_is); (case litBo => repeat' (first | exact True.intro | refine ⟨⟨_, _, rfl, rfl⟩, ?_⟩)); (case lowBo => rfl)
    (case gBo1 => k_is); (case LBo1 => k_is); (case zBo1 => decide); (case vBo1 => repeat' (first | exact .nil | refine .cons ⟨_, rfl⟩ ?_)); (case gBo2 => k_is); (case LBo2 => k_is)
    (case zBo2 => decide); (case vBo2 => repeat' (first | exact .nil | refine .cons ⟨_, rfl⟩ ?_)); (case gBo3 => k_is); (case LBo3 => k_is); (case zBo3 => decide); (case vBo3 => repeat' (first | exact .nil | refine .cons ⟨_, rfl⟩ ?_))
    (case gBo4 => k_is); (case LBo4 => k_is); (case zBo4 => decide); (case vBo4 => repeat' (first | exact .nil | refine .cons ⟨_, rfl⟩ ?_)); (case ARa => k_is); (case LRa => k_is)
    (case litRa => repeat' (first | exact True.intro | refine ⟨⟨_, _, rfl, rfl⟩, ?_⟩)); (case lowRa => rfl); (case gRa1 => k_is); (case gRa2 => k_is); (case gRa3 => k_is); (case gRa4 => k_is)
    (case gRa5 => k_is); (case gRa6 => k_is); (case gRa7 => k_is); (case zL => k_is); (case zN => k_is); (case zME => k_is)
    (case zMP => k_is); (case zMG => k_is); (case zO => k_is); (case zFG => k_is); (case zMF => k_is); (case xFo => rfl)
    (case smF => rfl); (case HE => k_is); (case HX => k_is); (case Hcl => k_is); (case Hcd => k_is); (case Hnd => k_is)
    (case Hne => k_is); (case Hnf => k_is); (case Hng => k_is); (case Hngd => k_is); (case Hnh => k_is); (case Hnm => k_is)
    (case Hnn => k_is); (case Hnp => k_is); (case Hnr => k_is); (case Hnth => k_is); (case Hnti => k_is); (case Htm => k_is)
    (case Htw => k_is); (case e6 => k_is); (case e7 => k_is); (case xL => k_is); (case saX => k_is); (case iX => k_is)
    (case tI => k_is); (case lI => k_is); (case c_I => k_is); (case kI => k_is); (case nlX => k_is); (case kpX => k_is)
    (case sbX => k_is); (case tyX => k_is); (case e1X => k_is); (case e2X => k_is); (case e4X => k_is); (case e5X => k_is)
    (case e8X => k_is); (case cmX => kernel_rfl); (case o1X => kernel_rfl); (case o2X => kernel_rfl); (case ntX => kernel_rfl); (case vX => kernel_rfl)
    (case y_abs => k_is); (case y_all => k_is); (case y_any => k_is); (case y_bool => k_is); (case y_enumerate => k_is); (case y_int => k_is)
    (case y_isinstance => k_is); (case y_len => k_is); (case y_list => k_is); (case y_range => k_is); (case y_repr => k_is); (case y_set => k_is)
    (case y_sorted => k_is); (case y_str => k_is); (case y_tuple => k_is); (case y_zip => k_is); (case y_ValueError => k_is)

import PyProof.Rows.All
import Wide.All
import OpenK.AllK
import Wide.FinOn
import HandS.ForMost
import HandS.AnyAll
import HandS.IsInst
import HandS.Style
import HandS.EndTab
import HandS.Codes
import HandS.GenOver
import HandS.Strs
import HandS.Zip
import HandS.Walk
import HandS.More
import KE.KEqSeq
import HandS.SortKw
import HandS.Keys
import HandS.ExcValue
import HandS.ExcIs
import HandS.ForExc
import HandS.Lambda
import HandS.TupAny
import HandS.DictComp
import KE.SortKeyHeap
import KE.KRevSl
import PyProof.DictUpdate
import PyProof.DictDisplay
import PyProof.DictValues
import HandS.SetTxt0
import HandS.Set
import KE.KDictList
import PyProof.MeetsDict
import PySem.Challenge.RW_shelfcounts_k05_what_makes_no_house
import HandS.Conv
import HandS.TryOnly
set_option Elab.async false
set_option linter.all false
set_option maxRecDepth 100000
namespace Shelf
open PySem PySem.Spec PyProof.Rows L2
def topS (i : Nat) : Stmt := PySem.Challenge.pw_shelfcounts_k05_what_makes_no_house.main.body.getD i (.Pass ⟨0, 0, 0, 0⟩)
abbrev sName : Stmt := topS 3
abbrev sWhole : Stmt := topS 4
abbrev sIsEntry : Stmt := topS 9
abbrev sFits : Stmt := topS 10
abbrev sIsEntryOf : Stmt := topS 11
abbrev sGood : Stmt := topS 12
abbrev sPlacesOf : Stmt := topS 13
abbrev sOrd : Stmt := topS 14
abbrev sHouseOf : Stmt := topS 38
abbrev sRising : Stmt := topS 39
abbrev sOwnEnts : Stmt := topS 40
abbrev sInOrder : Stmt := topS 41
abbrev sPen : Stmt := topS 43
abbrev sTake : Stmt := topS 44
abbrev sNames : Stmt := topS 45
abbrev sWords : Stmt := topS 46
abbrev sMoments : Stmt := topS 47
abbrev sMany : Stmt := topS 48
abbrev sEntryOf : Stmt := topS 49
abbrev sEntry : Stmt := topS 50
abbrev sOwn : Stmt := topS 51
abbrev sRefused : Stmt := topS 52
abbrev sPut : Stmt := topS 53
abbrev sNoNames : Stmt := topS 54
abbrev sStray : Stmt := topS 55
abbrev sTwin : Stmt := topS 56
abbrev sNoEnts : Stmt := topS 57
abbrev sSpoilt : Stmt := topS 58
abbrev sLaw : Stmt := topS 59
/-! ### the pen: what a script is drawn from -/
theorem same_new {H : Hp} {p : Addr} {o : HO} (h : H p = none) : Same H (upd H p o) := fun b x e => (upd_ne (ne_of_none e h)).trans e
/-- all but the object at p is as it was -/
def But (p : Addr) (H H' : Hp) : Prop := ∀ b o, H b = some o → b ≠ p → H' b = some o
theorem But.refl (p : Addr) (H : Hp) : But p H H := fun _ _ e _ => e
theorem But.of {p : Addr} {H H' : Hp} (h : Same H H') : But p H H' := fun b o e _ => h b o e
theorem But.tr {p : Addr} {H H1 H2 : Hp} (a : But p H H1) (b : But p H1 H2) : But p H H2 := fun c o e n => b c o (a c o e n) n
theorem But.to {p : Addr} {H H1 : Hp} (a : But p H H1) {l : Addr} {o : HO} (h : H l = none) (n : H p ≠ none) : But p H (upd H1 l o) := fun c u e nc => (upd_ne (ne_of_none e h)).trans (a c u e nc)
theorem dget_s {H : Hp} {p : Addr} {kvs : List (Key × V)} {x : Str} {v : V} (h : H p = some (.dK kvs)) (e : valV kvs (Sum.inr x) = some v) : DGet H p (.str x) (some v) := .inl ⟨kvs, Sum.inr x, .inl h, rfl, e.symm⟩
theorem dput_s {H : Hp} {p : Addr} {kvs : List (Key × V)} {x : Str} {v : V} (h : H p = some (.dK kvs)) (hl : kvs.length < sizeLine) : DPut H p (.str x) v (upd H p (.dK (putK kvs (Sum.inr x) v))) := .inl ⟨kvs, Sum.inr x, h, rfl, hl, rfl⟩
theorem put_len {kvs : List (Key × V)} {k : Key} {v u : V} (e : valV kvs k = some u) : (putK kvs k v).length = kvs.length := by
  have h := valV_any k kvs
  rw [e] at h
  have h' : (kvs.any fun kv => decide (kv.1 = k)) = true := h
  unfold putK
  rw [if_pos h', List.length_map]
abbrev kCells : Key := Sum.inr "cells"
abbrev kAt : Key := Sum.inr "at"
abbrev kLeft : Key := Sum.inr "left"
theorem nCA : ¬ kCells = kAt := by decide +kernel
theorem nCL : ¬ kCells = kLeft := by decide +kernel
theorem nAL : ¬ kAt = kLeft := by decide +kernel
theorem nLA : ¬ kLeft = kAt := by decide +kernel
/-- a pen stands at p, its cells at c; at most n have been drawn -/
structure PenAt (H : Hp) (p c : Addr) (n : Nat) : Prop where
  ex : ∃ (kvs : List (Key × V)) (ns : List Int) (a l : Int), H p = some (.dK kvs) ∧ kvs.length ≤ 3 ∧ valV kvs kCells = some (.ref c) ∧ valV kvs kAt = some (.int a) ∧ valV kvs kLeft = some (.int l) ∧ H c = some (.lst (ns.map V.int)) ∧ 0 ≤ a ∧ a ≤ n ∧ 0 ≤ l
theorem PenAt.same {H H' : Hp} {p c : Addr} {n : Nat} (P : PenAt H p c n) (h : Same H H') : PenAt H' p c n := by
  obtain ⟨kvs, ns, a, l, h1, h2, h3, h4, h5, h6, h7⟩ := P.ex
  exact ⟨kvs, ns, a, l, h _ _ h1, h2, h3, h4, h5, h _ _ h6, h7⟩
theorem PenAt.there {H : Hp} {p c : Addr} {n : Nat} (P : PenAt H p c n) : H p ≠ none := by
  obtain ⟨kvs, ns, a, l, h1, _⟩ := P.ex
  rw [h1]
  exact fun z => nomatch z
theorem PenAt.cells {H : Hp} {p c : Addr} {n : Nat} (P : PenAt H p c n) : H c ≠ none := by
  obtain ⟨kvs, ns, a, l, _, _, _, _, _, h1, _⟩ := P.ex
  rw [h1]
  exact fun z => nomatch z
theorem PenAt.upd {H : Hp} {p c l : Addr} {n : Nat} {o : HO} (P : PenAt H p c n) (h1 : l ≠ p) (h2 : l ≠ c) : PenAt (L2.upd H l o) p c n := by
  obtain ⟨kvs, ns, a, x, g1, g2, g3, g4, g5, g6, g7⟩ := P.ex
  exact ⟨kvs, ns, a, x, (upd_ne h1.symm).trans g1, g2, g3, g4, g5, (upd_ne h2.symm).trans g6, g7⟩
theorem PenAt.mono {H : Hp} {p c : Addr} {n m : Nat} (P : PenAt H p c n) (h : n ≤ m) : PenAt H p c m := by
  obtain ⟨kvs, ns, a, l, g1, g2, g3, g4, g5, g6, g7, g8, g9⟩ := P.ex
  exact ⟨kvs, ns, a, l, g1, g2, g3, g4, g5, g6, g7, by omega, g9⟩
theorem dp_ints {K : PySem.W.Frag} {H : Hp} : ∀ ns : List Int, DpAll K H (ns.map V.int) (ns.map PyData.int)
  | [] => .nil
  | n :: r => .cons (.int n) (dp_ints r)
/-- what a draw promises: a number below many, the pen drawn once more, nothing else touched -/
def spTake : Sp := fun vs H Q _ => ∃ (p c : Addr) (n : Nat) (m : Int), vs = [.ref p, .int m] ∧ PenAt H p c n ∧ n ≤ 100000 ∧ 1 ≤ m ∧ m ≤ 1000000000 ∧
  ∀ (r : Int) (H' : Hp), 0 ≤ r → r < m → PenAt H' p c (n + 1) → But p H H' → Q (.int r) H'
def spPen (K : PySem.W.Frag) : Sp := fun vs H Q _ => ∃ (a : Addr) (ns : List Int), vs = [.ref a] ∧ SqL K H a (ns.map V.int) ∧
  ∀ (p c : Addr) (H' : Hp), H p = none → H c = none → PenAt H' p c 0 → Same H H' → Q (.ref p) H'
theorem mem_cut {α : Type} {xs : List α} {lo hi : Nat} : ∀ x ∈ (xs.drop lo).take hi, x ∈ xs := fun x h => List.mem_of_mem_drop (List.mem_of_mem_take h)
theorem cut_ints (ns : List Int) (lo hi : Option Int) : ∃ ms : List Int, cutV (ns.map V.int) lo hi = ms.map V.int := by
  unfold cutV
  rw [← List.map_drop, ← List.map_take]
  exact ⟨_, rfl⟩
section
variable {P : Program} {w : World} {K : PySem.W.Frag} {mg : Str → Option Value} {base : Heap}
theorem scPen : FnScope ["_law_script"] ["_law_script"] (defScope sPen) := ⟨rfl, rfl, rfl, by decide +kernel, rfl, by decide +kernel, by decide +kernel⟩
theorem scTake : FnScope ["_law_pen_here", "_law_many_here", "_law_found", "_law_at", "_law_cells", "_law_cell", "_law_one", "_law_two"] ["_law_pen_here", "_law_many_here"] (defScope sTake) := ⟨rfl, rfl, rfl, by decide +kernel, rfl, by decide +kernel, by decide +kernel⟩
theorem ok_pen {f : Addr} {fd : FuncData} (F : Fun K "_law_pen" "_law_pen" sPen f fd) (ml : mg "list" = none) : FnOk P w K mg base CX0 1 f fd ["_law_script"] (spPen K) := by
  refine F.ok scPen (fun vs H Q E h => ?_) (fun cdv A outer s H vs Q E hr h => ?_)
  · obtain ⟨a, ns, rfl, _⟩ := h
    rfl
  · obtain ⟨a, ns, rfl, hS, q⟩ := h
    refine ⟨_, pss_one (ps_ret (pe_disp (pps_cons pe_str (pe_callTy call_list_of (by rfl) ml (by decide +kernel) (pa_cons (pe_slice sl_list (pv 0) po_none (po_some pe_int)) pa_nil))
      (pps_cons pe_str pe_int (pps_cons pe_str pe_int pps_nil))) (by rfl) (by rfl) (fun z => by cases z) (by decide))), ?_⟩
    refine fun p np => ?_
    have s1 : Same H (upd H p (.dK [])) := same_new np
    refine ⟨.ref a, rfl, 63, rfl, a, ns.map V.int, rfl, s1.seq hS, fun t nt => ?_⟩
    obtain ⟨ms, em⟩ := cut_ints ns none (some 63)
    have s2 : Same (upd H p (.dK [])) (upd (upd H p (.dK [])) t (.lst (cutV (ns.map V.int) none (some 63)))) := same_new nt
    refine ⟨t, _, rfl, .inl (SqL.of upd_same), fun c nc => ?_⟩
    have s3 := @same_new _ _ (.lst (cutV (ns.map V.int) none (some 63))) nc
    have hp := s3 _ _ (s2 _ _ upd_same)
    refine ⟨hp, [(kCells, .ref c), (kAt, .int 0), (kLeft, .int 0)], rfl, (by show 3 ≤ 15; decide), ?_⟩
    have s4 := s1.trans (s2.trans s3)
    have npc : p ≠ c := ne_of_none (s2 _ _ upd_same) nc
    refine q p c _ np (s1.free (s2.free nc)) ⟨_, ms, 0, 0, upd_same, (by exact Nat.le_refl 3), ?_, ?_, ?_, ?_, Int.le_refl _, Int.le_refl _, Int.le_refl _⟩ fun b o e => (upd_ne (ne_of_none e np)).trans (s4 b o e)
    · rfl
    · rfl
    · rfl
    · rw [upd_ne npc.symm, upd_same, em]
theorem ok_take {f : Addr} {fd : FuncData} (F : Fun K "_law_take" "_law_take" sTake f fd) (mlen : mg "len" = none) (mabs : mg "abs" = none) : FnOk P w K mg base CX0 1 f fd ["_law_pen_here", "_law_many_here"] spTake := by
  refine F.ok scTake (fun vs H Q E h => ?_) (fun cdv A outer s H vs Q E hr h => ?_)
  · obtain ⟨p, c, n, m, rfl, _⟩ := h
    rfl
  · obtain ⟨p, c, n, m, rfl, pen, hn, m1, m2, q⟩ := h
    have hu := hu_of hr
    have nd := scTake.nd
    refine ⟨_, pss_cons (ps_if (pt_cmpR op_gt (pe_dget hu (pv 0) pe_str (fun _ _ => rfl)) pe_int (nomark _))
        (pss_cons (ps_set (i := 2) nd rfl (Or.inl rfl) (pe_op op_mod (pe_dget hu (pv 0) pe_str (fun _ _ => rfl)) (pv 1)))
        (pss_cons (ps_dput hu (pv 0) pe_str (pe_op op_fdiv (pe_dget hu (pv 0) pe_str (fun _ _ => rfl)) (pv 1)) rfl)
        (pss_one (ps_ret (pv 2))))) pss_nil)
      (pss_cons (ps_set (i := 3) nd rfl (Or.inl rfl) (pe_dget hu (pv 0) pe_str (fun _ _ => rfl)))
      (pss_cons (ps_dput hu (pv 0) pe_str (pe_op op_add (pv 3) pe_int) rfl)
      (pss_cons (ps_set (i := 4) nd rfl (Or.inl rfl) (pe_dget hu (pv 0) pe_str (fun _ _ => rfl)))
      (pss_cons (ps_set (i := 5) nd rfl (Or.inl rfl) (pe_op op_add (pe_op op_add (pe_op op_mul (pe_op op_mul pe_int (pv 3)) (pv 3)) (pe_op op_mul pe_int (pv 3))) pe_int))
      (C8.pss_cut (ps_if (pt_cmpR (op_neD hr.units) (pv 4) (pe_lst pa_nil) (nomark _))
        (pss_one (ps_set (i := 5) nd rfl (Or.inl rfl) (pe_ix ix_list (pv 4) (pe_op op_mod (pv 3) (pe_callB call_len_seq (by rfl) mlen PySem.boot_len (pa_cons (pv 4) pa_nil))) (fun _ _ => rfl)))) pss_nil)
      (C8.pss_cut (ps_if (PW.pt (pw_and (pt_cmpR op_lt (pv 3) (pe_callB call_len_seq (by rfl) mlen PySem.boot_len (pa_cons (pv 4) pa_nil)) (nomark _))
          (pw_and1 (pt_cmpR op_ge (pe_callB call_abs (by rfl) mabs (by decide +kernel) (pa_cons (pv 5) pa_nil)) (pe_op op_pow pe_int pe_int) (nomark _)))))
        (pss_cons (ps_dput hu (pv 0) pe_str (pe_op op_fdiv (pe_callB call_abs (by rfl) mabs (by decide +kernel) (pa_cons (pv 5) pa_nil)) (pv 1)) rfl)
        (pss_one (ps_ret (pe_op op_mod (pe_callB call_abs (by rfl) mabs (by decide +kernel) (pa_cons (pv 5) pa_nil)) (pv 1))))) pss_nil)
      (pss_cons (ps_set (i := 6) nd rfl (Or.inl rfl) (pe_op op_mod (pe_op op_pow (pe_op op_add (pe_op op_add (pe_op op_mod (pv 5) pe_int) (pe_op op_mul pe_int (pv 3))) pe_int) pe_int) pe_int))
      (pss_cons (ps_set (i := 7) nd rfl (Or.inl rfl) (pe_op op_mod (pe_op op_pow (pe_op op_add (pe_op op_add (pv 6) (pe_op op_mul (pe_op op_mul pe_int (pv 3)) (pv 3))) pe_int) pe_int) pe_int))
      (pss_one (ps_ret (pe_op op_mod (pe_op op_fdiv (pe_op op_mod (pe_op op_mul (pv 7) (pe_op op_add (pe_op op_mod (pv 6) pe_int) pe_int)) pe_int) pe_int) (pv 1)))))))))))), ?_⟩
    obtain ⟨kvs, ns, a, l, g1, g2, g3, g4, g5, g6, g7, g8, g9⟩ := pen.ex
    have hsz : kvs.length < sizeLine := small1000 (by omega)
    have npc : p ≠ c := ne_of g1 g6 (by intro z; cases z)
    -- the left
    refine ⟨_, rfl, p, _, rfl, dget_s g1 g5, l, 0, rfl, rfl, _, rfl, ite2 (fun e => ?_) (fun e => ?_)⟩
    · have e' : 0 < l := of_decide_eq_true e
      refine ⟨_, rfl, p, _, rfl, dget_s g1 g5, _, rfl, l, m, rfl, rfl, (by show (0 : Int) < m; omega), ?_⟩
      refine ⟨_, rfl, p, _, rfl, dget_s g1 g5, _, rfl, l, m, rfl, rfl, ⟨by omega, by omega⟩, _, rfl, p, _, rfl, dput_s g1 hsz, _, rfl, ?_⟩
      refine q _ _ (Int.emod_nonneg _ (by omega)) (Int.emod_lt_of_pos _ (by omega)) ⟨_, ns, a, l / m, upd_same, (by rw [put_len g5]; exact g2), ?_, ?_, ?_, ?_, g7, by omega, Int.ediv_nonneg (by omega) (by omega)⟩ fun b o z nb => (upd_ne nb).trans z
      · rw [valV_put, if_neg nCL]; exact g3
      · rw [valV_put, if_neg nAL]; exact g4
      · rw [valV_put, if_pos rfl]
      · rw [upd_ne npc.symm]; exact g6
    · -- a new cell
      refine ⟨_, rfl, p, _, rfl, dget_s g1 g4, ?_⟩
      refine ⟨_, rfl, a, 1, rfl, rfl, _, rfl, p, _, rfl, dput_s g1 hsz, ?_⟩
      have k1 : (upd H p (.dK (putK kvs kAt (.int (a + 1))))) p = some (.dK (putK kvs kAt (.int (a + 1)))) := upd_same
      have v3 : valV (putK kvs kAt (.int (a + 1))) kCells = some (.ref c) := by rw [valV_put, if_neg nCA]; exact g3
      have v4 : valV (putK kvs kAt (.int (a + 1))) kAt = some (.int (a + 1)) := by rw [valV_put, if_pos rfl]
      have v5 : valV (putK kvs kAt (.int (a + 1))) kLeft = some (.int l) := by rw [valV_put, if_neg nLA]; exact g5
      have k2 : (putK kvs kAt (.int (a + 1))).length ≤ 3 := by rw [put_len g4]; exact g2
      have k6 : (upd H p (.dK (putK kvs kAt (.int (a + 1))))) c = some (.lst (ns.map V.int)) := by rw [upd_ne npc.symm]; exact g6
      generalize putK kvs kAt (.int (a + 1)) = kw at k1 k2 k6 v3 v4 v5
      refine ⟨_, rfl, p, _, rfl, dget_s k1 v3, ?_⟩
      refine ⟨_, rfl, 70207, a, rfl, rfl, .inl ⟨by decide, by decide⟩, _, rfl, _, a, rfl, rfl, .inr ⟨by omega, by omega⟩, _, rfl, 131, a, rfl, rfl, .inl ⟨by decide, by decide⟩, _, _, rfl, rfl, _, 29, rfl, rfl, ?_⟩
      refine ⟨fun σ' H' => ∃ x : Int, σ' = [some (.ref p), some (.int m), none, some (.int a), some (.ref c), some (.int x), none, none] ∧ Same (upd H p (.dK kw)) H', ?_, ?_⟩
      · refine ⟨_, rfl, Nat.zero_le _, fun t nt => ?_⟩
        have s1 := @same_new _ _ (.lst []) nt
        refine ⟨.list (ns.map PyData.int), .list [], .lst (SqL.of (s1 _ _ k6)) (dp_ints ns), .lst (SqL.of upd_same) .nil, PySem.W.ke_shaped_ints ns, PySem.W.ke_shaped_ints [], _, rfl, ?_⟩
        cases e2 : (!PyData.eqv (.list (ns.map PyData.int)) (.list [])) with
        | false => exact iteF ⟨_, rfl, s1⟩
        | true =>
          refine iteT ?_
          have hne : ns ≠ [] := fun z => by
            subst z
            rw [show PyData.eqv (.list (([] : List Int).map PyData.int)) (.list []) = true from rfl] at e2
            cases e2
          have hlen : 0 < ns.length := List.length_pos_iff.mpr hne
          have hlt : (a % (ns.length : Int)).toNat < ns.length := by
            have h1 := Int.emod_nonneg a (show (ns.length : Int) ≠ 0 by omega)
            have h2 := Int.emod_lt_of_pos a (show (0 : Int) < ns.length by omega)
            omega
          refine ⟨_, rfl, _, rfl, _, rfl, c, _, rfl, .inl (SqL.of (s1 _ _ k6)), a, _, rfl, rfl, ?_, c, _, _, .int ns[(a % (ns.length : Int)).toNat], rfl, rfl, SqL.of (s1 _ _ k6), ?_, _, rfl, s1⟩
          · show (0 : Int) < ((ns.map V.int).length : Int)
            rw [List.length_map]; omega
          · rw [List.length_map]
            refine at_of (j := (a % (ns.length : Int)).toNat) (Int.toNat_of_nonneg (Int.emod_nonneg a (show (ns.length : Int) ≠ 0 by omega))).symm ?_
            rw [List.getElem?_map, List.getElem?_eq_getElem hlt]
            rfl
      · rintro σ' H2 ⟨x, rfl, s1⟩
        have j1 := s1 _ _ k1
        have j6 := s1 _ _ k6
        have bt : But p H H2 := fun b o z nb => s1 _ _ ((upd_ne nb).trans z)
        have absn : (0 : Int) ≤ if x < 0 then -x else x := by split <;> omega
        have fin : ∀ r : Int, 0 ≤ r → r < m → Q (.int r) H2 := fun r r1 r2 => q r H2 r1 r2 ⟨kw, ns, a + 1, l, j1, k2, v3, v4, v5, j6, by omega, by omega, g9⟩ bt
        have a2 : 0 ≤ 1213 * a * a ∧ 1213 * a * a ≤ 121300000 * 100000 := ⟨Int.mul_nonneg (by omega) g7, Int.mul_le_mul (by omega) (by omega) g7 (by decide)⟩
        refine ⟨fun σ' H' => σ' = [some (.ref p), some (.int m), none, some (.int a), some (.ref c), some (.int x), none, none] ∧ H' = H2, ?_, ?_⟩
        · refine ⟨_, rfl, _, rfl, c, _, rfl, .inl (SqL.of j6), a, _, rfl, rfl, _, rfl, ?_⟩
          refine ite2 (fun _ => ?_) (fun _ => ?_)
          · refine ⟨_, rfl, x, rfl, 10, 18, rfl, rfl, ⟨by decide, by decide, by decide⟩, _, _, rfl, rfl, _, rfl, ite2 (fun _ => ?_) (fun _ => ⟨rfl, rfl⟩)⟩
            refine ⟨_, rfl, x, rfl, _, rfl, _, m, rfl, rfl, ⟨by omega, by omega⟩, _, rfl, p, _, rfl, dput_s j1 (small1000 (by omega)), ?_⟩
            refine ⟨_, rfl, x, rfl, _, rfl, _, m, rfl, rfl, (by show (0 : Int) < m; omega), ?_⟩
            refine q _ _ (Int.emod_nonneg _ (by omega)) (Int.emod_lt_of_pos _ (by omega)) ⟨_, ns, a + 1, (if x < 0 then -x else x) / m, upd_same, (by rw [put_len v5]; exact k2), ?_, ?_, ?_, ?_, by omega, by omega, Int.ediv_nonneg absn (by omega)⟩ fun b o z nb => (upd_ne nb).trans (bt b o z nb)
            · rw [valV_put, if_neg nCL]; exact v3
            · rw [valV_put, if_neg nAL]; exact v4
            · rw [valV_put, if_pos rfl]
            · rw [upd_ne npc.symm]; exact j6
          · exact iteF ⟨rfl, rfl⟩
        · rintro σ' H' ⟨rfl, rfl⟩
          have b1 := Int.emod_nonneg x (show (2147483587 : Int) ≠ 0 by decide)
          have b2 := Int.emod_lt_of_pos x (show (0 : Int) < 2147483587 by decide)
          refine ⟨_, rfl, x, _, rfl, rfl, (by show (0 : Int) < 2147483587; decide), _, rfl, 45007, a, rfl, rfl, .inl ⟨by decide, by decide⟩, _, _, rfl, rfl, _, 11, rfl, rfl, _, 3, rfl, rfl, ⟨by decide, by decide, ?_⟩, _, 2147483629, rfl, rfl, (by show (0 : Int) < 2147483629; decide), ?_⟩
          · generalize x % 2147483587 = y at b1 b2
            show (y + 45007 * a + 11).natAbs < 2 ^ 64
            omega
          · generalize (x % 2147483587 + 45007 * a + 11) ^ (3 : Int).toNat = z
            have d1 := Int.emod_nonneg z (show (2147483629 : Int) ≠ 0 by decide)
            have d2 := Int.emod_lt_of_pos z (show (0 : Int) < 2147483629 by decide)
            obtain ⟨o, ho⟩ : ∃ o, z % 2147483629 = o := ⟨_, rfl⟩
            rw [ho] at d1 d2
            show tSeq _ _ _ [some (.ref p), some (.int m), none, some (.int a), some (.ref c), some (.int x), some (.int (z % 2147483629)), none] _
            rw [ho]
            have f1 := Int.emod_nonneg o (show (64007 : Int) ≠ 0 by decide)
            have f2 := Int.emod_lt_of_pos o (show (0 : Int) < 64007 by decide)
            refine ⟨_, rfl, _, rfl, 1213, a, rfl, rfl, .inl ⟨by decide, by decide⟩, _, rfl, _, a, rfl, rfl, .inr ⟨by omega, by omega⟩, o, _, rfl, rfl, _, 3, rfl, rfl, _, 5, rfl, rfl, ⟨by decide, by decide, ?_⟩, _, 2147483543, rfl, rfl, (by show (0 : Int) < 2147483543; decide), ?_⟩
            · show (o + 1213 * a * a + 3).natAbs < 2 ^ 64
              omega
            · refine ⟨_, rfl, _, rfl, o, 64007, rfl, rfl, (by show (0 : Int) < 64007; decide), _, 1, rfl, rfl, _, _, rfl, rfl, .inr ⟨by omega, by omega⟩, _, 2147483579, rfl, rfl, (by show (0 : Int) < 2147483579; decide), _, 64, rfl, rfl, ⟨by decide, by decide⟩, _, rfl, _, m, rfl, rfl, (by show (0 : Int) < m; omega), ?_⟩
              exact fin _ (Int.emod_nonneg _ (by omega)) (Int.emod_lt_of_pos _ (by omega))
end
/-! ### texts as lists of signs -/
abbrev sc (l : List Nat) : Str := ⟨l.toArray⟩
theorem sc_list (z : Str) : sc z.cps.toList = z := rfl
theorem sc_len (l : List Nat) : (sc l).length = l.length := by
  show l.toArray.size = l.length
  simp
theorem sc_app (a b : List Nat) : (sc a ++ sc b : Str) = sc (a ++ b) := by
  have h : TL.tl (sc a ++ sc b) = TL.tl (sc (a ++ b)) := by
    rw [TL.tl_append]
  have h2 := congrArg sc h
  exact h2
theorem sc_take (l : List Nat) {k : Nat} (hk : k ≤ l.length) : cutS (sc l) none (some (k : Int)) = sc (l.take k) := by
  unfold cutS
  rw [HT.sIx_none, HT.sIx_nat, sc_len, Nat.min_eq_left hk]
  show sc ((l.toArray.toList.drop 0).take (k - 0)) = sc (l.take k)
  simp
theorem sc_drop (l : List Nat) {k : Nat} (hk : k ≤ l.length) : cutS (sc l) (some (k : Int)) none = sc (l.drop k) := by
  unfold cutS
  rw [HT.sIx_none, HT.sIx_nat, sc_len, Nat.min_eq_left hk]
  show sc ((l.toArray.toList.drop k).take (l.length - k)) = sc (l.drop k)
  rw [List.take_of_length_le (by simp)]
theorem sc_join (ls : List (List Nat)) : Txt.join "" (ls.map sc) = sc ls.flatten := by
  have h : ∀ l : List (List Nat), TL.joinL [] l = l.flatten := by
    intro l
    induction l with
    | nil => rfl
    | cons p r ih =>
      cases r with
      | nil => show p = [p].flatten; simp
      | cons q r => show p ++ ([] ++ TL.joinL [] (q :: r)) = _; rw [List.nil_append, ih]; rfl
  have e := TL.tl_join "" (ls.map sc)
  rw [show TL.tl ("" : Str) = [] from rfl, h, List.map_map] at e
  rw [TL.join_eq]
  have e2 : ls.map (TL.tl ∘ sc) = ls := by
    have : (TL.tl ∘ sc) = id := funext fun l => by show l.toArray.toList = l; simp
    rw [this, List.map_id]
  rw [e2] at e
  exact congrArg sc e
abbrev abc : Str := "abcdefghijklmnopqrstuvwxyz"
def Lc (i : Nat) : Nat := abc.cps.toList.getD i 0
theorem abc_len : abc.cps.toList.length = 26 := by decide +kernel
theorem at_abc {r : Int} (h0 : 0 ≤ r) (h1 : r < 26) : atI abc.cps.toList r = some (Lc r.toNat) := by
  have h : r.toNat < abc.cps.toList.length := by rw [abc_len]; omega
  have e : ((r.toNat : Nat) : Int) = r := by omega
  have q := atI_nat (List.getElem?_eq_getElem h)
  rw [e] at q
  rw [q, Lc, List.getD_eq_getElem?_getD, List.getElem?_eq_getElem h]
  rfl
theorem Lc_in {i : Nat} (h : i < 26) : Lc i ∈ abc.cps.toList := by
  rw [Lc, List.getD_eq_getElem?_getD, List.getElem?_eq_getElem (by rw [abc_len]; exact h)]
  exact List.getElem_mem _
/-! ### the names that a law draws -/
def nmPair (t k : Nat) : List Nat := [Lc ((t + 7 * k) % 26), Lc ((t + k / 26) % 26)]
def bij (t : Nat) : Nat → List Nat
  | 0 => []
  | r + 1 => bij t (r / 2) ++ [Lc ((t + 9 * ((r + 1) % 2)) % 26)]
def nm (way t : Nat) (B : List Nat) (sp k : Nat) : List Nat := if way = 1 then bij t (k + 1) else B.take sp ++ nmPair t k ++ B.drop sp
def nmStr (way t : Nat) (B : List Nat) (sp k : Nat) : Str := sc (nm way t B sp k)
structure NmOk (way t : Nat) (B : List Nat) (sp : Nat) : Prop where
  t26 : t < 26
  b6 : B.length ≤ 6
  bl : ∀ c ∈ B, c ∈ abc.cps.toList
  s : sp ≤ B.length
/-- a list of names at l -/
def NmAt (H : Hp) (l : Addr) (m : Nat) : Prop := ∃ way t B sp, NmOk way t B sp ∧ H l = some (.lst ((List.range m).map fun k => V.str (nmStr way t B sp k)))
theorem bij_len (t : Nat) : ∀ r, (bij t r).length = if r = 0 then 0 else (bij t ((r - 1) / 2)).length + 1
  | 0 => by rw [bij]; rfl
  | r + 1 => by rw [bij, List.length_append, if_neg (by omega)]; rfl
theorem bij_le (t : Nat) : ∀ r, (bij t r).length ≤ r
  | 0 => by rw [bij]; exact Nat.le_refl _
  | r + 1 => by
    rw [bij, List.length_append]
    have := bij_le t (r / 2)
    show _ + 1 ≤ _
    omega
theorem flat_one : ∀ B : List Nat, (B.map fun c => [c]).flatten = B
  | [] => rfl
  | b :: r => by rw [List.map_cons, List.flatten_cons, flat_one r]; rfl
theorem sum_one : ∀ B : List Nat, (((B.map fun c => [c]).map sc).map (·.length)).sum = B.length
  | [] => rfl
  | b :: r => by
    rw [List.map_cons, List.map_cons, List.map_cons, List.sum_cons, sum_one r, List.length_cons, sc_len]
    exact Nat.add_comm _ _
def restOf (σ : L2.St) (_ : Hp) : Nat := match σ[10]? with
  | some (some (V.int r)) => r.toNat
  | _ => 0
/-- what _law_names promises -/
def spNames : Sp := fun vs H Q _ => ∃ (p c : Addr) (n : Nat) (m : Int), vs = [.ref p, .int m] ∧ PenAt H p c n ∧ n ≤ 50000 ∧ 0 ≤ m ∧ m ≤ 31 ∧
  ∀ (l : Addr) (H' : Hp), H l = none → NmAt H' l m.toNat → PenAt H' p c (n + 10) → But p H H' → Q (.ref l) H'
theorem yesT {σ : L2.St} {H : Hp} {A B : Hp → Prop} (h : A H) : tYes σ H fun b H3 => if b = true then A H3 else B H3 := iteT (A := A H) (B := B H) h
theorem small_sz {n : Nat} (h : n ≤ 1000) : n ≤ sizeLine := Nat.le_of_lt (small1000 h)
theorem at_ex {α : Type} {xs : List α} {r : Int} (h0 : 0 ≤ r) (h1 : r < (xs.length : Int)) : ∃ v, atI xs r = some v ∧ v ∈ xs := by
  have h : r.toNat < xs.length := by omega
  have e : ((r.toNat : Nat) : Int) = r := by omega
  have q := atI_nat (List.getElem?_eq_getElem h)
  rw [e] at q
  exact ⟨_, q, List.getElem_mem h⟩
/-- the def _law_take, as its callers need it -/
structure TakeT (P : Program) (w : World) (K : PySem.W.Frag) (mg : Str → Option Value) (base : Heap) (f : Addr) (fd : FuncData) : Prop where
  ok : FnOk P w K mg base CX0 1 f fd ["_law_pen_here", "_law_many_here"] spTake
  g : mg "_law_take" = some (.ref f)
  kp : PySem.W.keepIn K (.ref f) = true
  b : Binds K fd ["_law_pen_here", "_law_many_here"] []
/-- any def, as its callers need it -/
structure DefT (P : Program) (w : World) (K : PySem.W.Frag) (mg : Str → Option Value) (base : Heap) (x : Str) (k : Nat) (f : Addr) (fd : FuncData) (ps : List Str) (sp : Sp) : Prop where
  ok : FnOk P w K mg base CX0 k f fd ps sp
  g : mg x = some (.ref f)
  kp : PySem.W.keepIn K (.ref f) = true
  b : Binds K fd ps []
abbrev namesN : List Str := ["_law_pen_here", "_law_many_here", "_law_letters", "_law_way", "_law_turn", "_law_k", "_law_base", "_law_spot", "_law_found", "_law_word", "_law_rest"]
section
variable {P : Program} {w : World} {K : PySem.W.Frag} {mg : Str → Option Value} {base : Heap}
theorem scNames : FnScope namesN ["_law_pen_here", "_law_many_here"] (defScope sNames) := ⟨rfl, rfl, rfl, by decide +kernel, rfl, by decide +kernel, by decide +kernel⟩
set_option maxHeartbeats 4000000 in
theorem ok_names {f fT : Addr} {fd fdT : FuncData} (F : Fun K "_law_names" "_law_names" sNames f fd) (T : TakeT P w K mg base fT fdT) (ml : mg "len" = none) (mr : mg "range" = none) :
    FnOk P w K mg base CX0 2 f fd ["_law_pen_here", "_law_many_here"] spNames := by
  refine F.ok scNames (fun vs H Q E h => ?_) (fun cdv A outer s H vs Q E hr h => ?_)
  · obtain ⟨p, c, n, m, rfl, _⟩ := h
    rfl
  · obtain ⟨p, c, n, m, rfl, pen, hn, m0, m31, q⟩ := h
    have nd := scNames.nd
    refine ⟨_, pss_cons (ps_set (i := 2) nd rfl (Or.inr rfl) pe_str)
      (pss_cons (ps_set (i := 3) nd rfl (Or.inl rfl) (pe_call T.ok hr (by rfl) T.g T.kp T.b .nil pass0 (pa_cons (pv 0) (pa_cons pe_int pa_nil))))
      (pss_cons (ps_set (i := 4) nd rfl (Or.inl rfl) (pe_call T.ok hr (by rfl) T.g T.kp T.b .nil pass0 (pa_cons (pv 0) (pa_cons pe_int pa_nil))))
      (pss_cons (ps_set (i := 6) nd rfl (Or.inl rfl) (pe_join pe_str (pe_lc (own := [("_law_k", 5)]) (g := gName 5) (tt := tYes) rfl nd
          (pi_range1 rfl mr (pa_cons (pe_ix ix_list (pe_lst (pa_cons (pe_call T.ok hr (by rfl) T.g T.kp T.b .nil pass0 (pa_cons (pv 0) (pa_cons pe_int pa_nil))) (pa_cons pe_int (pa_cons pe_int pa_nil)))) (pv 3) (fun _ _ => rfl)) pa_nil))
          (blkOk_by (N := namesN) (sc := defScope sNames) (by decide +kernel))
          (fun _ _ _ _ _ => pg_name (i := 5) nd rfl (Or.inl rfl)) (fun _ _ _ _ _ => pts_nil)
          (fun _ _ _ _ _ => pe_ix ix_str (pv 2) (pe_call T.ok hr (by rfl) T.g T.kp T.b .nil pass0 (pa_cons (pv 0) (pa_cons pe_int pa_nil))) (fun _ _ => rfl)))))
      (pss_cons (ps_set (i := 7) nd rfl (Or.inl rfl) (pe_call T.ok hr (by rfl) T.g T.kp T.b .nil pass0 (pa_cons (pv 0) (pa_cons (pe_op op_add (pe_callB call_len_str (by rfl) ml PySem.boot_len (pa_cons (pv 6) pa_nil)) pe_int) pa_nil))))
      (pss_cons (ps_set (i := 8) nd rfl (Or.inl rfl) (pe_lst pa_nil))
      (pss_cons (ps_for PassesOwn.never rfl (pi_range1 rfl mr (pa_cons (pv 1) pa_nil)) (pg_name (i := 5) nd rfl (Or.inl rfl))
        (pss_cons (ps_set (i := 9) nd rfl (Or.inl rfl) (pe_op op_add_str (pe_ix ix_str (pv 2) (pe_op op_mod (pe_op op_add (pv 4) (pe_op op_mul pe_int (pv 5))) pe_int) (fun _ _ => rfl)) (pe_ix ix_str (pv 2) (pe_op op_mod (pe_op op_add (pv 4) (pe_op op_fdiv (pv 5) pe_int)) pe_int) (fun _ _ => rfl))))
        (pss_cons (ps_set (i := 9) nd rfl (Or.inl rfl) (pe_op op_add_str (pe_op op_add_str (pe_slice sl_str (pv 6) po_none (po_some (pv 7))) (pv 9)) (pe_slice sl_str (pv 6) (po_some (pv 7)) po_none)))
        (C8.pss_cut (ps_if (pt_cmpR op_eq (pv 3) pe_int (nomark _))
            (pss_cons (ps_set (i := 9) nd rfl (Or.inl rfl) pe_str)
            (pss_cons (ps_set (i := 10) nd rfl (Or.inl rfl) (pe_op op_add (pv 5) pe_int))
            (pss_one (ps_while PassesOwn.never (pt_cmpR op_gt (pv 10) pe_int (nomark _))
              (pss_cons (ps_set (i := 9) nd rfl (Or.inl rfl) (pe_op op_add_str (pe_ix ix_str (pv 2) (pe_op op_mod (pe_op op_add (pv 4) (pe_op op_mul pe_int (pe_op op_mod (pv 10) pe_int))) pe_int) (fun _ _ => rfl)) (pv 9)))
              (pss_one (ps_set (i := 10) nd rfl (Or.inl rfl) (pe_op op_fdiv (pe_op op_sub (pv 10) pe_int) pe_int)))))))) pss_nil)
        (pss_one (ps_expr (pe_bm PySem.F.plainAttrs_list PySem.F.slot_list_append PySem.F.type_list_append mt_append (pv 8) (pa_cons (pv 9) pa_nil))))))))
      (pss_one (ps_ret (pv 8))))))))), ?_⟩
    -- way, turn
    refine ⟨_, rfl, p, c, n, 3, rfl, pen, by omega, by decide, by decide, fun r1 H1 a1 b1 pen1 bt1 => ?_⟩
    refine ⟨_, rfl, p, c, n + 1, 26, rfl, pen1, by omega, by decide, by decide, fun r2 H2 a2 b2 pen2 bt2 => ?_⟩
    -- the base's size
    refine ⟨⟨_, rfl⟩, _, rfl, p, c, n + 2, 7, rfl, pen2, by omega, by decide, by decide, fun r3 H3 a3 b3 pen3 bt3 => ?_⟩
    refine ⟨(by show 3 ≤ sizeLine; decide), fun l nl => ?_⟩
    have s4 := @same_new _ _ (.lst [V.int r3, .int 0, .int 6]) nl
    obtain ⟨kk, hkk, k0, k6⟩ : ∃ kk : Int, atI [V.int r3, .int 0, .int 6] r1 = some (.int kk) ∧ 0 ≤ kk ∧ kk ≤ 6 := by
      have w3 : r1 = 0 ∨ r1 = 1 ∨ r1 = 2 := by omega
      rcases w3 with rfl | rfl | rfl
      · exact ⟨r3, atI_nat (j := 0) rfl, a3, by omega⟩
      · exact ⟨0, atI_nat (j := 1) rfl, by decide, by decide⟩
      · exact ⟨6, atI_nat (j := 2) rfl, by decide, by decide⟩
    have pen4 := pen3.same s4
    have bt4 : But p H (upd H3 l (.lst [V.int r3, .int 0, .int 6])) := (bt1.tr (bt2.tr bt3)).tr (.of s4)
    refine ⟨_, rfl, l, _, r1, _, rfl, rfl, SqL.of upd_same, hkk, kk, rfl, by omega, by omega, fun D nD => ?_⟩
    generalize upd H3 l (.lst [V.int r3, .int 0, .int 6]) = H4 at pen4 bt4 nD
    have nDp : D ≠ p := fun z => pen4.there (z ▸ nD)
    have nDc : D ≠ c := fun z => pen4.cells (z ▸ nD)
    refine lc_range (lo := 0) (n := kk.toNat) (fun j H' => PenAt H' p c (n + 3 + j) ∧ But p H H' ∧ ∃ B : List Nat, H' D = some (.lst (((B.map fun c => [c]).map sc).map V.str)) ∧ B.length = j ∧ ∀ c ∈ B, c ∈ abc.cps.toList)
      ⟨pen4.same (same_new nD), bt4.tr (.of (same_new nD)), [], upd_same, rfl, fun y hy => nomatch hy⟩ ?_ ?_
    · rintro j H6 hj ⟨pen6, bt6, B, hD6, ly, one⟩
      refine ⟨rfl, yesT ?_⟩
      refine ⟨_, rfl, _, rfl, p, c, _, 26, rfl, pen6, by omega, by decide, by decide, fun r H7 a7 b7 pen7 bt7 => ?_⟩
      have hD7 := bt7 D _ hD6 nDp
      have hDn : H D = none := by
        cases e : H D with
        | none => rfl
        | some o => rw [bt4 D o e nDp] at nD; cases nD
      refine ⟨abc, r, _, rfl, rfl, (by decide +kernel), at_abc a7 b7, _, hD7, (by simp only [List.length_map]; exact small1000 (by omega)), pen7.upd nDp nDc, fun b o e nb => (upd_ne (ne_of_none e hDn)).trans ((bt6.tr bt7) b o e nb), B ++ [Lc r.toNat], ?_, by simp [ly], ?_⟩
      · rw [upd_same, List.map_append, List.map_append, List.map_append]
        rfl
      · intro y hy
        rcases List.mem_append.mp hy with h | h
        · exact one y h
        · rw [List.mem_singleton.mp h]
          exact Lc_in (by omega)
    · rintro H6 ⟨pen6, bt6, B, hD6, ly, one⟩
      have bl : B.length ≤ 6 := by omega
      have ej : Txt.join "" ((B.map fun c => [c]).map sc) = sc B := by rw [sc_join, flat_one]
      refine ⟨"", D, (B.map fun c => [c]).map sc, rfl, rfl, .inl (SqL.of hD6), (by rw [sum_one]; simp only [List.length_map]; show B.length + B.length * 0 ≤ 16777216; omega), ?_⟩
      rw [ej]
      -- the spot
      refine ⟨_, rfl, _, rfl, sc B, rfl, (by rw [sc_len]; exact small_sz (by omega)), _, 1, rfl, rfl, p, c, n + 9, (B.length : Int) + 1, (by rw [sc_len]; rfl), pen6.mono (by omega), by omega, by omega, by omega, fun r4 H7 a4 b4 pen7 bt7 => ?_⟩
      refine ⟨Nat.zero_le _, fun Fd nFd => ?_⟩
      have nFp : Fd ≠ p := fun z => pen7.there (z ▸ nFd)
      have nFc : Fd ≠ c := fun z => pen7.cells (z ▸ nFd)
      have bt8 := bt6.tr bt7
      have hFn : H Fd = none := by
        cases e : H Fd with
        | none => rfl
        | some o => rw [bt8 Fd o e nFp] at nFd; cases nFd
      have nmok : NmOk r1.toNat r2.toNat B r4.toNat := ⟨by omega, bl, one, by omega⟩
      refine ⟨_, rfl, m, rfl, by omega, by omega, for_range (lo := 0) (n := m.toNat) (fun j σ H' => ∃ y5 y9 y10, σ = [some (.ref p), some (.int m), some (.str abc), some (.int r1), some (.int r2), y5, some (.str (sc B)), some (.int r4), some (.ref Fd), y9, y10] ∧
        PenAt H' p c (n + 10) ∧ But p H H' ∧ H' Fd = some (.lst ((List.range j).map fun k => V.str (nmStr r1.toNat r2.toNat B r4.toNat k)))) ⟨_, _, _, rfl, pen7.same (same_new nFd), bt8.tr (.of (same_new nFd)), upd_same⟩ ?_ ?_⟩
      · rintro j σ H9 hj ⟨y5, y9, y10, rfl, pen9, bt9, hF9⟩
        have i1 : 0 ≤ (r2 + 7 * (0 + (j : Int))) % 26 := Int.emod_nonneg _ (by decide)
        have i2 : (r2 + 7 * (0 + (j : Int))) % 26 < 26 := Int.emod_lt_of_pos _ (by decide)
        have i3 : 0 ≤ (r2 + (0 + (j : Int)) / 26) % 26 := Int.emod_nonneg _ (by decide)
        have i4 : (r2 + (0 + (j : Int)) / 26) % 26 < 26 := Int.emod_lt_of_pos _ (by decide)
        refine ⟨_, rfl, _, rfl, _, rfl, 7, 0 + (j : Int), rfl, rfl, .inl ⟨by decide, by decide⟩, r2, _, rfl, rfl, _, 26, rfl, rfl, (by show (0 : Int) < 26; decide), abc, _, _, rfl, rfl, (by decide +kernel), at_abc i1 i2, ?_⟩
        refine ⟨_, rfl, _, rfl, _, rfl, 0 + (j : Int), 26, rfl, rfl, ⟨by decide, by decide⟩, r2, _, rfl, rfl, _, 26, rfl, rfl, (by show (0 : Int) < 26; decide), abc, _, _, rfl, rfl, (by decide +kernel), at_abc i3 i4, _, _, rfl, rfl, (by show 1 + 1 ≤ sizeLine; decide), ?_⟩
        have q1 : ((r2 + 7 * (0 + (j : Int))) % 26).toNat = (r2.toNat + 7 * j) % 26 := by omega
        have q2 : ((r2 + (0 + (j : Int)) / 26) % 26).toNat = (r2.toNat + j / 26) % 26 := by
          have h : (0 + (j : Int)) / 26 = ((j / 26 : Nat) : Int) := by omega
          rw [h]
          generalize j / 26 = u
          omega
        have wd : ((⟨#[Lc ((r2 + 7 * (0 + (j : Int))) % 26).toNat]⟩ : Str) ++ ⟨#[Lc ((r2 + (0 + (j : Int)) / 26) % 26).toNat]⟩ : Str) = sc (nmPair r2.toNat j) := by
          rw [q1, q2]
          exact sc_app [_] [_]
        have e4 : ((r4.toNat : Nat) : Int) = r4 := by omega
        have c1 : cutS (sc B) none (some r4) = sc (B.take r4.toNat) := by rw [← e4]; exact sc_take B (by omega)
        have c2 : cutS (sc B) (some r4) none = sc (B.drop r4.toNat) := by rw [← e4]; exact sc_drop B (by omega)
        have szB : (sc B).length ≤ sizeLine := by rw [sc_len]; exact small_sz (by omega)
        refine ⟨_, rfl, _, rfl, r4, rfl, sc B, rfl, szB, _, rfl, _, _, rfl, rfl, ?_, _, rfl, _, rfl, r4, rfl, sc B, rfl, szB, _, _, rfl, rfl, ?_, ?_⟩
        · rw [wd, c1, sc_len, sc_len]
          refine small_sz ?_
          rw [List.length_take]
          show _ + 2 ≤ _
          omega
        · rw [wd, c1, c2, sc_app, sc_len, sc_len, List.length_append, List.length_take, List.length_drop]
          refine small_sz ?_
          show _ + 2 + _ ≤ _
          omega
        rw [wd, c1, c2, sc_app, sc_app]
        refine ⟨fun σ' H' => ∃ y10, σ' = [some (.ref p), some (.int m), some (.str abc), some (.int r1), some (.int r2), some (.int (0 + (j : Int))), some (.str (sc B)), some (.int r4), some (.ref Fd), some (.str (nmStr r1.toNat r2.toNat B r4.toNat j)), y10] ∧ H' = H9, ?_, ?_⟩
        · refine ⟨_, rfl, rfl, _, rfl, ite2 (fun e => ?_) (fun e => ?_)⟩
          · have e1 : r1 = 1 := V.int.inj (of_decide_eq_true e)
            subst e1
            refine ⟨_, rfl, _, 1, rfl, rfl, ?_⟩
            have el : (bij r2.toNat (j + 1)).length ≤ 100 := Nat.le_trans (bij_le _ _) (by omega)
            refine while_by (fun σ' H' => ∃ (L : List Nat) (r : Int), σ' = [some (.ref p), some (.int m), some (.str abc), some (.int 1), some (.int r2), some (.int (0 + (j : Int))), some (.str (sc B)), some (.int r4), some (.ref Fd), some (.str (sc L)), some (.int r)] ∧ H' = H9 ∧ 0 ≤ r ∧ bij r2.toNat (j + 1) = bij r2.toNat r.toNat ++ L)
              restOf ⟨[], _, rfl, rfl, by omega, ?_⟩ ?_ ?_
            · rw [List.append_nil, show (0 + (j : Int) + 1).toNat = j + 1 by omega]
            · rintro σ' H' ⟨L, r, rfl, rfl, r0, hb⟩
              have lL : L.length ≤ 100 := by
                have := congrArg List.length hb
                rw [List.length_append] at this
                omega
              refine ⟨_, rfl, r, 0, rfl, rfl, _, rfl, ite2 (fun er => ?_) (fun er => ?_)⟩
              · have er' : 0 < r := of_decide_eq_true er
                have d1 : 0 ≤ (r2 + 9 * (r % 2)) % 26 := Int.emod_nonneg _ (by decide)
                have d2 : (r2 + 9 * (r % 2)) % 26 < 26 := Int.emod_lt_of_pos _ (by decide)
                refine ⟨_, rfl, _, rfl, _, rfl, r, 2, rfl, rfl, (by show (0 : Int) < 2; decide), 9, _, rfl, rfl, .inl ⟨by decide, by decide⟩, r2, _, rfl, rfl, _, 26, rfl, rfl, (by show (0 : Int) < 26; decide), abc, _, _, rfl, rfl, (by decide +kernel), at_abc d1 d2, _, rfl, _, sc L, rfl, rfl, ?_, ?_⟩
                · show 1 + (sc L).length ≤ sizeLine
                  rw [sc_len]
                  exact small_sz (by omega)
                · refine ⟨_, rfl, r, 1, rfl, rfl, r - 1, 2, rfl, rfl, ⟨by decide, by decide⟩, ⟨Lc ((r2 + 9 * (r % 2)) % 26).toNat :: L, (r - 1) / 2, ?_, rfl, by omega, ?_⟩, ?_⟩
                  · rw [show ((⟨#[Lc ((r2 + 9 * (r % 2)) % 26).toNat]⟩ : Str) ++ sc L : Str) = sc (Lc ((r2 + 9 * (r % 2)) % 26).toNat :: L) from sc_app [_] L]
                    rfl
                  · rw [hb]
                    obtain ⟨u, rfl⟩ : ∃ u : Nat, r = ((u + 1 : Nat) : Int) := ⟨(r - 1).toNat, by omega⟩
                    rw [Int.toNat_natCast, bij, List.append_assoc, show ((((u + 1 : Nat) : Int) - 1) / 2).toNat = u / 2 by omega, show ((r2 + 9 * ((((u + 1 : Nat) : Int)) % 2)) % 26).toNat = (r2.toNat + 9 * ((u + 1) % 2)) % 26 by omega]
                    rfl
                  · show ((r - 1) / 2).toNat < r.toNat
                    omega
              · have er' : ¬ 0 < r := fun h => er (decide_eq_true h)
                have : r = 0 := by omega
                subst this
                refine ⟨some (.int 0), ?_, rfl⟩
                rw [show nmStr (1 : Int).toNat r2.toNat B r4.toNat j = sc L by
                  show sc (if 1 = 1 then bij r2.toNat (j + 1) else _) = sc L
                  rw [if_pos rfl, hb, show (0 : Int).toNat = 0 from rfl, bij, List.nil_append]]
            · rintro σ' H' Q1 Q2 hq ⟨v, hv, i, k, x1, x2, b, x3, x4⟩
              exact ⟨v, hv, i, k, x1, x2, b, x3, hq _ _ x4⟩
          · have e1 : ¬ r1 = 1 := fun h => e (decide_eq_true (congrArg V.int h))
            refine ⟨y10, ?_, rfl⟩
            rw [show nmStr r1.toNat r2.toNat B r4.toNat j = sc (B.take r4.toNat ++ nmPair r2.toNat j ++ B.drop r4.toNat) by
              show sc (if r1.toNat = 1 then _ else _) = _
              rw [if_neg (by omega)]]
            rfl
        · rintro σ' H' ⟨z10, rfl, rfl⟩
          refine ⟨_, rfl, .inl ⟨rfl, _, SqL.of hF9⟩, _, rfl, Fd, _, _, rfl, rfl, hF9, (by simp only [List.length_map, List.length_range]; exact small1000 (by omega)), ⟨_, _, _, rfl, pen9.upd nFp nFc, fun b o e nb => (upd_ne (ne_of_none e hFn)).trans (bt9 b o e nb), ?_⟩⟩
          rw [upd_same, List.range_succ, List.map_append]
          rfl
      · rintro σ H9 ⟨y5, y9, y10, rfl, pen9, bt9, hF9⟩
        exact ⟨_, rfl, q Fd H9 hFn ⟨_, _, _, _, nmok, hF9⟩ pen9 bt9⟩
end
/-! ### entries -/
inductive Ent where
  | come (nm : Str) (mo : Int) (g pl : Str) (many price : Int)
  | go (nm : Str) (mo : Int) (g pl : Str) (many : Int)
  | move (nm : Str) (mo : Int) (g one other : Str) (many : Int)
  | some_ (nm : Str) (mo : Int) (g one other : Str)
  | swap (nm : Str) (mo : Int) (one other : Str)
  | count (nm : Str) (mo : Int) (g pl : Str) (many : Int) (hand : Str)
  | look (nm : Str) (mo : Int) (g pl : Str)
namespace Ent
def word : Ent → Str
  | come .. => "come" | go .. => "go" | move .. => "move" | some_ .. => "some" | swap .. => "swap" | count .. => "count" | look .. => "look"
def name : Ent → Str
  | come n .. => n | go n .. => n | move n .. => n | some_ n .. => n | swap n .. => n | count n .. => n | look n .. => n
def moment : Ent → Int
  | come _ m .. => m | go _ m .. => m | move _ m .. => m | some_ _ m .. => m | swap _ m .. => m | count _ m .. => m | look _ m .. => m
def rest : Ent → List V
  | come _ _ g p m r => [.str g, .str p, .int m, .int r]
  | go _ _ g p m => [.str g, .str p, .int m]
  | move _ _ g o t m => [.str g, .str o, .str t, .int m]
  | some_ _ _ g o t => [.str g, .str o, .str t]
  | swap _ _ o t => [.str o, .str t]
  | count _ _ g p m h => [.str g, .str p, .int m, .str h]
  | look _ _ g p => [.str g, .str p]
def vals (e : Ent) : List V := .str e.word :: .str e.name :: .int e.moment :: e.rest
/-- its parts are drawn from these places, goods and hands -/
def From (PL GL HL : List Str) : Ent → Prop
  | come _ _ g p m r => g ∈ GL ∧ p ∈ PL ∧ 1 ≤ m ∧ m ≤ 1000000000 ∧ 0 ≤ r ∧ r ≤ 1000000000
  | go _ _ g p m => g ∈ GL ∧ p ∈ PL ∧ 1 ≤ m ∧ m ≤ 1000000000
  | move _ _ g o t m => g ∈ GL ∧ o ∈ PL ∧ t ∈ PL ∧ (PL.Nodup → o ≠ t) ∧ 1 ≤ m ∧ m ≤ 1000000000
  | some_ _ _ g o t => g ∈ GL ∧ o ∈ PL ∧ (t = "" ∨ (t ∈ PL ∧ (PL.Nodup → o ≠ t)))
  | swap _ _ o t => o ∈ PL ∧ t ∈ PL ∧ (PL.Nodup → o ≠ t)
  | count _ _ g p m h => g ∈ GL ∧ p ∈ PL ∧ 0 ≤ m ∧ m ≤ 1000000000 ∧ h ∈ HL
  | look _ _ g p => g ∈ GL ∧ p ∈ PL
end Ent
def words7 : List Str := ["come", "go", "move", "some", "swap", "count", "look"]
abbrev words10 : List Str := ["come", "go", "move", "some", "swap", "count", "look", "count", "swap", "move"]
theorem Ent.word_in (e : Ent) : e.word ∈ words7 := by
  cases e <;> simp [Ent.word, words7]
abbrev StrsAt (H : Hp) (l : Addr) (ys : List Str) : Prop := H l = some (.lst (ys.map V.str))
def spMany : Sp := fun vs H Q _ => ∃ (p c : Addr) (n : Nat), vs = [.ref p] ∧ PenAt H p c n ∧ n ≤ 90000 ∧
  ∀ (r : Int) (H' : Hp), 1 ≤ r → r ≤ 1000000000 → PenAt H' p c (n + 4) → But p H H' → Q (.int r) H'
def spEntryOf : Sp := fun vs H Q _ => ∃ (p c : Addr) (n : Nat) (wd nme : Str) (mo : Int) (a1 a2 a3 : Addr) (PL GL HL : List Str), vs = [.ref p, .str wd, .str nme, .int mo, .ref a1, .ref a2, .ref a3] ∧ PenAt H p c n ∧ n ≤ 80000 ∧ wd ∈ words7 ∧
  StrsAt H a1 PL ∧ StrsAt H a2 GL ∧ StrsAt H a3 HL ∧ PL ≠ [] ∧ GL ≠ [] ∧ HL ≠ [] ∧ PL.length ≤ 100 ∧ GL.length ≤ 100 ∧ HL.length ≤ 100 ∧
  ∀ (tp : Addr) (e : Ent) (H' : Hp), H tp = none → H' tp = some (.tup e.vals) → e.name = nme → e.moment = mo → e.From PL GL HL → PenAt H' p c (n + 20) → But p H H' → Q (.ref tp) H'
def spEntry : Sp := fun vs H Q _ => ∃ (p c : Addr) (n : Nat) (nme : Str) (mo : Int) (a1 a2 a3 : Addr) (PL GL HL : List Str), vs = [.ref p, .str nme, .int mo, .ref a1, .ref a2, .ref a3] ∧ PenAt H p c n ∧ n ≤ 70000 ∧
  StrsAt H a1 PL ∧ StrsAt H a2 GL ∧ StrsAt H a3 HL ∧ PL ≠ [] ∧ GL ≠ [] ∧ HL ≠ [] ∧ PL.length ≤ 100 ∧ GL.length ≤ 100 ∧ HL.length ≤ 100 ∧
  ∀ (tp : Addr) (e : Ent) (H' : Hp), H tp = none → H' tp = some (.tup e.vals) → e.name = nme → e.moment = mo → e.From PL GL HL → PenAt H' p c (n + 30) → But p H H' → Q (.ref tp) H'
theorem pen_strs {H H' : Hp} {p c l : Addr} {n : Nat} {ys : List Str} (pen : PenAt H p c n) (b : But p H H') (h : StrsAt H l ys) : StrsAt H' l ys := by
  obtain ⟨kvs, ns, a, x, g1, _⟩ := pen.ex
  exact b l _ h (ne_of h g1 (by intro z; cases z))
theorem pen_free {H H' : Hp} {p c l : Addr} {n : Nat} (pen : PenAt H p c n) (b : But p H H') (h : H' l = none) (pen' : PenAt H' p c n) : H l = none := by
  cases e : H l with
  | none => rfl
  | some o =>
    have nl : l ≠ p := fun z => pen'.there (z ▸ h)
    rw [b l o e nl] at h
    cases h
theorem But.free {H H' : Hp} {p l : Addr} (b : But p H H') (h : H' l = none) (hp : H' p ≠ none) : H l = none := by
  cases e : H l with
  | none => rfl
  | some o =>
    have nl : l ≠ p := fun z => hp (z ▸ h)
    rw [b l o e nl] at h
    cases h
theorem at_strs {ys : List Str} {r : Int} (h0 : 0 ≤ r) (h1 : r < (ys.length : Int)) : ∃ y, atI (ys.map V.str) r = some (.str y) ∧ ys[r.toNat]? = some y ∧ y ∈ ys := by
  have h : r.toNat < ys.length := by omega
  have e : ((r.toNat : Nat) : Int) = r := by omega
  have q := atI_nat (xs := ys.map V.str) (j := r.toNat) (v := .str ys[r.toNat]) (by rw [List.getElem?_map, List.getElem?_eq_getElem h]; rfl)
  rw [e] at q
  exact ⟨_, q, List.getElem?_eq_getElem h, List.getElem_mem h⟩
section
variable {P : Program} {w : World} {K : PySem.W.Frag} {mg : Str → Option Value} {base : Heap}
theorem scMany : FnScope ["_law_pen_here", "_law_way"] ["_law_pen_here"] (defScope sMany) := ⟨rfl, rfl, rfl, by decide +kernel, rfl, by decide +kernel, by decide +kernel⟩
theorem ok_many {f fT : Addr} {fd fdT : FuncData} (F : Fun K "_law_many" "_law_many" sMany f fd) (T : TakeT P w K mg base fT fdT) : FnOk P w K mg base CX0 2 f fd ["_law_pen_here"] spMany := by
  refine F.ok scMany (fun vs H Q E h => ?_) (fun cdv A outer s H vs Q E hr h => ?_)
  · obtain ⟨p, c, n, rfl, _⟩ := h
    rfl
  · obtain ⟨p, c, n, rfl, pen, hn, q⟩ := h
    have nd := scMany.nd
    refine ⟨_, pss_cons (ps_set (i := 1) nd rfl (Or.inl rfl) (pe_call T.ok hr (by rfl) T.g T.kp T.b .nil pass0 (pa_cons (pv 0) (pa_cons pe_int pa_nil))))
      (pss_one (ps_ret (pe_ix ix_list (pe_lst (pa_cons pe_int (pa_cons (pe_op op_add pe_int (pe_call T.ok hr (by rfl) T.g T.kp T.b .nil pass0 (pa_cons (pv 0) (pa_cons pe_int pa_nil))))
        (pa_cons (pe_op op_sub (pe_op op_pow pe_int pe_int) (pe_call T.ok hr (by rfl) T.g T.kp T.b .nil pass0 (pa_cons (pv 0) (pa_cons pe_int pa_nil))))
        (pa_cons (pe_op op_add pe_int (pe_call T.ok hr (by rfl) T.g T.kp T.b .nil pass0 (pa_cons (pv 0) (pa_cons (pe_op op_pow pe_int pe_int) pa_nil)))) pa_nil))))) (pv 1) (fun _ _ => rfl)))), ?_⟩
    refine ⟨_, rfl, p, c, n, 4, rfl, pen, by omega, by decide, by decide, fun r1 H1 a1 b1 pen1 bt1 => ?_⟩
    refine ⟨_, rfl, p, c, n + 1, 9, rfl, pen1, by omega, by decide, by decide, fun r2 H2 a2 b2 pen2 bt2 => ?_⟩
    refine ⟨1, r2, rfl, rfl, 10, 9, rfl, rfl, ⟨by decide, by decide, by decide⟩, _, rfl, p, c, n + 2, 3, rfl, pen2, by omega, by decide, by decide, fun r3 H3 a3 b3 pen3 bt3 => ?_⟩
    refine ⟨_, r3, rfl, rfl, _, rfl, 10, 9, rfl, rfl, ⟨by decide, by decide, by decide⟩, p, c, n + 3, 10 ^ (9 : Int).toNat, rfl, pen3, by omega, by decide, by decide, fun r4 H4 a4 b4 pen4 bt4 => ?_⟩
    have b4' : r4 < 1000000000 := b4
    refine ⟨1, r4, rfl, rfl, (by show 4 ≤ sizeLine; decide), fun l nl => ?_⟩
    have fin : ∀ r : Int, 1 ≤ r → r ≤ 1000000000 → Q (.int r) (upd H4 l (.lst [.int 1, .int (1 + r2), .int (10 ^ (9 : Int).toNat - r3), .int (1 + r4)])) := fun r h1 h2 => q r _ h1 h2 (pen4.same (same_new nl)) ((bt1.tr (bt2.tr (bt3.tr bt4))).tr (.of (same_new nl)))
    have w4 : r1 = 0 ∨ r1 = 1 ∨ r1 = 2 ∨ r1 = 3 := by omega
    rcases w4 with rfl | rfl | rfl | rfl
    · exact ⟨_, rfl, l, _, 0, _, rfl, rfl, SqL.of upd_same, atI_nat (j := 0) rfl, fin _ (by decide) (by decide)⟩
    · exact ⟨_, rfl, l, _, 1, _, rfl, rfl, SqL.of upd_same, atI_nat (j := 1) rfl, fin _ (by omega) (by omega)⟩
    · exact ⟨_, rfl, l, _, 2, _, rfl, rfl, SqL.of upd_same, atI_nat (j := 2) rfl, fin _ (by show (1 : Int) ≤ 1000000000 - r3; omega) (by show (1000000000 : Int) - r3 ≤ 1000000000; omega)⟩
    · exact ⟨_, rfl, l, _, 3, _, rfl, rfl, SqL.of upd_same, atI_nat (j := 3) rfl, fin _ (by omega) (by omega)⟩
abbrev entN : List Str := ["_law_pen_here", "_law_word", "_law_name", "_law_moment", "_law_places", "_law_goods", "_law_hands", "_law_at", "_law_one", "_law_good", "_law_other"]
theorem scEntryOf : FnScope entN ["_law_pen_here", "_law_word", "_law_name", "_law_moment", "_law_places", "_law_goods", "_law_hands"] (defScope sEntryOf) := ⟨rfl, rfl, rfl, by decide +kernel, rfl, by decide +kernel, by decide +kernel⟩
set_option maxHeartbeats 4000000 in
theorem ok_entryOf {f fT fM : Addr} {fd fdT fdM : FuncData} (F : Fun K "_law_entry_of" "_law_entry_of" sEntryOf f fd) (T : TakeT P w K mg base fT fdT) (M : DefT P w K mg base "_law_many" 2 fM fdM ["_law_pen_here"] spMany) (ml : mg "len" = none) :
    FnOk P w K mg base CX0 3 f fd ["_law_pen_here", "_law_word", "_law_name", "_law_moment", "_law_places", "_law_goods", "_law_hands"] spEntryOf := by
  refine F.ok scEntryOf (fun vs H Q E h => ?_) (fun cdv A outer s H vs Q E hr h => ?_)
  · obtain ⟨p, c, n, wd, nme, mo, a1, a2, a3, PL, GL, HL, rfl, _⟩ := h
    rfl
  · obtain ⟨p, c, n, wd, nme, mo, a1, a2, a3, PL, GL, HL, rfl, pen, hn, hw, h1, h2, h3, ne1, ne2, ne3, lp, lg, lh, q⟩ := h
    have nd := scEntryOf.nd
    have hr1 : Room 1 _ := hr.mono (by decide)
    refine ⟨_, pss_cons (ps_set (i := 7) nd rfl (Or.inl rfl) (pe_call T.ok hr1 (by rfl) T.g T.kp T.b .nil pass0 (pa_cons (pv 0) (pa_cons (pe_callB call_len_seq (by rfl) ml PySem.boot_len (pa_cons (pv 4) pa_nil)) pa_nil))))
      (pss_cons (ps_set (i := 8) nd rfl (Or.inl rfl) (pe_ix ix_list (pv 4) (pv 7) (fun _ _ => rfl)))
      (pss_cons (ps_set (i := 9) nd rfl (Or.inl rfl) (pe_ix ix_list (pv 5) (pe_call T.ok hr1 (by rfl) T.g T.kp T.b .nil pass0 (pa_cons (pv 0) (pa_cons (pe_callB call_len_seq (by rfl) ml PySem.boot_len (pa_cons (pv 5) pa_nil)) pa_nil))) (fun _ _ => rfl)))
      (pss_cons (ps_set (i := 10) nd rfl (Or.inl rfl) pe_str)
      (C8.pss_cut (ps_if (pt_cmpR op_gt (pe_callB call_len_seq (by rfl) ml PySem.boot_len (pa_cons (pv 4) pa_nil)) pe_int (nomark _))
        (pss_one (ps_set (i := 10) nd rfl (Or.inl rfl) (pe_ix ix_list (pv 4) (pe_op op_mod (pe_op op_add (pe_op op_add (pv 7) pe_int) (pe_call T.ok hr1 (by rfl) T.g T.kp T.b .nil pass0 (pa_cons (pv 0) (pa_cons (pe_op op_sub (pe_callB call_len_seq (by rfl) ml PySem.boot_len (pa_cons (pv 4) pa_nil)) pe_int) pa_nil)))) (pe_callB call_len_seq (by rfl) ml PySem.boot_len (pa_cons (pv 4) pa_nil))) (fun _ _ => rfl)))) pss_nil)
      (pss_cons (ps_if (pt_cmpR op_eq (pv 1) pe_str (nomark _)) (pss_one (ps_ret (pe_tup (pa_cons (pv 1) (pa_cons (pv 2) (pa_cons (pv 3) (pa_cons (pv 9) (pa_cons (pv 8) (pa_cons (pe_call M.ok hr (by rfl) M.g M.kp M.b .nil pass0 (pa_cons (pv 0) pa_nil)) (pa_cons (pe_op op_sub (pe_call M.ok hr (by rfl) M.g M.kp M.b .nil pass0 (pa_cons (pv 0) pa_nil)) (pe_call T.ok hr1 (by rfl) T.g T.kp T.b .nil pass0 (pa_cons (pv 0) (pa_cons pe_int pa_nil)))) pa_nil)))))))))) pss_nil)
      (pss_cons (ps_if (pt_cmpR op_eq (pv 1) pe_str (nomark _)) (pss_one (ps_ret (pe_tup (pa_cons (pv 1) (pa_cons (pv 2) (pa_cons (pv 3) (pa_cons (pv 9) (pa_cons (pv 8) (pa_cons (pe_call M.ok hr (by rfl) M.g M.kp M.b .nil pass0 (pa_cons (pv 0) pa_nil)) pa_nil))))))))) pss_nil)
      (C8.pss_cut (ps_if (PW.pt (pw_and (pt_cmpR op_eq (pv 1) pe_str (nomark _)) (pw_and1 (pt_cmpR op_ne (pv 10) pe_str (nomark _))))) (pss_one (ps_ret (pe_tup (pa_cons (pv 1) (pa_cons (pv 2) (pa_cons (pv 3) (pa_cons (pv 9) (pa_cons (pv 8) (pa_cons (pv 10) (pa_cons (pe_call M.ok hr (by rfl) M.g M.kp M.b .nil pass0 (pa_cons (pv 0) pa_nil)) pa_nil)))))))))) pss_nil)
      (pss_cons (ps_if (pt_cmpR op_eq (pv 1) pe_str (nomark _)) (pss_one (ps_ret (pe_tup (pa_cons (pv 1) (pa_cons (pv 2) (pa_cons (pv 3) (pa_cons (pv 9) (pa_cons (pv 8) (pa_cons (pe_ix ix_list (pe_lst (pa_cons (pv 10) (pa_cons (pv 10) (pa_cons pe_str pa_nil)))) (pe_call T.ok hr1 (by rfl) T.g T.kp T.b .nil pass0 (pa_cons (pv 0) (pa_cons pe_int pa_nil))) (fun _ _ => rfl)) pa_nil))))))))) pss_nil)
      (C8.pss_cut (ps_if (PW.pt (pw_and (pt_cmpR op_eq (pv 1) pe_str (nomark _)) (pw_and1 (pt_cmpR op_ne (pv 10) pe_str (nomark _))))) (pss_one (ps_ret (pe_tup (pa_cons (pv 1) (pa_cons (pv 2) (pa_cons (pv 3) (pa_cons (pv 8) (pa_cons (pv 10) pa_nil)))))))) pss_nil)
      (pss_cons (ps_if (pt_cmpR op_eq (pv 1) pe_str (nomark _)) (pss_one (ps_ret (pe_tup (pa_cons (pv 1) (pa_cons (pv 2) (pa_cons (pv 3) (pa_cons (pv 9) (pa_cons (pv 8) (pa_cons (pe_op op_sub (pe_call M.ok hr (by rfl) M.g M.kp M.b .nil pass0 (pa_cons (pv 0) pa_nil)) (pe_call T.ok hr1 (by rfl) T.g T.kp T.b .nil pass0 (pa_cons (pv 0) (pa_cons pe_int pa_nil)))) (pa_cons (pe_ix ix_list (pv 6) (pe_call T.ok hr1 (by rfl) T.g T.kp T.b .nil pass0 (pa_cons (pv 0) (pa_cons (pe_callB call_len_seq (by rfl) ml PySem.boot_len (pa_cons (pv 6) pa_nil)) pa_nil))) (fun _ _ => rfl)) pa_nil)))))))))) pss_nil)
      (pss_one (ps_ret (pe_tup (pa_cons pe_str (pa_cons (pv 2) (pa_cons (pv 3) (pa_cons (pv 9) (pa_cons (pv 8) pa_nil)))))))))))))))))), ?_⟩
    have p1 : 0 < PL.length := List.length_pos_iff.mpr ne1
    have g1 : 0 < GL.length := List.length_pos_iff.mpr ne2
    have k1 : 0 < HL.length := List.length_pos_iff.mpr ne3
    have lmap : ∀ ys : List Str, ((ys.map V.str).length : Int) = (ys.length : Int) := fun ys => by rw [List.length_map]
    -- at, one
    refine ⟨_, rfl, _, rfl, a1, _, rfl, .inl (SqL.of h1), p, c, n, _, rfl, pen, by omega, by rw [lmap]; omega, by rw [lmap]; omega, fun r1 H1 b1 d1 pen1 bt1 => ?_⟩
    rw [lmap] at d1
    have h11 := pen_strs pen bt1 h1
    have h12 := pen_strs pen bt1 h2
    have h13 := pen_strs pen bt1 h3
    obtain ⟨one, ho, ho2, ho3⟩ := at_strs b1 d1
    refine ⟨_, rfl, _, rfl, a1, _, r1, _, rfl, rfl, SqL.of h11, ho, ?_⟩
    refine ⟨_, rfl, _, rfl, _, rfl, a2, _, rfl, .inl (SqL.of h12), p, c, n + 1, _, rfl, pen1, by omega, by rw [lmap]; omega, by rw [lmap]; omega, fun r2 H2 b2 d2 pen2 bt2 => ?_⟩
    rw [lmap] at d2
    have h21 := pen_strs pen1 bt2 h11
    have h22 := pen_strs pen1 bt2 h12
    have h23 := pen_strs pen1 bt2 h13
    obtain ⟨good, hg, _, hg3⟩ := at_strs b2 d2
    have bt02 := bt1.tr bt2
    refine ⟨a2, _, r2, _, rfl, rfl, SqL.of h22, hg, ?_⟩
    refine ⟨fun σ' H' => ∃ other : Str, σ' = [some (.ref p), some (.str wd), some (.str nme), some (.int mo), some (.ref a1), some (.ref a2), some (.ref a3), some (.int r1), some (.str one), some (.str good), some (.str other)] ∧ (other = "" ∨ (other ∈ PL ∧ (PL.Nodup → one ≠ other))) ∧
      PenAt H' p c (n + 3) ∧ But p H H' ∧ StrsAt H' a1 PL ∧ StrsAt H' a2 GL ∧ StrsAt H' a3 HL, ?_, ?_⟩
    · refine ⟨_, rfl, a1, _, rfl, .inl (SqL.of h21), _, 1, rfl, rfl, _, rfl, ite2 (fun e => ?_) (fun e => ⟨"", rfl, .inl rfl, pen2.mono (by omega), bt02, h21, h22, h23⟩)⟩
      have e' : 1 < ((PL.map V.str).length : Int) := of_decide_eq_true e
      rw [lmap] at e'
      refine ⟨_, rfl, _, rfl, r1, 1, rfl, rfl, _, rfl, _, rfl, a1, _, rfl, .inl (SqL.of h21), _, 1, rfl, rfl, p, c, n + 2, _, rfl, pen2, by omega, by rw [lmap]; omega, by rw [lmap]; omega, fun r3 H3 b3 d3 pen3 bt3 => ?_⟩
      rw [lmap] at d3
      have h31 := pen_strs pen2 bt3 h21
      have h32 := pen_strs pen2 bt3 h22
      have h33 := pen_strs pen2 bt3 h23
      have x1 : 0 ≤ (r1 + 1 + r3) % (PL.length : Int) := Int.emod_nonneg _ (by omega)
      have x2 : (r1 + 1 + r3) % (PL.length : Int) < (PL.length : Int) := Int.emod_lt_of_pos _ (by omega)
      obtain ⟨other, hp, hp2, hp3⟩ := at_strs x1 x2
      refine ⟨r1 + 1, r3, rfl, rfl, _, rfl, a1, _, rfl, .inl (SqL.of h31), _, (PL.length : Int), rfl, by rw [lmap], (by show (0 : Int) < PL.length; omega), a1, _, _, .str other, rfl, rfl, SqL.of h31, hp, other, rfl, .inr ⟨hp3, fun nod z => ?_⟩, pen3, bt02.tr bt3, h31, h32, h33⟩
      subst z
      have := (List.getElem?_inj (show r1.toNat < PL.length by omega) nod).mp (ho2.trans hp2.symm)
      have x3 : (r1 + 1 + r3) % (PL.length : Int) = r1 + 1 + r3 ∨ (r1 + 1 + r3) % (PL.length : Int) = r1 + 1 + r3 - PL.length := by
        by_cases h : r1 + 1 + r3 < PL.length
        · exact .inl (Int.emod_eq_of_lt (by omega) h)
        · right
          rw [← Int.sub_emod_right]
          exact Int.emod_eq_of_lt (by omega) (by omega)
      omega
    · rintro σ' H3 ⟨other, rfl, oth, pen3, bt3, h31, h32, h33⟩
      have fin : ∀ (tp : Addr) (e : Ent) (H4 : Hp) (k : Nat), H4 tp = none → But p H3 H4 → PenAt H4 p c (n + 3 + k) → k ≤ 17 → e.name = nme → e.moment = mo → e.From PL GL HL → Q (.ref tp) (upd H4 tp (.tup e.vals)) := fun tp e H4 k ntp bt4 pen4 hk e1 e2 e3 =>
        q tp e _ ((bt3.tr bt4).free ntp pen4.there) upd_same e1 e2 e3 ((pen4.mono (by omega)).same (same_new ntp)) ((bt3.tr bt4).tr (.of (same_new ntp)))
      refine ⟨_, rfl, rfl, _, rfl, ite2 (fun e => ?_) (fun e1 => ?_)⟩
      · have e' : wd = "come" := V.str.inj (of_decide_eq_true e)
        subst e'
        refine ⟨_, rfl, _, rfl, _, rfl, _, rfl, _, rfl, _, rfl, p, c, n + 3, rfl, pen3, by omega, fun m1 H4 c1 d1 pen4 bt4 => ?_⟩
        refine ⟨_, rfl, p, c, _, rfl, pen4, by omega, fun m2 H5 c2 d2 pen5 bt5 => ?_⟩
        refine ⟨_, rfl, p, c, _, 2, rfl, pen5, by omega, by decide, by decide, fun r6 H6 c6 d6 pen6 bt6 => ?_⟩
        refine ⟨m2, r6, rfl, rfl, (by show 7 ≤ sizeLine; decide), fun tp ntp => ?_⟩
        exact fin tp (.come nme mo good one m1 (m2 - r6)) H6 9 ntp (bt4.tr (bt5.tr bt6)) pen6 (by decide) rfl rfl ⟨hg3, ho3, c1, d1, by omega, by omega⟩
      refine ⟨_, rfl, rfl, _, rfl, ite2 (fun e => ?_) (fun e2 => ?_)⟩
      · have e' : wd = "go" := V.str.inj (of_decide_eq_true e)
        subst e'
        refine ⟨_, rfl, _, rfl, _, rfl, _, rfl, _, rfl, _, rfl, p, c, n + 3, rfl, pen3, by omega, fun m1 H4 c1 d1 pen4 bt4 => ?_⟩
        refine ⟨(by show 6 ≤ sizeLine; decide), fun tp ntp => ?_⟩
        exact fin tp (.go nme mo good one m1) H4 4 ntp bt4 pen4 (by decide) rfl rfl ⟨hg3, ho3, c1, d1⟩
      have mv : ∀ (A B : Prop), (other ≠ "" → A) → B → (if (!decide (V.str other = V.str "")) = true then A else B) := fun A B hA hB => by
        by_cases z : other = ""
        · subst z
          rw [decide_eq_true rfl]
          exact iteF hB
        · rw [decide_eq_false fun h => z (V.str.inj h)]
          exact iteT (hA z)
      have oin : other ≠ "" → other ∈ PL ∧ (PL.Nodup → one ≠ other) := fun z => oth.resolve_left z
      refine ⟨fun σ' H' => σ' = [some (.ref p), some (.str wd), some (.str nme), some (.int mo), some (.ref a1), some (.ref a2), some (.ref a3), some (.int r1), some (.str one), some (.str good), some (.str other)] ∧ H' = H3, ?_, ?_⟩
      · refine ⟨_, rfl, rfl, _, rfl, ite2 (fun e => ?_) (fun _ => iteF ⟨rfl, rfl⟩)⟩
        have e' : wd = "move" := V.str.inj (of_decide_eq_true e)
        subst e'
        refine ⟨_, rfl, rfl, _, rfl, mv _ _ (fun z => ?_) ⟨rfl, rfl⟩⟩
        refine ⟨_, rfl, _, rfl, _, rfl, _, rfl, _, rfl, _, rfl, _, rfl, p, c, n + 3, rfl, pen3, by omega, fun m1 H4 c1 d1 pen4 bt4 => ?_⟩
        refine ⟨(by show 7 ≤ sizeLine; decide), fun tp ntp => ?_⟩
        exact fin tp (.move nme mo good one other m1) H4 4 ntp bt4 pen4 (by decide) rfl rfl ⟨hg3, ho3, (oin z).1, (oin z).2, c1, d1⟩
      rintro σ' H' ⟨rfl, rfl⟩
      refine ⟨_, rfl, rfl, _, rfl, ite2 (fun e => ?_) (fun e3 => ?_)⟩
      · have e' : wd = "some" := V.str.inj (of_decide_eq_true e)
        subst e'
        refine ⟨_, rfl, _, rfl, _, rfl, _, rfl, _, rfl, _, rfl, _, rfl, (by show 3 ≤ sizeLine; decide), fun l nl => ?_⟩
        have sl := @same_new _ _ (.lst [V.str other, .str other, .str ""]) nl
        have nlp : l ≠ p := fun z => pen3.there (z ▸ nl)
        refine ⟨_, rfl, p, c, n + 3, 3, rfl, pen3.same sl, by omega, by decide, by decide, fun r4 H4 c4 d4 pen4 bt4 => ?_⟩
        have hl := bt4 l _ upd_same nlp
        obtain ⟨to, ht, hto⟩ : ∃ to : Str, atI [V.str other, .str other, .str ""] r4 = some (.str to) ∧ (to = "" ∨ (to ∈ PL ∧ (PL.Nodup → one ≠ to))) := by
          have w3 : r4 = 0 ∨ r4 = 1 ∨ r4 = 2 := by omega
          rcases w3 with rfl | rfl | rfl
          · exact ⟨other, atI_nat (j := 0) rfl, oth⟩
          · exact ⟨other, atI_nat (j := 1) rfl, oth⟩
          · exact ⟨"", atI_nat (j := 2) rfl, .inl rfl⟩
        refine ⟨l, _, r4, _, rfl, rfl, SqL.of hl, ht, (by show 6 ≤ sizeLine; decide), fun tp ntp => ?_⟩
        exact fin tp (.some_ nme mo good one to) H4 1 ntp ((But.of sl).tr bt4) pen4 (by decide) rfl rfl ⟨hg3, ho3, hto⟩
      refine ⟨fun σ' H1 => σ' = [some (.ref p), some (.str wd), some (.str nme), some (.int mo), some (.ref a1), some (.ref a2), some (.ref a3), some (.int r1), some (.str one), some (.str good), some (.str other)] ∧ H1 = H', ?_, ?_⟩
      · refine ⟨_, rfl, rfl, _, rfl, ite2 (fun e => ?_) (fun _ => iteF ⟨rfl, rfl⟩)⟩
        have e' : wd = "swap" := V.str.inj (of_decide_eq_true e)
        subst e'
        refine ⟨_, rfl, rfl, _, rfl, mv _ _ (fun z => ?_) ⟨rfl, rfl⟩⟩
        refine ⟨_, rfl, _, rfl, _, rfl, _, rfl, _, rfl, (by show 5 ≤ sizeLine; decide), fun tp ntp => ?_⟩
        exact fin tp (.swap nme mo one other) H' 0 ntp (.refl _ _) pen3 (by decide) rfl rfl ⟨ho3, (oin z).1, (oin z).2⟩
      rintro σ' H2 ⟨rfl, rfl⟩
      refine ⟨_, rfl, rfl, _, rfl, ite2 (fun e => ?_) (fun e5 => ?_)⟩
      · have e' : wd = "count" := V.str.inj (of_decide_eq_true e)
        subst e'
        refine ⟨_, rfl, _, rfl, _, rfl, _, rfl, _, rfl, _, rfl, p, c, n + 3, rfl, pen3, by omega, fun m1 H4 c1 d1 pen4 bt4 => ?_⟩
        refine ⟨_, rfl, p, c, _, 2, rfl, pen4, by omega, by decide, by decide, fun r5 H5 c5 d5 pen5 bt5 => ?_⟩
        have h43 := pen_strs pen4 bt5 (pen_strs pen3 bt4 h33)
        refine ⟨m1, r5, rfl, rfl, _, rfl, _, rfl, _, rfl, a3, _, rfl, .inl (SqL.of h43), p, c, _, _, rfl, pen5, by omega, by rw [lmap]; omega, by rw [lmap]; omega, fun r6 H6 c6 d6 pen6 bt6 => ?_⟩
        rw [lmap] at d6
        obtain ⟨hand, hh, _, hh3⟩ := at_strs c6 d6
        refine ⟨a3, _, r6, _, rfl, rfl, SqL.of (pen_strs pen5 bt6 h43), hh, (by show 7 ≤ sizeLine; decide), fun tp ntp => ?_⟩
        exact fin tp (.count nme mo good one (m1 - r5) hand) H6 6 ntp (bt4.tr (bt5.tr bt6)) pen6 (by decide) rfl rfl ⟨hg3, ho3, by omega, by omega, hh3⟩
      refine ⟨_, rfl, _, rfl, _, rfl, _, rfl, (by show 5 ≤ sizeLine; decide), fun tp ntp => ?_⟩
      exact fin tp (.look nme mo good one) H2 0 ntp (.refl _ _) pen3 (by decide) rfl rfl ⟨hg3, ho3⟩
abbrev entryN : List Str := ["_law_pen_here", "_law_name", "_law_moment", "_law_places", "_law_goods", "_law_hands", "_law_words_here"]
theorem scEntry : FnScope entryN ["_law_pen_here", "_law_name", "_law_moment", "_law_places", "_law_goods", "_law_hands"] (defScope sEntry) := ⟨rfl, rfl, rfl, by decide +kernel, rfl, by decide +kernel, by decide +kernel⟩
theorem ok_entry {f fT fE : Addr} {fd fdT fdE : FuncData} (F : Fun K "_law_entry" "_law_entry" sEntry f fd) (T : TakeT P w K mg base fT fdT)
    (EO : DefT P w K mg base "_law_entry_of" 3 fE fdE ["_law_pen_here", "_law_word", "_law_name", "_law_moment", "_law_places", "_law_goods", "_law_hands"] spEntryOf) :
    FnOk P w K mg base CX0 4 f fd ["_law_pen_here", "_law_name", "_law_moment", "_law_places", "_law_goods", "_law_hands"] spEntry := by
  refine F.ok scEntry (fun vs H Q E h => ?_) (fun cdv A outer s H vs Q E hr h => ?_)
  · obtain ⟨p, c, n, nme, mo, a1, a2, a3, PL, GL, HL, rfl, _⟩ := h
    rfl
  · obtain ⟨p, c, n, nme, mo, a1, a2, a3, PL, GL, HL, rfl, pen, hn, h1, h2, h3, ne1, ne2, ne3, lp, lg, lh, q⟩ := h
    have nd := scEntry.nd
    have hr1 : Room 1 _ := hr.mono (by decide)
    refine ⟨_, pss_cons (ps_set (i := 6) nd rfl (Or.inl rfl) (pe_lst (pa_cons pe_str (pa_cons pe_str (pa_cons pe_str (pa_cons pe_str (pa_cons pe_str (pa_cons pe_str (pa_cons pe_str (pa_cons pe_str (pa_cons pe_str (pa_cons pe_str pa_nil))))))))))))
      (pss_one (ps_ret (pe_call EO.ok hr (by rfl) EO.g EO.kp EO.b .nil pass0 (pa_cons (pv 0) (pa_cons (pe_ix ix_list (pv 6) (pe_call T.ok hr1 (by rfl) T.g T.kp T.b .nil pass0 (pa_cons (pv 0) (pa_cons pe_int pa_nil))) (fun _ _ => rfl)) (pa_cons (pv 1) (pa_cons (pv 2) (pa_cons (pv 3) (pa_cons (pv 4) (pa_cons (pv 5) pa_nil)))))))))), ?_⟩
    refine ⟨(by show 10 ≤ sizeLine; decide), fun l nl => ?_⟩
    have sl := @same_new _ _ (.lst (words10.map V.str)) nl
    have nlp : l ≠ p := fun z => pen.there (z ▸ nl)
    have pen' := pen.same sl
    refine ⟨_, rfl, _, rfl, _, rfl, p, c, n, 10, rfl, pen', by omega, by decide, by decide, fun r1 H1 b1 d1 pen1 bt1 => ?_⟩
    obtain ⟨wd, hw, _, hw3⟩ := at_strs (ys := words10) b1 d1
    have hl : StrsAt H1 l words10 := bt1 l _ upd_same nlp
    have w7 : wd ∈ words7 := by
      simp only [List.mem_cons, List.not_mem_nil, or_false] at hw3
      rcases hw3 with rfl | rfl | rfl | rfl | rfl | rfl | rfl | rfl | rfl | rfl <;> simp [words7]
    refine ⟨l, _, r1, _, rfl, rfl, SqL.of hl, hw, _, rfl, _, rfl, _, rfl, _, rfl, _, rfl, p, c, n + 1, wd, nme, mo, a1, a2, a3, PL, GL, HL, rfl, pen1, by omega, w7, pen_strs pen' bt1 (sl _ _ h1), pen_strs pen' bt1 (sl _ _ h2), pen_strs pen' bt1 (sl _ _ h3), ne1, ne2, ne3, lp, lg, lh, fun tp e H2 ntp ht en em ef pen2 bt2 => ?_⟩
    exact q tp e H2 (sl.free ((bt1.free ntp pen1.there))) ht en em ef (pen2.mono (by omega)) ((But.of sl).tr (bt1.tr bt2))
end
/-! ### words and moments -/
def NmL (ys : List Str) (m : Nat) : Prop := ∃ way t B sp, NmOk way t B sp ∧ ys = (List.range m).map (nmStr way t B sp)
theorem nmAt_strs {H : Hp} {l : Addr} {m : Nat} (h : NmAt H l m) : ∃ ys, StrsAt H l ys ∧ NmL ys m := by
  obtain ⟨way, t, B, sp, ok, e⟩ := h
  refine ⟨(List.range m).map (nmStr way t B sp), ?_, way, t, B, sp, ok, rfl⟩
  show H l = _
  rw [e, List.map_map]
  rfl
theorem NmL.len {ys : List Str} {m : Nat} (h : NmL ys m) : ys.length = m := by
  obtain ⟨way, t, B, sp, ok, rfl⟩ := h
  simp
theorem NmL.take {ys : List Str} {m k : Nat} (h : NmL ys m) (hk : k ≤ m) : NmL (ys.take k) k := by
  obtain ⟨way, t, B, sp, ok, rfl⟩ := h
  refine ⟨way, t, B, sp, ok, ?_⟩
  rw [← List.map_take, List.take_range, Nat.min_eq_left hk]
theorem cut_take {xs : List V} {k : Nat} : cutV xs none (some (k : Int)) = xs.take k := by
  unfold cutV
  rw [HT.sIx_none, HT.sIx_nat]
  show (xs.drop 0).take (min k xs.length - 0) = xs.take k
  rw [List.drop_zero, Nat.sub_zero]
  by_cases h : k ≤ xs.length
  · rw [Nat.min_eq_left h]
  · rw [Nat.min_eq_right (by omega), List.take_length, List.take_of_length_le (by omega)]
def spWords : Sp := fun vs H Q _ => ∃ (p c : Addr) (n : Nat) (a b e : Nat), vs = [.ref p, .int a, .int b, .int e] ∧ PenAt H p c n ∧ n ≤ 40000 ∧ a ≤ 31 ∧ b ≤ 31 ∧ e ≤ 31 ∧
  ∀ (tp l1 l2 l3 l4 : Addr) (PL GL HL EL : List Str) (H' : Hp), H tp = none → H' tp = some (.tup [.ref l1, .ref l2, .ref l3, .ref l4]) → StrsAt H' l1 PL → StrsAt H' l2 GL → StrsAt H' l3 HL → StrsAt H' l4 EL →
    NmL PL a → NmL GL b → NmL HL 3 → NmL EL e → PenAt H' p c (n + 50) → But p H H' → Q (.ref tp) H'
def spMoments : Sp := fun vs H Q _ => ∃ (p c : Addr) (n : Nat) (m : Nat), vs = [.ref p, .int m] ∧ PenAt H p c n ∧ n ≤ 60000 ∧ m ≤ 31 ∧
  ∀ (l : Addr) (ns : List Int) (H' : Hp), H l = none → H' l = some (.lst (ns.map V.int)) → ns.length = m → (∀ x ∈ ns, 0 ≤ x ∧ x ≤ 9999) → PenAt H' p c (n + 100) → But p H H' → Q (.ref l) H'
section
variable {P : Program} {w : World} {K : PySem.W.Frag} {mg : Str → Option Value} {base : Heap}
abbrev wordsN : List Str := ["_law_pen_here", "_law_places", "_law_goods", "_law_entries", "_law_some", "_law_hands"]
theorem scWords : FnScope wordsN ["_law_pen_here", "_law_places", "_law_goods", "_law_entries"] (defScope sWords) := ⟨rfl, rfl, rfl, by decide +kernel, rfl, by decide +kernel, by decide +kernel⟩
theorem ok_words {f fT fN : Addr} {fd fdT fdN : FuncData} (F : Fun K "_law_words" "_law_words" sWords f fd) (T : TakeT P w K mg base fT fdT) (N : DefT P w K mg base "_law_names" 2 fN fdN ["_law_pen_here", "_law_many_here"] spNames) :
    FnOk P w K mg base CX0 3 f fd ["_law_pen_here", "_law_places", "_law_goods", "_law_entries"] spWords := by
  refine F.ok scWords (fun vs H Q E h => ?_) (fun cdv A outer s H vs Q E hr h => ?_)
  · obtain ⟨p, c, n, a, b, e, rfl, _⟩ := h
    rfl
  · obtain ⟨p, c, n, a, b, e, rfl, pen, hn, ha, hb, he, q⟩ := h
    have nd := scWords.nd
    have hr1 : Room 1 _ := hr.mono (by decide)
    refine ⟨_, pss_cons (ps_if (pt_cmpR op_eq (pe_call T.ok hr1 (by rfl) T.g T.kp T.b .nil pass0 (pa_cons (pv 0) (pa_cons pe_int pa_nil))) pe_int (nomark _))
        (pss_cons (ps_set (i := 4) nd rfl (Or.inl rfl) (pe_call N.ok hr (by rfl) N.g N.kp N.b .nil pass0 (pa_cons (pv 0) (pa_cons pe_int pa_nil))))
        (pss_one (ps_ret (pe_tup (pa_cons (pe_slice sl_list (pv 4) po_none (po_some (pv 1))) (pa_cons (pe_slice sl_list (pv 4) po_none (po_some (pv 2))) (pa_cons (pe_slice sl_list (pv 4) po_none (po_some pe_int)) (pa_cons (pe_slice sl_list (pv 4) po_none (po_some (pv 3))) pa_nil)))))))) pss_nil)
      (pss_cons (ps_set (i := 5) nd rfl (Or.inl rfl) (pe_call N.ok hr (by rfl) N.g N.kp N.b .nil pass0 (pa_cons (pv 0) (pa_cons pe_int pa_nil))))
      (pss_one (ps_ret (pe_tup (pa_cons (pe_call N.ok hr (by rfl) N.g N.kp N.b .nil pass0 (pa_cons (pv 0) (pa_cons (pv 1) pa_nil))) (pa_cons (pe_call N.ok hr (by rfl) N.g N.kp N.b .nil pass0 (pa_cons (pv 0) (pa_cons (pv 2) pa_nil))) (pa_cons (pv 5) (pa_cons (pe_call N.ok hr (by rfl) N.g N.kp N.b .nil pass0 (pa_cons (pv 0) (pa_cons (pv 3) pa_nil))) pa_nil)))))))), ?_⟩
    refine ⟨_, rfl, p, c, n, 4, rfl, pen, by omega, by decide, by decide, fun r1 H1 b1 d1 pen1 bt1 => ⟨rfl, _, rfl, ite2 (fun _ => ?_) (fun _ => ?_)⟩⟩
    · refine ⟨_, rfl, p, c, n + 1, 31, rfl, pen1, by omega, by decide, by decide, fun l H2 nl hl pen2 bt2 => ?_⟩
      obtain ⟨ys, hy, ny⟩ := nmAt_strs hl
      have tk : ∀ k : Nat, cutV (ys.map V.str) none (some (k : Int)) = (ys.take k).map V.str := fun k => by rw [cut_take, List.map_take]
      refine ⟨_, rfl, _, rfl, (a : Int), rfl, l, _, rfl, SqL.of hy, fun l1 n1 => ?_⟩
      have s1 := @same_new _ _ (.lst (cutV (ys.map V.str) none (some (a : Int)))) n1
      refine ⟨_, rfl, _, rfl, (b : Int), rfl, l, _, rfl, SqL.of (s1 _ _ hy), fun l2 n2 => ?_⟩
      have s2 := @same_new _ _ (.lst (cutV (ys.map V.str) none (some (b : Int)))) n2
      refine ⟨_, rfl, 3, rfl, l, _, rfl, SqL.of (s2 _ _ (s1 _ _ hy)), fun l3 n3 => ?_⟩
      have s3 := @same_new _ _ (.lst (cutV (ys.map V.str) none (some (3 : Int)))) n3
      refine ⟨_, rfl, _, rfl, (e : Int), rfl, l, _, rfl, SqL.of (s3 _ _ (s2 _ _ (s1 _ _ hy))), fun l4 n4 => ?_⟩
      have s4 := @same_new _ _ (.lst (cutV (ys.map V.str) none (some (e : Int)))) n4
      refine ⟨(by show 4 ≤ sizeLine; decide), fun tp ntp => ?_⟩
      have s5 := @same_new _ _ (.tup [V.ref l1, .ref l2, .ref l3, .ref l4]) ntp
      have u4 := s4.trans s5
      have u3 := s3.trans u4
      have u2 := s2.trans u3
      have u1 := s1.trans u2
      have bt := (bt1.tr bt2).tr (.of u1)
      have f0 : H tp = none := (bt1.tr bt2).free (s1.free (s2.free (s3.free (s4.free ntp)))) pen2.there
      refine q tp l1 l2 l3 l4 (ys.take a) (ys.take b) (ys.take 3) (ys.take e) _ f0 upd_same ?_ ?_ ?_ ?_ (ny.take ha) (ny.take hb) (ny.take (by decide)) (ny.take he) ((pen2.mono (by omega)).same u1) bt
      · exact u2 _ _ (by rw [upd_same, tk])
      · exact u3 _ _ (by rw [upd_same, tk])
      · exact u4 _ _ (by rw [upd_same]; exact congrArg (fun z => some (HO.lst z)) (tk 3))
      · exact s5 _ _ (by rw [upd_same, tk])
    · refine ⟨_, rfl, p, c, n + 1, 3, rfl, pen1, by omega, by decide, by decide, fun l3 H2 nl3 hl3 pen2 bt2 => ?_⟩
      obtain ⟨ys3, hy3, ny3⟩ := nmAt_strs hl3
      refine ⟨_, rfl, _, rfl, p, c, n + 11, (a : Int), rfl, pen2, by omega, by omega, by omega, fun l1 H3 nl1 hl1 pen3 bt3 => ?_⟩
      obtain ⟨ys1, hy1, ny1⟩ := nmAt_strs hl1
      refine ⟨_, rfl, _, rfl, p, c, n + 21, (b : Int), rfl, pen3, by omega, by omega, by omega, fun l2 H4 nl2 hl2 pen4 bt4 => ?_⟩
      obtain ⟨ys2, hy2, ny2⟩ := nmAt_strs hl2
      refine ⟨_, rfl, _, rfl, _, rfl, p, c, n + 31, (e : Int), rfl, pen4, by omega, by omega, by omega, fun l4 H5 nl4 hl4 pen5 bt5 => ?_⟩
      obtain ⟨ys4, hy4, ny4⟩ := nmAt_strs hl4
      refine ⟨(by show 4 ≤ sizeLine; decide), fun tp ntp => ?_⟩
      have s5 := @same_new _ _ (.tup [V.ref l1, .ref l2, .ref l3, .ref l4]) ntp
      have bt := bt1.tr (bt2.tr (bt3.tr (bt4.tr bt5)))
      exact q tp l1 l2 l3 l4 ys1 ys2 ys3 ys4 _ (bt.free ntp pen5.there) upd_same (s5 _ _ (pen_strs pen4 bt5 (pen_strs pen3 bt4 hy1))) (s5 _ _ (pen_strs pen4 bt5 hy2)) (s5 _ _ (pen_strs pen4 bt5 (pen_strs pen3 bt4 (pen_strs pen2 bt3 hy3)))) (s5 _ _ hy4)
        (by rw [Int.toNat_natCast] at ny1; exact ny1) (by rw [Int.toNat_natCast] at ny2; exact ny2) ny3 (by rw [Int.toNat_natCast] at ny4; exact ny4) ((pen5.mono (by omega)).same s5) (bt.tr (.of s5))
abbrev momN : List Str := ["_law_pen_here", "_law_many_here", "_law_way", "_law_some", "_law_k", "_law_few", "_law_found"]
theorem scMom : FnScope momN ["_law_pen_here", "_law_many_here"] (defScope sMoments) := ⟨rfl, rfl, rfl, by decide +kernel, rfl, by decide +kernel, by decide +kernel⟩
theorem at_ints {ns : List Int} {r : Int} (h0 : 0 ≤ r) (h1 : r < (ns.length : Int)) : ∃ y, atI (ns.map V.int) r = some (.int y) ∧ y ∈ ns := by
  have h : r.toNat < ns.length := by omega
  have e : ((r.toNat : Nat) : Int) = r := by omega
  have q := atI_nat (xs := ns.map V.int) (j := r.toNat) (v := .int ns[r.toNat]) (by rw [List.getElem?_map, List.getElem?_eq_getElem h]; rfl)
  rw [e] at q
  exact ⟨_, q, List.getElem_mem h⟩
set_option maxHeartbeats 4000000 in
theorem ok_moments {f fT : Addr} {fd fdT : FuncData} (F : Fun K "_law_moments" "_law_moments" sMoments f fd) (T : TakeT P w K mg base fT fdT) (ml : mg "len" = none) (mr : mg "range" = none) (mi : mg "int" = none) :
    FnOk P w K mg base CX0 2 f fd ["_law_pen_here", "_law_many_here"] spMoments := by
  refine F.ok scMom (fun vs H Q E h => ?_) (fun cdv A outer s H vs Q E hr h => ?_)
  · obtain ⟨p, c, n, m, rfl, _⟩ := h
    rfl
  · obtain ⟨p, c, n, m, rfl, pen, hn, hm, q⟩ := h
    have nd := scMom.nd
    refine ⟨_, pss_cons (ps_set (i := 2) nd rfl (Or.inl rfl) (pe_call T.ok hr (by rfl) T.g T.kp T.b .nil pass0 (pa_cons (pv 0) (pa_cons pe_int pa_nil))))
      (pss_cons (ps_set (i := 3) nd rfl (Or.inr rfl) (pe_lst (pa_cons pe_int (pa_cons pe_int (pa_cons pe_int (pa_cons pe_int (pa_cons (pe_call T.ok hr (by rfl) T.g T.kp T.b .nil pass0 (pa_cons (pv 0) (pa_cons pe_int pa_nil))) (pa_cons (pe_call T.ok hr (by rfl) T.g T.kp T.b .nil pass0 (pa_cons (pv 0) (pa_cons pe_int pa_nil))) pa_nil))))))))
      (pss_cons (ps_setLc (i := 5) (own := [("_law_k", 4)]) (g := gName 4) (tt := tYes) (te := tOp (rIxL K) (tVar 3) (tCall spTake [] E0 (tCons (tVar 0) (tCons (tC (V.int 6)) tNil)))) rfl nd rfl rfl (sw_true rfl rfl rfl (by decide +kernel))
          (pi_range1 rfl mr (pa_cons (pe_op op_add pe_int (pe_call T.ok hr (by rfl) T.g T.kp T.b .nil pass0 (pa_cons (pv 0) (pa_cons pe_int pa_nil)))) pa_nil))
          (blkOk_by (N := momN) (sc := defScope sMoments) (by decide +kernel))
          (fun _ _ _ _ _ => pg_name (i := 4) nd rfl (Or.inl rfl)) (fun _ _ _ _ _ => pts_nil)
          (fun _ _ _ _ _ => pe_ix ix_list (pv 3) (pe_call T.ok hr (by rfl) T.g T.kp T.b .nil pass0 (pa_cons (pv 0) (pa_cons pe_int pa_nil))) (fun _ _ => rfl)))
      (pss_cons (ps_set (i := 6) nd rfl (Or.inl rfl) (pe_lst pa_nil))
      (pss_cons (ps_for PassesOwn.never rfl (pi_range1 rfl mr (pa_cons (pv 1) pa_nil)) (pg_name (i := 4) nd rfl (Or.inl rfl))
        (pss_one (ps_expr (pe_bm PySem.F.plainAttrs_list PySem.F.slot_list_append PySem.F.type_list_append mt_append (pv 6) (pa_cons (pe_ix ix_list
          (pe_lst (pa_cons (pe_ix ix_list (pv 5) (pe_call T.ok hr (by rfl) T.g T.kp T.b .nil pass0 (pa_cons (pv 0) (pa_cons (pe_callB call_len_seq (by rfl) ml PySem.boot_len (pa_cons (pv 5) pa_nil)) pa_nil))) (fun _ _ => rfl)) (pa_cons (pe_call T.ok hr (by rfl) T.g T.kp T.b .nil pass0 (pa_cons (pv 0) (pa_cons pe_int pa_nil))) pa_nil)))
          (pe_callTy call_int1 (by rfl) mi (by decide +kernel) (pa_cons (pe_cmpR op_eq (pv 2) pe_int (nomark _)) pa_nil)) (fun _ _ => rfl)) pa_nil)))))
      (pss_one (ps_ret (pv 6))))))), ?_⟩
    refine ⟨_, rfl, p, c, n, 4, rfl, pen, by omega, by decide, by decide, fun r1 H1 b1 d1 pen1 bt1 => ?_⟩
    refine ⟨_, rfl, p, c, n + 1, 10000, rfl, pen1, by omega, by decide, by decide, fun r2 H2 b2 d2 pen2 bt2 => ?_⟩
    refine ⟨_, rfl, p, c, n + 2, 10000, rfl, pen2, by omega, by decide, by decide, fun r3 H3 b3 d3 pen3 bt3 => ?_⟩
    refine ⟨(by show 6 ≤ sizeLine; decide), fun S nS => ?_⟩
    have sS := @same_new _ _ (.lst (([0, 1, 100, 9999, r2, r3] : List Int).map V.int)) nS
    have penS := pen3.same sS
    have nSp : S ≠ p := fun z => pen3.there (z ▸ nS)
    have btS : But p H (upd H3 S (.lst (([0, 1, 100, 9999, r2, r3] : List Int).map V.int))) := (bt1.tr (bt2.tr bt3)).tr (.of sS)
    have hS : (upd H3 S (.lst (([0, 1, 100, 9999, r2, r3] : List Int).map V.int))) S = some (.lst (([0, 1, 100, 9999, r2, r3] : List Int).map V.int)) := upd_same
    refine ⟨_, rfl, p, c, n + 3, 4, rfl, penS, by omega, by decide, by decide, fun r4 H4 b4 d4 pen4 bt4 => ?_⟩
    have hS4 := bt4 S _ hS nSp
    refine ⟨1, r4, rfl, rfl, 1 + r4, rfl, by omega, by omega, fun D nD => ?_⟩
    have nDp : D ≠ p := fun z => pen4.there (z ▸ nD)
    have nDc : D ≠ c := fun z => pen4.cells (z ▸ nD)
    have nSD : S ≠ D := ne_of_none hS4 nD
    have hDn : H D = none := (btS.tr bt4).free nD pen4.there
    refine lc_range (lo := 0) (n := (1 + r4).toNat) (fun j H' => PenAt H' p c (n + 4 + j) ∧ But p H H' ∧ H' S = some (.lst (([0, 1, 100, 9999, r2, r3] : List Int).map V.int)) ∧ ∃ fs : List Int, H' D = some (.lst (fs.map V.int)) ∧ fs.length = j ∧ ∀ x ∈ fs, 0 ≤ x ∧ x ≤ 9999)
      ⟨pen4.same (same_new nD), (btS.tr bt4).tr (.of (same_new nD)), (upd_ne nSD).trans hS4, [], upd_same, rfl, fun y hy => nomatch hy⟩ ?_ ?_
    · rintro j H6 hj ⟨pen6, bt6, hS6, fs, hD6, lf, bd⟩
      refine ⟨rfl, yesT ?_⟩
      refine ⟨_, rfl, _, rfl, p, c, _, 6, rfl, pen6, by omega, by decide, by decide, fun r H7 b7 d7 pen7 bt7 => ?_⟩
      obtain ⟨y, hy, my⟩ := at_ints (ns := [0, 1, 100, 9999, r2, r3]) b7 d7
      have hD7 := bt7 D _ hD6 nDp
      have hS7 := bt7 S _ hS6 nSp
      refine ⟨S, _, r, _, rfl, rfl, SqL.of hS7, hy, _, hD7, (by rw [List.length_map]; exact small1000 (by omega)), pen7.upd nDp nDc, fun b o e nb => (upd_ne (ne_of_none e hDn)).trans ((bt6.tr bt7) b o e nb), (upd_ne nSD).trans hS7, fs ++ [y], ?_, by simp [lf], ?_⟩
      · rw [upd_same, List.map_append]
        rfl
      · intro x hx
        rcases List.mem_append.mp hx with h | h
        · exact bd x h
        · rw [List.mem_singleton.mp h]
          simp only [List.mem_cons, List.not_mem_nil, or_false] at my
          rcases my with rfl | rfl | rfl | rfl | rfl | rfl <;> constructor <;> omega
    · rintro H6 ⟨pen6, bt6, hS6, fs, hD6, lf, bd⟩
      refine ⟨Nat.zero_le _, fun Fd nFd => ?_⟩
      have nFp : Fd ≠ p := fun z => pen6.there (z ▸ nFd)
      have nFc : Fd ≠ c := fun z => pen6.cells (z ▸ nFd)
      have nDF : D ≠ Fd := ne_of_none hD6 nFd
      have hFn : H Fd = none := bt6.free nFd pen6.there
      refine ⟨_, rfl, (m : Int), rfl, by omega, by omega, for_range (lo := 0) (n := (m : Int).toNat) (fun j σ H' => ∃ y4, σ = [some (.ref p), some (.int (m : Int)), some (.int r1), some (.ref S), y4, some (.ref D), some (.ref Fd)] ∧ PenAt H' p c (n + 8 + 2 * j) ∧ But p H H' ∧ H' D = some (.lst (fs.map V.int)) ∧
        ∃ ns : List Int, H' Fd = some (.lst (ns.map V.int)) ∧ ns.length = j ∧ ∀ x ∈ ns, 0 ≤ x ∧ x ≤ 9999) ⟨_, rfl, (pen6.mono (by omega)).same (same_new nFd), bt6.tr (.of (same_new nFd)), (upd_ne nDF).trans hD6, [], upd_same, rfl, fun y hy => nomatch hy⟩ ?_ ?_⟩
      · rintro j σ H9 hj ⟨y4, rfl, pen9, bt9, hD9, ns, hF9, ln, bn⟩
        have lfs : ((fs.map V.int).length : Int) = (fs.length : Int) := by rw [List.length_map]
        refine ⟨_, rfl, .inl ⟨rfl, _, SqL.of hF9⟩, _, rfl, _, rfl, _, rfl, D, _, rfl, .inl (SqL.of hD9), p, c, _, _, rfl, pen9, by omega, by rw [lfs]; omega, by rw [lfs]; omega, fun r5 H10 b5 d5 pen10 bt10 => ?_⟩
        rw [lfs] at d5
        obtain ⟨y, hy, my⟩ := at_ints b5 d5
        have hD10 := bt10 D _ hD9 nDp
        refine ⟨D, _, r5, _, rfl, rfl, SqL.of hD10, hy, _, rfl, p, c, _, 10000, rfl, pen10, by omega, by decide, by decide, fun r6 H11 b6 d6 pen11 bt11 => ?_⟩
        refine ⟨(by show 2 ≤ sizeLine; decide), fun L nL => ?_⟩
        have sL := @same_new _ _ (.lst (([y, r6] : List Int).map V.int)) nL
        refine ⟨_, rfl, rfl, .inr ⟨decide (V.int r1 = V.int 0), rfl, ?_⟩⟩
        have z01 : (0 : Int) ≤ (if decide (V.int r1 = V.int 0) = true then 1 else 0) ∧ (if decide (V.int r1 = V.int 0) = true then (1 : Int) else 0) < 2 := by
          cases decide (V.int r1 = V.int 0) <;> decide
        obtain ⟨x, hx, mx⟩ := at_ints (ns := [y, r6]) z01.1 z01.2
        have hF12 := sL _ _ (bt11 Fd _ (bt10 Fd _ hF9 nFp) nFp)
        have bt12 := (bt9.tr (bt10.tr bt11)).tr (.of sL)
        refine ⟨L, _, _, _, rfl, rfl, SqL.of upd_same, hx, Fd, _, _, rfl, rfl, hF12, (by rw [List.length_map]; exact small1000 (by omega)), _, rfl, (((pen11.mono (by omega)).same sL).upd nFp nFc), fun b o e nb => (upd_ne (ne_of_none e hFn)).trans (bt12 b o e nb), (upd_ne nDF).trans (sL _ _ (bt11 D _ hD10 nDp)), ns ++ [x], ?_, by simp [ln], ?_⟩
        · rw [upd_same, List.map_append]
          rfl
        · intro z hz
          rcases List.mem_append.mp hz with h | h
          · exact bn z h
          · rw [List.mem_singleton.mp h]
            have by_ := bd y my
            simp only [List.mem_cons, List.not_mem_nil, or_false] at mx
            rcases mx with rfl | rfl <;> constructor <;> omega
      · rintro σ H9 ⟨y4, rfl, pen9, bt9, hD9, ns, hF9, ln, bn⟩
        exact ⟨_, rfl, q Fd ns H9 hFn hF9 (by omega) bn (pen9.mono (by omega)) bt9⟩
end
/-! ### generator expressions whose element reads the module's names and the def's cells -/
section
variable {X : Cx} {pins : List (Addr × Obj)} {σ : L2.St} {H : Hp} {s : Shared}
/-- walking u makes one new object and reads fp alone; n items, the i-th one as Pf says -/
def GSrc (X : Cx) (T : Addr) (u : Value) (s1 : Shared) (n : Nat) (Pf : Nat → Value → Prop) : Prop :=
  ∀ (Q : Value → Shared → Prop) (E : Value → Shared → Prop),
    (∀ (o : Obj) (fp : List Addr) (St : Nat → Heap → Prop),
      (∀ A' : Around, A'.handled = none → Walks X.prog X.w A' s1.heap.objs.size fp [s1.heap.objs.size] n Pf St) →
      St 0 (s1.heap.push o) → (∀ b ∈ fp, b ≤ s1.heap.objs.size ∧ b ≠ T) →
      Q (.ref s1.heap.objs.size) { s1 with heap := s1.heap.push o }) →
    wpAny (model X.prog X.w) X.A (pyIter u) Q E s1
/-- the tests and the element at the item v: nothing that stood is changed -/
structure GElt (X : Cx) (T : Addr) (scope : Scope) (x : Str) (ifs : List Expr) (elt : Expr) (s1 : Shared) (Pf : Nat → Value → Prop) (pz : Nat → Bool) (F : Nat → Value → Prop) : Prop where
  run : ∀ (ce : Env) (A' : Around) (E' : Value → Shared → Prop) (i : Nat) (v : Value) (s2 : Shared) (m2 : Str → Option Value),
    ce.scope = scope → ce.globals = mainGlobals → ce.cells = cloFrom X.env.cells scope.names [] → A'.handled = none → Pf i v → s2.heap.Ns ce.locals m2 → m2 x = some v →
    (∀ b u, b ≠ T → s1.heap.get? b = some u → s2.heap.get? b = some u) →
    wpAny (model X.prog X.w) A' (forIn ifs true fun c r => if r = true then do let ok ← isTrue c ce (eval c ce); pure (ForInStep.yield ok) else pure (ForInStep.yield r)) (fun ok s3 => ok = pz i ∧ Keeps s2 s3) E' s2 ∧
    (pz i = true → wpAny (model X.prog X.w) A' (eval elt ce) (fun y s3 => F i y ∧ Keeps s2 s3) E' s2)
/-- the generator g is ready to be walked in s5 -/
def GReady (X : Cx) (pins : List (Addr × Obj)) (σ : L2.St) (H1 : Hp) (T : Addr) (n : Nat) (pz : Nat → Bool) (F : Nat → Value → Prop) (g : Addr) (s5 : Shared) : Prop :=
  ∃ (fp wr : List Addr) (G : Array GenState → Array GenState → Prop) (St : Nat → Shared → Prop),
    WalksS X.prog X.w X.A.in1 g fp wr G (passing pz n 0).length (fun j y => ∃ i, (passing pz n 0)[j]? = some i ∧ F i y) St ∧ St 0 s5 ∧
    ∀ s', Moved wr G s5 s' → ∃ H2, GxR.Tabbed T H1 H2 ∧ Inv X pins σ H2 s'
theorem gen_mk {c T : Addr} {elt iter : Expr} {x : Str} {px gpos : Pos} {ifs : List Expr} {scope : Scope} {te : TE} {k : Nat} {Q' : Value → Shared → Prop} {R : V → Hp → Prop}
    (hr : Room k X.A) (TB : GxR.TabB X.base X.mg c T) (hcode : X.env.code = .ref c) (S : GxR.GenS X.env scope x) (hi : PE X iter te)
    (hs : ∀ v, genFold iter X.env v = pure v) (I : Inv X pins σ H s) (h : te σ H fun v H1 => GxR.TabG H1 T ∧ R v H1)
    (hQ : ∀ v u H1 s1, Inv X pins σ H1 s1 → RelV v u → GxR.TabG H1 T → R v H1 → ∃ n Pf pz F, GSrc X T u s1 n Pf ∧ GElt X T scope x ifs elt s1 Pf pz F ∧
      ∀ g s5, GReady X pins σ H1 T n pz F g s5 → Q' (.ref g) s5) :
    wpAny (model X.prog X.w) X.A (eval (.GeneratorExp elt [⟨.Name x px, iter, ifs, 0⟩] scope gpos) X.env) Q' X.xe s := by
  refine wpAny_GeneratorExp_walksQ hr.hd S.co (closure_ok S.free) S.cell S.dot S.loc S.kind (Nat.lt_of_le_of_lt (by omega : X.A.depth ≤ X.A.depth + 3 * k + 5) hr.dp) ?_ hs
  refine thn (hi.run pins s σ H _ I h) fun u s1 ⟨v, H1, J, rv, ⟨ps, hT, hok⟩, hR⟩ => ?_
  obtain ⟨n, Pf, pz, F, src, el, fin⟩ := hQ v u H1 s1 J rv ⟨ps, hT, hok⟩ hR
  refine src _ _ fun o fp St W st0 hfp => ?_
  have gT : s1.heap.get? T = some (PySem.W.tabObj ps) := J.hok T _ hT
  have ltT := Heap.lt_size gT
  have sz : (s1.heap.push o).objs.size = s1.heap.objs.size + 1 := Heap.size_push ..
  have cd : PySem.W.CodeHd (s1.heap.push o) c T := TB.code.keeps fun b z e => Heap.get?_push_of_some _ (J.bk b z e)
  have pT : (s1.heap.push o).get? T = some (PySem.W.tabObj ps) := Heap.get?_push_of_some _ gT
  have lim : (s1.heap.push o).NoLimit := J.nolimit.push o
  obtain ⟨mc, nsC, _⟩ := id J.nolimit
  have ltC : cStatics < s1.heap.objs.size := nsC.lt
  have neC : cStatics ≠ T := fun e => by
    obtain ⟨oo, es, ep, go, dd, _⟩ := nsC
    rw [e, gT] at go
    cases go
    cases dd
  refine ⟨lim, ?_⟩
  -- behind the code object: the generator is made and handed on
  have on : ∀ (code : Value) (h3 : Heap) (tk : Nat) (ps' : Array Value), Heap.ExtBut T (s1.heap.push o) h3 → (s1.heap.push o).objs.size ≤ h3.objs.size →
      h3.get? T = some (PySem.W.tabObj ps') → (∃ more, ps' = ps ++ more) → TriplesOk ps'.toList →
      wpAny (model X.prog X.w) X.A (builtinsFor X.env.globals X.env.builtins) (fun bi s4 =>
        ∃ I' fp' wr n0 P' St' pz' F', Value.ref s1.heap.objs.size = .ref I' ∧ (∀ A' : Around, A'.handled = none → Walks X.prog X.w A' I' fp' wr n0 P' St') ∧ St' 0 s4.heap ∧ (∀ b ∈ fp', b < s4.heap.objs.size) ∧
          s4.heap.NoLimit ∧ cStatics ∉ wr ∧
          (∀ href : Heap, (∀ b z, s4.heap.get? b = some z → href.get? b = some z) →
            QuietGen X.prog X.w (genEnv scope (cloFrom X.env.cells scope.names []) s4.heap.objs.size code bi X.env) x ifs elt (List.range s4.heap.objs.size) wr P' pz' F' href) ∧
          (∀ a h5 tk5 gs, gs.bare = true → s4.heap.objs.size < a → h5.objs.size = a + 1 → (∀ b z, s4.heap.get? b = some z → h5.get? b = some z) →
            WalksS X.prog X.w X.A.in4 a (a :: s4.heap.objs.size :: List.range s4.heap.objs.size) (s4.heap.objs.size :: wr) (GenOnlyQ s4.gens.size) (passing pz' n0 0).length
              (fun j y => ∃ i, (passing pz' n0 0)[j]? = some i ∧ F' i y) (GenAt X.prog X.w X.A.in4 a s4.gens.size s4.heap.objs.size (List.range s4.heap.objs.size) wr pz' n0 F') →
            GenAt X.prog X.w X.A.in4 a s4.gens.size s4.heap.objs.size (List.range s4.heap.objs.size) wr pz' n0 F' 0 { s4 with gens := s4.gens.push gs, toks := tk5, heap := h5 } →
            Q' (.ref a) { s4 with gens := s4.gens.push gs, toks := tk5, heap := h5 })) X.xe { s1 with heap := h3, toks := tk } := by
    intro code h3 tk ps' ext ge3 gT3 mo ok3
    have stay : ∀ b z, b ≠ T → s1.heap.get? b = some z → h3.get? b = some z := fun b z nb e => ext b z nb (Heap.get?_push_of_some _ e)
    have glo : ∀ h4 : Heap, (∀ b z, b ≠ T → s1.heap.get? b = some z → h4.get? b = some z) → h4.Ns mainGlobals X.mg := fun h4 st => by
      obtain ⟨oo, es, ep, go, r⟩ := J.mod.glob
      exact ⟨oo, es, ep, st _ _ TB.gP (J.bk _ _ go), r⟩
    obtain ⟨bm, ob, e1, e2, _, e4, e5, e6, e7, e8⟩ := TB.bm
    refine wpAny_builtinsFor (m := X.mg) (by rw [J.ok.glob]; exact glo h3 stay) e1 e2 (stay _ _ e4 (J.bk _ _ e5)) e6 e7 e8 ?_
    refine ⟨s1.heap.objs.size, fp, [s1.heap.objs.size], n, Pf, St, pz, F, rfl, W, ?_, fun b hb => ?_, lim.extBut ext neC, fun z => ?_, fun href keepR => ⟨?_, ?_⟩, ?_⟩
    · exact (W X.A hr.hd).frame _ _ _ st0 fun b hb z e => ext b z (hfp b hb).2 e
    · have l1 := (hfp b hb).1
      have l2 := ge3
      rw [sz] at l2
      exact Nat.lt_of_lt_of_le (Nat.lt_succ_of_le l1) l2
    · rw [List.mem_singleton] at z
      exact absurd z (Nat.ne_of_lt ltC)
    · intro A' E' i v2 s2 m2 hA hP hn hm hk
      refine (el.run (genEnv scope (cloFrom X.env.cells scope.names []) h3.objs.size code builtinsNs X.env) A' E' i v2 s2 m2 rfl J.ok.glob rfl hA hP hn hm fun b z nb e => ?_).1
      have hb := Heap.lt_size e
      refine hk b (List.mem_range.mpr ?_) (fun q => ?_) z (keepR b z (stay b z nb e))
      · have := ge3
        rw [sz] at this
        exact Nat.lt_of_lt_of_le (Nat.lt_succ_of_lt hb) this
      · rw [List.mem_singleton] at q
        exact absurd q (Nat.ne_of_lt hb)
    · intro A' E' i v2 s2 m2 hA hP hz hn hm hk
      refine (el.run (genEnv scope (cloFrom X.env.cells scope.names []) h3.objs.size code builtinsNs X.env) A' E' i v2 s2 m2 rfl J.ok.glob rfl hA hP hn hm fun b z nb e => ?_).2 hz
      have hb := Heap.lt_size e
      refine hk b (List.mem_range.mpr ?_) (fun q => ?_) z (keepR b z (stay b z nb e))
      · have := ge3
        rw [sz] at this
        exact Nat.lt_of_lt_of_le (Nat.lt_succ_of_lt hb) this
      · rw [List.mem_singleton] at q
        exact absurd q (Nat.ne_of_lt hb)
    · intro g h5 tk5 gs bare ltg sz5 keep5 W5 at5
      refine fin g _ ⟨_, _, _, _, W5.in4_1, at5, fun s' mv => ?_⟩
      obtain ⟨more, em⟩ := mo
      have out : ∀ b z, s1.heap.get? b = some z → b ∉ h3.objs.size :: [s1.heap.objs.size] := fun b z e hb => by
        have l1 := Heap.lt_size e
        have l3 := ge3
        rw [sz] at l3
        rcases List.mem_cons.mp hb with q | q
        · rw [q] at l1
          exact Nat.lt_irrefl _ (Nat.lt_trans l1 l3)
        · rw [List.mem_singleton] at q
          rw [q] at l1
          exact Nat.lt_irrefl _ l1
      have K5 := GxR.inv_tab (more := more) (h' := s'.heap) (g' := s'.gens) (d' := s'.drawn) (t' := s'.toks) J hT
        (fun b z nb e => mv.heap b z (out b z e) (keep5 b z (stay b z nb e))) (by rw [← em]; exact mv.heap T _ (out T _ gT) (keep5 T _ gT3)) (AllBare.movedS (J.bare.push bare) mv)
      rw [GxR.sh_eta s1 s' mv.os] at K5
      exact ⟨upd H1 T (.tbl (ps ++ more)), ⟨⟨_, upd_same, by rw [← em]; exact ok3⟩, fun b nb => upd_ne nb⟩, K5⟩
  cases among : codeAmong gpos ps.toList with
  | some cv =>
    refine wpAny_genexprCode_hit hcode (cd.code pT hok) among ?_
    exact on cv _ s1.toks ps (Heap.ExtBut.refl _ _) (Nat.le_refl _) pT ⟨#[], (Array.append_empty).symm⟩ hok
  | none =>
    refine wpAny_genexprCodeX hcode (cd.code pT hok) (cd.tab pT) among fun c' h' tk hx hge hlt isC _ tab' _ => ?_
    obtain ⟨_, _, _, _, _, _, _, _, _, _, _, _, _, _, _, _, _, _, _, ok', _⟩ := isC
    exact on _ h' tk _ hx (Nat.le_trans hge (Nat.le_of_lt hlt)) tab'.2 ⟨_, rfl⟩ ok'
/-- a text's signs as what is walked -/
theorem gsrc_str {T : Addr} {a : Str} {t : Tok} {s1 : Shared} (hT : T < s1.heap.objs.size) : GSrc X T (.str a t) s1 a.cps.size (SignAt a) := fun Q E h =>
  wpAny_pyIter_str fun o St W st0 => h o _ St W st0 fun b hb => by
    rw [List.mem_singleton] at hb
    subst hb
    exact ⟨Nat.le_refl _, Nat.ne_of_gt hT⟩
theorem pass_all (n : Nat) : passing (fun _ => true) n 0 = List.range n := by
  simp [passing]
/-- all(test for x in e), e a text -/
def tAllT (T : Addr) (pb : Nat → Bool) (te : TE) : TE := fun σ H Q => te σ H fun v H1 => GxR.TabG H1 T ∧ ∃ a : Str, v = .str a ∧ ∀ H2, GxR.Tabbed T H1 H2 → Q (.bl (a.cps.toList.all pb)) H2
theorem pe_allT {c T : Addr} {elt iter : Expr} {x : Str} {px p pos gpos : Pos} {scope : Scope} {pb : Nat → Bool} {te : TE} {k : Nat}
    (hr : Room k X.A) (hg : Gl X "all") (hm : X.mg "all" = none) (TB : GxR.TabB X.base X.mg c T) (hcode : X.env.code = .ref c) (S : GxR.GenS X.env scope x) (hi : PE X iter te)
    (hel : ∀ pins s1 σ H1 a, Inv X pins σ H1 s1 → GElt X T scope x [] elt s1 (SignAt a) (fun _ => true) (fun i y => ∃ cc, a.cps[i]? = some cc ∧ y = .bool (pb cc)))
    (hs : ∀ v, genFold iter X.env v = pure v)
    (he : starEach [.GeneratorExp elt [⟨.Name x px, iter, [], 0⟩] scope gpos] X.env = (false, eval (.GeneratorExp elt [⟨.Name x px, iter, [], 0⟩] scope gpos) X.env) :: starEach [] X.env := by rfl) :
    PE X (.Call (.Name "all" p) [.GeneratorExp elt [⟨.Name x px, iter, [], 0⟩] scope gpos] [] pos) (tAllT T pb te) := by
  refine ⟨fun pins s σ H Q I h => wpAny_Call_Name_kw (ld_blt I hg hm (show bootBuiltins "all" = some (.builtin "all") by decide +kernel) ?_)⟩
  refine PyProof.Rows.callWith_builtin1 ?_ he (by rfl)
  rw [he]
  refine Calls.spliced_cons (gen_mk hr TB hcode S hi hs I h fun v u H1 s1 J rv tg hR => ?_)
  obtain ⟨a, rfl, hR⟩ := hR
  obtain ⟨t, rfl⟩ := id rv
  refine ⟨_, _, fun _ => true, _, gsrc_str ?_, hel pins s1 σ H1 a J, fun g s5 rdy => ?_⟩
  · obtain ⟨ps, e, _⟩ := tg
    exact J.hok.lt e
  obtain ⟨fp, wr, G, St, W, st0, back⟩ := rdy
  rw [pass_all] at W
  refine Calls.spliced_nil (call_all_walkS (W.self 0 _ _ _ st0 ⟨g, fp, wr, G, _, _, St, GxR.trF pb a.cps.toList, rfl, W, st0, ?_, fun s' mv => ?_⟩))
  · intro j y sj Qj Ej hy hq
    obtain ⟨i, ij, cc, hc, rfl⟩ := hy
    obtain ⟨hj, ej⟩ := List.getElem?_eq_some_iff.mp ij
    rw [List.getElem_range] at ej
    subst ej
    refine wpAny_truthy_bool ?_
    rw [← GxR.trF_some (pb := pb) (show a.cps.toList[j]? = some cc by rw [Array.getElem?_toList]; exact hc)]
    exact hq
  · obtain ⟨H2, tab, K2⟩ := back s' mv
    refine ⟨.bl _, H2, K2, rfl, ?_⟩
    rw [List.length_range, GxR.all_signs a pb]
    exact hR H2 tab
end
/-! ### is_name -/
def signB (c : Nat) : Bool := decide (c ∈ abc.cps.toList)
def nameB (z : Str) : Bool := decide (1 ≤ z.length) && decide (z.length ≤ 8) && z.cps.toList.all signB
theorem nameB_in {z : Str} (h1 : (1 : Int) ≤ (z.length : Int)) (h2 : (z.length : Int) ≤ 8) : nameB z = z.cps.toList.all signB := by
  unfold nameB
  rw [decide_eq_true (show 1 ≤ z.length by omega), decide_eq_true (show z.length ≤ 8 by omega)]
  rfl
theorem nameB_long {z : Str} (h : ¬ (z.length : Int) ≤ 8) : nameB z = false := by
  unfold nameB
  rw [decide_eq_false (show ¬ z.length ≤ 8 by omega), Bool.and_false]
  rfl
theorem nameB_short {z : Str} (h : ¬ (1 : Int) ≤ (z.length : Int)) : nameB z = false := by
  unfold nameB
  rw [decide_eq_false (show ¬ 1 ≤ z.length by omega)]
  rfl
/-- what is_name is told: a text, or what is of another built-in kind -/
def spName (K : PySem.W.Frag) (T : Addr) : Sp := fun vs H Q _ => ∃ v : V, vs = [v] ∧ GxR.TabG H T ∧
  ((∃ z : Str, v = .str z ∧ z.length ≤ sizeLine ∧ ∀ H2, GxR.Tabbed T H H2 → Q (.bl (nameB z)) H2) ∨
   ∃ t : String, TyX K H v (.type t) ∧ kitB t "str" = some false ∧ Q (.bl false) H)
section
variable {P : Program} {w : World} {K : PySem.W.Frag} {mg : Str → Option Value} {base : Heap}
theorem scName : FnScope ["thing"] ["thing"] (defScope sName) := ⟨rfl, rfl, rfl, by decide +kernel, rfl, by decide +kernel, by decide +kernel⟩
theorem ok_name {f c T : Addr} {oc kV doc pm ct : Value} {od an : Option Addr} {osl : Array (Option Value)}
    (lk : K.lookup f = some ⟨oc, od, .func (PySem.W.fnOf "is_name" "is_name" (defArgs sName) (defBody sName) (defScope sName) .none kV doc pm an (.ref c) ct), osl⟩) (cdI : PySem.W.codeIn K (.ref c) "is_name" = true)
    (TB : GxR.TabB base mg c T) (mi : mg "isinstance" = none) (mst : mg "str" = none) (ml : mg "len" = none) (ma : mg "all" = none) (mL : ∃ t, mg "LETTERS" = some (.str abc t)) (mN : ∃ t, mg "LONGEST_NAME" = some (.int 8 t)) :
    FnOk P w K mg base CX0 1 f (PySem.W.fnOf "is_name" "is_name" (defArgs sName) (defBody sName) (defScope sName) .none kV doc pm an (.ref c) ct) ["thing"] (spName K T) := by
  refine fn_of lk cdI scName (fun vs H Q E h => ?_) (fun A outer s H vs Q E hr h => ?_)
  · obtain ⟨v, rfl, _⟩ := h
    rfl
  · obtain ⟨v, rfl, tg, h⟩ := h
    obtain ⟨tL, mL⟩ := mL
    obtain ⟨tN, mN⟩ := mN
    refine ⟨_, pss_cons (ps_if (pt_not (pt_val (pe_callB call_isi (by rfl) mi (by decide +kernel) (pa_cons (pv 0) (pa_cons (pe_bltn (v := .ty "str") (u := .type "str") (by rfl) mst (by decide +kernel) rfl) pa_nil)))))
        (pss_one (ps_ret pe_bl)) pss_nil)
      (pss_one (ps_ret (pe_and (pe_chain op_le op_le pe_int (pe_callB call_len_str (by rfl) ml PySem.boot_len (pa_cons (pv 0) pa_nil)) (pe_glob (v := .int 8) rfl mN ⟨_, rfl⟩))
        (pe_one (pe_allT (T := T) (c := c) (pb := signB) hr (by rfl) ma TB rfl ⟨rfl, rfl, by decide +kernel, rfl, rfl, by intro y hy e; simp only [List.mem_cons, List.not_mem_nil, or_false] at hy; rcases hy with rfl | rfl | rfl <;> cases e⟩ (pv 0) ?_ (fun _ => rfl)))))), ?_⟩
    · intro pins s1 σ H1 a J
      refine ⟨fun ce A' E' i v s2 m2 e1 e2 e3 hA hP hn hm hk => ⟨?_, fun _ => ?_⟩⟩
      · simp only [List.forIn_nil]
        exact wpAny_pure ⟨rfl, GxR.keeps_refl _⟩
      · obtain ⟨cc, u, hc, rfl⟩ := hP
        refine wpAny_Compare1 ?_
        refine wpAny_Name (wpAny_loadName_local (by rw [e1]) (show ce.scope.names.lookup _ = some .local by rw [e1]; rfl) hn hm ?_) (by decide)
        refine Calls.Name_function_global (by rw [e1]) (show ce.scope.names.lookup _ = some .globalImplicit by rw [e1]; rfl) ?_
        have G : s2.heap.Ns mainGlobals mg := by
          obtain ⟨oo, es, ep, go, r⟩ := J.mod.glob
          exact ⟨oo, es, ep, hk _ _ TB.gP (J.bk _ _ go), r⟩
        refine Calls.loadGlobal_global (by rw [e2]; exact G) mL ?_
        exact PyProof.Rows.in_str ⟨⟨cc, hc, congrArg Value.bool (PySem.StrLaws.found_one abc cc)⟩, GxR.keeps_refl _⟩
    · refine ⟨v, rfl, ?_⟩
      rcases h with ⟨z, rfl, hz, q⟩ | ⟨t, ty, kt, q⟩
      · refine ⟨_, _, _, _, true, rfl, .ty "str", .base (.str z), kit_ty (by decide +kernel), _, rfl, iteF ?_⟩
        refine ⟨_, rfl, z, rfl, hz, 1, _, rfl, rfl, _, rfl, ite2 (fun e1 => ?_) (fun e1 => ?_)⟩
        · refine ⟨_, 8, rfl, rfl, _, rfl, ite2 (fun e2 => ?_) (fun e2 => ?_)⟩
          · refine ⟨_, rfl, tg, z, rfl, fun H2 tb => ?_⟩
            have e3 := q H2 tb
            rw [nameB_in (of_decide_eq_true e1) (of_decide_eq_true e2)] at e3
            exact e3
          · have e3 := q H ⟨tg, fun _ _ => rfl⟩
            rw [nameB_long fun h => e2 (decide_eq_true h)] at e3
            exact e3
        · have e3 := q H ⟨tg, fun _ _ => rfl⟩
          rw [nameB_short fun h => e1 (decide_eq_true h)] at e3
          exact ⟨_, rfl, iteF e3⟩
      · exact ⟨_, _, _, _, false, rfl, .ty "str", ty, kit_ty kt, _, rfl, iteT q⟩
end
/-! ### the drawn names are names, unlike ones -/
theorem bij_pow (t : Nat) : ∀ (j r : Nat), r + 1 ≤ 2 ^ j → (bij t r).length ≤ j
  | 0, r, h => by
    have : r = 0 := by simp at h; exact h
    subst this
    rw [bij]
    exact Nat.le_refl _
  | j + 1, 0, _ => by
    rw [bij]
    exact Nat.zero_le _
  | j + 1, r + 1, h => by
    rw [bij, List.length_append]
    have h2 : 2 ^ (j + 1) = 2 * 2 ^ j := by rw [Nat.pow_succ]; omega
    have := bij_pow t j (r / 2) (by rw [h2] at h; omega)
    show _ + 1 ≤ _
    omega
theorem bij_in (t : Nat) : ∀ (r : Nat), ∀ c ∈ bij t r, c ∈ abc.cps.toList
  | 0, c, h => by
    rw [bij] at h
    cases h
  | r + 1, c, h => by
    rw [bij] at h
    rcases List.mem_append.mp h with h | h
    · exact bij_in t (r / 2) c h
    · rw [List.mem_singleton.mp h]
      exact Lc_in (Nat.mod_lt _ (by decide))
theorem nm_in {way t : Nat} {B : List Nat} {sp : Nat} (ok : NmOk way t B sp) (k : Nat) : ∀ c ∈ nm way t B sp k, c ∈ abc.cps.toList := by
  intro c h
  unfold nm at h
  split at h
  · exact bij_in _ _ c h
  · rcases List.mem_append.mp h with h | h
    · rcases List.mem_append.mp h with h | h
      · exact ok.bl c (List.mem_of_mem_take h)
      · simp only [nmPair, List.mem_cons, List.not_mem_nil, or_false] at h
        rcases h with rfl | rfl <;> exact Lc_in (Nat.mod_lt _ (by decide))
    · exact ok.bl c (List.mem_of_mem_drop h)
theorem nm_len {way t : Nat} {B : List Nat} {sp : Nat} (ok : NmOk way t B sp) {k : Nat} (hk : k ≤ 30) : 1 ≤ (nm way t B sp k).length ∧ (nm way t B sp k).length ≤ 8 := by
  unfold nm
  split
  · have h := bij_pow t 5 (k + 1) (by show k + 1 + 1 ≤ 32; omega)
    refine ⟨?_, by omega⟩
    rw [bij, List.length_append]
    show 1 ≤ _ + 1
    omega
  · have := ok.b6
    have := ok.s
    rw [List.length_append, List.length_append, List.length_take, List.length_drop]
    show 1 ≤ _ + 2 + _ ∧ _ + 2 + _ ≤ 8
    constructor <;> omega
theorem nm_name {way t : Nat} {B : List Nat} {sp : Nat} (ok : NmOk way t B sp) {k : Nat} (hk : k ≤ 30) : nameB (nmStr way t B sp k) = true := by
  have h := nm_len ok hk
  have e : (nmStr way t B sp k).length = (nm way t B sp k).length := sc_len _
  unfold nameB
  rw [e, decide_eq_true h.1, decide_eq_true h.2]
  show (nmStr way t B sp k).cps.toList.all signB = true
  rw [List.all_eq_true]
  intro c hc
  exact decide_eq_true (nm_in ok k c (by simpa [nmStr] using hc))
theorem Lc_inj : ∀ i < 26, ∀ j < 26, Lc i = Lc j → i = j := by decide +kernel
theorem bij_inj {t : Nat} : ∀ (r q : Nat), bij t r = bij t q → r = q := by
  intro r
  induction r using Nat.strongRecOn with
  | ind r ih =>
    intro q h
    cases r with
    | zero =>
      cases q with
      | zero => rfl
      | succ q =>
        have := congrArg List.length h
        rw [bij, bij, List.length_append] at this
        simp at this
    | succ r =>
      cases q with
      | zero =>
        have := congrArg List.length h
        rw [bij, bij, List.length_append] at this
        simp at this
      | succ q =>
        rw [bij, bij] at h
        have h1 := List.append_inj_left' h rfl
        have h2 := List.append_inj_right' h rfl
        have e := ih (r / 2) (by omega) (q / 2) h1
        have e2 : Lc ((t + 9 * ((r + 1) % 2)) % 26) = Lc ((t + 9 * ((q + 1) % 2)) % 26) := List.head_eq_of_cons_eq h2
        have e3 := Lc_inj _ (Nat.mod_lt _ (by decide)) _ (Nat.mod_lt _ (by decide)) e2
        omega
theorem nm_inj {way t : Nat} {B : List Nat} {sp : Nat} {k j : Nat} (hk : k ≤ 30) (hj : j ≤ 30) (h : nm way t B sp k = nm way t B sp j) : k = j := by
  unfold nm at h
  split at h
  · have := bij_inj _ _ h
    omega
  · have h1 := List.append_inj_left' h rfl
    have h2 := List.append_inj_right h1 rfl
    unfold nmPair at h2
    have a := List.head_eq_of_cons_eq h2
    have b := List.head_eq_of_cons_eq (List.tail_eq_of_cons_eq h2)
    have a' := Lc_inj _ (Nat.mod_lt _ (by decide)) _ (Nat.mod_lt _ (by decide)) a
    have b' := Lc_inj _ (Nat.mod_lt _ (by decide)) _ (Nat.mod_lt _ (by decide)) b
    clear h h1 h2 a b
    have u1 : k / 26 ≤ 1 := by omega
    have u2 : j / 26 ≤ 1 := by omega
    have e1 : k / 26 = j / 26 := by
      generalize k / 26 = u at b' u1
      generalize j / 26 = v at b' u2
      omega
    clear b' u1 u2
    have e2 : (7 * k) % 26 = (7 * j) % 26 := by omega
    have e3 : k % 26 = j % 26 := by
      clear a'
      omega
    omega
theorem NmL.names {ys : List Str} {m : Nat} (h : NmL ys m) (hm : m ≤ 31) : ∀ y ∈ ys, nameB y = true := by
  obtain ⟨way, t, B, sp, ok, rfl⟩ := h
  intro y hy
  obtain ⟨k, hk, rfl⟩ := List.mem_map.mp hy
  exact nm_name ok (by have := List.mem_range.mp hk; omega)
theorem NmL.nodup {ys : List Str} {m : Nat} (h : NmL ys m) (hm : m ≤ 31) : ys.Nodup := by
  obtain ⟨way, t, B, sp, ok, rfl⟩ := h
  rw [List.Nodup, List.pairwise_map]
  refine List.Pairwise.imp_of_mem ?_ (List.nodup_range (n := m))
  intro a b ha hb ne e
  have ha' := List.mem_range.mp ha
  have hb' := List.mem_range.mp hb
  have e2 : nm way t B sp a = nm way t B sp b := by
    have := congrArg (fun z : Str => z.cps.toList) e
    simpa [nmStr] using this
  exact ne (nm_inj (by omega) (by omega) e2)
/-! ### defs that are called while nothing is being shown: the guards are known -/
structure FnG (P : Program) (w : World) (K : PySem.W.Frag) (mg : Str → Option Value) (base : Heap) (k : Nat) (f : Addr) (fd : FuncData) (ps : List Str) (sp : Sp) : Prop where
  many : ∀ vs H Q E, sp vs H Q E → vs.length = ps.length
  goes : ∀ (B : Around) (st : List Env) (s : Shared) (H : Hp) (as : Args) (us : List Value) (vs : List V) (Q : VK) (E : XK), B.guards = some [] → Room k B → Env0 P w K mg base B st s H →
    BindsTo s fd as (ps.zip us) → Vals vs us → sp vs H Q E → codeAny (model P w) B (.call (.ref f) as) (CR CX0 st P w H s Q E) s
section
variable {P : Program} {w : World} {K : PySem.W.Frag} {mg : Str → Option Value} {base : Heap}
theorem FnG.of {k : Nat} {f : Addr} {fd : FuncData} {ps : List Str} {sp : Sp} (F : FnOk P w K mg base CX0 k f fd ps sp) : FnG P w K mg base k f fd ps sp :=
  ⟨F.len, fun B st s H as us vs Q E _ => F.run B st s H as us vs Q E⟩
theorem Fun.okG {x qual : Str} {st : Stmt} {f : Addr} {fd : FuncData} {N ps : List Str} {k : Nat} {sp : Sp} (F : Fun K x qual st f fd) (S : FnScope N ps (defScope st)) (many : ∀ vs H Q E, sp vs H Q E → vs.length = ps.length)
    (body : ∀ (cdv : Value) (B : Around) (fs : List Env) (s : Shared) (H : Hp) (vs : List V) (Q : VK) (E : XK), B.guards = some [] → Room k (B.deeper (envOfC qual (defScope st) s.heap.objs.size f cdv)) → sp vs H Q E →
      ∃ t, PSs (cxOf CX0 P w K mg base N qual (defScope st) f cdv B fs s H E).nox (defBody st) t ∧ t { nx := fun _ H' => Q .non H', rt := Q } (start N vs) H) : FnG P w K mg base (k + 1) f fd ps sp := by
  obtain ⟨oc, od, kV, doc, pm, an, cdv, ct, osl, rfl, lk, hcd⟩ := F.ex
  refine ⟨many, fun B fs s H as us vs Q E hg hr e0 hb r hsp => ?_⟩
  have old : ∀ b o, base.get? b = some o → s.heap.get? b = some o := fun b o e => (e0.bs b o e).1
  have KX := e0.mod.kin.keeps old
  obtain ⟨t, pt, ht⟩ := body cdv B fs s H vs Q E hg (hr.deeper _) hsp
  refine codeAny_call_function hr.depth (KX _ _ lk) rfl S.co S.gen rfl (PySem.W.codeRec_of KX hcd) (hb _ _ _ _ ?_)
  refine wpAny_newFunctionEnv_cells S.kind ?_ ?_
  · rintro ⟨n, v⟩ hy
    have hn := (List.of_mem_zip hy).1
    exact (S.par n hn).imp id fun q => ⟨q, PySem.W.cellsFrom_some _ _ _ (.inl q)⟩
  · rintro env rfl s1 x
    have I := inv_start (CX := CX0) (E := E) S hr.hd e0 (many _ _ _ _ hsp) r x
    refine ⟨(e0.mod.nolimit.keeps old).keeps x.toInCall.keep, codeAny_func (wpAny_mono (pt.nox.run [] s1 _ H _ I ht) ?_ fun e s' hs => hs)⟩
    rintro fl s' hs
    cases fl with
    | ret u =>
      obtain ⟨v, σ', H', J, rv, q⟩ := hs
      exact ⟨v, H', J.os, J.bare, J.base, J.hok, rv, q⟩
    | next =>
      obtain ⟨σ', H', J, q⟩ := hs
      exact ⟨.non, H', J.os, J.bare, J.base, J.hok, rfl, q⟩
    | brk =>
      obtain ⟨_, _, _, q⟩ := hs
      exact False.elim q
    | cont =>
      obtain ⟨_, _, _, q⟩ := hs
      exact False.elim q
end
/-- f(e, ..): a def of this kind -/
theorem pe_callG {X : Cx} {k : Nat} {f : Addr} {fd : FuncData} {ps : List Str} {sp : Sp} {x : Str} {p pos : Pos} {e : Expr} {es : List Expr} {t : TA} (F : FnG X.prog X.w X.K X.mg X.base k f fd ps sp) (hG : X.A.guards = some []) (hr : Room k X.A) (hg : Gl X x) (hm : X.mg x = some (.ref f))
    (hk : PySem.W.keepIn X.K (.ref f) = true) (hb : Binds X.K fd ps []) (ha : PA X (e :: es) t) (hdb : (x == ("__debug__" : Str)) = false := by decide) (he : starEach (e :: es) X.env = (false, eval e X.env) :: starEach es X.env := by rfl)
    (hpl : (backTo pos (starEach es X.env)).any (·.1) = false := by rfl) : PE X (.Call (.Name x p) (e :: es) [] pos) (tCall sp [] E0 t) := by
  refine ⟨fun pins s σ H Q I h => wpAny_Call_Name_kw (ld_glob I hg hm ?_ hdb)⟩
  refine PySem.W.callWith_K (h₀ := X.base) I.ok.mod.kin hk (thn (ha.run pos pins s σ H _ I h) ?_) he hpl
  rintro us s1 ⟨vs, H1, I1, r, q⟩
  rw [List.append_nil] at q
  have hl : us.length = ps.length := r.length.symm.trans (F.many _ _ _ _ q)
  have bd := hb s1 us I1.kIn (by rw [List.append_nil]; exact hl)
  rw [List.append_nil] at bd
  refine ⟨I1.kIn, wpAny_call (codeAny_mono (F.goes X.A X.stack s1 H1 ⟨us, []⟩ us vs Q E0 hG hr I1.env0 bd r q) ?_)⟩
  rintro r2 s2 hq
  cases r2 with
  | error e => exact False.elim hq
  | ok fl =>
    cases fl with
    | ret u => exact I1.after hq
    | next => exact False.elim hq
    | brk => exact False.elim hq
    | cont => exact False.elim hq
/-! ### the top's call of the law, for a law that shows things -/
def topH (K : PySem.W.Frag) (a : Addr) (o : Obj) (xs : List V) (cs : List (Addr × Addr)) : Hp := fun b =>
  if b ∈ cs.map (·.2) then some (.tbl #[]) else if b = a ∧ K.lookup a = none then some (.frz o (.lst xs)) else none
section
variable {P : Program} {w : World} {K : PySem.W.Frag} {mg mb : Str → Option Value} {a : Addr} {o : Obj} {cs : List (Addr × Addr)} {s₁ : Shared} {vs : List Value} {ns : List Int}
theorem topH_tab {xs : List V} {p : Addr × Addr} (hp : p ∈ cs) : topH K a o xs cs p.2 = some (.tbl #[]) := if_pos (List.mem_map.mpr ⟨p, hp, rfl⟩)
theorem topH_cases {xs : List V} {b : Addr} {u : HO} (h : topH K a o xs cs b = some u) : (b ∈ cs.map (·.2) ∧ u = .tbl #[]) ∨ (b = a ∧ K.lookup a = none ∧ u = .frz o (.lst xs)) := by
  unfold topH at h
  split at h
  · rename_i hb
    exact .inl ⟨hb, (Option.some.inj h).symm⟩
  · split at h
    · rename_i hb
      exact .inr ⟨hb.1, hb.2, (Option.some.inj h).symm⟩
    · cases h
theorem top_call {fa : Addr} {k : Nat} {fd : FuncData} {x : Str} {sp : Sp}
    (KX : K.In s₁.heap) (hns : s₁.heap.Ns mainGlobals mg) (hb : s₁.heap.Ns builtinsNs mb) (hbb : ∀ x : Str, x ≠ "__name__" → mb x = bootBuiltins x) (hlim : s₁.heap.NoLimit) (hg : s₁.gens = #[])
    (hT : ∀ p ∈ cs, s₁.heap.get? p.2 = some { cls := .none, data := .fields #[] }) (nT : ∀ p ∈ cs, K.lookup p.2 = none) (C : ∀ p ∈ cs, PySem.W.CodeHd s₁.heap p.1 p.2)
    (hbm : ∃ (bm : Addr) (ob : Obj), mg "__builtins__" = some (.ref bm) ∧ bm ≠ builtinsNs ∧ s₁.heap.get? bm = some ob ∧ ob.cls = .type "module" ∧ ob.dict = some builtinsNs ∧ ob.data = .plain)
    (ha : s₁.heap.get? a = some { cls := .type "list", data := .seq vs.toArray }) (hi : IntsAre vs ns) (hl : ns.length ≤ sizeLine) (hr : Room k callerA)
    (F : ∀ base : Heap, K.In base → base.Ns mainGlobals mg → (∀ p ∈ cs, LamX.TabB base mg p.1 p.2) → FnG P w K mg base k fa fd [x] sp) (hbind : ∀ (s : Shared) (u : Value), BindsTo s fd ⟨[u], []⟩ [(x, u)])
    (hsp : ∀ H : Hp, (∀ p ∈ cs, H p.2 = some (.tbl #[])) → SqL K H a (ns.map V.int) → sp [.ref a] H (fun v _ => v = .bl true) fun _ _ _ => False) :
    codeAny (model P w) callerA (.call (.ref fa) ⟨[.ref a], []⟩) (fun r s' => r = .ok (.ret (.bool true)) ∧ OldK s₁.heap s'.heap ∧ s'.os = s₁.os ∧ AllBare s'.gens) s₁ := by
  have tabAt : ∀ b : Addr, b ∈ cs.map (·.2) → s₁.heap.get? b = some { cls := .none, data := .fields #[] } := fun b hb => by
    obtain ⟨p, hp, rfl⟩ := List.mem_map.mp hb
    exact hT p hp
  have naT : a ∉ cs.map (·.2) := fun z => by
    have q := (tabAt a z).symm.trans ha
    cases q
  have rv := vals_ints hi
  let H : Hp := topH K a { cls := .type "list", data := .seq vs.toArray } (ns.map V.int) cs
  have hH : ∀ p ∈ cs, H p.2 = some (.tbl #[]) := fun p hp => topH_tab hp
  -- what is tracked is a list or a table
  have free : ∀ {b : Addr} {ob : Obj}, s₁.heap.get? b = some ob → (∀ us n, ob.data ≠ .seq us n) → ob.data ≠ .fields #[] → H b = none := fun {b ob} e h1 h2 => by
    cases q : H b with
    | none => rfl
    | some u =>
      rcases topH_cases q with ⟨hb, _⟩ | ⟨rfl, _, _⟩
      · rw [tabAt b hb] at e
        cases e
        exact absurd rfl h2
      · rw [ha] at e
        cases e
        exact absurd rfl (h1 _ _)
  have dic : ∀ {b : Addr} {m : Str → Option Value}, s₁.heap.Ns b m → (hidT s₁.heap H).Ns b m := fun {b m} ⟨ob, es, ep, e, d, r⟩ =>
    ⟨ob, es, ep, hidT_get e (free e (fun us n z => by rw [d] at z; cases z) fun z => by rw [d] at z; cases z), d, r⟩
  have hK : K.In (hidT s₁.heap H) := fun b ob e => hidT_get (KX b ob e) (by
    cases q : H b with
    | none => rfl
    | some u =>
      rcases topH_cases q with ⟨hb, _⟩ | ⟨rfl, n, _⟩
      · obtain ⟨p, hp, rfl⟩ := List.mem_map.mp hb
        rw [nT p hp] at e
        cases e
      · rw [n] at e
        cases e)
  have hok : HOk P w H s₁.heap := fun b u q => by
    rcases topH_cases q with ⟨hb, rfl⟩ | ⟨rfl, _, rfl⟩
    · exact tabAt b hb
    · exact ⟨ha, by rw [List.length_map]; exact hl, vs, _, rv, ha⟩
  have hS : SqL K H a (ns.map V.int) := by
    cases hk : K.lookup a with
    | some ob =>
      have e := (KX a ob hk).symm.trans ha
      cases e
      exact .inr ⟨_, vs.toArray, _, hk, rfl, rfl, rfl, by rw [List.size_toArray, hi.length]; exact hl, by simpa using rv⟩
    | none => exact .inl (.inr ⟨{ cls := .type "list", data := .seq vs.toArray }, (if_neg naT).trans (if_pos ⟨rfl, hk⟩)⟩)
  have hM : L2.Mod K mg (hidT s₁.heap H) := ⟨hK, dic hns, ⟨mb, dic hb, hbb⟩, let ⟨mc, h1, h2⟩ := hlim; ⟨mc, dic h1, h2⟩⟩
  have TB : ∀ p ∈ cs, LamX.TabB (hidT s₁.heap H) mg p.1 p.2 := fun p hp => by
    have hTp := hT p hp
    obtain ⟨og, eg, pg, g1, g2, _⟩ := hns
    refine ⟨?_, ?_, fun z => ?_⟩
    · obtain ⟨ob, us, file, tf, flags, tg, inF, text, tt, e1, r1, r2, r3, r4⟩ := C p hp
      refine ⟨ob, us, file, tf, flags, tg, inF, text, tt, hidT_get e1 (free e1 (fun us n z => ?_) fun z => ?_), r1, r2, r3, r4⟩
      · rw [r2] at z
        cases z
      · rw [r2] at z
        cases z
        simp at r3
    · obtain ⟨bm, ob, b1, b2, b3, b4, b5, b6⟩ := hbm
      refine ⟨bm, ob, b1, b2, fun z => ?_, fun z => ?_, hidT_get b3 (free b3 (fun us n z => by rw [b6] at z; cases z) fun z => by rw [b6] at z; cases z), b4, b5, b6⟩
      · rw [z, g1] at b3
        cases b3
        rw [g2] at b6
        cases b6
      · rw [z, hTp] at b3
        cases b3
        cases b6
    · rw [z, hTp] at g1
      cases g1
      cases g2
  have e0 : Env0 P w K mg (hidT s₁.heap H) callerA [] s₁ H := ⟨rfl, hM, fun b ob e => of_hidT e, Nat.le_of_eq (hidT_size _ _), trivial, (fun b hb => nomatch (show b ∈ ([] : List Addr) from hb)), hok, .of_eq hg⟩
  refine codeAny_mono ((F _ hK (dic hns) TB).goes callerA [] s₁ H ⟨[.ref a], []⟩ [.ref a] [.ref a] _ _ rfl hr e0 (hbind s₁ (.ref a)) (.cons rfl .nil) (hsp H hH hS)) ?_
  rintro r s' h
  cases r with
  | error e => exact False.elim h
  | ok fl =>
    cases fl with
    | next => exact False.elim h
    | brk => exact False.elim h
    | cont => exact False.elim h
    | ret u =>
      obtain ⟨v, H', os, bare, un, hok', r', rfl⟩ := h
      obtain rfl : u = Value.bool true := r'
      have stays : ∀ b ob, b ∉ cs.map (·.2) → s₁.heap.get? b = some ob → s'.heap.get? b = some ob := fun b ob nb e => by
        cases q : H b with
        | none => exact un.keep b ob e q (fun z => nomatch (show b ∈ ([] : List Addr) from z)) (by simp)
        | some u =>
          rcases topH_cases q with ⟨z, _⟩ | ⟨rfl, _, rfl⟩
          · exact absurd z nb
          · rw [ha] at e
            cases e
            exact (hok' _ _ (un.frzs _ _ _ q)).1
      have grown : ∀ b ∈ cs.map (·.2), ∃ p ∈ cs, b = p.2 ∧ ∃ more : Array Value, s'.heap.get? b = some { cls := .none, data := .fields more } := fun b hb => by
        obtain ⟨p, hp, rfl⟩ := List.mem_map.mp hb
        obtain ⟨more, z⟩ := un.tbls p.2 #[] (hH p hp)
        exact ⟨p, hp, rfl, _, hok' p.2 _ z⟩
      refine ⟨rfl, ⟨fun b ob e => ?_, fun b ob e => ?_⟩, os, bare⟩
      · by_cases hb : b ∈ cs.map (·.2)
        · obtain ⟨p, hp, rfl, more, hm⟩ := grown b hb
          rw [hT p hp] at e
          cases e
          exact .inr (.inl ⟨((C p hp).tab (hT p hp)).isCodeTable, rfl, #[], more, rfl, by rw [Array.empty_append]; exact hm⟩)
        · exact .inl (stays b ob hb e)
      · by_cases hb : b ∈ cs.map (·.2)
        · obtain ⟨p, hp, rfl, more, hm⟩ := grown b hb
          exact ⟨_, hm⟩
        · exact ⟨ob, stays b ob hb e⟩
end
/-- what is known of a law that shows things -/
def LawG (l : PySem.W.OpenLaw) (w : World) (K : PySem.W.Frag) (k n : Nat) (x : Str) (mg : Str → Option Value) (fa : Addr) (h : Heap) : Prop :=
  ∃ (fd : FuncData) (cs : List (Addr × Addr)) (sp : Sp), ((∀ p ∈ cs, h.get? p.2 = some { cls := .none, data := .fields #[] }) ∧ (∀ p ∈ cs, K.lookup p.2 = none) ∧ ∀ p ∈ cs, PySem.W.CodeHd h p.1 p.2) ∧ (∀ (s : Shared) (u : Value), BindsTo s fd ⟨[u], []⟩ [(x, u)]) ∧
    (∀ (H : Hp) (a : Addr) (ns : List Int), ns.length ≤ n → (∀ p ∈ cs, H p.2 = some (.tbl #[])) → SqL K H a (ns.map V.int) → sp [.ref a] H (fun v _ => v = .bl true) fun _ _ _ => False) ∧
    ∀ base : Heap, K.In base → base.Ns mainGlobals mg → (∀ p ∈ cs, LamX.TabB base mg p.1 p.2) → FnG l.prog w K mg base k fa fd [x] sp
theorem end_G {l : PySem.W.OpenLaw} {n k : Nat} {q : Program} {loose : List Str} {XP : (Str → Option Value) → Heap → Prop} {YP : World → Heap → Prop} {d : PySem.DefRec} {K : Params → PySem.W.Frag} {x : Str}
    (hn : l.most = some n) (hn2 : n ≤ sizeLine) (hdf : d.params.defaults = []) (hr : Room k callerA)
    (hY : ∀ (w : World) (h : Heap), YP w h → (K w.params).In h)
    (F : ∀ (w : World) (s0 : Shared) (mg mb : Str → Option Value) (fa : Addr) (h : Heap), PySem.W.Ground q loose [] XP w s0 mg mb h → (K w.params).In h → mg d.name = some (.ref fa) → LawG l w (K w.params) k n x mg fa h) :
    PySem.W.WalkO q loose XP YP l.row.toRowW d [] (fun f vs => PySem.call f vs) := by
  refine Att.attach_callB hn hdf fun w s0 s1 mg mb fa o pm cd doc a vs ns G Y ho hd hcd hmg hobj hints hlen hbits hg => ?_
  have KX := hY w _ Y
  obtain ⟨fd, cs, sp, ⟨hT, nT, C⟩, hb, hsp, hF⟩ := F w s0 mg mb fa _ G KX hmg
  exact top_call KX G.T.g G.T.b G.T.builtins G.T.nolimit hg hT nT C G.T.bmain hobj hints (Nat.le_trans hlen hn2) hr hF hb (fun H hH hS => hsp H a ns hlen hH hS)
/-! ### sorted(xs, key=f), f a def whose answers are data -/
mutual
theorem Dp.on {K : PySem.W.Frag} {H H' : Hp} (s : Same H H') : ∀ {v : V} {d : PyData}, Dp K H v d → Dp K H' v d
  | _, _, .non => .non
  | _, _, .bl b => .bl b
  | _, _, .int i => .int i
  | _, _, .str x => .str x
  | _, _, .lst h r => .lst (h.imp (fun z => z.imp (s _ _) fun ⟨o, e⟩ => ⟨o, s _ _ e⟩) id) (DpAll.on s r)
  | _, _, .tup h r => .tup (h.imp (fun z => z.imp (s _ _) fun ⟨o, e⟩ => ⟨o, s _ _ e⟩) id) (DpAll.on s r)
theorem DpAll.on {K : PySem.W.Frag} {H H' : Hp} (s : Same H H') : ∀ {vs : List V} {ds : List PyData}, DpAll K H vs ds → DpAll K H' vs ds
  | _, _, .nil => .nil
  | _, _, .cons h r => .cons (Dp.on s h) (DpAll.on s r)
end
theorem DpAll.snoc {K : PySem.W.Frag} {H : Hp} {v : V} {d : PyData} : ∀ {vs : List V} {ds : List PyData}, DpAll K H vs ds → Dp K H v d → DpAll K H (vs ++ [v]) (ds ++ [d])
  | _, _, .nil, h => .cons h .nil
  | _, _, .cons a r, h => .cons a (DpAll.snoc r h)
theorem DpAll.len {K : PySem.W.Frag} {H : Hp} : ∀ {vs : List V} {ds : List PyData}, DpAll K H vs ds → vs.length = ds.length
  | _, _, .nil => rfl
  | _, _, .cons _ r => congrArg Nat.succ (DpAll.len r)
theorem vals_snoc {v : V} {u : Value} : ∀ {vs : List V} {us : List Value}, Vals vs us → RelV v u → Vals (vs ++ [v]) (us ++ [u])
  | _, _, .nil, h => .cons h .nil
  | _, _, .cons a r, h => .cons a (vals_snoc r h)
theorem vals_get {vs : List V} {us : List Value} (h : Vals vs us) : ∀ {i : Nat} {u : Value}, us[i]? = some u → ∃ v, vs[i]? = some v ∧ RelV v u := by
  induction h with
  | nil => intro i u e; cases e
  | cons a r ih =>
    intro i u e
    cases i with
    | zero => exact ⟨_, rfl, by rw [← Option.some.inj e]; exact a⟩
    | succ n => exact ih (i := n) e
theorem each_dp {X : Cx} {pins : List (Addr × Obj)} {σ : L2.St} {H : Hp} {s : Shared} (I : Inv X pins σ H s) : ∀ {vs : List V} {ds : List PyData} {us : List Value}, DpAll X.K H vs ds → Vals vs us → PySem.W.EachIs (fun v d => ∃ as, Reads s.heap v d as) us ds
  | _, _, _, .nil, .nil => .nil
  | _, _, _, .cons h r, .cons a t => .cons (Dp.reads I _ _ _ h a) (each_dp I r t)
theorem each_pairs : ∀ {es : List (V × PyData)} {us : List Value}, Vals (es.map (·.1)) us → PySem.W.EachIs (fun v (e : V × PyData) => RelV e.1 v) us es
  | [], _, .nil => .nil
  | _ :: _, _, .cons a t => .cons a (each_pairs t)
theorem pairs_each : ∀ {es : List (V × PyData)} {us : List Value}, PySem.W.EachIs (fun v (e : V × PyData) => RelV e.1 v) us es → Vals (es.map (·.1)) us
  | [], _, .nil => .nil
  | _ :: _, _, .cons a t => .cons a (pairs_each t)
abbrev keyed (es : List (V × PyData)) : List (V × PyData) := es.mergeSort (PySem.W.dataLe false fun e => e.2)
def rSortK (K : PySem.W.Frag) (f : Addr) (sp : Sp) : List V → List V → Hp → VK → Prop := fun vs zs H Q => ∃ (l : Addr) (es : List (V × PyData)), vs = [.ref l] ∧ zs = [.ref f] ∧ SqL K H l (es.map (·.1)) ∧ PySem.W.AllAlike (es.map (·.2)) ∧ PySem.W.Sortable (es.map (·.2)) ∧ (∀ e ∈ es, e.2.depth ≤ 60) ∧
  (∀ e ∈ es, ∀ H1, Same H H1 → ∀ Q1 : VK, (∀ v H2, Same H1 H2 → Dp K H2 v e.2 → Q1 v H2) → sp [e.1] H1 Q1 E0) ∧ ∀ (p : Addr) (H1 : Hp), H p = none → Same H H1 → H1 p = some (.lst ((keyed es).map (·.1))) → Q (.ref p) H1
theorem cr_sortK {X : Cx} {k : Nat} {f : Addr} {fd : FuncData} {p1 : Str} {sp : Sp} (F : FnOk X.prog X.w X.K X.mg X.base CX0 k f fd [p1] sp) (hr : Room (k + 2) X.A) (hb : Binds X.K fd [p1] []) : CallRK X (.builtin "sorted") [Str.ofString "key"] (rSortK X.K f sp) := by
  rintro pins s σ H vs zs us ws Q I r rz ⟨l, es, rfl, rfl, hs, al, so, dp, key, q⟩
  obtain rfl := Vals.ref1 r
  obtain rfl := Vals.ref1 rz
  obtain ⟨its, rv, hl, hz⟩ := I.list hs
  have hlen : its.length = es.length := by rw [← rv.length, List.length_map]
  have hZ : its.length ≤ sizeLine := by rw [← rv.length]; exact hz
  have rB : Room k X.A.in1.in1 := hr.in1.in1
  have uB : X.A.in1.in1.units + 64 < cLine := rB.units
  refine PySem.W.sorted_of_sort (vs := its) hl.isList hZ (PyProof.Rows.ksk_s1 _ _) (fun _ => PyProof.Rows.ksk_l1 _ _) fun E' => ?_
  show wpAny _ X.A.in1.in1 (Builtin.«list.sort» ⟨[.ref (s.heap.objs.size + 1)], [(Str.ofString "key", .ref f)]⟩) _ _ _
  rw [PyProof.Rows.ksk_t1]
  generalize ha : s.heap.objs.size + 1 = a
  have ho : (PySem.W.copyHeap s.heap its).get? a = some (seqObj "list" its.toArray 0) := by rw [← ha]; exact PySem.W.copyHeap_at s.heap its
  obtain ⟨e1, ho1⟩ : ∃ e1, ((PySem.W.copyHeap s.heap its).update a (Obj.mapSeq fun _ => (#[] : Array Value))).get? a = some (seqObj "list" #[] e1) := ⟨_, get?_update_seq ho fun _ => #[]⟩
  have hsz0 : a < (PySem.W.copyHeap s.heap its).objs.size := Heap.lt_size ho
  unfold PyProof.Rows.ksk_tree
  refine wpAny_bind (listItems_at ho rfl ?_)
  refine wpAny_bind (listUpdate_at ho rfl ?_ (by rw [List.size_toArray]; exact hZ) (Nat.zero_le _))
  refine wpAny_bind (seqEpoch_at ho1 rfl ?_)
  refine wpAny_bind (wpAny_newTuple ?_ hZ)
  refine wpAny_bind (wpAny_newList ?_ (Nat.zero_le _))
  refine wpAny_holding ?_
  generalize hk : (((PySem.W.copyHeap s.heap its).update a (Obj.mapSeq fun _ => (#[] : Array Value))).push (seqObj "tuple" its.toArray 0)).objs.size = kS
  generalize hg : (((PySem.W.copyHeap s.heap its).update a (Obj.mapSeq fun _ => (#[] : Array Value))).push (seqObj "tuple" its.toArray 0)).push (seqObj "list" #[] 0) = g
  have size_g : s.heap.objs.size < kS := by
    rw [← hk, size_push', Heap.size_update]
    omega
  have hka : kS ≠ a := by
    rw [← hk, size_push', Heap.size_update]
    omega
  have old : ∀ b o, s.heap.get? b = some o → g.get? b = some o := fun b o e => by
    rw [← hg]
    refine Heap.get?_push_of_some _ (Heap.get?_push_of_some _ ((Heap.get?_update_ne _ _ _ _ (Nat.ne_of_lt ?_)).trans (PySem.W.copyHeap_old e)))
    exact Nat.lt_of_lt_of_le (Heap.lt_size e) (by omega)
  have ga : g.get? a = some (seqObj "list" #[] e1) := by
    rw [← hg]
    exact Heap.get?_push_of_some _ (Heap.get?_push_of_some _ ho1)
  have gk : g.get? kS = some (seqObj "list" #[] 0) := by
    rw [← hg, ← hk]
    exact Heap.get?_push_size _ rfl
  have fa : ∀ {H1 : Hp}, H1 a = none → FpOk X pins H1 a := fun n => I.fpOk (by omega) n
  have fk : ∀ {H1 : Hp}, H1 kS = none → FpOk X pins H1 kS := fun n => I.fpOk (by omega) n
  -- the two lists of the sort are held as pins
  have pin : ∀ {H1 : Hp} {s1 : Shared} {kA : Array Value} {n : Nat}, Inv X pins σ H1 s1 → H1 a = none → H1 kS = none → s1.heap.get? a = some (seqObj "list" #[] e1) → s1.heap.get? kS = some (seqObj "list" kA n) → Inv X (pins ++ [(a, seqObj "list" #[] e1), (kS, seqObj "list" kA n)]) σ H1 s1 := fun {H1 s1 kA n} J na nk ea ek => by
    refine J.pins_of fun p hp => ?_
    rcases List.mem_append.mp hp with h | h
    · exact J.pin p (List.mem_append_right _ h)
    · rcases List.mem_cons.mp h with rfl | h
      · exact ⟨ea, na, (fa na).2.1, (fa na).2.2.1, fun v z => by cases z⟩
      · rw [List.mem_singleton.mp h]
        exact ⟨ek, nk, (fk nk).2.1, (fk nk).2.2.1, fun v z => by cases z⟩
  have I0 : Inv X pins σ H { s with heap := g } := I.kept (t' := s.toks) old
  have na0 : H a = none := I.hok.fresh (by omega)
  have nk0 : H kS = none := I.hok.fresh (by omega)
  unfold PyProof.Rows.ksk_rest
  refine wpAny_bind (wpAny_rule ?_)
  first
    | rw [List.forIn_toArray]
    | (rw [← Array.forIn_toList]; simp only [List.toList_toArray])
  refine wpAny_bind (PyProof.Rows.ksk_fold (fun i s' => ∃ H1 kA n kv, Same H H1 ∧ Inv X (pins ++ [(a, seqObj "list" #[] e1), (kS, seqObj "list" kA n)]) σ H1 s' ∧ Vals kv kA.toList ∧ DpAll X.K H1 kv ((es.take i).map (·.2))) its 0 _
    ⟨H, #[], 0, [], fun _ _ e => e, pin I0 na0 nk0 ga gk, .nil, .nil⟩ ?step ?done)
  case step =>
    rintro j u s1 hu ⟨H1, kA, n, kv, sm, J, vk, dk⟩
    rw [Nat.zero_add] at dk ⊢
    obtain ⟨v, hv, rel⟩ := vals_get rv hu
    rw [List.getElem?_map] at hv
    obtain ⟨e, he, rfl⟩ := Option.map_eq_some_iff.mp hv
    have pa := J.pin (a, seqObj "list" #[] e1) (by simp)
    have pk := J.pin (kS, seqObj "list" kA n) (by simp)
    have hj : j < its.length := (List.getElem?_eq_some_iff.mp hu).1
    have ck : kA.size ≤ its.length := by
      have h1 : kv.length = kA.size := vk.length.trans Array.length_toList
      have h2 := DpAll.len dk
      rw [List.length_map, List.length_take] at h2
      omega
    have E1 := J.env0
    have sp1 := key e (List.mem_of_getElem? he) H1 sm (fun v H2 => Same H1 H2 ∧ Dp X.K H2 v e.2) fun v H2 h1 h2 => ⟨h1, h2⟩
    refine wpAny_bind (wpAny_attempt ?_)
    refine wpAny_call (codeAny_mono (F.run X.A.in1.in1 X.stack s1 H1 ⟨[u], []⟩ [u] [e.1] _ E0 rB ⟨E1.frames, E1.mod, E1.bs, E1.bsz, E1.funs, E1.frf, E1.hok, E1.bare⟩ (hb s1 [u] J.kIn rfl) (.cons rel .nil) sp1) ?_)
    rintro r s2 hq
    cases r with
    | error e => exact False.elim hq
    | ok fl =>
      cases fl with
      | next => exact False.elim hq
      | brk => exact False.elim hq
      | cont => exact False.elim hq
      | ret x =>
        obtain ⟨v2, H2, J2, rel2, sm2, dp2⟩ := J.after hq
        have pa2 := J2.pin (a, seqObj "list" #[] e1) (by simp)
        have pk2 := J2.pin (kS, seqObj "list" kA n) (by simp)
        have J3 : Inv X pins σ H2 s2 := J2.unpinned
        obtain ⟨c2, hc2⟩ : ∃ c2, (s2.heap.update kS (Obj.mapSeq (·.push x))).get? kS = some (seqObj "list" (kA.push x) c2) := ⟨_, get?_update_seq pk2.1 (·.push x)⟩
        have sb := Heap.SameBut.update s2.heap kS (Obj.mapSeq (·.push x))
        show wpAny _ _ _ _ _ _
        refine wpAny_bind (listUpdate_at pk2.1 rfl ?_ (Nat.le_trans ck hZ) (Nat.le_trans (Nat.le_of_eq (Array.size_push ..)) (Nat.succ_le_succ (Nat.le_trans ck hZ))))
        have J4 : Inv X pins σ H2 { s2 with heap := s2.heap.update kS (Obj.mapSeq (·.push x)), toks := s2.toks } := J3.turnedL (ch := [kS]) (fun b o hb e => (sb.2 b (fun z => hb (by simp [z]))).trans e) fun b hb => by rw [List.mem_singleton.mp hb]; exact fk pk2.2.1
        refine wpAny_pure ⟨rfl, H2, kA.push x, c2, kv ++ [v2], fun b o e => sm2 b o (sm b o e), pin J4 pa2.2.1 pk2.2.1 ((sb.2 a hka.symm).trans pa2.1) hc2, ?_, ?_⟩
        · rw [Array.toList_push]
          exact vals_snoc vk rel2
        · rw [List.take_add_one, he, List.map_append]
          exact DpAll.snoc (DpAll.on sm2 dk) dp2
  case done =>
    rintro s1 ⟨H1, kA, n, kv, sm, J, vk, dk⟩
    have pa := J.pin (a, seqObj "list" #[] e1) (by simp)
    have pk := J.pin (kS, seqObj "list" kA n) (by simp)
    have J1 : Inv X pins σ H1 s1 := J.unpinned
    rw [Nat.zero_add, hlen, List.take_length] at dk
    have hk1 := each_dp J dk vk
    have sz : kA.size = its.length := by
      have h1 : kv.length = kA.size := vk.length.trans Array.length_toList
      have h2 := DpAll.len dk
      rw [List.length_map] at h2
      omega
    have hu : ∀ d, d ∈ es.map (·.2) → X.A.in1.in1.units + d.depth < cLine := fun d hd => by
      obtain ⟨e, he, rfl⟩ := List.mem_map.mp hd
      have := dp e he
      omega
    obtain ⟨G, g1, g2⟩ := L2.restrict s1.heap fun b => decide (b ≠ kS)
    have kp : PySem.W.KeepsBut a G s1.heap := fun b o _ e => by
      by_cases z : b = kS
      · rw [g2 b (decide_eq_false fun h => h z)] at e
        cases e
      · rw [g1 b (decide_eq_true z)] at e
        exact e
    refine wpAny_bind (listItems_at pk.1 rfl ?_)
    refine PySem.W.keyH_end (κ := PySem.W.dataKind s1.heap (es.map (·.2))) (h₁ := G) kp (g2 kS (decide_eq_false fun h => h rfl)) pk.1 pa.1 hka (PySem.W.SortsAt.data hk1 al so hu) sz hZ fun h3 tk3 c k3 n3 => ⟨rfl, ?_⟩
    have ko : PySem.W.KeyedOut false (es.map (·.2)) its (PySem.W.sortVals (PySem.W.dataKind s1.heap (es.map (·.2))) false kA.toList its) := ⟨s1.heap, kA.toList, al, rfl, hk1⟩
    have out := pairs_each (PySem.W.keyedOut_each (fun e : V × PyData => e.2) ko (each_pairs rv))
    have J2 : Inv X pins σ H1 { s1 with heap := h3, toks := tk3 } := J1.turnedL (ch := [a, kS]) (fun b o hb e => k3 b o (fun z => hb (by simp [z])) ((g1 b (decide_eq_true fun z => hb (by simp [z]))).trans e)) fun b hb => by
      rcases List.mem_cons.mp hb with rfl | h
      · exact fa pa.2.1
      · rw [List.mem_singleton.mp h]
        exact fk pk.2.1
    have lo : ((keyed es).map (·.1)).length ≤ sizeLine := by
      rw [List.length_map, List.length_mergeSort, ← hlen]
      exact hZ
    refine ⟨.ref a, upd H1 a (.lst ((keyed es).map (·.1))), J2.take (it := a) (fun b o _ e => e) (fa pa.2.1) ⟨lo, _, c, out, n3⟩, rfl, q a _ na0 (fun b o e => (upd_ne (ne_of_none e na0)).trans (sm b o e)) upd_same⟩
/-! ### generator expressions whose parts may call: the generator's own frame as a context -/
abbrev gxc (X : Cx) (A' : Around) (s : Shared) (H : Hp) (ce : Env) (fp : List Addr) : Cx :=
  { X with A := A', s_0 := s, H_0 := H, env := ce, outer := X.stack, stack := ce :: X.stack, ex := fp, fn := fun _ => false, calm := true, pn := [], xe := fun _ _ => False }
abbrev genE (X : Cx) (scope : Scope) (C : Addr) (code : Value) : Env := genEnv scope (cloFrom X.env.cells scope.names []) C code builtinsNs X.env
structure GOk (N : List Str) (sc scope : Scope) (own : List (Str × Nat)) : Prop where
  blk : BlkOk N sc scope own
  co : scope.isCoroutine = false
  cell : ∀ y ∈ scope.names, y.2 ≠ .cell
  dot : scope.names.lookup (".0" : Str) = some NameKind.local
section
variable {X : Cx} {pins : List (Addr × Obj)} {σ : L2.St} {H : Hp} {s : Shared}
theorem gx_free {N : List Str} {scope : Scope} {own : List (Str × Nat)} (I : Inv X pins σ H s) (ok : GOk N X.env.scope scope own) : ∀ y ∈ scope.names, y.2 = .free → ∃ c, X.env.cells.lookup y.1 = some c := fun y hy e => by
  rcases ok.blk.free y hy e with k | k
  · exact I.ok.has _ (.inl k)
  · exact I.ok.has _ (.inr k)
/-- the generator's frame and the generator itself have come -/
theorem gx_start {scope : Scope} {own : List (Str × Nat)} {fp : List Addr} {A' : Around} {code it : Value} {h' : Heap} {oG : Obj} {g' : Array GenState} {t' : Nat} (I : Inv X pins σ H s) (ok : GOk X.N X.env.scope scope own) (hN : X.N.Nodup)
    (hfp : ∀ b ∈ fp, FpOk X pins H b ∧ b < s.heap.objs.size) (hA : A'.handled = none) (hfr : A'.frames = some (genE X scope s.heap.objs.size code :: X.stack))
    (hn : h'.Ns s.heap.objs.size (fun y => if y = ".0" then some it else none)) (hs : Heap.SameBut s.heap.objs.size (s.heap.push { cls := .type "frame", data := .dict #[] }) h')
    (hG : ∀ v, oG.data ≠ .cell v) (hb : AllBare g') (fG : oG.isFreed = false) :
    Inv (gxc X A' s H (genE X scope s.heap.objs.size code) fp) [(h'.objs.size, oG)] (wipe σ (own.map (·.2))) H { s with gens := g', toks := t', heap := h'.push oG } := by
  have sz : h'.objs.size = s.heap.objs.size + 1 := by rw [hs.1, Heap.size_push]
  have k1 : ∀ b o, s.heap.get? b = some o → h'.get? b = some o := fun b o e => hs.extBut b o (Nat.ne_of_lt (Heap.lt_size e)) (Heap.get?_push_of_some _ e)
  have kp : ∀ b o, s.heap.get? b = some o → (h'.push oG).get? b = some o := fun b o e => Heap.get?_push_of_some _ (k1 b o e)
  have fr := gx_free I ok
  have cm : ∀ {y c}, (cloFrom X.env.cells scope.names []).lookup y = some c → X.env.cells.lookup y = some c ∧ c < s.heap.objs.size ∧ (y, NameKind.free) ∈ scope.names := fun {y c} e => by
    rcases cloFrom_mem (PySem.mem_of_lookup e) with hm | ⟨h1, rfl⟩
    · cases hm
    · obtain ⟨c, hc⟩ := fr _ h1 rfl
      rw [hc]
      obtain ⟨w, z⟩ := I.cell _ _ hc
      exact ⟨rfl, z.lt, h1⟩
  have has : ∀ {y}, (y, NameKind.free) ∈ scope.names → ∃ c, (cloFrom X.env.cells scope.names []).lookup y = some c := fun {y} hy => mem_lookup (cloFrom_has (cells := X.env.cells) (acc := []) hy)
  have uq : ∀ {y k}, (y, k) ∈ scope.names → scope.names.lookup y = some k := fun {y k} h => ok.blk.uniq _ h
  have okG : (gxc X A' s H (genE X scope s.heap.objs.size code) fp).Ok := by
    refine ⟨I.ok.mod, ok.blk.kind, I.ok.glob, rfl, Nat.le_refl _, fun y z c e1 e2 => I.ok.inj y z c (cm e1).1 (cm e2).1, fun y hy => ?_, fun y c z _ => (nomatch z), fun _ => hA, hfr, .inr ⟨rfl, rfl⟩,
      fun b hb => ⟨Nat.ne_of_lt (hfp b hb).2, fun y c e z => (hfp b hb).1.2.2.2.2.1 y c (cm e).1 z⟩, I.bs, Nat.le_trans I.ok.bsz I.sz, fun b o e hb => ?_, fun b hb z => ?_, I.stack, I.stkFree⟩
    · rcases hy with hy | hy
      · exact absurd rfl (ok.cell _ (PySem.mem_of_lookup (show scope.names.lookup y = some .cell from hy)))
      · exact has (PySem.mem_of_lookup (show scope.names.lookup y = some .free from hy))
    · rcases (hfp b hb).1.2.2.2.1 with z | z
      · exact I.ok.noex b o e z
      · exact absurd (Nat.lt_of_lt_of_le (Heap.lt_size e) (Nat.le_trans I.ok.bsz z)) (Nat.lt_irrefl _)
    · rcases List.mem_cons.mp (I.stkSub b z) with z | z
      · exact (hfp b hb).1.2.1 z
      · exact (hfp b hb).1.2.2.1 z
  refine ⟨okG, rfl, hb, Un.kept kp, ⟨_, hn.push oG, fun i y v e1 e2 e3 => ?_⟩, fun y c e => ?_, I.hok.fresh (Nat.le_refl _), fun y c e => I.freeC y c (cm e).1, fun p hp => ?_, I.hok.kept kp, by rw [wipe_length]; exact I.len⟩
  · obtain ⟨e2, hne⟩ := wipe_some e2
    have key : scope.names.lookup y = some .free := by
      have no : ∀ k, scope.names.lookup y = some k → ¬ (k = .local ∨ k = .cell) := fun k hk hh => by
        rcases ok.blk.own _ (PySem.mem_of_lookup hk) hh with e' | e'
        · obtain ⟨p, hp, hpy⟩ := List.mem_map.mp e'
          have e4 := ok.blk.ix p hp
          have : p.1 = y := hpy
          rw [this] at e4
          exact hne (List.mem_map.mpr ⟨p, hp, nodup_ix hN e4 e1⟩)
        · exact e' (List.mem_of_getElem? e1)
      rcases (show Vis scope y from e3) with e3 | e3 | e3
      · exact absurd (.inl rfl) (no _ e3)
      · exact absurd (.inr rfl) (no _ e3)
      · exact e3
    obtain ⟨m, _, hl⟩ := I.loc
    have fy := PySem.mem_of_lookup key
    have hvis : Vis X.env.scope y := (ok.blk.free _ fy rfl).elim (fun k => .inr (.inl k)) (fun k => .inr (.inr k))
    obtain ⟨u, r, q⟩ := hl i y v e1 e2 hvis
    refine ⟨u, r, .inr ⟨.inr key, ?_⟩⟩
    obtain ⟨c, h1⟩ := has fy
    rcases q with ⟨k, _⟩ | ⟨_, c', e', z⟩
    · have k : X.env.scope.names.lookup y = some .local := k
      rcases ok.blk.free _ fy rfl with k' | k' <;> rw [show X.env.scope.names.lookup y = _ from k'] at k <;> cases k
    · have h2 := (cm h1).1
      rw [h2] at e'
      cases e'
      exact ⟨c, h1, z.keeps kp⟩
  · obtain ⟨v, z⟩ := I.cell y c (cm e).1
    exact ⟨v, z.keeps kp⟩
  · have hp' : p = (h'.objs.size, oG) := by simpa using hp
    subst hp'
    have nl : s.heap.objs.size ≤ h'.objs.size := by omega
    refine ⟨Heap.get?_push_size _ fG, I.hok.fresh nl, by show h'.objs.size ≠ s.heap.objs.size; omega, fun z => ?_, hG⟩
    rcases List.mem_cons.mp (I.stkSub _ z) with z | z
    · have := I.lt
      rw [← z] at this
      exact Nat.lt_irrefl _ (Nat.lt_of_lt_of_le this nl)
    · exact I.nofs nl z
end
/-! ### the generator's turns -/
abbrev gxl (X : Cx) (Ag : Around) (elt tg iter : Expr) (ifs : List Expr) (scope : Scope) (gpos : Pos) (it : Addr) (ce : Env) (s3 : Shared) (H3 : Hp) (fp : List Addr) : Cx :=
  gxc X (Ag.over (.compLoop (.GeneratorExp elt [⟨tg, iter, ifs, 0⟩] scope gpos) 0 (.ref it) .none ce) []) s3 H3 ce fp
/-- what stands between two turns: at most m turns are left, the i-th is next -/
def GTurns (J : It) (g : TG) (tt : TT) (te : TE) (vs : List Nat) (σ : L2.St) (W : Nat → Nat → Hp → Prop) (Out : Nat → Nat → V → Hp → Prop) (Fin : Hp → Prop) : Prop :=
  ∀ i m H, W i m H → (J.stop i H ∧ Fin H) ∨ (J.go i H ∧ ∀ x H', J.yld i H x H' → g x (wipe σ vs) H' fun σ2 H2 => wipe σ2 vs = wipe σ vs ∧ tt σ2 H2 fun b H3 =>
    if b = true then te σ2 H3 fun y H4 => Out i m y H4 else ∃ m', m' < m ∧ W (i + 1) m' H3)
def gxY (IG : Hp → Shared → Prop) (tn : Nat → Heap → Prop) (fp : List Addr) (W : Nat → Nat → Hp → Prop) (Out : Nat → Nat → V → Hp → Prop) (gn : Nat) : Protocol := fun n _ v s kap =>
  ∃ i m y H, RelV y v ∧ IG H s ∧ tn (i + 1) s.heap ∧ (∀ b ∈ fp, H b = none) ∧ Out i m y H ∧ gn < s.gens.size ∧ m ≤ n ∧
    ∀ m', m' < m → W (i + 1) m' H → ∀ s'' : Shared, IG H s'' → tn (i + 1) s''.heap → gn < s''.gens.size → kap (.send .none) s''
def gxR (IG : Hp → Shared → Prop) (Fin : Hp → Prop) : Nat → Shared → Shared → Prop := fun _ _ s1 => ∃ H, IG H s1 ∧ Fin H
section
variable {X : Cx} {σ : L2.St} {Ag : Around} {tg elt iter : Expr} {ifs : List Expr} {scope : Scope} {gpos : Pos} {it a : Addr} {oG : Obj} {ce : Env} {fp : List Addr} {s3 : Shared} {H3 : Hp} {tn : Nat → Heap → Prop} {J : It} {vs : List Nat} {gn : Nat}
  {g : TG} {tt : TT} {te : TE} {W : Nat → Nat → Hp → Prop} {Out : Nat → Nat → V → Hp → Prop} {Fin : Hp → Prop}
theorem gx_stat {σ' : L2.St} {H' : Hp} {s' : Shared} {A' : Around} (I' : Inv (gxc X A' s3 H3 ce fp) [(a, oG)] σ' H' s') (na : a ∉ fp) (hn : ∀ b ∈ fp, H' b = none) : ∀ b ∈ fp, FpOk (gxc X A' s3 H3 ce fp) [(a, oG)] H' b := fun b hb => by
  refine ⟨hn b hb, (I'.ok.exf b hb).1, I'.ok.exfs b hb, .inl hb, fun x c e => (I'.ok.exf b hb).2 x c e, fun p hp z => ?_⟩
  have hp' : p = (a, oG) := by simpa using hp
  subst hp'
  have z' : a = b := z
  exact na (z' ▸ hb)
theorem gx_seg (T : Turn X.prog X.w X.K tg J fp it tn) (na : a ∉ fp) (hco : ce.scope.isCoroutine = false)
    (pg : PG (gxl X Ag elt tg iter ifs scope gpos it ce s3 H3 fp) tg g)
    (pt : PTs (gxl X Ag elt tg iter ifs scope gpos it ce s3 H3 fp) ifs tt)
    (pe : PE (gxl X Ag elt tg iter ifs scope gpos it ce s3 H3 fp) elt te)
    (turn : GTurns J g tt te vs σ W Out Fin) (IG : Hp → Shared → Prop)
    (hIG : IG = fun H s => Inv (gxl X Ag elt tg iter ifs scope gpos it ce s3 H3 fp) [(a, oG)] (wipe σ vs) H s) :
    ∀ (m n i : Nat) (H : Hp) (s s0 : Shared), m < n → IG H s → tn i s.heap → (∀ b ∈ fp, H b = none) → W i m H → gn < s.gens.size →
      Seg (model X.prog X.w) Ag (fun n s0 r s1 => r = .ok .next ∧ gxR IG Fin n s0 s1) (gxY IG tn fp W Out gn) n s0
        (.compLoop (.GeneratorExp elt [⟨tg, iter, ifs, 0⟩] scope gpos) 0 (.ref it) .none ce)
        ((model X.prog X.w).den (.compLoop (.GeneratorExp elt [⟨tg, iter, ifs, 0⟩] scope gpos) 0 (.ref it) .none ce)) [] s := by
  intro m
  induction m using Nat.strongRecOn with
  | ind m ih =>
  intro n i H s s0 hmn I0 st n0 w0 hg
  have I : Inv (gxl X Ag elt tg iter ifs scope gpos it ce s3 H3 fp) [(a, oG)] (wipe σ vs) H s := by
    rw [hIG] at I0
    exact I0
  show Seg _ Ag _ _ _ s0 _ ((compTurn (.GeneratorExp elt [⟨tg, iter, ifs, 0⟩] scope gpos) 0 (.ref it) .none ce).onRaise (leaving ce)) [] s
  rw [compTurn_gen, Sem.onRaise_eq_wrap]
  refine seg_bind_wrap (wpAny_standAt ?_)
  rcases turn i m H w0 with ⟨stop, fin⟩ | ⟨go, step⟩
  · refine seg_bind_wrap (thnF (T.done (gxl X Ag elt tg iter ifs scope gpos it ce s3 H3 fp) rfl rfl rfl rfl i [(a, oG)] s _ H (fun _ _ => False) I (gx_stat I na n0) st stop) fun r s6 ⟨hr, I6⟩ => ?_)
    subst hr
    exact seg_end (.ok .next) ⟨rfl, H, by rw [hIG]; exact I6, fin⟩
  · refine seg_bind_wrap (GenW.wpAny_gsz hg (thnF (T.item (gxl X Ag elt tg iter ifs scope gpos it ce s3 H3 fp) rfl rfl rfl rfl i [(a, oG)] s _ H (fun _ _ => False) I (gx_stat I na n0) st go) fun r s6 ⟨u, hr, h6⟩ hg6 => ?_))
    subst hr
    refine seg_bind_wrap (GenW.wpAny_gsz hg6 (thnF h6 fun _ s7 ⟨x, H7, I7, r7, y7, st7, n7⟩ hg7 => ?_))
    have I7' := I7.pinned (gx_stat I7 na n7) (T.obj _ _ st7)
    refine seg_bind_wrap (GenW.wpAny_gsz hg7 (thnF (pg.run _ s7 _ H7 x u _ I7' r7 (step x H7 y7)) fun _ s8 ⟨σ8, H8, I8, hw8, q8⟩ hg8 => ?_))
    refine seg_bind_wrap (GenW.wpAny_gsz hg8 (thnF (pt.run _ s8 σ8 H8 _ I8 q8) fun b s9 ⟨H9, I9, q9⟩ hg9 => ?_))
    have hl : (wipe σ vs).length = σ8.length := by rw [← hw8, wipe_length]
    have back : ∀ {s' : Shared} {H' : Hp}, Inv (gxl X Ag elt tg iter ifs scope gpos it ce s3 H3 fp) ([(a, oG)] ++ pinsAt fp s7.heap) σ8 H' s' →
        IG H' s' ∧ tn (i + 1) s'.heap ∧ ∀ b ∈ fp, H' b = none := fun {s' H'} I' => by
      have pin' : ∀ b ∈ fp, ∀ o, s7.heap.get? b = some o → s'.heap.get? b = some o ∧ H' b = none := fun b hb o e =>
        let z := I'.pin (b, o) (List.mem_append_right _ (List.mem_append_right _ (mem_pinsAt hb e)))
        ⟨z.1, z.2.1⟩
      refine ⟨?_, T.keep _ _ _ st7 fun b hb o e => (pin' b hb o e).1, fun b hb => ?_⟩
      · rw [hIG]
        refine I'.unpinned.weak hl fun j v e => ?_
        rw [← hw8] at e
        exact (wipe_some e).1
      · obtain ⟨o, e, _⟩ := T.obj _ _ st7 b hb
        exact (pin' b hb o e).2
    cases b with
    | false =>
      simp only [Bool.false_eq_true, if_false] at q9 ⊢
      obtain ⟨m', hm, w'⟩ := q9
      obtain ⟨b1, b2, b3⟩ := back I9
      exact seg_again rfl (ih m' hm n (i + 1) H9 s9 s0 (Nat.lt_trans hm hmn) b1 b2 b3 w' hg9)
    | true =>
      simp only [if_true] at q9 ⊢
      have hy : ∀ v, yieldOut ce v = yieldValue v := fun v => by simp only [yieldOut, hco, Bool.false_eq_true, if_false]
      simp only [hy]
      rw [Sem.bind_eq_wrap', Sem.bind_eq_wrap', Sem.wrap_wrap, Sem.wrap_wrap]
      obtain ⟨n', rfl⟩ : ∃ n', n = n' + 1 := ⟨n - 1, by omega⟩
      refine seg_wrap (GenW.wpAny_gsz hg9 (thnF (pe.run _ s9 σ8 H9 _ I9 q9) fun z s10 ⟨yv, H10, I10, r10, out⟩ hg10 => ?_))
      obtain ⟨b1, b2, b3⟩ := back I10
      refine seg_at (seg_yield rfl rfl rfl ⟨i, m, yv, H10, r10, b1, b2, b3, out, hg10, by omega, fun m' hm w' s'' I'' st'' hg'' => ?_⟩)
      exact seg_again rfl (ih m' hm n' (i + 1) H10 s'' s'' (by omega) I'' st'' b3 w' hg'')
theorem gx_seg0 (T : Turn X.prog X.w X.K tg J fp it tn) {n : Nat} {s0 s : Shared} {R : GenEnd} {Y : Protocol} (st : tn 0 s.heap)
    (loop : Seg (model X.prog X.w) Ag R Y n s0 (.compLoop (.GeneratorExp elt [⟨tg, iter, ifs, 0⟩] scope gpos) 0 (.ref it) .none ce)
        ((model X.prog X.w).den (.compLoop (.GeneratorExp elt [⟨tg, iter, ifs, 0⟩] scope gpos) 0 (.ref it) .none ce)) [] s) :
    Seg (model X.prog X.w) Ag R Y n s0 (.compStart (.GeneratorExp elt [⟨tg, iter, ifs, 0⟩] scope gpos) 0 (.ref it) .none ce)
      ((model X.prog X.w).den (.compStart (.GeneratorExp elt [⟨tg, iter, ifs, 0⟩] scope gpos) 0 (.ref it) .none ce)) [] s := by
  show Seg _ Ag _ _ _ s0 _ ((compStart (.GeneratorExp elt [⟨tg, iter, ifs, 0⟩] scope gpos) 0 (.ref it) .none ce).onRaise (leaving ce)) [] s
  unfold compStart
  rw [Sem.onRaise_eq_wrap]
  show Seg _ Ag _ _ _ s0 _ ((ask >>= _).wrap _ _ _ _) [] s
  refine seg_bind_wrap (wpAny_askSetting ?_)
  split
  · exact seg_again rfl loop
  · refine seg_bind_wrap (wpAny_rule ?_)
    show Seg _ Ag _ _ _ s0 _ ((standAt iter.pos >>= _).wrap _ _ _ _) [] s
    exact seg_bind_wrap (wpAny_standAt (seg_bind_wrap (T.self _ 0 s _ _ st (seg_again rfl loop))))
end
/-! ### the generator asked for its next -/
structure IGok (X : Cx) (pins : List (Addr × Obj)) (σ : L2.St) (a : Addr) (gn : Nat) (IG : Hp → Shared → Prop) : Prop where
  bare : ∀ {H s}, IG H s → AllBare s.gens
  gens : ∀ {H s g'}, IG H s → AllBare g' → IG H { s with gens := g' }
  kept : ∀ {H : Hp} {s : Shared} {h' : Heap} {tk : Nat}, IG H s → (∀ b o, s.heap.get? b = some o → h'.get? b = some o) → IG H { s with heap := h', toks := tk }
  isgen : ∀ {H s}, IG H s → s.heap.IsGen a gn
  nolim : ∀ {H s}, IG H s → s.heap.NoLimit
  back : ∀ {H s}, IG H s → Inv X pins σ H s
def GRun (X : Cx) (Ac : Around) (IG : Hp → Shared → Prop) (tn : Nat → Heap → Prop) (fp : List Addr) (W : Nat → Nat → Hp → Prop) (Out : Nat → Nat → V → Hp → Prop) (Fin : Hp → Prop) (gn i m n : Nat) (H : Hp) (s : Shared) : Prop :=
  IG H s ∧ tn i s.heap ∧ (∀ b ∈ fp, H b = none) ∧ W i m H ∧ ∃ gs, s.gens[gn]? = some gs ∧ m < n ∧ ∀ s'' : Shared, IG H s'' → tn i s''.heap → gn < s''.gens.size →
    gs.Goes (model X.prog X.w) Ac.in1 (fun n s0 r s1 => r = .ok .next ∧ gxR IG Fin n s0 s1) (gxY IG tn fp W Out gn) n (.send .none) s''
theorem bare_set {s : Shared} {gn : Nat} {x : GenState} (h : AllBare s.gens) (hx : x.bare = true) : AllBare (s.setGen gn x).gens := by
  intro y hy
  have hy' : y ∈ s.gens.setIfInBounds gn x := hy
  rcases Array.mem_or_eq_of_mem_setIfInBounds hy' with h1 | h1
  · exact h y h1
  · rw [h1]; exact hx
section
variable {X : Cx} {pins : List (Addr × Obj)} {σ : L2.St} {Ac : Around} {IG : Hp → Shared → Prop} {tn : Nat → Heap → Prop} {fp : List Addr} {W : Nat → Nat → Hp → Prop} {Out : Nat → Nat → V → Hp → Prop} {Fin : Hp → Prop} {a : Addr} {gn : Nat}
theorem GRun.lt {i m n : Nat} {H : Hp} {s : Shared} (G : GRun X Ac IG tn fp W Out Fin gn i m n H s) : gn < s.gens.size := by
  obtain ⟨_, _, _, _, gs, h, _⟩ := G
  exact (Array.getElem?_eq_some_iff.mp h).1
/-- what a consumer lays beside it changes nothing -/
theorem GRun.kept (ig : IGok X pins σ a gn IG) (hk : ∀ i h h', tn i h → (∀ b o, h.get? b = some o → h'.get? b = some o) → tn i h') {i m n : Nat} {H : Hp} {s : Shared} {h' : Heap} {tk : Nat} (G : GRun X Ac IG tn fp W Out Fin gn i m n H s)
    (k : ∀ b o, s.heap.get? b = some o → h'.get? b = some o) : GRun X Ac IG tn fp W Out Fin gn i m n H { s with heap := h', toks := tk } := by
  obtain ⟨g1, g2, g3, g4, gs, g5, g6, g7⟩ := G
  exact ⟨ig.kept g1 k, hk _ _ _ g2 k, g3, g4, gs, g5, g6, g7⟩
theorem gx_next {E : Value → Shared → Prop} {Q : Option Value → Shared → Prop} {i m n : Nat} {H : Hp} {s : Shared} (ig : IGok X pins σ a gn IG) (hA : Ac.handled = none) (hd : Ac.depth < recursionLimit) (G : GRun X Ac IG tn fp W Out Fin gn i m n H s)
    (hout : ∀ v y H' s' i' m', RelV y v → Out i' m' y H' → IG H' s' → (∀ m'', m'' < m' → W (i' + 1) m'' H' → GRun X Ac IG tn fp W Out Fin gn (i' + 1) m'' (n - 1) H' s') → Q (some v) s')
    (hfin : ∀ H' s', Fin H' → IG H' s' → Q none s') : wpAny (model X.prog X.w) Ac (pyNext (.ref a)) Q E s := by
  have lt := G.lt
  obtain ⟨g1, g2, g3, g4, gs, g5, g6, g7⟩ := G
  have run : IG H (s.setGen gn .running) := ig.gens g1 (bare_set (ig.bare g1) rfl)
  refine wpAny_pyNext_genexpQ (P := gxR IG Fin) hA (ig.nolim g1) hd (ig.isgen g1) g5 (g7 _ run g2 (by rw [GenW.setGen_size]; exact lt)) (fun v s1 gs' hb hv => ?_) fun s1 hp h' hk => ?_
  · obtain ⟨i', m', y, H', r, I1, st1, nf, out, hg1, hmn, kap⟩ := hv
    have I2 : IG H' (s1.setGen gn gs') := ig.gens I1 (bare_set (ig.bare I1) hb)
    refine hout v y H' _ i' m' r out I2 fun m'' hm w' => ⟨I2, st1, nf, w', gs', ?_, by omega, fun s'' J'' st'' hg'' => ?_⟩
    · show (s1.gens.setIfInBounds gn gs')[gn]? = some gs'
      rw [Array.getElem?_setIfInBounds_self_of_lt hg1]
    · have q := kap m'' hm w' s'' J'' st'' hg''
      cases n with
      | zero => exact q.elim
      | succ n => exact q
  · obtain ⟨H', I1, fin⟩ := hp
    exact hfin H' _ fin (ig.kept (tk := (s1.setGen gn .finished).toks) (ig.gens I1 (bare_set (ig.bare I1) rfl)) hk)
end
/-! ### the generator made -/
section
variable {X : Cx} {pins : List (Addr × Obj)} {σ : L2.St} {H : Hp} {s : Shared}
theorem over_gen {Ag : Around} {stack : List Env} {elt tg iter : Expr} {ifs : List Expr} {scope : Scope} {gpos : Pos} {it : Value} {ce : Env} (hf : Ag.frames = some stack) :
    (Ag.over (.compLoop (.GeneratorExp elt [⟨tg, iter, ifs, 0⟩] scope gpos) 0 it .none ce) []).frames = some (ce :: stack) := by
  show pushEnvs [ce] (pushEnvs [] Ag.frames) = _
  rw [hf]
  rfl
theorem room_gen {Ag : Around} {k : Nat} {elt tg iter : Expr} {ifs : List Expr} {scope : Scope} {gpos : Pos} {it : Value} {ce : Env} (h1 : Ag.handled = none) (h2 : Ag.depth + 1 + 3 * k + 5 < recursionLimit) (h3 : Ag.units + 3 + 16 * k + 200 < cLine) :
    Room k (Ag.over (.compLoop (.GeneratorExp elt [⟨tg, iter, ifs, 0⟩] scope gpos) 0 it .none ce) []) := by
  refine ⟨h1, ?_, ?_⟩
  · show Ag.depth + 0 + 1 + 3 * k + 5 < _
    omega
  · show Ag.units + 0 + 3 + 16 * k + 200 < _
    omega
/-- a generator expression is made; Ac: where it will be asked -/
theorem gx_mk {c T : Addr} {elt tg iter : Expr} {ifs : List Expr} {scope : Scope} {own : List (Str × Nat)} {gpos : Pos} {wi : TI} {g : TG} {tt : TT} {te : TE} {k : Nat} {Q' : Value → Shared → Prop} {Outf : (Nat → Nat → Hp → Prop) → Nat → Nat → V → Hp → Prop} {Fin : Hp → Prop}
    (Ac : Around) (hA : Ac.handled = none) (hfr : Ac.frames = some X.stack) (hd : Ac.depth ≤ X.A.depth) (hu : Ac.units ≤ X.A.units + 8) (hr : Room (k + 1) X.A) (hc : X.calm = true) (hN : X.N.Nodup) (TB : GxR.TabB X.base X.mg c T) (hcode : X.env.code = .ref c) (ok : GOk X.N X.env.scope scope own) (hi : PI X tg iter wi)
    (hg : ∀ (A' : Around) (s3 : Shared) (H3 : Hp) (C : Addr) (code : Value) (fp : List Addr), PG (gxc X A' s3 H3 (genE X scope C code) fp) tg g)
    (ht : ∀ (A' : Around) (s3 : Shared) (H3 : Hp) (C : Addr) (code : Value) (fp : List Addr), Room k A' → PTs (gxc X A' s3 H3 (genE X scope C code) fp) ifs tt)
    (he : ∀ (A' : Around) (s3 : Shared) (H3 : Hp) (C : Addr) (code : Value) (fp : List Addr), Room k A' → PE (gxc X A' s3 H3 (genE X scope C code) fp) elt te)
    (hs : ∀ v, genFold iter X.env v = pure v) (I : Inv X pins σ H s)
    (h : wi σ H fun J H1 => GxR.TabG H1 T ∧ ∀ H2, GxR.Tabbed T H1 H2 → ∃ W, (∃ m, W 0 m H2) ∧ GTurns J g tt te (own.map (·.2)) σ W (Outf W) Fin)
    (hQ : ∀ (IG : Hp → Shared → Prop) (tn : Nat → Heap → Prop) (fp : List Addr) W (a : Addr) (gn m : Nat) (H2 : Hp) (s5 : Shared), IGok X pins σ a gn IG → (∀ i h h', tn i h → (∀ b o, h.get? b = some o → h'.get? b = some o) → tn i h') →
      GRun X Ac IG tn fp W (Outf W) Fin gn 0 m (m + 1) H2 s5 → Q' (.ref a) s5) :
    wpAny (model X.prog X.w) X.A (eval (.GeneratorExp elt [⟨tg, iter, ifs, 0⟩] scope gpos) X.env) Q' X.xe s := by
  have free := gx_free I ok
  refine wpAny_GeneratorExp_make ok.co (closure_ok free) ok.cell ok.dot ok.blk.kind (Nat.lt_of_le_of_lt (by omega : X.A.depth ≤ X.A.depth + 3 * (k + 1) + 5) hr.dp) ?_ hs
  refine thn (hi.run pins s σ H _ I h) fun xv s1 h1 => thn h1 fun itv s2 h2 => ?_
  obtain ⟨it, fp, tn, J, H1, rfl, J1, TU, st2, f2, ⟨ps, hT, hok⟩, q⟩ := h2
  have gT : s2.heap.get? T = some (PySem.W.tabObj ps) := J1.hok T _ hT
  have cd : PySem.W.CodeHd s2.heap c T := TB.code.keeps J1.bk
  refine ⟨J1.nolimit, ?_⟩
  have lts : ∀ b ∈ fp, b < s2.heap.objs.size := fun b hb => by
    obtain ⟨o, e, _⟩ := TU.obj _ _ st2 b hb
    exact Heap.lt_size e
  have nfT : ∀ b ∈ fp, b ≠ T := fun b hb z => by
    have := (f2 b hb).1
    rw [z, hT] at this
    cases this
  -- behind the code object
  have on : ∀ (code : Value) (h3 : Heap) (tk : Nat) (more : Array Value), Heap.ExtBut T s2.heap h3 → s2.heap.objs.size ≤ h3.objs.size → h3.get? T = some (PySem.W.tabObj (ps ++ more)) → TriplesOk (ps ++ more).toList →
      wpAny (model X.prog X.w) X.A (builtinsFor X.env.globals X.env.builtins) (fun bi s4 =>
        ∀ h', h'.Ns s4.heap.objs.size (fun y => if y = ".0" then some (.ref it) else none) → Heap.SameBut s4.heap.objs.size (s4.heap.push { cls := .type "frame", data := .dict #[] }) h' →
          Q' (.ref h'.objs.size) { s4 with
            gens := s4.gens.push (.fresh (.compStart (.GeneratorExp elt [⟨tg, iter, ifs, 0⟩] scope gpos) 0 (.ref it) .none (genEnv scope (cloFrom X.env.cells scope.names []) s4.heap.objs.size code bi X.env))),
            toks := s4.toks + 1 + 1 + 1,
            heap := h'.push { cls := .type "generator", data := .fields #[.int s4.gens.size 0, .str "<genexpr>" (s4.toks + 1), .str (X.env.qual ++ "<genexpr>") (s4.toks + 1 + 1)] } }) X.xe { s2 with heap := h3, toks := tk } := by
    intro code h3 tk more ext ge3 gT3 ok3
    have J3 : Inv X pins σ (upd H1 T (.tbl (ps ++ more))) { s2 with heap := h3, toks := tk } := GxR.inv_tab (g' := s2.gens) (d' := s2.drawn) J1 hT ext gT3 J1.bare
    have tb : GxR.Tabbed T H1 (upd H1 T (.tbl (ps ++ more))) := ⟨⟨_, upd_same, ok3⟩, fun b nb => upd_ne nb⟩
    obtain ⟨W, ⟨m0, w0⟩, turn⟩ := q _ tb
    obtain ⟨bm, ob, e1, e2, _, e4, e5, e6, e7, e8⟩ := TB.bm
    refine wpAny_builtinsFor (m := X.mg) (by rw [J3.ok.glob]; exact J3.mod.glob.keeps J3.bk) e1 e2 (ext _ _ e4 (J1.bk _ _ e5)) e6 e7 e8 ?_
    intro h' hn hsb
    have f3 : ∀ b ∈ fp, FpOk X pins (upd H1 T (.tbl (ps ++ more))) b ∧ b < h3.objs.size := fun b hb => by
      refine ⟨⟨?_, (f2 b hb).2⟩, Nat.lt_of_lt_of_le (lts b hb) ge3⟩
      rw [upd_ne (nfT b hb)]
      exact (f2 b hb).1
    have st3 : tn 0 h3 := TU.keep _ _ _ st2 fun b hb o e => ext b o (nfT b hb) e
    have nf3 : ∀ b ∈ fp, (upd H1 T (.tbl (ps ++ more))) b = none := fun b hb => (f3 b hb).1.1
    generalize hH3 : upd H1 T (.tbl (ps ++ more)) = H3 at J3 w0 f3 nf3
    generalize hs3 : ({ s2 with heap := h3, toks := tk } : Shared) = s3 at J3 hn hsb ⊢
    have eh : s3.heap = h3 := by rw [← hs3]
    have szh : h'.objs.size = s3.heap.objs.size + 1 := by rw [hsb.1, Heap.size_push]
    have kp : ∀ b o, s3.heap.get? b = some o → h'.get? b = some o := fun b o e => hsb.extBut b o (Nat.ne_of_lt (Heap.lt_size e)) (Heap.get?_push_of_some _ e)
    generalize hoG : ({ cls := .type "generator", data := .fields #[.int s3.gens.size 0, .str "<genexpr>" (s3.toks + 1), .str (X.env.qual ++ "<genexpr>") (s3.toks + 1 + 1)] } : Obj) = oG
    have na : h'.objs.size ∉ fp := fun z => by
      have := (f3 _ z).2
      rw [← eh] at this
      exact Nat.lt_irrefl _ (Nat.lt_of_lt_of_le this (by rw [szh]; exact Nat.le_succ _))
    have start := gx_start (A' := Ac.in1.over (.compLoop (.GeneratorExp elt [⟨tg, iter, ifs, 0⟩] scope gpos) 0 (.ref it) .none (genE X scope s3.heap.objs.size code)) []) (code := code) (it := .ref it) (oG := oG)
      (g' := s3.gens.push (.fresh (.compStart (.GeneratorExp elt [⟨tg, iter, ifs, 0⟩] scope gpos) 0 (.ref it) .none (genE X scope s3.heap.objs.size code)))) (t' := s3.toks + 1 + 1 + 1) J3 ok hN (fun b hb => ⟨(f3 b hb).1, by rw [eh]; exact (f3 b hb).2⟩) hA (over_gen hfr) hn hsb
      (fun v => by rw [← hoG]; exact fun z => nomatch z) (J3.bare.push rfl) (by rw [← hoG]; rfl)
    have rm : Room k (Ac.in1.over (.compLoop (.GeneratorExp elt [⟨tg, iter, ifs, 0⟩] scope gpos) 0 (.ref it) .none (genE X scope s3.heap.objs.size code)) []) :=
      room_gen hA (by have := hr.dp; show Ac.depth + 1 + 3 * k + 5 < _; omega) (by have := hr.un; show Ac.units + 1 + 3 + 16 * k + 200 < _; omega)
    refine hQ (fun H' s' => Inv (gxl X Ac.in1 elt tg iter ifs scope gpos it (genE X scope s3.heap.objs.size code) s3 H3 fp) [(h'.objs.size, oG)] (wipe σ (own.map (·.2))) H' s') tn fp W h'.objs.size s3.gens.size m0 H3 _ ?_ (fun i h h' st kk => TU.keep _ _ _ st fun b _ o e => kk b o e) ?_
    · refine ⟨fun I' => I'.bare, fun I' hb => ⟨I'.ok, I'.os, hb, I'.base, I'.loc, I'.cell, I'.free, I'.freeC, I'.pin, I'.hok, I'.len⟩, fun I' kk => I'.kept kk, fun I' => ?_, fun I' => I'.nolimit, fun I' => ?_⟩
      · have z := (I'.pin (h'.objs.size, oG) (by simp)).1
        rw [← hoG] at z
        exact ⟨_, _, _, z, rfl, rfl, rfl⟩
      · exact J3.call' (ch := fp) I'.os I'.base I'.hok I'.bare fun b hb => ⟨(f3 b hb).1.2.2.2.1, (f3 b hb).1.2.1, (f3 b hb).1.2.2.2.2.1, (f3 b hb).1.2.2.2.2.2⟩
    · refine ⟨start, TU.keep _ _ _ st3 fun b hb o e => Heap.get?_push_of_some _ (kp b o (by rw [eh]; exact e)), nf3, w0, _, Array.getElem?_push_size .., Nat.lt_succ_self _, fun s'' I'' st'' hg'' => ⟨rfl, ?_⟩⟩
      exact gx_seg0 TU st'' (gx_seg TU na ok.co (hg _ s3 H3 _ code fp) (ht _ s3 H3 _ code fp rm) (he _ s3 H3 _ code fp rm) turn _ rfl m0 (m0 + 1) 0 H3 s'' s'' (Nat.lt_succ_self _) I'' st'' nf3 w0 hg'')
  cases among : codeAmong gpos ps.toList with
  | some cv =>
    refine wpAny_genexprCode_hit hcode (cd.code gT hok) among ?_
    exact on cv s2.heap s2.toks #[] (Heap.ExtBut.refl _ _) (Nat.le_refl _) (by rw [Array.append_empty]; exact gT) (by rw [Array.append_empty]; exact hok)
  | none =>
    refine wpAny_genexprCodeX hcode (cd.code gT hok) (cd.tab gT) among fun c' h' tk hx hge hlt isC _ tab' _ => ?_
    obtain ⟨_, _, _, _, _, _, _, _, _, _, _, _, _, _, _, _, _, _, _, ok', _⟩ := isC
    exact on _ h' tk _ hx (Nat.le_trans hge (Nat.le_of_lt hlt)) tab'.2 ok'
end
/-! ### all(..) of a generator expression -/
def tAllG (T : Addr) (wi : TI) (g : TG) (tt : TT) (te : TE) (vs : List Nat) : TE := fun σ H Q => wi σ H fun J H1 => GxR.TabG H1 T ∧ ∀ H2, GxR.Tabbed T H1 H2 → ∃ W : Nat → Nat → Hp → Prop, (∃ m, W 0 m H2) ∧
  GTurns J g tt te vs σ W (fun i m y H' => ∃ k, y = .bl k ∧ (if k = true then ∃ m', m' < m ∧ W (i + 1) m' H' else Q (.bl false) H')) (fun H' => Q (.bl true) H')
section
variable {X : Cx} {pins : List (Addr × Obj)} {σ : L2.St}
theorem all_loop {IG : Hp → Shared → Prop} {tn : Nat → Heap → Prop} {fp : List Addr} {W : Nat → Nat → Hp → Prop} {a : Addr} {gn : Nat} {Q : VK} {R : Result → Shared → Prop} (ig : IGok X pins σ a gn IG) (hA : X.A.handled = none) (hd : X.A.depth < recursionLimit)
    (hR : ∀ b H s, Q (.bl b) H → IG H s → R (.ok (.ret (.bool b))) s) : ∀ (n i m : Nat) (H : Hp) (s : Shared),
    GRun X X.A.in1 IG tn fp W (fun i m y H' => ∃ k, y = .bl k ∧ (if k = true then ∃ m', m' < m ∧ W (i + 1) m' H' else Q (.bl false) H')) (fun H' => Q (.bl true) H') gn i m n H s →
    codeAny (model X.prog X.w) X.A (.builtin "all.loop" ⟨[.ref a], []⟩) R s := by
  intro n
  induction n with
  | zero =>
    intro i m H s G
    obtain ⟨_, _, _, _, gs, _, h, _⟩ := G
    exact absurd h (Nat.not_lt_zero _)
  | succ n ih =>
    intro i m H s G
    refine codeAny_builtin F.entry_all_loop ?_
    rw [Around.under_plainId F.plain_all_loop _]
    show wpAny _ X.A.in1 (pyNext (.ref a) >>= _) _ _ s
    refine wpAny_bind (gx_next ig hA hd G (fun v y H' s' i' m' r out I' cont => ?_) fun H' s' fin I' => ?_)
    · obtain ⟨k, rfl, hk⟩ := out
      obtain rfl : v = .bool k := r
      refine wpAny_bind (wpAny_holding (wpAny_truthy_bool ?_))
      refine wpAny_bind (wpAny_letGo ?_)
      cases k with
      | true =>
        obtain ⟨m'', hm, w'⟩ := hk
        exact wpAny_pure ⟨plainId_quiet F.plain_all_loop _, ih (i' + 1) m'' H' s' (cont m'' hm w')⟩
      | false =>
        refine wpAny_bind (wpAny_rule (wpAny_pure ?_))
        exact hR false H' s' hk I'
    · refine wpAny_bind (wpAny_rule (wpAny_pure ?_))
      exact hR true H' s' fin I'
theorem pe_allG {c T : Addr} {elt tg iter : Expr} {ifs : List Expr} {scope : Scope} {own : List (Str × Nat)} {gpos p pos : Pos} {wi : TI} {g : TG} {tt : TT} {te : TE} {k : Nat}
    (hr : Room (k + 1) X.A) (hgl : Gl X "all") (hm : X.mg "all" = none) (hc : X.calm = true) (hN : X.N.Nodup) (TB : GxR.TabB X.base X.mg c T) (hcode : X.env.code = .ref c) (ok : GOk X.N X.env.scope scope own) (hi : PI X tg iter wi)
    (hg : ∀ (A' : Around) (s3 : Shared) (H3 : Hp) (C : Addr) (code : Value) (fp : List Addr), PG (gxc X A' s3 H3 (genE X scope C code) fp) tg g)
    (ht : ∀ (A' : Around) (s3 : Shared) (H3 : Hp) (C : Addr) (code : Value) (fp : List Addr), Room k A' → PTs (gxc X A' s3 H3 (genE X scope C code) fp) ifs tt)
    (he : ∀ (A' : Around) (s3 : Shared) (H3 : Hp) (C : Addr) (code : Value) (fp : List Addr), Room k A' → PE (gxc X A' s3 H3 (genE X scope C code) fp) elt te)
    (hs : ∀ v, genFold iter X.env v = pure v := by intro _; rfl)
    (hst : starEach [.GeneratorExp elt [⟨tg, iter, ifs, 0⟩] scope gpos] X.env = (false, eval (.GeneratorExp elt [⟨tg, iter, ifs, 0⟩] scope gpos) X.env) :: starEach [] X.env := by rfl) :
    PE X (.Call (.Name "all" p) [.GeneratorExp elt [⟨tg, iter, ifs, 0⟩] scope gpos] [] pos) (tAllG T wi g tt te (own.map (·.2))) := by
  refine ⟨fun pins s σ H Q I h => wpAny_Call_Name_kw (ld_blt I hgl hm (show bootBuiltins "all" = some (.builtin "all") by decide +kernel) ?_)⟩
  refine PyProof.Rows.callWith_builtin1 ?_ hst (by rfl)
  rw [hst]
  have hA := I.ok.hd hc
  have hf := I.ok.frames
  refine Calls.spliced_cons (gx_mk (Outf := fun W i m y H' => ∃ k, y = .bl k ∧ (if k = true then ∃ m', m' < m ∧ W (i + 1) m' H' else Q (.bl false) H')) (Fin := fun H' => Q (.bl true) H')
    X.A.in1 hA hf (Nat.le_refl _) (by show X.A.units + 1 ≤ _; omega) hr hc hN TB hcode ok hi hg ht he hs I h ?_)
  · intro IG tn fp W a gn m H2 s5 ig hk G
    refine Calls.spliced_nil ?_
    refine call_function_tree F.kind_all F.plain_all F.entry_all (F.args_all1 _) ?_
    unfold Builtin.«all»
    refine wpAny_bind (m := oneArg "all" _) (wpAny_pure ?_)
    refine wpAny_bind (wpAny_pyIter_gen (ig.isgen G.1) ?_)
    exact wpAny_pure ⟨plainId_quiet F.plain_all_loop _, all_loop ig hA (Nat.lt_of_le_of_lt (by omega : X.A.depth ≤ X.A.depth + 3 * (k + 1) + 5) hr.dp) (fun b H s q I' => ⟨.bl b, H, ig.back I', rfl, q⟩) _ _ _ _ _ G⟩
end
/-! ### len(set(t)) of a tuple of texts -/
/-- the texts, each once -/
def once : List Str → List Str := fun xs => xs.foldl (fun acc x => if acc.contains x = true then acc else acc ++ [x]) []
theorem once_snoc (xs : List Str) (x : Str) : once (xs ++ [x]) = if (once xs).contains x = true then once xs else once xs ++ [x] := by
  unfold once
  rw [List.foldl_append]
  rfl
theorem once_le (l : List Str) : (once l).length ≤ l.length := by
  have more : ∀ (l acc : List Str), (l.foldl (fun acc x => if acc.contains x = true then acc else acc ++ [x]) acc).length ≤ acc.length + l.length := by
    intro l
    induction l with
    | nil => intro acc; exact Nat.le_refl _
    | cons x r ih =>
      intro acc
      refine Nat.le_trans (ih _) ?_
      show (if acc.contains x = true then acc else acc ++ [x]).length + r.length ≤ acc.length + (r.length + 1)
      by_cases h : acc.contains x = true
      · rw [if_pos h]; omega
      · rw [if_neg h, List.length_append]; show acc.length + 1 + r.length ≤ _; omega
  have h := more l []
  have z : (once l).length ≤ ([] : List Str).length + l.length := h
  simpa using z
section
variable {prog : Program} {w : World} {A : Around}
theorem set_texts_loop {R : Result → Shared → Prop} {it : Addr} {fp wr : List Addr} {G : Array GenState → Array GenState → Prop} {n : Nat} {P : Nat → Value → Prop} {St : Nat → Shared → Prop} (W : WalksS prog w A.in1 it fp wr G n P St) (S : Addr) (nS : S ∉ fp) (xs : List Str)
    (len : xs.length = n) (big : n + 1 < scanBound) (val : ∀ i v, P i v → ∃ t, v = .str (xs.getD i Str.empty) t) :
    ∀ (k i : Nat) (s : Shared), n - i = k → i ≤ n → St i s → s.heap.SetOf (PySem.strKind prog w) S (fun x => (once (xs.take i)).contains x) (once (xs.take i)).length →
      (∀ s', Moved (S :: wr) G s s' → s'.heap.SetOf (PySem.strKind prog w) S (fun x => (once xs).contains x) (once xs).length → R (.ok (.ret .none)) s') →
      codeAny (model prog w) A (.builtin "set.update.loop" ⟨[.ref S, .ref it], []⟩) R s := by
  have nW : S ∉ wr := fun h => nS (W.sub _ h)
  have up : ∀ b ∈ wr, b ∈ S :: wr := fun b hb => List.mem_cons_of_mem _ hb
  have stay : ∀ {s s' : Shared} {f : Str → Bool} {c : Nat}, Moved wr G s s' → s.heap.SetOf (PySem.strKind prog w) S f c → s'.heap.SetOf (PySem.strKind prog w) S f c := fun mv ⟨o, es, ep, t, ho, r⟩ => ⟨o, es, ep, t, mv.heap S _ nW ho, r⟩
  have most := once_le
  intro k
  induction k with
  | zero =>
    intro i s hk hi st hS hR
    obtain rfl : i = n := by omega
    refine codeAny_builtin PyProof.Rows.F.entry_set_update_loop ?_
    rw [Around.under_plainId PyProof.Rows.F.plain_set_update_loop _]
    show wpAny _ A.in1 (pyNext (.ref it) >>= _) _ _ s
    refine wpAny_bind (W.done s _ _ st fun s' mv => ?_)
    rw [List.take_of_length_le (Nat.le_of_eq len)] at hS
    exact wpAny_pure (hR s' (mv.mono up) (stay mv hS))
  | succ k ih =>
    intro i s hk hi st hS hR
    have lt : i < n := by omega
    refine codeAny_builtin PyProof.Rows.F.entry_set_update_loop ?_
    rw [Around.under_plainId PyProof.Rows.F.plain_set_update_loop _]
    show wpAny _ A.in1 (pyNext (.ref it) >>= _) _ _ s
    refine wpAny_bind (W.item i s _ _ lt st fun v s' hP st' mv => ?_)
    obtain ⟨t, rfl⟩ := val i v hP
    show wpAny _ A.in1 (holding [Value.str (xs.getD i Str.empty) t] (setAdd S (.str (xs.getD i Str.empty) t)) >>= _) _ _ s'
    refine wpAny_bind (wpAny_holding ?_)
    unfold setAdd
    refine wpAny_holding (wpAny_bind ((PySem.strKind prog w).pyHash (k := xs.getD i Str.empty) (strKind_is _ _ _ _) ?_))
    have small : (once (xs.take i)).length + 1 < scanBound := by
      have h := most (xs.take i)
      rw [List.length_take] at h
      omega
    refine wpAny_setAddHashed_of (knd := PySem.strKind prog w) (s := { s' with toks := s'.toks + 1 }) (strKind_is _ _ _ _) rfl (show s'.heap.SetOf _ S _ _ from stay mv hS) small fun h' sb hS2 => ?_
    have hx : xs.take (i + 1) = xs.take i ++ [xs.getD i Str.empty] := by
      have hl : i < xs.length := by omega
      rw [List.take_add_one, List.getElem?_eq_getElem hl, List.getD_eq_getElem?_getD, List.getElem?_eq_getElem hl]
      rfl
    have hS3 : h'.SetOf (PySem.strKind prog w) S (fun x => (once (xs.take (i + 1))).contains x) (once (xs.take (i + 1))).length := by
      rw [hx, once_snoc]
      revert hS2
      generalize xs.getD i Str.empty = z
      generalize once (xs.take i) = L
      intro hS2
      by_cases e : L.contains z = true
      · rw [if_pos e] at hS2 ⊢
        refine SetOf_congr hS2 (fun y => ?_) rfl
        by_cases q : y = z
        · rw [q, e]; rfl
        · rw [decide_eq_false q, Bool.or_false]
      · rw [if_neg e] at hS2 ⊢
        refine SetOf_congr hS2 (fun y => ?_) (by rw [List.length_append]; rfl)
        rw [List.contains_append]
        by_cases q : y = z
        · rw [q, decide_eq_true rfl]; simp
        · rw [decide_eq_false q]; simp [q]
    refine wpAny_pure ⟨plainId_quiet PyProof.Rows.F.plain_set_update_loop _, ih (i + 1) _ (by omega) lt (W.frame _ s' _ _ st' (Nat.le_succ _) fun b hb o e => ?_) hS3 fun s'' mv'' hS'' => ?_⟩
    · rw [sb.2 b (fun z : b = S => nS (by rw [← z]; exact hb))]
      exact e
    · refine hR s'' (Moved.trans W.gtrans ((mv.mono up).then_heap (Nat.le_succ _) fun b o hb e => ?_) mv'') hS''
      rw [sb.2 b (fun z : b = S => hb (by rw [z]; exact List.mem_cons_self))]
      exact e
abbrev set0 (led : Bool) : Obj := { cls := .type "set", dict := none, data := .set #[] 0 (.fresh 0 0 led) }
set_option maxHeartbeats 3200000 in
theorem set_of_texts {E : Value → Shared → Prop} {s : Shared} {l : Addr} {items : Array Value} {xs : List Str} {Q : Value → Shared → Prop} (hh : A.handled = none) (hl : s.heap.IsTuple l items) (hi : PyProof.Rows.StrsAre items.toList xs) (big : xs.length + 1 < scanBound)
    (h : ∀ (h' : Heap) (tk : Nat), h'.SetOf (PySem.strKind prog w) s.heap.objs.size (fun x => (once xs).contains x) (once xs).length →
      (∀ b o, b < s.heap.objs.size → s.heap.get? b = some o → h'.get? b = some o) → Q (.ref s.heap.objs.size) { s with heap := h', toks := tk }) :
    wpAny (model prog w) A (call (.type "set") [.ref l]) Q E s := by
  obtain ⟨c, tl, hmro⟩ := PySem.F.called_set.mro
  have hmade := PySem.F.called_set.made
  have hsub := PySem.F.called_set.sub
  refine wpAny_call (codeAny_of_tree ?_)
  show wpAny _ _ (callAny (.type "set") _) _ _ _
  refine wpAny_pure ⟨Code.quiet_builtin _ (by decide +kernel), codeAny_builtin PySem.F.entry_type_call ?_⟩
  rw [Around.under_plain (weight_type_call_type "set" [.ref l] []) rfl]
  have h1 := PySem.F.called_set.notType
  have h2 := PySem.F.called_set.canCreate
  have hct := PySem.F.typeCall_set_1 (.ref l)
  repeat (any_goals (first | assumption | wp_step))
  refine codeAny_mono (code_set_new_1 (.ref l) (E := E) (Q₁ := fun obj s₁ => ∃ led : Bool, obj = .ref s.heap.objs.size ∧ s₁ = { s with heap := s.heap.push { cls := .type "set", dict := none, data := .set #[] 0 (.fresh 0 0 led) } }) fun led => ⟨led, rfl, rfl⟩) fun r s₁ hr => ?_
  cases r with
  | error e => exact hr
  | ok fl =>
    cases fl with
    | ret obj =>
      obtain ⟨led, rfl, rfl⟩ := hr
      have fresh : (set0 led).isFreed = false := rfl
      have hS : (s.heap.push (set0 led)).get? s.heap.objs.size = some (set0 led) := Heap.get?_push_size _ fresh
      have hT : Shared.TypeIs { s with heap := s.heap.push (set0 led) } (.ref s.heap.objs.size) "set" := ⟨_, hS, rfl⟩
      have hli := PySem.F.called_set.init.lookup
      have hbi := PySem.F.called_set.init.bind (.ref s.heap.objs.size)
      repeat (any_goals (first | assumption | wp_step))
      refine codeAny_mono (codeAny_call_builtin (R := wants (fun r s₂ => r = .none ∧ ∃ h' tk, s₂ = { s with heap := h', toks := tk } ∧
          h'.SetOf (PySem.strKind prog w) s.heap.objs.size (fun x => (once xs).contains x) (once xs).length ∧
          (∀ b o, b < s.heap.objs.size → s.heap.get? b = some o → h'.get? b = some o)) E) PySem.F.called_set.init.plain PySem.F.entry_set_init (check_set_init_1 hT ?_)) fun r₂ s₂ hr₂ => ?_
      · obtain ⟨⟨ocls, odict, odata, oslots⟩, hol, hcl, nl, hdl⟩ := hl
        simp only at hcl hdl
        subst hcl; subst hdl
        have hol' : (s.heap.push (set0 led)).get? l = some { cls := .type "tuple", dict := odict, data := .seq items nl, slots := oslots } := Heap.get?_push_of_some _ hol
        have hsls := PySem.F.sub_tuple_set
        have hslf := PySem.F.sub_tuple_frozenset
        have hne : (Value.type "tuple" == Value.type "dict") = false := by decide
        have hl1 : (s.heap.push (set0 led)).IsTuple l items := ⟨_, hol', rfl, nl, rfl⟩
        unfold Builtin.«set.__init__» noKeywords Builtin.Frozenset.updateFrom
        generalize hPI : pyIter = PI
        wp_walk
        subst hPI
        refine wpAny_pyIter_tuple hl1 ?_
        refine wpAny_bind (wpAny_runValue ?_)
        have ltl : l < s.heap.objs.size := Heap.lt_size hol
        have szP : (s.heap.push (set0 led)).objs.size = s.heap.objs.size + 1 := Heap.size_push ..
        have hh3 : A.in1.in1.in1.handled = none := hh
        have neI : l ≠ (s.heap.push (set0 led)).objs.size := by rw [szP]; exact Nat.ne_of_lt (Nat.lt_succ_of_lt ltl)
        have len : xs.length = items.size := by rw [← StrsAre.len_eq hi, Array.length_toList]
        refine set_texts_loop ((Walks.tuple hh3 _ l neI items).toS) s.heap.objs.size ?n xs len (by rw [← len]; exact big)
          (fun i v hv => SS.strs_at hi i v (by rw [Array.getElem?_toList]; exact hv)) (items.size - 0) 0 _ (by omega) (Nat.zero_le _) ⟨⟨_, Heap.get?_push_size _ rfl, rfl, rfl⟩, (hl1.push _)⟩ ?z ?r
        case n =>
          rw [szP]
          simp only [List.mem_cons, List.not_mem_nil, or_false, not_or]
          exact ⟨Nat.ne_of_lt (Nat.lt_succ_self _), Nat.ne_of_gt ltl⟩
        case z =>
          refine PyProof.Rows.SetOf_congr ((PyProof.Rows.setObjOf_fresh (knd := PySem.strKind prog w) led).setOf (Heap.get?_push_of_some _ hS) (by unfold scanBound; omega)) (fun _ => rfl) rfl
        case r =>
          intro s' mv hS'
          obtain ⟨h', g', d', tk', os'⟩ := s'
          obtain rfl : g' = s.gens := mv.gens
          obtain rfl : d' = s.drawn := mv.drawn
          obtain rfl : os' = s.os := mv.os
          refine wpAny_pure ?_
          show wpAny _ _ (ret Value.none) _ _ _
          refine wpAny_pure ⟨rfl, h', tk', rfl, hS', fun b o hb e => mv.heap b o ?_ (Heap.get?_push_of_some _ (Heap.get?_push_of_some _ e))⟩
          rw [szP]
          simp only [List.mem_cons, List.not_mem_nil, or_false, not_or]
          exact ⟨Nat.ne_of_lt hb, Nat.ne_of_lt (Nat.lt_succ_of_lt hb)⟩
      · cases r₂ with
        | error e => exact hr₂
        | ok fl₂ =>
          cases fl₂ with
          | ret r =>
            obtain ⟨rfl, h', tk, rfl, hS', hk'⟩ := hr₂
            repeat (any_goals (first | assumption | wp_step))
            exact h _ _ hS' hk'
          | _ => exact hr₂.elim
    | _ => exact hr.elim
end
def tLenSetX (K : PySem.W.Frag) (ta : TE) : TE := fun σ H Q => ta σ H fun x H1 => ∃ l, ∃ xs : List Str, x = .ref l ∧ SqT K H1 l (xs.map V.str) ∧ xs.length ≤ 1000 ∧ Q (.int (once xs).length) H1
theorem pe_lenSetX {X : Cx} {a : Expr} {ta : TE} {p p2 q pos : Pos} (hc : X.calm = true) (hg : Gl X "len") (hm : X.mg "len" = none) (hg2 : Gl X "set") (hm2 : X.mg "set" = none) (ha : PE X a ta)
    (na : starEach [a] X.env = (false, eval a X.env) :: starEach [] X.env := by rfl) : PE X (.Call (.Name "len" p) [.Call (.Name "set" p2) [a] [] q] [] pos) (tLenSetX X.K ta) := by
  refine ⟨fun pins s σ H Q I h => Call_ (ld_blt I hg hm boot_len (PyProof.Rows.callWith_builtin1 (PyProof.Rows.args_cons ?_ rfl) rfl rfl))⟩
  refine Call_ (ld_blt I hg2 hm2 boot_set (PyProof.Rows.callWith_type1 (PyProof.Rows.args_cons (thn (ha.run pins s σ H _ I h) fun v s1 ⟨x, H1, I1, r1, q1⟩ => PyProof.Rows.args_nil ?_) na) na rfl))
  obtain ⟨l, xs, rfl, hq, le, q1⟩ := q1
  cases r1
  obtain ⟨its, r, pl, hz⟩ := I1.tuple hq
  refine set_of_texts (I1.ok.hd hc) pl (by simpa using strsAre_of r) (by unfold scanBound; omega) fun h' tk hS hk => PyProof.Rows.args_nil ?_
  obtain ⟨o, es, ep, t, ho, hex, hd, _, _, _, hf, hn⟩ := hS
  have I2 : Inv X pins σ H1 { s1 with heap := h', toks := tk } := I1.kept fun b o e => hk b o (Heap.lt_size e) e
  have most := once_le xs
  exact call_len_set ho hex hd hf (by rw [hn] <;> omega) ⟨.int (once xs).length, H1, I2.tok _, ⟨_, by rw [hn]⟩, q1⟩
/-! ### entries that are entries -/
abbrev TB2 (T1 T2 : Addr) (H H' : Hp) : Prop := (∀ b o, H b = some o → b ≠ T1 → b ≠ T2 → H' b = some o) ∧ GxR.TabG H' T1 ∧ GxR.TabG H' T2
theorem TB2.tr {T1 T2 : Addr} {H H1 H2 : Hp} (a : TB2 T1 T2 H H1) (b : TB2 T1 T2 H1 H2) : TB2 T1 T2 H H2 := ⟨fun c o e n1 n2 => b.1 c o (a.1 c o e n1 n2) n1 n2, b.2⟩
theorem tabg_same {H H' : Hp} {T : Addr} (b : Same H H') (t : GxR.TabG H T) : GxR.TabG H' T := by
  obtain ⟨ps, e, ok⟩ := t
  exact ⟨ps, b T _ e, ok⟩
theorem TB2.same {T1 T2 : Addr} {H H' : Hp} (t1 : GxR.TabG H T1) (t2 : GxR.TabG H T2) (h : Same H H') : TB2 T1 T2 H H' := ⟨fun b o e _ _ => h b o e, tabg_same h t1, tabg_same h t2⟩
theorem TB2.one {T1 T2 : Addr} {H H' : Hp} (ne : T1 ≠ T2) (t2 : GxR.TabG H T2) (h : GxR.Tabbed T1 H H') : TB2 T1 T2 H H' := by
  obtain ⟨ps, e, ok⟩ := t2
  exact ⟨fun b o e n1 _ => (h.2 b n1).trans e, h.1, ps, (h.2 T2 ne.symm).trans e, ok⟩
theorem TB2.two {T1 T2 : Addr} {H H' : Hp} (ne : T1 ≠ T2) (t1 : GxR.TabG H T1) (h : GxR.Tabbed T2 H H') : TB2 T1 T2 H H' := by
  obtain ⟨ps, e, ok⟩ := t1
  exact ⟨fun b o e _ n2 => (h.2 b n2).trans e, ⟨ps, (h.2 T1 ne).trans e, ok⟩, h.1⟩
/-- what is no table stays -/
theorem TB2.keep {T1 T2 : Addr} {H H' : Hp} (h : TB2 T1 T2 H H') (t1 : GxR.TabG H T1) (t2 : GxR.TabG H T2) {a : Addr} {o : HO} (e : H a = some o) (n : ∀ ps, o ≠ .tbl ps) : H' a = some o := by
  obtain ⟨p1, e1, _⟩ := t1
  obtain ⟨p2, e2, _⟩ := t2
  exact h.1 a o e (ne_of e e1 (n p1)) (ne_of e e2 (n p2))
def nmV : V → Bool
  | .str z => nameB z
  | _ => false
def bnd (x : Str) : Int × Int := if x = "moment" then (0, 9999) else if x = "many" then (1, 1000000000) else (0, 1000000000)
def inB (x : Str) : V → Bool
  | .int i => decide ((bnd x).1 ≤ i) && decide (i ≤ (bnd x).2)
  | _ => false
def fitB (v : V) (x : Str) : Bool := if x = "name" then nmV v else if x = "end" then (decide (v = .str "") || nmV v) else inB x v
def Part (v : V) : Prop := (∃ z : Str, v = .str z ∧ z.length ≤ 1000) ∨ ∃ i, v = .int i
def sorts4 : List Str := ["moment", "many", "counted", "price"]
def sorts6 : List Str := ["name", "end", "moment", "many", "counted", "price"]
def spWhole : Sp := fun vs H Q _ => ∃ v : V, vs = [v] ∧ Part v ∧ Q (.bl (match v with | .int _ => true | _ => false)) H
def spFits (T1 : Addr) : Sp := fun vs H Q _ => ∃ (v : V) (x : Str), vs = [v, .str x] ∧ Part v ∧ x ∈ sorts6 ∧ GxR.TabG H T1 ∧ ∀ H', GxR.Tabbed T1 H H' → Q (.bl (fitB v x)) H'
namespace Ent
def sorts : Ent → List Str
  | come .. => ["name", "moment", "name", "name", "many", "price"]
  | go .. => ["name", "moment", "name", "name", "many"]
  | move .. => ["name", "moment", "name", "name", "name", "many"]
  | some_ .. => ["name", "moment", "name", "name", "end"]
  | swap .. => ["name", "moment", "name", "name"]
  | count .. => ["name", "moment", "name", "name", "counted", "name"]
  | look .. => ["name", "moment", "name", "name"]
def parts (e : Ent) : List V := .str e.name :: .int e.moment :: e.rest
def places : Ent → List Str
  | come _ _ _ p _ _ => [p]
  | go _ _ _ p _ => [p]
  | move _ _ _ o t _ => [o, t]
  | some_ _ _ _ o t => if t = "" then [o] else [o, t]
  | swap _ _ o t => [o, t]
  | count _ _ _ p _ _ => [p]
  | look _ _ _ p => [p]
def goodV : Ent → V
  | come _ _ g _ _ _ => .str g
  | go _ _ g _ _ => .str g
  | move _ _ g _ _ _ => .str g
  | some_ _ _ g _ _ => .str g
  | swap _ _ _ _ => .non
  | count _ _ g _ _ _ => .str g
  | look _ _ g _ => .str g
structure Fine (e : Ent) : Prop where
  fit : ∀ (i : Nat) (v : V) (x : Str), e.parts[i]? = some v → e.sorts[i]? = some x → Part v ∧ fitB v x = true
  apart : e.places.Nodup
theorem len_parts (e : Ent) : e.parts.length = e.sorts.length := by cases e <;> rfl
theorem sorts_in (e : Ent) : ∀ x ∈ e.sorts, x ∈ sorts6 := by
  cases e <;> (intro x hx; simp only [sorts, sorts6, List.mem_cons, List.not_mem_nil, or_false] at hx ⊢; rcases hx with rfl | rfl | rfl | rfl | rfl | rfl <;> simp) 
end Ent
def spPlaces : Sp := fun vs H Q _ => ∃ (a : Addr) (e : Ent), vs = [.ref a] ∧ H a = some (.tup e.vals) ∧ ∀ (tp : Addr) (H' : Hp), Same H H' → H' tp = some (.tup (e.places.map V.str)) → Q (.ref tp) H'
def spGood : Sp := fun vs H Q _ => ∃ (a : Addr) (e : Ent), vs = [.ref a] ∧ H a = some (.tup e.vals) ∧ Q e.goodV H
def spDay : Sp := fun vs H Q _ => ∃ m : Int, vs = [.int m] ∧ Q (.int (m / 100)) H
def spIsEntry (T1 T2 : Addr) : Sp := fun vs H Q _ => ∃ (a : Addr) (e : Ent), vs = [.ref a] ∧ H a = some (.tup e.vals) ∧ e.Fine ∧ GxR.TabG H T1 ∧ GxR.TabG H T2 ∧ ∀ H', TB2 T1 T2 H H' → Q (.bl true) H'
section
variable {P : Program} {w : World} {K : PySem.W.Frag} {mg : Str → Option Value} {base : Heap}
theorem scWhole : FnScope ["thing"] ["thing"] (defScope sWhole) := ⟨rfl, rfl, rfl, by decide +kernel, rfl, by decide +kernel, by decide +kernel⟩
theorem scFits : FnScope ["part", "sort", "low", "high"] ["part", "sort"] (defScope sFits) := ⟨rfl, rfl, rfl, by decide +kernel, rfl, by decide +kernel, by decide +kernel⟩
theorem scGood : FnScope ["entry"] ["entry"] (defScope sGood) := ⟨rfl, rfl, rfl, by decide +kernel, rfl, by decide +kernel, by decide +kernel⟩
theorem scPlacesOf : FnScope ["entry", "word"] ["entry"] (defScope sPlacesOf) := ⟨rfl, rfl, rfl, by decide +kernel, rfl, by decide +kernel, by decide +kernel⟩
theorem at0 (e : Ent) : atI e.vals 0 = some (.str e.word) := atI_nat (j := 0) rfl
theorem at2 (e : Ent) : atI e.vals 2 = some (.int e.moment) := atI_nat (j := 2) rfl
theorem ok_whole {f : Addr} {fd : FuncData} (F : Fun K "is_whole" "is_whole" sWhole f fd) (mi : mg "isinstance" = none) (m1 : mg "int" = none) (m2 : mg "bool" = none) : FnOk P w K mg base CX0 1 f fd ["thing"] spWhole := by
  refine F.ok scWhole (fun vs H Q E h => ?_) (fun cdv A outer s H vs Q E hr h => ?_)
  · obtain ⟨v, rfl, _⟩ := h
    rfl
  · obtain ⟨v, rfl, pt, q⟩ := h
    refine ⟨_, pss_one (ps_ret (pe_and (pe_callB call_isi (by rfl) mi (by decide +kernel) (pa_cons (pv 0) (pa_cons (pe_bltn (v := .ty "int") (u := .type "int") (by rfl) m1 (by decide +kernel) rfl) pa_nil)))
      (pe_one (pe_not (pe_callB call_isi (by rfl) mi (by decide +kernel) (pa_cons (pv 0) (pa_cons (pe_bltn (v := .ty "bool") (u := .type "bool") (by rfl) m2 (by decide +kernel) rfl) pa_nil))))))), ?_⟩
    rcases pt with ⟨z, rfl, _⟩ | ⟨i, rfl⟩
    · exact ⟨_, rfl, _, _, _, _, false, rfl, .ty "int", .base (.str z), kit_ty (by decide +kernel), _, rfl, iteF q⟩
    · exact ⟨_, rfl, _, _, _, _, true, rfl, .ty "int", .base (.int i), kit_ty (by decide +kernel), _, rfl, iteT ⟨_, rfl, _, _, _, _, false, rfl, .ty "bool", .base (.int i), kit_ty (by decide +kernel), _, rfl, q⟩⟩
theorem at3 {e : Ent} (h : e.goodV ≠ .non) : atI e.vals 3 = some e.goodV := by
  cases e <;> first | exact atI_nat (j := 3) rfl | exact absurd rfl h
theorem sw_word (e : Ent) : e.word = "swap" ↔ e.goodV = .non := by
  have k1 : ("come" : Str) ≠ "swap" := by decide +kernel
  have k2 : ("go" : Str) ≠ "swap" := by decide +kernel
  have k3 : ("move" : Str) ≠ "swap" := by decide +kernel
  have k4 : ("some" : Str) ≠ "swap" := by decide +kernel
  have k6 : ("count" : Str) ≠ "swap" := by decide +kernel
  have k7 : ("look" : Str) ≠ "swap" := by decide +kernel
  cases e
  · exact ⟨fun h => absurd h k1, fun h => nomatch h⟩
  · exact ⟨fun h => absurd h k2, fun h => nomatch h⟩
  · exact ⟨fun h => absurd h k3, fun h => nomatch h⟩
  · exact ⟨fun h => absurd h k4, fun h => nomatch h⟩
  · exact ⟨fun _ => rfl, fun _ => rfl⟩
  · exact ⟨fun h => absurd h k6, fun h => nomatch h⟩
  · exact ⟨fun h => absurd h k7, fun h => nomatch h⟩
theorem ok_good {f : Addr} {fd : FuncData} (F : Fun K "good_of" "good_of" sGood f fd) : FnOk P w K mg base CX0 1 f fd ["entry"] spGood := by
  refine F.ok scGood (fun vs H Q E h => ?_) (fun cdv A outer s H vs Q E hr h => ?_)
  · obtain ⟨a, e, rfl, _⟩ := h
    rfl
  · obtain ⟨a, e, rfl, ha, q⟩ := h
    refine ⟨_, pss_cons (ps_if (pt_cmpR op_eq (pe_ix ix_tup (pv 0) pe_int (fun _ _ => rfl)) pe_str (nomark _)) (pss_one (ps_ret pe_non)) pss_nil) (pss_one (ps_ret (pe_ix ix_tup (pv 0) pe_int (fun _ _ => rfl)))), ?_⟩
    refine ⟨_, rfl, a, _, 0, _, rfl, rfl, SqT.of ha, at0 e, rfl, _, rfl, ite2 (fun z => ?_) (fun z => ?_)⟩
    · have z' : e.word = "swap" := V.str.inj (of_decide_eq_true z)
      rw [(sw_word e).mp z'] at q
      exact q
    · have z' : e.goodV ≠ .non := fun h => z (decide_eq_true (congrArg V.str ((sw_word e).mpr h)))
      exact ⟨_, rfl, a, _, 3, _, rfl, rfl, SqT.of ha, at3 z', q⟩
theorem ok_fits {f fN fW aB T1 : Addr} {fd dN dW : FuncData} (F : Fun K "fits" "fits" sFits f fd) (N : DefT P w K mg base "is_name" 1 fN dN ["thing"] (spName K T1)) (W : DefT P w K mg base "is_whole" 1 fW dW ["thing"] spWhole)
    (mB : mg "BOUNDS" = some (.ref aB)) (hB : ∀ x ∈ sorts4, ∃ aT, KDct K w aB x (.ref aT) ∧ ∀ H, SqT K H aT [.int (bnd x).1, .int (bnd x).2]) : FnOk P w K mg base CX0 2 f fd ["part", "sort"] (spFits T1) := by
  refine F.ok scFits (fun vs H Q E h => ?_) (fun cdv A outer s H vs Q E hr h => ?_)
  · obtain ⟨v, x, rfl, _⟩ := h
    rfl
  · obtain ⟨v, x, rfl, pt, hx, tg, q⟩ := h
    have nd := scFits.nd
    refine ⟨_, pss_cons (ps_if (pt_cmpR op_eq (pv 1) pe_str (nomark _)) (pss_one (ps_ret (pe_call N.ok hr (by rfl) N.g N.kp N.b .nil pass0 (pa_cons (pv 0) pa_nil)))) pss_nil)
      (pss_cons (ps_if (pt_cmpR op_eq (pv 1) pe_str (nomark _)) (pss_one (ps_ret (pe_or (pe_cmpR op_eq (pv 0) pe_str (nomark _)) (pe_one (pe_call N.ok hr (by rfl) N.g N.kp N.b .nil pass0 (pa_cons (pv 0) pa_nil)))))) pss_nil)
      (pss_cons (ps_asg (pe_ix ix_kdict (pe_glob (v := .ref aB) rfl mB rfl) (pv 1) (fun _ _ => rfl)) (pg_tup (by rfl) (pgs_cons (pg_name (i := 2) nd rfl (Or.inl rfl)) (pgs_cons (pg_name (i := 3) nd rfl (Or.inl rfl)) pgs_nil))))
      (pss_one (ps_ret (pe_and (pe_call W.ok hr (by rfl) W.g W.kp W.b .nil pass0 (pa_cons (pv 0) pa_nil)) (pe_one (pe_chain op_le op_le (pv 2) (pv 0) (pv 3)))))))), ?_⟩
    have same0 : GxR.Tabbed T1 H H := ⟨tg, fun _ _ => rfl⟩
    -- is_name of the part
    have nm : ∀ (Q1 : VK), (∀ H2, GxR.Tabbed T1 H H2 → Q1 (.bl (nmV v)) H2) → spName K T1 ([v] ++ []) H Q1 E0 := fun Q1 h1 => by
      rcases pt with ⟨z, rfl, lz⟩ | ⟨i, rfl⟩
      · exact ⟨_, rfl, tg, .inl ⟨z, rfl, small_sz lz, h1⟩⟩
      · exact ⟨_, rfl, tg, .inr ⟨"int", .base (.int i), by decide +kernel, h1 H same0⟩⟩
    refine ⟨_, rfl, rfl, _, rfl, ite2 (fun e => ?_) (fun e => ?_)⟩
    · have e' : x = "name" := V.str.inj (of_decide_eq_true e)
      refine ⟨_, rfl, nm _ fun H2 tb => ?_⟩
      have z := q H2 tb
      unfold fitB at z
      rw [if_pos e'] at z
      exact z
    · have e1 : ¬ x = "name" := fun h => e (decide_eq_true (congrArg V.str h))
      refine ⟨_, rfl, rfl, _, rfl, ite2 (fun e => ?_) (fun e => ?_)⟩
      · have e' : x = "end" := V.str.inj (of_decide_eq_true e)
        have fe : fitB v x = (decide (v = .str "") || nmV v) := by
          unfold fitB
          rw [if_neg e1, if_pos e']
        have fl : scal v (V.str "") = true := by
          rcases pt with ⟨z, rfl, _⟩ | ⟨i, rfl⟩ <;> rfl
        rw [fe] at q
        refine ⟨_, rfl, fl, decide (v = .str ""), rfl, ?_⟩
        cases hd : decide (v = V.str "") with
        | true =>
          rw [hd] at q
          exact iteT (q H same0)
        | false =>
          rw [hd] at q
          exact iteF ⟨_, rfl, nm _ fun H2 tb => q H2 tb⟩
      · have e2 : ¬ x = "end" := fun h => e (decide_eq_true (congrArg V.str h))
        have x4 : x ∈ sorts4 := by
          simp only [sorts6, sorts4, List.mem_cons, List.not_mem_nil, or_false] at hx ⊢
          rcases hx with h | h | h | h | h | h
          · exact absurd h e1
          · exact absurd h e2
          · exact .inl h
          · exact .inr (.inl h)
          · exact .inr (.inr (.inl h))
          · exact .inr (.inr (.inr h))
        obtain ⟨aT, kd, sq⟩ := hB x x4
        have fe : fitB v x = inB x v := by
          unfold fitB
          rw [if_neg e1, if_neg e2]
        rw [fe] at q
        have q0 := q H same0
        refine ⟨_, rfl, aB, x, _, rfl, rfl, kd, aT, _, rfl, sq H, rfl, _, _, rfl, _, _, rfl, rfl, _, rfl, v, rfl, pt, ?_⟩
        rcases pt with ⟨z, rfl, lz⟩ | ⟨i, rfl⟩
        · exact ⟨_, rfl, iteF q0⟩
        · refine ⟨_, rfl, iteT ⟨_, rfl, _, rfl, (bnd x).1, i, rfl, rfl, _, rfl, ite2 (fun a1 => ?_) (fun a1 => ?_)⟩⟩
          · refine ⟨_, rfl, i, (bnd x).2, rfl, rfl, ?_⟩
            have z : inB x (.int i) = decide (i ≤ (bnd x).2) := by
              show (decide ((bnd x).1 ≤ i) && decide (i ≤ (bnd x).2)) = _
              rw [a1, Bool.true_and]
            rw [z] at q0
            exact q0
          · have z : inB x (.int i) = false := by
              show (decide ((bnd x).1 ≤ i) && decide (i ≤ (bnd x).2)) = _
              rw [Bool.eq_false_iff.mpr a1, Bool.false_and]
            rw [z] at q0
            exact q0
end
/-! ### places_of, is_entry -/
theorem cut_mid {xs : List V} {i j : Nat} (h : j ≤ xs.length) (hi : i ≤ j) : cutV xs (some (i : Int)) (some (j : Int)) = (xs.drop i).take (j - i) := by
  unfold cutV
  rw [HT.sIx_nat, HT.sIx_nat, Nat.min_eq_left h, Nat.min_eq_left (Nat.le_trans hi h)]
theorem no_whole {n i j : Nat} (h : i ≤ n) (hi : 0 < i) : ¬ (HT.sIx n 0 (some (i : Int)) = 0 ∧ HT.sIx n n (some (j : Int)) = n) := by
  rw [HT.sIx_nat, Nat.min_eq_left h]
  omega
section
variable {P : Program} {w : World} {K : PySem.W.Frag} {mg : Str → Option Value} {base : Heap}
theorem bl_of {a b : Str} {k : Bool} (h : decide (V.str a = V.str b) = k) : V.bl (decide (V.str a = V.str b)) = V.bl k := congrArg V.bl h
theorem ok_placesOf {f : Addr} {fd : FuncData} (F : Fun K "places_of" "places_of" sPlacesOf f fd) : FnOk P w K mg base CX0 1 f fd ["entry"] spPlaces := by
  refine F.ok scPlacesOf (fun vs H Q E h => ?_) (fun cdv A outer s H vs Q E hr h => ?_)
  · obtain ⟨a, e, rfl, _⟩ := h
    rfl
  · obtain ⟨a, e, rfl, ha, q⟩ := h
    have nd := scPlacesOf.nd
    refine ⟨_, pss_cons (ps_set (i := 1) nd rfl (Or.inl rfl) (pe_ix ix_tup (pv 0) pe_int (fun _ _ => rfl)))
      (pss_cons (ps_if (pt_cmpR op_eq (pv 1) pe_str (nomark _)) (pss_one (ps_ret (pe_slice sl_tup (pv 0) (po_some pe_int) (po_some pe_int)))) pss_nil)
      (pss_cons (ps_if (PW.pt (pw_or (pt_cmpR op_eq (pv 1) pe_str (nomark _)) (pw_or1 (PW.pt (pw_and (pt_cmpR op_eq (pv 1) pe_str (nomark _)) (pw_and1 (pt_cmpR op_ne (pe_ix ix_tup (pv 0) pe_int (fun _ _ => rfl)) pe_str (nomark _)))))))) (pss_one (ps_ret (pe_slice sl_tup (pv 0) (po_some pe_int) (po_some pe_int)))) pss_nil)
      (pss_one (ps_ret (pe_slice sl_tup (pv 0) (po_some pe_int) (po_some pe_int)))))), ?_⟩
    refine ⟨_, rfl, a, _, 0, _, rfl, rfl, SqT.of ha, at0 e, ?_⟩
    have c1 : decide (V.str "come" = V.str "swap") = false := by decide +kernel
    have c2 : decide (V.str "go" = V.str "swap") = false := by decide +kernel
    have c3 : decide (V.str "move" = V.str "swap") = false := by decide +kernel
    have c4 : decide (V.str "some" = V.str "swap") = false := by decide +kernel
    have c6 : decide (V.str "count" = V.str "swap") = false := by decide +kernel
    have c7 : decide (V.str "look" = V.str "swap") = false := by decide +kernel
    have m1 : decide (V.str "come" = V.str "move") = false := by decide +kernel
    have m2 : decide (V.str "go" = V.str "move") = false := by decide +kernel
    have m4 : decide (V.str "some" = V.str "move") = false := by decide +kernel
    have m6 : decide (V.str "count" = V.str "move") = false := by decide +kernel
    have m7 : decide (V.str "look" = V.str "move") = false := by decide +kernel
    have s1 : decide (V.str "come" = V.str "some") = false := by decide +kernel
    have s2 : decide (V.str "go" = V.str "some") = false := by decide +kernel
    have s6 : decide (V.str "count" = V.str "some") = false := by decide +kernel
    have s7 : decide (V.str "look" = V.str "some") = false := by decide +kernel
    cases e with
    | come nme mo g pl many price =>
      refine ⟨_, rfl, rfl, false, bl_of c1, iteF ⟨_, rfl, rfl, false, bl_of m1, iteF ⟨_, rfl, rfl, false, bl_of s1, iteF ?_⟩⟩⟩
      exact ⟨_, rfl, 4, rfl, 5, rfl, a, _, rfl, SqT.of ha, no_whole (i := 4) (j := 5) (by show 4 ≤ 7; decide) (by decide), fun p np => q p _ (same_new np) (by rw [upd_same]; rfl)⟩
    | go nme mo g pl many =>
      refine ⟨_, rfl, rfl, false, bl_of c2, iteF ⟨_, rfl, rfl, false, bl_of m2, iteF ⟨_, rfl, rfl, false, bl_of s2, iteF ?_⟩⟩⟩
      exact ⟨_, rfl, 4, rfl, 5, rfl, a, _, rfl, SqT.of ha, no_whole (i := 4) (j := 5) (by show 4 ≤ 6; decide) (by decide), fun p np => q p _ (same_new np) (by rw [upd_same]; rfl)⟩
    | move nme mo g one other many =>
      refine ⟨_, rfl, rfl, false, bl_of c3, iteF ⟨_, rfl, rfl, true, bl_of (decide_eq_true rfl), iteT ?_⟩⟩
      exact ⟨_, rfl, 4, rfl, 6, rfl, a, _, rfl, SqT.of ha, no_whole (i := 4) (j := 6) (by show 4 ≤ 7; decide) (by decide), fun p np => q p _ (same_new np) (by rw [upd_same]; rfl)⟩
    | some_ nme mo g one other =>
      refine ⟨_, rfl, rfl, false, bl_of c4, iteF ⟨_, rfl, rfl, false, bl_of m4, iteF ⟨_, rfl, rfl, true, bl_of (decide_eq_true rfl), iteT ?_⟩⟩⟩
      refine ⟨_, rfl, a, _, 5, .str other, rfl, rfl, SqT.of ha, atI_nat (j := 5) rfl, rfl, !decide (V.str other = V.str ""), rfl, ?_⟩
      by_cases z : other = ""
      · rw [decide_eq_true (congrArg V.str z)]
        refine iteF ⟨_, rfl, 4, rfl, 5, rfl, a, _, rfl, SqT.of ha, no_whole (i := 4) (j := 5) (by show 4 ≤ 6; decide) (by decide), fun p np => q p _ (same_new np) ?_⟩
        rw [upd_same]
        show some (HO.tup [V.str one]) = some (HO.tup ((if other = "" then [one] else [one, other]).map V.str))
        rw [if_pos z]
        rfl
      · rw [decide_eq_false fun h => z (V.str.inj h)]
        refine iteT ⟨_, rfl, 4, rfl, 6, rfl, a, _, rfl, SqT.of ha, no_whole (i := 4) (j := 6) (by show 4 ≤ 6; decide) (by decide), fun p np => q p _ (same_new np) ?_⟩
        rw [upd_same]
        show some (HO.tup [V.str one, V.str other]) = some (HO.tup ((if other = "" then [one] else [one, other]).map V.str))
        rw [if_neg z]
        rfl
    | swap nme mo one other =>
      refine ⟨_, rfl, rfl, true, bl_of (decide_eq_true rfl), iteT ?_⟩
      exact ⟨_, rfl, 3, rfl, 5, rfl, a, _, rfl, SqT.of ha, no_whole (i := 3) (j := 5) (by show 3 ≤ 5; decide) (by decide), fun p np => q p _ (same_new np) (by rw [upd_same]; rfl)⟩
    | count nme mo g pl many hand =>
      refine ⟨_, rfl, rfl, false, bl_of c6, iteF ⟨_, rfl, rfl, false, bl_of m6, iteF ⟨_, rfl, rfl, false, bl_of s6, iteF ?_⟩⟩⟩
      exact ⟨_, rfl, 4, rfl, 5, rfl, a, _, rfl, SqT.of ha, no_whole (i := 4) (j := 5) (by show 4 ≤ 7; decide) (by decide), fun p np => q p _ (same_new np) (by rw [upd_same]; rfl)⟩
    | look nme mo g pl =>
      refine ⟨_, rfl, rfl, false, bl_of c7, iteF ⟨_, rfl, rfl, false, bl_of m7, iteF ⟨_, rfl, rfl, false, bl_of s7, iteF ?_⟩⟩⟩
      exact ⟨_, rfl, 4, rfl, 5, rfl, a, _, rfl, SqT.of ha, no_whole (i := 4) (j := 5) (by show 4 ≤ 5; decide) (by decide), fun p np => q p _ (same_new np) (by rw [upd_same]; rfl)⟩
theorem once_nodup : ∀ {xs : List Str}, xs.Nodup → once xs = xs := by
  intro xs
  have key : ∀ (l acc : List Str), (acc ++ l).Nodup → l.foldl (fun acc x => if acc.contains x = true then acc else acc ++ [x]) acc = acc ++ l := by
    intro l
    induction l with
    | nil => intro acc _; rw [List.append_nil]; rfl
    | cons x r ih =>
      intro acc h
      have nx : ¬ acc.contains x = true := fun z => by
        have hx : x ∈ acc := by simpa using z
        rw [List.nodup_append] at h
        exact h.2.2 x hx x List.mem_cons_self rfl
      rw [List.foldl_cons, if_neg nx]
      have e : acc ++ x :: r = (acc ++ [x]) ++ r := by rw [List.append_assoc]; rfl
      rw [e] at h ⊢
      exact ih _ h
  intro h
  exact key xs [] h
abbrev isN : List Str := ["thing", "sorts", "places", "part", "sort"]
theorem scIs : FnScope isN ["thing"] (defScope sIsEntry) := ⟨rfl, rfl, rfl, by decide +kernel, rfl, by decide +kernel, by decide +kernel⟩
theorem vals_cut (e : Ent) : cutV e.vals (some 1) none = e.parts := by
  have h : cutV e.vals (some ((1 : Nat) : Int)) none = e.parts := by
    unfold cutV
    rw [HT.sIx_nat, HT.sIx_none]
    have l : 1 ≤ e.vals.length := by show 1 ≤ _ + 1; omega
    rw [Nat.min_eq_left l]
    show (e.parts).take (e.parts.length + 1 - 1) = e.parts
    rw [Nat.add_sub_cancel]
    exact List.take_length
  exact h
theorem places_le (e : Ent) : e.places.length ≤ 2 := by
  cases e with
  | some_ n m g o t =>
    by_cases z : t = ""
    · rw [show Ent.places (.some_ n m g o t) = [o] from if_pos z]
      exact Nat.le_succ 1
    · rw [show Ent.places (.some_ n m g o t) = [o, t] from if_neg z]
      exact Nat.le_refl 2
  | move _ _ _ _ _ _ => exact Nat.le_refl 2
  | swap _ _ _ _ => exact Nat.le_refl 2
  | come _ _ _ _ _ _ => exact Nat.le_succ 1
  | go _ _ _ _ _ => exact Nat.le_succ 1
  | count _ _ _ _ _ _ => exact Nat.le_succ 1
  | look _ _ _ _ => exact Nat.le_succ 1
theorem ok_isEntry {f cE T1 T2 aF fF fP : Addr} {dF dP : FuncData} {oc kV doc pm ct : Value} {od an : Option Addr} {osl : Array (Option Value)} {es : Array DictEntry} {nE : Nat}
    (lk : K.lookup f = some ⟨oc, od, .func (PySem.W.fnOf "is_entry" "is_entry" (defArgs sIsEntry) (defBody sIsEntry) (defScope sIsEntry) .none kV doc pm an (.ref cE) ct), osl⟩) (cdI : PySem.W.codeIn K (.ref cE) "is_entry" = true)
    (TB : GxR.TabB base mg cE T2) (ne : T1 ≠ T2) (FI : DefT P w K mg base "fits" 2 fF dF ["part", "sort"] (spFits T1)) (PO : DefT P w K mg base "places_of" 1 fP dP ["entry"] spPlaces)
    (mi : mg "isinstance" = none) (mt : mg "tuple" = none) (ml : mg "len" = none) (mst : mg "str" = none) (ma : mg "all" = none) (mz : mg "zip" = none) (ms : mg "set" = none) (mF : mg "FORMS" = some (.ref aF)) (D : KDict K w aF es nE)
    (hF : ∀ e : Ent, ∃ aS, KDct K w aF e.word (.ref aS) ∧ ∀ H, SqT K H aS (e.sorts.map V.str)) :
    FnOk P w K mg base CX0 4 f (PySem.W.fnOf "is_entry" "is_entry" (defArgs sIsEntry) (defBody sIsEntry) (defScope sIsEntry) .none kV doc pm an (.ref cE) ct) ["thing"] (spIsEntry T1 T2) := by
  refine fn_of lk cdI scIs (fun vs H Q E h => ?_) (fun A outer s H vs Q E hr h => ?_)
  · obtain ⟨a, e, rfl, _⟩ := h
    rfl
  · obtain ⟨a, e, rfl, ha, fine, t1, t2, q⟩ := h
    have nd := scIs.nd
    have hr1 : Room 1 _ := hr.mono (by decide)
    refine ⟨_, pss_cons (ps_if (PW.pt (pw_or (pt_not (pt_val (pe_callB call_isi (by rfl) mi (by decide +kernel) (pa_cons (pv 0) (pa_cons (pe_bltn (v := .ty "tuple") (u := .type "tuple") (by rfl) mt (by decide +kernel) rfl) pa_nil)))))
          (pw_or1 (pt_cmpR op_eq (pe_callB call_len_seq (by rfl) ml PySem.boot_len (pa_cons (pv 0) pa_nil)) pe_int (nomark _))))) (pss_one (ps_ret pe_bl)) pss_nil)
      (pss_cons (ps_if (PW.pt (pw_or (pt_not (pt_val (pe_callB call_isi (by rfl) mi (by decide +kernel) (pa_cons (pe_ix ix_tup (pv 0) pe_int (fun _ _ => rfl)) (pa_cons (pe_bltn (v := .ty "str") (u := .type "str") (by rfl) mst (by decide +kernel) rfl) pa_nil)))))
          (pw_or1 (pt_cmpR (op_notIn_kd D) (pe_ix ix_tup (pv 0) pe_int (fun _ _ => rfl)) (pe_glob (v := .ref aF) rfl mF rfl) (by rfl))))) (pss_one (ps_ret pe_bl)) pss_nil)
      (pss_cons (ps_set (i := 1) nd rfl (Or.inl rfl) (pe_ix ix_kdict (pe_glob (v := .ref aF) rfl mF rfl) (pe_ix ix_tup (pv 0) pe_int (fun _ _ => rfl)) (fun _ _ => rfl)))
      (pss_cons (ps_if (pt_cmpR op_ne (pe_callB call_len_seq (by rfl) ml PySem.boot_len (pa_cons (pv 0) pa_nil)) (pe_op op_add (pe_callB call_len_seq (by rfl) ml PySem.boot_len (pa_cons (pv 1) pa_nil)) pe_int) (nomark _)) (pss_one (ps_ret pe_bl)) pss_nil)
      (pss_cons (ps_if (pt_not (pt_val (pe_allG (T := T2) (c := cE) (k := 2) (own := [("part", 3), ("sort", 4)]) (g := gTup K 2 (gCons (gName 3) (gCons (gName 4) gNil))) (tt := tYes) (te := tCall (spFits T1) [] E0 (tCons (tVar 3) (tCons (tVar 4) tNil)))
          hr (by rfl) ma rfl nd TB rfl ⟨blkOk_by (N := isN) (sc := defScope sIsEntry) (by decide +kernel), rfl, by decide +kernel, rfl⟩
          (RZ.pi_zipA (by rfl) mz (pa_cons (pe_slice sl_tup (pv 0) (po_some pe_int) po_none) (pa_cons (pv 1) pa_nil)))
          (fun _ _ _ _ _ _ => pg_tup (by rfl) (pgs_cons (pg_name (i := 3) nd rfl (Or.inl rfl)) (pgs_cons (pg_name (i := 4) nd rfl (Or.inl rfl)) pgs_nil)))
          (fun _ _ _ _ _ _ _ => pts_nil) (fun _ _ _ _ _ _ hr' => pe_call FI.ok hr' (by rfl) FI.g FI.kp FI.b .nil pass0 (pa_cons (pv 3) (pa_cons (pv 4) pa_nil)))))) (pss_one (ps_ret pe_bl)) pss_nil)
      (pss_cons (ps_set (i := 2) nd rfl (Or.inl rfl) (pe_call PO.ok hr1 (by rfl) PO.g PO.kp PO.b .nil pass0 (pa_cons (pv 0) pa_nil)))
      (pss_one (ps_ret (pe_cmpR op_eq (pe_lenSetX rfl (by rfl) ml (by rfl) ms (pv 2)) (pe_callB call_len_seq (by rfl) ml PySem.boot_len (pa_cons (pv 2) pa_nil)) (nomark _))))))))), ?_⟩
    obtain ⟨aS, kd, sq⟩ := hF e
    -- a tuple, not empty
    refine ⟨_, rfl, _, _, _, _, true, rfl, .ty "tuple", .base (.tup ha), kit_ty (by decide +kernel), _, rfl, iteF ?_⟩
    refine ⟨_, rfl, a, _, rfl, .inr (SqT.of ha), rfl, false, congrArg V.bl (decide_eq_false fun z => ?_), iteF ?_⟩
    · have z' : ((e.vals.length : Nat) : Int) = 0 := V.int.inj z
      have : e.vals.length = e.parts.length + 1 := rfl
      omega
    -- a word of the forms
    refine ⟨_, rfl, a, _, 0, _, rfl, rfl, SqT.of ha, at0 e, _, _, _, _, true, rfl, .ty "str", .base (.str e.word), kit_ty (by decide +kernel), _, rfl, iteF ?_⟩
    obtain ⟨es', n', u, hl, hlit, hns, ru⟩ := id kd
    refine ⟨_, rfl, a, _, 0, _, rfl, rfl, SqT.of ha, at0 e, e.word, some u, rfl, rfl, hns, _, rfl, iteF ?_⟩
    -- the sorts
    refine ⟨_, rfl, a, _, 0, _, rfl, rfl, SqT.of ha, at0 e, aF, e.word, _, rfl, rfl, kd, ?_⟩
    refine ⟨_, rfl, a, _, rfl, .inr (SqT.of ha), _, rfl, aS, _, rfl, .inr (sq H), _, 1, rfl, rfl, rfl, false, ?_, iteF ?_⟩
    · refine congrArg V.bl ?_
      have l1 : (e.vals.length : Int) = ((e.sorts.map V.str).length : Int) + 1 := by
        have : e.vals.length = e.parts.length + 1 := rfl
        rw [this, e.len_parts, List.length_map]
        rfl
      rw [l1, decide_eq_true rfl]
      rfl
    -- all fit
    refine ⟨_, rfl, 1, rfl, a, _, rfl, SqT.of ha, ?_, fun pp npp => ?_⟩
    · rintro ⟨z, _⟩
      rw [show HT.sIx e.vals.length 0 (some 1) = min 1 e.vals.length from HT.sIx_nat _ _ 1] at z
      have : e.vals.length = e.parts.length + 1 := rfl
      omega
    have sp := @same_new _ _ (.tup (cutV e.vals (some 1) none)) npp
    refine ⟨_, rfl, pp, aS, cutV e.vals (some 1) none, e.sorts.map V.str, rfl, .inr ⟨SqT.of upd_same, sq _, tabg_same sp t2, fun H2 tb2 => ?_⟩⟩
    have hpp : (upd H pp (.tup (cutV e.vals (some 1) none))) pp = some (.tup e.parts) := by rw [upd_same, vals_cut]
    have b0 : TB2 T1 T2 H H2 := (TB2.same t1 t2 sp).tr (.two ne (tabg_same sp t1) tb2)
    have b1 : TB2 T1 T2 (upd H pp (.tup (cutV e.vals (some 1) none))) H2 := .two ne (tabg_same sp t1) tb2
    have hp2 : H2 pp = some (.tup e.parts) := b1.keep (tabg_same sp t1) (tabg_same sp t2) hpp (by intro ps z; cases z)
    refine ⟨fun i m H' => m = e.parts.length - i ∧ i ≤ e.parts.length ∧ H' pp = some (.tup e.parts) ∧ TB2 T1 T2 H H', ⟨_, rfl, Nat.zero_le _, hp2, b0⟩, ?_⟩
    rintro i m H3 ⟨rfl, hi, hp3, b3⟩
    by_cases lt : i < e.parts.length
    · refine .inr ⟨⟨e.parts, e.sorts.map V.str, e.parts[i], .str (e.sorts[i]'(by rw [← e.len_parts]; exact lt)), SqT.of hp3, sq _, List.getElem?_eq_getElem lt, ?_⟩, fun v H4 y => ?_⟩
      · rw [List.getElem?_map, List.getElem?_eq_getElem (by rw [← e.len_parts]; exact lt)]
        rfl
      · obtain ⟨TT, x', y', rfl, nT, rfl, f1, f2⟩ := y
        have g1 := f1 e.parts (SqT.of hp3)
        have g2 := f2 (e.sorts.map V.str) (sq _)
        rw [List.getElem?_map] at g2
        obtain ⟨srt, hsrt, rfl⟩ := Option.map_eq_some_iff.mp g2
        obtain ⟨prt, fit⟩ := fine.fit i x' srt g1 hsrt
        have s4 := @same_new _ _ (.tup [x', V.str srt]) nT
        have b4 : TB2 T1 T2 H (upd H3 TT (.tup [x', V.str srt])) := b3.tr (.same b3.2.1 b3.2.2 s4)
        refine ⟨TT, _, rfl, SqT.of upd_same, rfl, _, _, rfl, _, _, rfl, rfl, rfl, yesT ?_⟩
        refine ⟨_, rfl, _, rfl, x', srt, rfl, prt, e.sorts_in srt (List.mem_of_getElem? hsrt), b4.2.1, fun H5 tb5 => ?_⟩
        have b5 : TB2 T1 T2 H H5 := b4.tr (.one ne b4.2.2 tb5)
        have b45 : TB2 T1 T2 (upd H3 TT (.tup [x', V.str srt])) H5 := .one ne b4.2.2 tb5
        rw [fit]
        exact ⟨true, rfl, iteT ⟨_, by omega, rfl, lt, b45.keep b4.2.1 b4.2.2 (s4 _ _ hp3) (by intro ps z; cases z), b5⟩⟩
    · have ei : i = e.parts.length := by omega
      refine .inl ⟨⟨e.parts, e.sorts.map V.str, SqT.of hp3, sq _, .inl (by omega)⟩, ?_⟩
      refine ⟨true, rfl, iteF ?_⟩
      -- unlike places
      have ha3 : H3 a = some (.tup e.vals) := b3.keep t1 t2 ha (by intro ps z; cases z)
      refine ⟨_, rfl, a, e, rfl, ha3, fun tp H4 s4 ht => ?_⟩
      refine ⟨_, rfl, tp, e.places, rfl, SqT.of ht, Nat.le_trans (places_le e) (by decide), _, rfl, tp, _, rfl, .inr (SqT.of ht), rfl, ?_⟩
      rw [once_nodup fine.apart, List.length_map, decide_eq_true rfl]
      exact q H4 (b3.tr (.same b3.2.1 b3.2.2 s4))
end
/-! ### what is drawn is fine -/
theorem name_len {y : Str} (h : nameB y = true) : 1 ≤ y.length ∧ y.length ≤ 8 := by
  unfold nameB at h
  rw [Bool.and_eq_true, Bool.and_eq_true, decide_eq_true_eq, decide_eq_true_eq] at h
  exact h.1
theorem name_ne {y : Str} (h : nameB y = true) : y ≠ "" := fun z => by
  have := (name_len h).1
  rw [z] at this
  exact absurd this (by decide +kernel)
theorem kmn : ¬ ("moment" : Str) = "name" := by decide +kernel
theorem kme : ¬ ("moment" : Str) = "end" := by decide +kernel
theorem kyn : ¬ ("many" : Str) = "name" := by decide +kernel
theorem kye : ¬ ("many" : Str) = "end" := by decide +kernel
theorem kym : ¬ ("many" : Str) = "moment" := by decide +kernel
theorem kcn : ¬ ("counted" : Str) = "name" := by decide +kernel
theorem kce : ¬ ("counted" : Str) = "end" := by decide +kernel
theorem kcm : ¬ ("counted" : Str) = "moment" := by decide +kernel
theorem kcy : ¬ ("counted" : Str) = "many" := by decide +kernel
theorem kpn : ¬ ("price" : Str) = "name" := by decide +kernel
theorem kpe : ¬ ("price" : Str) = "end" := by decide +kernel
theorem kpm : ¬ ("price" : Str) = "moment" := by decide +kernel
theorem kpy : ¬ ("price" : Str) = "many" := by decide +kernel
theorem ken : ¬ ("end" : Str) = "name" := by decide +kernel
theorem fit_name {y : Str} (h : nameB y = true) : Part (.str y) ∧ fitB (.str y) "name" = true := by
  refine ⟨.inl ⟨y, rfl, by have := (name_len h).2; omega⟩, ?_⟩
  unfold fitB
  rw [if_pos rfl]
  exact h
theorem fit_end {y : Str} (h : y = "" ∨ nameB y = true) : Part (.str y) ∧ fitB (.str y) "end" = true := by
  have e : fitB (.str y) "end" = (decide (V.str y = .str "") || nameB y) := by
    unfold fitB
    rw [if_neg ken, if_pos rfl]
    rfl
  rcases h with rfl | h
  · exact ⟨.inl ⟨_, rfl, Nat.zero_le _⟩, by rw [e, decide_eq_true rfl]; rfl⟩
  · exact ⟨.inl ⟨y, rfl, by have := (name_len h).2; omega⟩, by rw [e, h, Bool.or_true]⟩
theorem fit_moment {m : Int} (h0 : 0 ≤ m) (h1 : m ≤ 9999) : Part (.int m) ∧ fitB (.int m) "moment" = true := by
  refine ⟨.inr ⟨m, rfl⟩, ?_⟩
  unfold fitB inB bnd
  rw [if_neg kmn, if_neg kme, if_pos rfl]
  simp [h0, h1]
theorem fit_many {m : Int} (h0 : 1 ≤ m) (h1 : m ≤ 1000000000) : Part (.int m) ∧ fitB (.int m) "many" = true := by
  refine ⟨.inr ⟨m, rfl⟩, ?_⟩
  unfold fitB inB bnd
  rw [if_neg kyn, if_neg kye, if_neg kym, if_pos rfl]
  simp [h0, h1]
theorem fit_counted {m : Int} (h0 : 0 ≤ m) (h1 : m ≤ 1000000000) : Part (.int m) ∧ fitB (.int m) "counted" = true := by
  refine ⟨.inr ⟨m, rfl⟩, ?_⟩
  unfold fitB inB bnd
  rw [if_neg kcn, if_neg kce, if_neg kcm, if_neg kcy]
  simp [h0, h1]
theorem fit_price {m : Int} (h0 : 0 ≤ m) (h1 : m ≤ 1000000000) : Part (.int m) ∧ fitB (.int m) "price" = true := by
  refine ⟨.inr ⟨m, rfl⟩, ?_⟩
  unfold fitB inB bnd
  rw [if_neg kpn, if_neg kpe, if_neg kpm, if_neg kpy]
  simp [h0, h1]
theorem nd1 (x : Str) : [x].Nodup := List.nodup_cons.mpr ⟨fun z => (nomatch z), List.nodup_nil⟩
theorem zip_at {α β : Type} {xs : List α} {ys : List β} {i : Nat} {x : α} {y : β} (h1 : xs[i]? = some x) (h2 : ys[i]? = some y) : (x, y) ∈ xs.zip ys :=
  List.mem_of_getElem? (List.getElem?_zip_eq_some.mpr ⟨h1, h2⟩)
theorem fine_of {PL GL HL : List Str} {e : Ent} (h : e.From PL GL HL) (nd : PL.Nodup) (np : ∀ y ∈ PL, nameB y = true) (ng : ∀ y ∈ GL, nameB y = true) (nh : ∀ y ∈ HL, nameB y = true) (nn : nameB e.name = true) (m0 : 0 ≤ e.moment) (m1 : e.moment ≤ 9999) :
    e.Fine ∧ ∀ y ∈ e.places, nameB y = true := by
  have two : ∀ {o t : Str}, o ≠ t → [o, t].Nodup := fun h => List.nodup_cons.mpr ⟨fun z => h (List.mem_singleton.mp z), nd1 _⟩
  cases e with
  | come n m g p k r =>
    obtain ⟨h1, h2, h3, h4, h5, h6⟩ := h
    refine ⟨⟨fun i v x hv hx => ?_, nd1 _⟩, fun y hy => by rw [List.mem_singleton.mp hy]; exact np p h2⟩
    have hz := zip_at hv hx
    simp only [Ent.parts, Ent.sorts, Ent.rest, List.zip_cons_cons, List.zip_nil_left, List.mem_cons, List.not_mem_nil, or_false, Prod.mk.injEq] at hz
    rcases hz with ⟨rfl, rfl⟩ | ⟨rfl, rfl⟩ | ⟨rfl, rfl⟩ | ⟨rfl, rfl⟩ | ⟨rfl, rfl⟩ | ⟨rfl, rfl⟩
    · exact fit_name nn
    · exact fit_moment m0 m1
    · exact fit_name (ng g h1)
    · exact fit_name (np p h2)
    · exact fit_many h3 h4
    · exact fit_price h5 h6
  | go n m g p k =>
    obtain ⟨h1, h2, h3, h4⟩ := h
    refine ⟨⟨fun i v x hv hx => ?_, nd1 _⟩, fun y hy => by rw [List.mem_singleton.mp hy]; exact np p h2⟩
    have hz := zip_at hv hx
    simp only [Ent.parts, Ent.sorts, Ent.rest, List.zip_cons_cons, List.zip_nil_left, List.mem_cons, List.not_mem_nil, or_false, Prod.mk.injEq] at hz
    rcases hz with ⟨rfl, rfl⟩ | ⟨rfl, rfl⟩ | ⟨rfl, rfl⟩ | ⟨rfl, rfl⟩ | ⟨rfl, rfl⟩
    · exact fit_name nn
    · exact fit_moment m0 m1
    · exact fit_name (ng g h1)
    · exact fit_name (np p h2)
    · exact fit_many h3 h4
  | move n m g o t k =>
    obtain ⟨h1, h2, h3, h4, h5, h6⟩ := h
    refine ⟨⟨fun i v x hv hx => ?_, two (h4 nd)⟩, fun y hy => ?_⟩
    · have hz := zip_at hv hx
      simp only [Ent.parts, Ent.sorts, Ent.rest, List.zip_cons_cons, List.zip_nil_left, List.mem_cons, List.not_mem_nil, or_false, Prod.mk.injEq] at hz
      rcases hz with ⟨rfl, rfl⟩ | ⟨rfl, rfl⟩ | ⟨rfl, rfl⟩ | ⟨rfl, rfl⟩ | ⟨rfl, rfl⟩ | ⟨rfl, rfl⟩
      · exact fit_name nn
      · exact fit_moment m0 m1
      · exact fit_name (ng g h1)
      · exact fit_name (np o h2)
      · exact fit_name (np t h3)
      · exact fit_many h5 h6
    · simp only [Ent.places, List.mem_cons, List.not_mem_nil, or_false] at hy
      rcases hy with rfl | rfl
      · exact np _ h2
      · exact np _ h3
  | some_ n m g o t =>
    obtain ⟨h1, h2, h3⟩ := h
    refine ⟨⟨fun i v x hv hx => ?_, ?_⟩, fun y hy => ?_⟩
    · have hz := zip_at hv hx
      simp only [Ent.parts, Ent.sorts, Ent.rest, List.zip_cons_cons, List.zip_nil_left, List.mem_cons, List.not_mem_nil, or_false, Prod.mk.injEq] at hz
      rcases hz with ⟨rfl, rfl⟩ | ⟨rfl, rfl⟩ | ⟨rfl, rfl⟩ | ⟨rfl, rfl⟩ | ⟨rfl, rfl⟩
      · exact fit_name nn
      · exact fit_moment m0 m1
      · exact fit_name (ng g h1)
      · exact fit_name (np o h2)
      · exact fit_end (h3.imp id fun z => np t z.1)
    · show (if t = "" then [o] else [o, t]).Nodup
      by_cases z : t = ""
      · rw [if_pos z]; exact nd1 _
      · rw [if_neg z]; exact two ((h3.resolve_left z).2 nd)
    · have hy' : y ∈ (if t = "" then [o] else [o, t]) := hy
      by_cases z : t = ""
      · rw [if_pos z] at hy'
        rw [List.mem_singleton.mp hy']
        exact np o h2
      · rw [if_neg z] at hy'
        simp only [List.mem_cons, List.not_mem_nil, or_false] at hy'
        rcases hy' with rfl | rfl
        · exact np _ h2
        · exact np _ (h3.resolve_left z).1
  | swap n m o t =>
    obtain ⟨h1, h2, h3⟩ := h
    refine ⟨⟨fun i v x hv hx => ?_, two (h3 nd)⟩, fun y hy => ?_⟩
    · have hz := zip_at hv hx
      simp only [Ent.parts, Ent.sorts, Ent.rest, List.zip_cons_cons, List.zip_nil_left, List.mem_cons, List.not_mem_nil, or_false, Prod.mk.injEq] at hz
      rcases hz with ⟨rfl, rfl⟩ | ⟨rfl, rfl⟩ | ⟨rfl, rfl⟩ | ⟨rfl, rfl⟩
      · exact fit_name nn
      · exact fit_moment m0 m1
      · exact fit_name (np o h1)
      · exact fit_name (np t h2)
    · simp only [Ent.places, List.mem_cons, List.not_mem_nil, or_false] at hy
      rcases hy with rfl | rfl
      · exact np _ h1
      · exact np _ h2
  | count n m g p k hd =>
    obtain ⟨h1, h2, h3, h4, h5⟩ := h
    refine ⟨⟨fun i v x hv hx => ?_, nd1 _⟩, fun y hy => by rw [List.mem_singleton.mp hy]; exact np p h2⟩
    have hz := zip_at hv hx
    simp only [Ent.parts, Ent.sorts, Ent.rest, List.zip_cons_cons, List.zip_nil_left, List.mem_cons, List.not_mem_nil, or_false, Prod.mk.injEq] at hz
    rcases hz with ⟨rfl, rfl⟩ | ⟨rfl, rfl⟩ | ⟨rfl, rfl⟩ | ⟨rfl, rfl⟩ | ⟨rfl, rfl⟩ | ⟨rfl, rfl⟩
    · exact fit_name nn
    · exact fit_moment m0 m1
    · exact fit_name (ng g h1)
    · exact fit_name (np p h2)
    · exact fit_counted h3 h4
    · exact fit_name (nh hd h5)
  | look n m g p =>
    obtain ⟨h1, h2⟩ := h
    refine ⟨⟨fun i v x hv hx => ?_, nd1 _⟩, fun y hy => by rw [List.mem_singleton.mp hy]; exact np p h2⟩
    have hz := zip_at hv hx
    simp only [Ent.parts, Ent.sorts, Ent.rest, List.zip_cons_cons, List.zip_nil_left, List.mem_cons, List.not_mem_nil, or_false, Prod.mk.injEq] at hz
    rcases hz with ⟨rfl, rfl⟩ | ⟨rfl, rfl⟩ | ⟨rfl, rfl⟩ | ⟨rfl, rfl⟩
    · exact fit_name nn
    · exact fit_moment m0 m1
    · exact fit_name (ng g h1)
    · exact fit_name (np p h2)
/-! ### the order of entries, by the law -/
def Ent.rank : Ent → Int
  | .swap .. => 0 | .come .. => 1 | .go .. => 1 | .move .. => 1 | .some_ .. => 1 | .count .. => 2 | .look .. => 2
def ordV (e : Ent) : List V := [.int e.moment, .int e.rank, .str e.name]
def ordD (e : Ent) : PyData := .tuple [.int e.moment, .int e.rank, .str e.name]
theorem ord_dp {K : PySem.W.Frag} {H : Hp} {tp : Addr} {e : Ent} (h : H tp = some (.tup (ordV e))) : Dp K H (.ref tp) (ordD e) := .tup (SqT.of h) (.cons (.int _) (.cons (.int _) (.cons (.str _) .nil)))
theorem ord_alike (e g : Ent) : PySem.W.alike (ordD e) (ordD g) = true := rfl
def spOrd : Sp := fun vs H Q _ => ∃ (a : Addr) (e : Ent), vs = [.ref a] ∧ H a = some (.tup e.vals) ∧ ∀ (tp : Addr) (H' : Hp), Same H H' → H' tp = some (.tup (ordV e)) → Q (.ref tp) H'
def rankW (x : Str) : Int := 1 - (if decide (V.str x = V.str "swap") = true then 1 else 0) + (if inV (V.str x) [V.str "count", V.str "look"] = true then 1 else 0)
theorem rank_own (e : Ent) : rankW e.word = e.rank := by
  have h1 : rankW "come" = 1 := by decide +kernel
  have h2 : rankW "go" = 1 := by decide +kernel
  have h3 : rankW "move" = 1 := by decide +kernel
  have h4 : rankW "some" = 1 := by decide +kernel
  have h5 : rankW "swap" = 0 := by decide +kernel
  have h6 : rankW "count" = 2 := by decide +kernel
  have h7 : rankW "look" = 2 := by decide +kernel
  cases e
  · exact h1
  · exact h2
  · exact h3
  · exact h4
  · exact h5
  · exact h6
  · exact h7
section
variable {P : Program} {w : World} {K : PySem.W.Frag} {mg : Str → Option Value} {base : Heap}
theorem scOwn : FnScope ["_law_entry_here", "_law_rank"] ["_law_entry_here"] (defScope sOwn) := ⟨rfl, rfl, rfl, by decide +kernel, rfl, by decide +kernel, by decide +kernel⟩
theorem at1 (e : Ent) : atI e.vals 1 = some (.str e.name) := atI_nat (j := 1) rfl
theorem ok_own {f : Addr} {fd : FuncData} (F : Fun K "_law_order" "_law_order" sOwn f fd) (mi : mg "int" = none) : FnOk P w K mg base CX0 1 f fd ["_law_entry_here"] spOrd := by
  refine F.ok scOwn (fun vs H Q E h => ?_) (fun cdv A outer s H vs Q E hr h => ?_)
  · obtain ⟨a, e, rfl, _⟩ := h
    rfl
  · obtain ⟨a, e, rfl, ha, q⟩ := h
    refine ⟨_, pss_cons (ps_set (i := 1) scOwn.nd rfl (Or.inl rfl) (pe_op op_add (pe_op op_sub pe_int (pe_callTy call_int1 (by rfl) mi (by decide +kernel) (pa_cons (pe_cmpR op_eq (pe_ix ix_tup (pv 0) pe_int (fun _ _ => rfl)) pe_str (nomark _)) pa_nil)))
        (pe_callTy call_int1 (by rfl) mi (by decide +kernel) (pa_cons (pe_cmpR op_in_seq (pe_ix ix_tup (pv 0) pe_int (fun _ _ => rfl)) (pe_tup (pa_cons pe_str (pa_cons pe_str pa_nil))) (by rfl)) pa_nil))))
      (pss_one (ps_ret (pe_tup (pa_cons (pe_ix ix_tup (pv 0) pe_int (fun _ _ => rfl)) (pa_cons (pv 1) (pa_cons (pe_ix ix_tup (pv 0) pe_int (fun _ _ => rfl)) pa_nil)))))), ?_⟩
    refine ⟨_, rfl, a, _, 0, _, rfl, rfl, SqT.of ha, at0 e, rfl, .inr ⟨_, rfl, 1, _, rfl, rfl, _, rfl, a, _, 0, _, rfl, rfl, SqT.of ha, at0 e, (by show 2 ≤ sizeLine; decide), fun t nt => ?_⟩⟩
    have s1 := @same_new _ _ (.tup [V.str "count", .str "look"]) nt
    refine ⟨t, _, rfl, .inr (SqT.of upd_same), rfl, ?_, .inr ⟨_, rfl, _, _, rfl, rfl, ?_⟩⟩
    · rfl
    · refine ⟨_, rfl, a, _, 2, _, rfl, rfl, SqT.of (s1 _ _ ha), at2 e, _, rfl, _, rfl, a, _, 1, _, rfl, rfl, SqT.of (s1 _ _ ha), at1 e, (by show 3 ≤ sizeLine; decide), fun tp ntp => ?_⟩
      refine q tp _ (s1.trans (same_new ntp)) ?_
      rw [upd_same]
      exact congrArg (fun k => some (HO.tup [V.int e.moment, V.int k, V.str e.name])) (rank_own e)
end
section
variable {P : Program} {w : World} {K : PySem.W.Frag} {mg : Str → Option Value} {base : Heap}
theorem scOrd : FnScope ["entry"] ["entry"] (defScope sOrd) := ⟨rfl, rfl, rfl, by decide +kernel, rfl, by decide +kernel, by decide +kernel⟩
theorem ok_ord {f aR : Addr} {fd : FuncData} (F : Fun K "order_of" "order_of" sOrd f fd) (mR : mg "RANKS" = some (.ref aR)) (hR : ∀ e : Ent, KDct K w aR e.word (.int e.rank)) : FnOk P w K mg base CX0 1 f fd ["entry"] spOrd := by
  refine F.ok scOrd (fun vs H Q E h => ?_) (fun cdv A outer s H vs Q E hr h => ?_)
  · obtain ⟨a, e, rfl, _⟩ := h
    rfl
  · obtain ⟨a, e, rfl, ha, q⟩ := h
    refine ⟨_, pss_one (ps_ret (pe_tup (pa_cons (pe_ix ix_tup (pv 0) pe_int (fun _ _ => rfl)) (pa_cons (pe_ix ix_kdict (pe_glob (v := .ref aR) rfl mR rfl) (pe_ix ix_tup (pv 0) pe_int (fun _ _ => rfl)) (fun _ _ => rfl)) (pa_cons (pe_ix ix_tup (pv 0) pe_int (fun _ _ => rfl)) pa_nil))))), ?_⟩
    refine ⟨_, rfl, a, _, 2, _, rfl, rfl, SqT.of ha, at2 e, _, rfl, a, _, 0, _, rfl, rfl, SqT.of ha, at0 e, aR, e.word, _, rfl, rfl, hR e, _, rfl, a, _, 1, _, rfl, rfl, SqT.of ha, at1 e, (by show 3 ≤ sizeLine; decide), fun tp ntp => ?_⟩
    exact q tp _ (same_new ntp) upd_same
end
/-! ### houses -/
def TK (H H' : Hp) : Prop := ∀ a xs, H a = some (.tup xs) → H' a = some (.tup xs)
theorem TK.of {H H' : Hp} (s : Same H H') : TK H H' := fun a xs e => s a _ e
theorem TK.tr {H H1 H2 : Hp} (a : TK H H1) (b : TK H1 H2) : TK H H2 := fun c xs e => b c xs (a c xs e)
theorem TK.but {H H' : Hp} {p c : Addr} {n : Nat} (pen : PenAt H p c n) (b : But p H H') : TK H H' := fun a xs e => by
  obtain ⟨kvs, ns', a', x', g1, _⟩ := pen.ex
  exact b a _ e (ne_of e g1 (by intro z; cases z))
theorem TK.upd {H : Hp} {l : Addr} {o : HO} (n : ∀ xs, H l ≠ some (.tup xs)) : TK H (upd H l o) := fun a xs e => by
  by_cases z : a = l
  · rw [z] at e
    exact absurd e (n xs)
  · exact (upd_ne z).trans e
/-- each address holds its entry -/
inductive EntsAt (H : Hp) : List Addr → List Ent → Prop
  | nil : EntsAt H [] []
  | cons {a : Addr} {e : Ent} {as : List Addr} {es : List Ent} : H a = some (.tup e.vals) → EntsAt H as es → EntsAt H (a :: as) (e :: es)
theorem EntsAt.on {H H' : Hp} (k : TK H H') {as : List Addr} {es : List Ent} (h : EntsAt H as es) : EntsAt H' as es := by
  induction h with
  | nil => exact .nil
  | cons a _ ih => exact .cons (k _ _ a) ih
theorem EntsAt.len {H : Hp} {as : List Addr} {es : List Ent} (h : EntsAt H as es) : as.length = es.length := by
  induction h with
  | nil => rfl
  | cons _ _ ih => simp [ih]
theorem EntsAt.snoc {H : Hp} {a : Addr} {e : Ent} {as : List Addr} {es : List Ent} (h : EntsAt H as es) (q : H a = some (.tup e.vals)) : EntsAt H (as ++ [a]) (es ++ [e]) := by
  induction h with
  | nil => exact .cons q .nil
  | cons a _ ih => exact .cons a ih
theorem EntsAt.get {H : Hp} {as : List Addr} {es : List Ent} (h : EntsAt H as es) : ∀ {i : Nat} {a : Addr}, as[i]? = some a → ∃ e, es[i]? = some e ∧ H a = some (.tup e.vals) := by
  induction h with
  | nil => intro i a q; cases q
  | @cons a0 e0 as es q _ ih =>
    intro i a z
    cases i with
    | zero => exact ⟨e0, rfl, by rw [← Option.some.inj z]; exact q⟩
    | succ n => exact ih (i := n) z
structure HouseAt (H : Hp) (h : Addr) (P G : List Str) (es : List Ent) : Prop where
  ex : ∃ (hp hg he : Addr) (tps : List Addr), H h = some (.tup [.ref hp, .ref hg, .ref he]) ∧ H hp = some (.tup (P.map V.str)) ∧ H hg = some (.tup (G.map V.str)) ∧ H he = some (.tup (tps.map V.ref)) ∧ EntsAt H tps es
theorem HouseAt.on {H H' : Hp} (k : TK H H') {h : Addr} {P G : List Str} {es : List Ent} (x : HouseAt H h P G es) : HouseAt H' h P G es := by
  obtain ⟨hp, hg, he, tps, h1, h2, h3, h4, h5⟩ := x.ex
  exact ⟨hp, hg, he, tps, k _ _ h1, k _ _ h2, k _ _ h3, k _ _ h4, h5.on k⟩
/-- what holds of a house that a law makes -/
structure Good (P G : List Str) (es : List Ent) (m : Nat) : Prop where
  nd : P.Nodup
  ne : P ≠ []
  le : P.length ≤ 6
  nm : ∀ y ∈ P, nameB y = true
  ge : G ≠ []
  gl : G.length ≤ 3
  gn : ∀ y ∈ G, nameB y = true
  gd : G.Nodup
  many : es.length = m
  ents : ∀ e ∈ es, nameB e.name = true ∧ 0 ≤ e.moment ∧ e.moment ≤ 9999 ∧ ∃ HL : List Str, (∀ y ∈ HL, nameB y = true) ∧ e.From P G HL
theorem From.perm {e : Ent} {P P' G G' HL : List Str} (h : e.From P G HL) (p : P'.Perm P) (g : G'.Perm G) : e.From P' G' HL := by
  have nd : P'.Nodup → P.Nodup := fun z => p.nodup_iff.mp z
  cases e with
  | come n m gg pl k r => exact ⟨g.mem_iff.mpr h.1, p.mem_iff.mpr h.2.1, h.2.2⟩
  | go n m gg pl k => exact ⟨g.mem_iff.mpr h.1, p.mem_iff.mpr h.2.1, h.2.2⟩
  | move n m gg o t k => exact ⟨g.mem_iff.mpr h.1, p.mem_iff.mpr h.2.1, p.mem_iff.mpr h.2.2.1, fun z => h.2.2.2.1 (nd z), h.2.2.2.2⟩
  | some_ n m gg o t => exact ⟨g.mem_iff.mpr h.1, p.mem_iff.mpr h.2.1, h.2.2.imp id fun z => ⟨p.mem_iff.mpr z.1, fun q => z.2 (nd q)⟩⟩
  | swap n m o t => exact ⟨p.mem_iff.mpr h.1, p.mem_iff.mpr h.2.1, fun z => h.2.2 (nd z)⟩
  | count n m gg pl k hd => exact ⟨g.mem_iff.mpr h.1, p.mem_iff.mpr h.2.1, h.2.2⟩
  | look n m gg pl => exact ⟨g.mem_iff.mpr h.1, p.mem_iff.mpr h.2⟩
/-! the house as data -/
def dV : V → PyData
  | .str x => .str x
  | .int i => .int i
  | _ => .none
def entD (e : Ent) : PyData := .tuple (e.vals.map dV)
def houseD (P G : List Str) (es : List Ent) : PyData := .tuple [.tuple (P.map .str), .tuple (G.map .str), .tuple (es.map entD)]
theorem dp_strs {K : PySem.W.Frag} {H : Hp} : ∀ ys : List Str, DpAll K H (ys.map V.str) (ys.map PyData.str)
  | [] => .nil
  | y :: r => .cons (.str y) (dp_strs r)
theorem dp_ent {K : PySem.W.Frag} {H : Hp} {a : Addr} {e : Ent} (h : H a = some (.tup e.vals)) : Dp K H (.ref a) (entD e) := by
  refine .tup (SqT.of h) ?_
  cases e <;> (repeat' (first | exact .nil | refine .cons (.str _) ?_ | refine .cons (.int _) ?_))
theorem dp_ents {K : PySem.W.Frag} {H : Hp} {as : List Addr} {es : List Ent} (h : EntsAt H as es) : DpAll K H (as.map V.ref) (es.map entD) := by
  induction h with
  | nil => exact .nil
  | cons a _ ih => exact .cons (dp_ent a) ih
theorem HouseAt.dp {K : PySem.W.Frag} {H : Hp} {h : Addr} {P G : List Str} {es : List Ent} (x : HouseAt H h P G es) : Dp K H (.ref h) (houseD P G es) := by
  obtain ⟨hp, hg, he, tps, h1, h2, h3, h4, h5⟩ := x.ex
  exact .tup (SqT.of h1) (.cons (.tup (SqT.of h2) (dp_strs P)) (.cons (.tup (SqT.of h3) (dp_strs G)) (.cons (.tup (SqT.of h4) (dp_ents h5)) .nil)))
/-! its text isn't long -/
structure Short (d : PyData) (n k : Nat) : Prop where
  sh : d.showable = true
  nd : d.hasDict = false
  ls : d.leavesShort 13 = true
  bk : d.bulk ≤ n
  dp : d.depth ≤ k
theorem short_str {y : Str} (h : nameB y = true ∨ y = "" ∨ y ∈ words7) : Short (.str y) 8 0 := by
  have lo : y.cps.toList.all (fun c => decide (c < 16 ^ 8)) = true ∧ y.cps.size ≤ 8 := by
    rcases h with h | rfl | h
    · unfold nameB at h
      rw [Bool.and_eq_true, Bool.and_eq_true] at h
      have l8 : y.length ≤ 8 := of_decide_eq_true h.1.2
      refine ⟨List.all_eq_true.mpr fun c hc => decide_eq_true ?_, l8⟩
      have q : ∀ c ∈ abc.cps.toList, c < 16 ^ 8 := by decide +kernel
      exact q c (of_decide_eq_true (List.all_eq_true.mp h.2 c hc))
    · exact ⟨rfl, Nat.zero_le _⟩
    · simp only [words7, List.mem_cons, List.not_mem_nil, or_false] at h
      rcases h with rfl | rfl | rfl | rfl | rfl | rfl | rfl <;> exact ⟨by decide +kernel, by decide +kernel⟩
  exact ⟨rfl, rfl, lo.1, lo.2, Nat.zero_le _⟩
theorem short_int {i : Int} (h0 : 0 ≤ i) (h1 : i ≤ 1000000000) : Short (.int i) 8 0 := by
  have e : (PyData.shown (.int i)).length ≤ 13 := Nat.le_trans (toString_length_le h0 (k := 10) (by decide) (by omega)) (by decide)
  refine ⟨?_, rfl, decide_eq_true e, Nat.zero_le _, Nat.zero_le _⟩
  show decide (i.natAbs.log2 < 1920) = true
  refine decide_eq_true ?_
  by_cases z : i.natAbs = 0
  · rw [z]
    decide
  · exact Nat.lt_trans ((Nat.log2_lt z).mpr (show i.natAbs < 2 ^ 30 by omega)) (by decide)
theorem short_all {n k : Nat} : ∀ {ds : List PyData}, (∀ d ∈ ds, Short d n k) → PyData.showableAll ds = true ∧ PyData.hasDictAll ds = false ∧ PyData.leavesShortAll 13 ds = true ∧ PyData.bulkAll ds ≤ ds.length * (n + 1) ∧ PyData.depthAll ds ≤ k
  | [], _ => ⟨rfl, rfl, rfl, Nat.le_of_eq (by simp [PyData.bulkAll]), Nat.zero_le _⟩
  | d :: ds, h => by
    have h1 := h d List.mem_cons_self
    obtain ⟨a1, a2, a3, a4, a5⟩ := short_all fun x hx => h x (List.mem_cons_of_mem _ hx)
    refine ⟨?_, ?_, ?_, ?_, ?_⟩
    · rw [PyData.showableAll, h1.sh, a1]
      rfl
    · rw [PyData.hasDictAll, h1.nd, a2]
      rfl
    · rw [PyData.leavesShortAll, h1.ls, a3]
      rfl
    · rw [PyData.bulkAll, List.length_cons, Nat.succ_mul]
      have := h1.bk
      omega
    · rw [PyData.depthAll]
      exact Nat.max_le.mpr ⟨h1.dp, a5⟩
theorem short_tup {n k m : Nat} {ds : List PyData} (h : ∀ d ∈ ds, Short d n k) (l : ds.length * (n + 1) ≤ m) : Short (.tuple ds) m (k + 1) := by
  obtain ⟨a1, a2, a3, a4, a5⟩ := short_all h
  refine ⟨?_, ?_, ?_, ?_, ?_⟩
  · rw [PyData.showable]; exact a1
  · rw [PyData.hasDict]; exact a2
  · rw [PyData.leavesShort]; exact a3
  · rw [PyData.bulk]; omega
  · rw [PyData.depth]; omega
theorem Short.mono {d : PyData} {n k n' k' : Nat} (h : Short d n k) (hn : n ≤ n') (hk : k ≤ k') : Short d n' k' := ⟨h.sh, h.nd, h.ls, Nat.le_trans h.bk hn, Nat.le_trans h.dp hk⟩
theorem Short.fits {d : PyData} {n k : Nat} (h : Short d n k) (hn : n ≤ 100000) : d.shown.length ≤ sizeLine := by
  have q := PyData.shown_le_bulk 13 (by decide) d h.ls
  have := h.bk
  rw [sizeLine_eq]
  omega
theorem short_names {ys : List Str} (h : ∀ y ∈ ys, nameB y = true) (l : ys.length ≤ 31) : Short (.tuple (ys.map .str)) 300 1 := by
  refine short_tup (n := 8) (k := 0) (fun d hd => ?_) (by rw [List.length_map]; omega)
  obtain ⟨y, hy, rfl⟩ := List.mem_map.mp hd
  exact short_str (.inl (h y hy))
theorem short_ent {e : Ent} {P G HL : List Str} (nn : nameB e.name = true) (m0 : 0 ≤ e.moment) (m1 : e.moment ≤ 9999) (hP : ∀ y ∈ P, nameB y = true) (hG : ∀ y ∈ G, nameB y = true) (hH : ∀ y ∈ HL, nameB y = true) (h : e.From P G HL) : Short (entD e) 70 1 := by
  have w : ∀ {x : Str}, x ∈ words7 → Short (.str x) 8 0 := fun hx => short_str (.inr (.inr hx))
  have n : ∀ {x : Str}, nameB x = true → Short (.str x) 8 0 := fun hx => short_str (.inl hx)
  have mo : Short (.int e.moment) 8 0 := short_int m0 (by omega)
  refine short_tup (n := 8) (k := 0) (fun d hd => ?_) (by rw [List.length_map]; cases e <;> simp [Ent.vals, Ent.rest])
  obtain ⟨v, hv, rfl⟩ := List.mem_map.mp hd
  cases e with
  | come nm m g pl k r =>
    obtain ⟨h1, h2, h3, h4, h5, h6⟩ := h
    simp only [Ent.vals, Ent.rest, List.mem_cons, List.not_mem_nil, or_false] at hv
    rcases hv with rfl | rfl | rfl | rfl | rfl | rfl | rfl
    · exact w (Ent.word_in _)
    · exact n nn
    · exact mo
    · exact n (hG _ h1)
    · exact n (hP _ h2)
    · exact short_int (by omega) h4
    · exact short_int h5 h6
  | go nm m g pl k =>
    obtain ⟨h1, h2, h3, h4⟩ := h
    simp only [Ent.vals, Ent.rest, List.mem_cons, List.not_mem_nil, or_false] at hv
    rcases hv with rfl | rfl | rfl | rfl | rfl | rfl
    · exact w (Ent.word_in _)
    · exact n nn
    · exact mo
    · exact n (hG _ h1)
    · exact n (hP _ h2)
    · exact short_int (by omega) h4
  | move nm m g o t k =>
    obtain ⟨h1, h2, h3, h4, h5, h6⟩ := h
    simp only [Ent.vals, Ent.rest, List.mem_cons, List.not_mem_nil, or_false] at hv
    rcases hv with rfl | rfl | rfl | rfl | rfl | rfl | rfl
    · exact w (Ent.word_in _)
    · exact n nn
    · exact mo
    · exact n (hG _ h1)
    · exact n (hP _ h2)
    · exact n (hP _ h3)
    · exact short_int (by omega) h6
  | some_ nm m g o t =>
    obtain ⟨h1, h2, h3⟩ := h
    simp only [Ent.vals, Ent.rest, List.mem_cons, List.not_mem_nil, or_false] at hv
    rcases hv with rfl | rfl | rfl | rfl | rfl | rfl
    · exact w (Ent.word_in _)
    · exact n nn
    · exact mo
    · exact n (hG _ h1)
    · exact n (hP _ h2)
    · rcases h3 with rfl | h3
      · exact short_str (.inr (.inl rfl))
      · exact n (hP _ h3.1)
  | swap nm m o t =>
    obtain ⟨h1, h2, h3⟩ := h
    simp only [Ent.vals, Ent.rest, List.mem_cons, List.not_mem_nil, or_false] at hv
    rcases hv with rfl | rfl | rfl | rfl | rfl
    · exact w (Ent.word_in _)
    · exact n nn
    · exact mo
    · exact n (hP _ h1)
    · exact n (hP _ h2)
  | count nm m g pl k hd =>
    obtain ⟨h1, h2, h3, h4, h5⟩ := h
    simp only [Ent.vals, Ent.rest, List.mem_cons, List.not_mem_nil, or_false] at hv
    rcases hv with rfl | rfl | rfl | rfl | rfl | rfl | rfl
    · exact w (Ent.word_in _)
    · exact n nn
    · exact mo
    · exact n (hG _ h1)
    · exact n (hP _ h2)
    · exact short_int h3 h4
    · exact n (hH _ h5)
  | look nm m g pl =>
    obtain ⟨h1, h2⟩ := h
    simp only [Ent.vals, Ent.rest, List.mem_cons, List.not_mem_nil, or_false] at hv
    rcases hv with rfl | rfl | rfl | rfl | rfl
    · exact w (Ent.word_in _)
    · exact n nn
    · exact mo
    · exact n (hG _ h1)
    · exact n (hP _ h2)
theorem Good.short {P G : List Str} {es : List Ent} {m : Nat} (g : Good P G es m) (hm : m ≤ 31) : Short (houseD P G es) 10000 3 := by
  refine short_tup (n := 3000) (k := 2) (fun d hd => ?_) (by show 3 * 3001 ≤ 10000; decide)
  simp only [List.mem_cons, List.not_mem_nil, or_false] at hd
  rcases hd with rfl | rfl | rfl
  · exact (short_names g.nm (Nat.le_trans g.le (by decide))).mono (by decide) (by decide)
  · exact (short_names g.gn (Nat.le_trans g.gl (by decide))).mono (by decide) (by decide)
  · refine short_tup (n := 70) (k := 1) (fun d hd => ?_) (by rw [List.length_map, g.many]; omega)
    obtain ⟨e, he, rfl⟩ := List.mem_map.mp hd
    obtain ⟨e1, e2, e3, HL, e4, e5⟩ := g.ents e he
    exact short_ent e1 e2 e3 g.nm g.gn e4 e5
/-! ### along_tracks -/
/-- nothing but the tables has changed -/
def TabsG (Ts : List Addr) (H : Hp) : Prop := ∀ T ∈ Ts, GxR.TabG H T
structure TB1 (Ts : List Addr) (H H' : Hp) : Prop where
  tg : TabsG Ts H'
  kp : ∀ a o, H a = some o → (∀ ps, o ≠ .tbl ps) → H' a = some o
  free : ∀ a, H' a = none → H a = none
  oth : ∀ a o, H a = some o → a ∉ Ts → H' a = some o
theorem tabg_sm {H H' : Hp} {T : Addr} (sm : Same H H') (t : GxR.TabG H T) : GxR.TabG H' T := by
  obtain ⟨ps, e, ok⟩ := t
  exact ⟨ps, sm _ _ e, ok⟩
theorem tabs_sm {H H' : Hp} {Ts : List Addr} (sm : Same H H') (t : TabsG Ts H) : TabsG Ts H' := fun T hT => tabg_sm sm (t T hT)
theorem TB1.same {Ts : List Addr} {H H' : Hp} (t : TabsG Ts H) (sm : Same H H') : TB1 Ts H H' := ⟨tabs_sm sm t, fun a o e _ => sm a o e, fun a n => sm.free n, fun a o e _ => sm a o e⟩
theorem TB1.tr {Ts : List Addr} {H H1 H2 : Hp} (a : TB1 Ts H H1) (b : TB1 Ts H1 H2) : TB1 Ts H H2 := ⟨b.1, fun c o e n => b.2 c o (a.2 c o e n) n, fun c n => a.free c (b.free c n), fun c o e n => b.oth c o (a.oth c o e n) n⟩
theorem TB1.tab {Ts : List Addr} {T : Addr} {H H' : Hp} (t : GxR.Tabbed T H H') (g : TabsG Ts H) (hT : T ∈ Ts) : TB1 Ts H H' := by
  refine ⟨fun T' hT' => ?_, fun a o e n => ?_, fun a n => ?_, fun a o e n => (t.2 a fun z => n (z ▸ hT)).trans e⟩
  · by_cases z : T' = T
    · rw [z]
      exact t.1
    · obtain ⟨ps, e, ok⟩ := g T' hT'
      exact ⟨ps, (t.2 T' z).trans e, ok⟩
  · have na : a ≠ T := fun z => by
      obtain ⟨ps, e', _⟩ := g T hT
      rw [z, e'] at e
      exact n ps (Option.some.inj e).symm
    rw [t.2 a na]
    exact e
  · by_cases z : a = T
    · obtain ⟨ps, e, _⟩ := t.1
      rw [z, e] at n
      cases n
    · rw [← t.2 a z]
      exact n
theorem TB1.tk {Ts : List Addr} {H H' : Hp} (t : TB1 Ts H H') : TK H H' := fun a xs e => t.2 a _ e fun ps z => nomatch z
theorem TB1.lst {Ts : List Addr} {H H' : Hp} (t : TB1 Ts H H') {a : Addr} {xs : List V} (e : H a = some (.lst xs)) : H' a = some (.lst xs) := t.2 a _ e fun ps z => nomatch z
theorem TB1.dct {Ts : List Addr} {H H' : Hp} (t : TB1 Ts H H') {a : Addr} {kvs : List (Key × V)} (e : H a = some (.dK kvs)) : H' a = some (.dK kvs) := t.2 a _ e fun ps z => nomatch z
theorem tabs_upd {H : Hp} {Ts : List Addr} {l : Addr} {xs : List V} {o : HO} (t : TabsG Ts H) (e : H l = some (.lst xs)) : TabsG Ts (upd H l o) := fun T hT => by
  obtain ⟨ps, e1, ok⟩ := t T hT
  exact ⟨ps, (upd_ne (ne_of e1 e (by intro z; cases z))).trans e1, ok⟩
/-- a list that came since is written -/
theorem TB1.put {Ts : List Addr} {H H' : Hp} {l : Addr} {xs : List V} {o : HO} (t : TB1 Ts H H') (n : H l = none) (e : H' l = some (.lst xs)) : TB1 Ts H (upd H' l o) :=
  ⟨tabs_upd t.1 e, fun a u eu na => (upd_ne (ne_of_none eu n)).trans (t.2 a u eu na), fun a na => by
    by_cases z : a = l
    · rw [z]
      exact n
    · rw [upd_ne z] at na
      exact t.free a na, fun a u eu na => (upd_ne (ne_of_none eu n)).trans (t.oth a u eu na)⟩
/-! ### sorted(..) of what gives texts -/
def leS (a b : Str) : Prop := a.cps.toList ≤ b.cps.toList
theorem leS_of {a b : Str} (h : ltCps b.cps.toList a.cps.toList = false) : leS a b := by
  rw [ltCps_eq] at h
  exact List.not_lt.mp (of_decide_eq_false h)
theorem str_ext {a b : Str} (h : a.cps.toList = b.cps.toList) : a = b := by
  cases a with
  | mk x => cases b with
    | mk y =>
      have : x = y := Array.toList_inj.mp h
      rw [this]
theorem leS_trans {a b c : Str} (h1 : leS a b) (h2 : leS b c) : leS a c := List.le_trans h1 h2
theorem leS_anti {a b : Str} (h1 : leS a b) (h2 : leS b a) : a = b := str_ext (List.le_antisymm h1 h2)
theorem rising_pw : ∀ (p : Str) (l : List Str), risingS p l = true → (p :: l).Pairwise leS
  | p, [], _ => List.pairwise_singleton _ _
  | p, x :: r, h => by
    have h' : (!ltCps x.cps.toList p.cps.toList && risingS x r) = true := h
    rw [Bool.and_eq_true] at h'
    have le : leS p x := leS_of (by simpa using h'.1)
    have ih := rising_pw x r h'.2
    refine List.pairwise_cons.mpr ⟨fun y hy => ?_, ih⟩
    rcases List.mem_cons.mp hy with rfl | hy
    · exact le
    · exact leS_trans le (List.rel_of_pairwise_cons ih hy)
theorem sorted_pw {l : List Str} (h : sortedS l = true) : l.Pairwise leS := by
  cases l with
  | nil => exact .nil
  | cons x r => exact rising_pw x r h
/-- two sorted lists of the same texts are one -/
theorem sorted_one {l r : List Str} (p : l.Perm r) (h1 : sortedS l = true) (h2 : sortedS r = true) : l = r :=
  List.Perm.eq_of_pairwise (fun a b _ _ x y => leS_anti x y) (sorted_pw h1) (sorted_pw h2) p
theorem sorted_by {prog : Program} {w : World} {A : Around} {E : Value → Shared → Prop} {s : Shared} {x : Value} {Q : Value → Shared → Prop}
    (h : wpAny (model prog w) A.in1 (collect x) (fun vs s1 => ∃ ss, StrsAre vs ss ∧ vs.length < 64 ∧ ∀ (out : Array Value) (ss' : List Str) (h' : Heap) (ep : Nat), StrsAre out.toList ss' → ss'.Perm ss → sortedS ss' = true →
      (∀ b o, s1.heap.get? b = some o → h'.get? b = some o) → h'.get? s1.heap.objs.size = some (seqObj "list" out ep) → Q (.ref s1.heap.objs.size) { s1 with heap := h' }) E s) :
    wpAny (model prog w) A (call (.builtin "sorted") [x]) Q E s := by
  refine Calls.call_function_entry kind_sorted plain_sorted entry_sorted (args_sorted1 _) ?_
  unfold Builtin.«sorted»
  refine wpAny_bind (m := checkCount "sorted" 1 1 _) (wpAny_pure (wpAny_bind (wpAny_mono h (fun vs s1 ⟨ss, hS, h64, hq⟩ => ?_) fun _ _ e => e)))
  have hoL : (s1.heap.push (seqObj "list" vs.toArray 0)).get? s1.heap.objs.size = some (seqObj "list" vs.toArray 0) := Heap.get?_push_size _ rfl
  refine wpAny_bind (wpAny_newList (wpAny_bind (wpAny_holding (wpAny_call_entry slot_list_sort ⟨_, hoL, rfl⟩ entry_list_sort (list_sort_treeK strKind_oneLt hoL hS.keysOf (fun v1 v2 rest e => keyKind_strs (by rw [← e]; exact hS)) h64 fun st' hp hs => ⟨_, rfl, ?_⟩) (args_list_sort _)))))
  obtain ⟨ss', h1, h2, h3⟩ := sorted_out_str hS hp hs
  obtain ⟨ep, he⟩ := sortedHeap_at (out := (arrOf st').map (·.2)) hoL
  refine wpAny_pure ⟨_, rfl, hq _ ss' _ ep h1 h2 h3 (fun b o e => ?_) he⟩
  have lt := Heap.lt_size e
  rw [sortedHeap_old (Nat.ne_of_lt lt) (by rw [Heap.size_push]; exact Nat.lt_succ_of_lt lt)]
  exact Heap.get?_push_of_some _ e
/-- of a tuple of texts -/
theorem cr_sortedTS {X : Cx} : CallR X (.builtin "sorted") (fun vs H Q => ∃ (a : Addr) (xs : List Str), vs = [.ref a] ∧ SqT X.K H a (xs.map V.str) ∧ xs.length < 64 ∧
    ∀ (ys : List Str) (p : Addr), ys.Perm xs → sortedS ys = true → H p = none → Q (.ref p) (upd H p (.lst (ys.map V.str)))) := by
  rintro pins s σ H vs us Q I r ⟨a, xs, rfl, hs, h64, q⟩
  rw [Vals.ref1 r]
  obtain ⟨its, rv, ⟨o, e1, e2, n, e3⟩, hz⟩ := I.tuple hs
  have l0 := rv.length
  rw [List.length_map] at l0
  refine sorted_by (wpAny_collect_seq a (.inr rfl) e1 e2 e3 (fun h1 k1 => ⟨xs, ?_, ?_, fun out ys h' ep g1 g2 g3 k2 g4 => ?_⟩) (by rw [List.size_toArray, ← rv.length]; exact hz))
  · exact rv.strs
  · show its.length < 64
    rw [← l0]
    exact h64
  · have I1 := I.kept (t' := s.toks) k1
    have hlen : (ys.map V.str).length ≤ sizeLine := by rw [List.length_map, g2.length_eq]; exact small64 h64
    exact ⟨.ref h1.objs.size, upd H h1.objs.size (.lst (ys.map V.str)), I1.laid (t' := s.toks) k2 (Nat.le_refl _) ⟨hlen, out.toList, ep, vals_of_strs g1, by rw [g4]⟩, rfl, q ys _ g2 g3 (I1.hok.fresh (Nat.le_refl _))⟩
/-! ### sorted(set(xs)) of texts: a set that tells its table -/
structure SetTx (P : Program) (w : World) (h : Heap) (a : Addr) (l : List Str) : Prop where
  ex : ∃ D : PySem.Froz.SD, h.get? a = some (PySem.Froz.sObj "set" D) ∧ PySem.Froz.TxOk P w D l ∧ L2.Ris D.2.2.place.toList ∧ (w.params.followText "set-order" = true ∨ D.2.2.led = true)
theorem perm_of_sub : ∀ {l ks : List Str}, l.Nodup → (∀ x ∈ l, x ∈ ks) → ks.length ≤ l.length → ks.Perm l
  | [], ks, _, _, h => by
    have : ks = [] := List.eq_nil_of_length_eq_zero (Nat.le_zero.mp h)
    rw [this]
  | x :: r, ks, nd, h, le => by
    obtain ⟨n1, n2⟩ := List.nodup_cons.mp nd
    have hx := h x List.mem_cons_self
    have p := List.perm_cons_erase hx
    refine p.trans (.cons x (perm_of_sub n2 (fun y hy => ?_) ?_))
    · have ne : y ≠ x := fun z => n1 (by rw [← z]; exact hy)
      exact (List.mem_erase_of_ne ne).mpr (h y (List.mem_cons_of_mem _ hy))
    · have := p.length_eq
      simp only [List.length_cons] at this le
      omega
section
variable {P : Program} {w : World} {A : Around} {E : Value → Shared → Prop} {s : Shared}
theorem tail_ris {ep : Nat} {es1 : Array (Int × Value)} {t2 : SetTable} {b : Bool} (h : L2.Ris t2.place.toList) : L2.Ris (PySem.Froz.tailTx ep es1 t2 b).2.2.place.toList ∧ (PySem.Froz.tailTx ep es1 t2 b).2.2.led = t2.led := by
  unfold PySem.Froz.tailTx
  split
  · exact ⟨L2.relayAll_ris _ _ _, L2.relayAll_led _ _ _⟩
  · exact ⟨h, rfl⟩
theorem addTx_ris {D : PySem.Froz.SD} {h : Int} {v : Value} (r : L2.Ris D.2.2.place.toList) : L2.Ris (PySem.Froz.addTx h v D).2.2.place.toList ∧ (PySem.Froz.addTx h v D).2.2.led = D.2.2.led := by
  have r1 := L2.layNew_ris D.2.2 D.1 h v r
  have l1 := L2.layNew_led D.2.2 D.1 h v
  unfold PySem.Froz.addTx
  split
  · obtain ⟨a1, a2⟩ := tail_ris (ep := D.2.1) (es1 := (layNew D.2.2 D.1 h v).1) (b := (layNew D.2.2 D.1 h v).2.2.1) (t2 := { (layNew D.2.2 D.1 h v).2.1 with plain := false }) r1
    exact ⟨a1, a2.trans l1⟩
  · obtain ⟨a1, a2⟩ := tail_ris (ep := D.2.1) (es1 := (layNew D.2.2 D.1 h v).1) (b := (layNew D.2.2 D.1 h v).2.2.1) r1
    exact ⟨a1, a2.trans l1⟩
/-- one that is there is put in again -/
theorem add_old {a : Addr} {T : String} {D : PySem.Froz.SD} {l : List Str} {k : Str} {u : Tok} {Q : Bool → Shared → Prop} (ho : s.heap.get? a = some (PySem.Froz.sObj T D)) (F : PySem.Froz.TxOk P w D l) (hk : k ∈ l) (hb : l.length < scanBound) (h : Q false s) :
    wpAny (model P w) A (setAddHashed a (.str k u) (hashStr w k)) Q E s := by
  obtain ⟨es, ep, t⟩ := D
  have hsz : es.size = l.length := F.sz
  have hel : ElemsOf (PySem.strKind P w) es.toList := F.el
  unfold setAddHashed setAddHashedIn
  refine wpAny_holding (wpAny_bind (wpAny_setState_of ho rfl F.fit ?_))
  dsimp only
  rw [byScan_of rfl (by omega) hel]
  simp only [↓reduceIte]
  unfold setAddByScan
  refine wpAny_bind (wpAny_bind (wpAny_rule (wpAny_bind (wpAny_setScan_of (knd := PySem.strKind P w) (k := k) (PySem.Froz.is_str k u) ho rfl F.fit hel ?_))))
  cases hr : List.findIdx? (fun e => (PySem.strKind P w).is k e.2) es.toList with
  | some j => exact wpAny_pure (wpAny_pure h)
  | none =>
    obtain ⟨e, he, q⟩ := (F.mem k).mp hk
    have c := List.findIdx?_eq_none_iff.mp hr e he
    rw [q] at c
    cases c
/-- x into the set -/
theorem setTx_add {a : Addr} {l : List Str} {k : Str} {u : Tok} {Q : Bool → Shared → Prop} (R : SetTx P w s.heap a l) (hb : l.length + 1 < scanBound)
    (h : ∀ h' b, Heap.SameBut a s.heap h' → SetTx P w h' a (if k ∈ l then l else k :: l) → Q b { s with heap := h' }) : wpAny (model P w) A (setAddHashed a (.str k u) (hashStr w k)) Q E s := by
  obtain ⟨D, ho, F, r, ld⟩ := R.ex
  by_cases hk : k ∈ l
  · rw [if_pos hk] at h
    exact add_old ho F hk (by omega) (h s.heap false (Heap.SameBut.refl _ _) R)
  · rw [if_neg hk] at h
    refine PySem.Froz.add_x ho F hk hb (h _ true (Heap.SameBut.update _ _ _) ⟨_, PySem.Froz.get_upd _ ho rfl, PySem.Froz.add_ok u F, (addTx_ris r).1, ?_⟩)
    rw [(addTx_ris r).2]
    exact ld
end
def onceR (xs : List Str) : List Str := xs.foldl (fun l x => if x ∈ l then l else x :: l) []
theorem onceR_snoc (xs : List Str) (x : Str) : onceR (xs ++ [x]) = if x ∈ onceR xs then onceR xs else x :: onceR xs := by
  unfold onceR
  rw [List.foldl_append]
  rfl
theorem onceR_ok : ∀ (xs l : List Str), l.Nodup → (xs.foldl (fun l x => if x ∈ l then l else x :: l) l).Nodup ∧ (∀ y, y ∈ xs.foldl (fun l x => if x ∈ l then l else x :: l) l ↔ y ∈ l ∨ y ∈ xs) ∧ (xs.foldl (fun l x => if x ∈ l then l else x :: l) l).length ≤ l.length + xs.length
  | [], l, h => ⟨h, fun y => by simp, Nat.le_refl _⟩
  | x :: r, l, h => by
    rw [List.foldl_cons]
    by_cases z : x ∈ l
    · rw [if_pos z]
      obtain ⟨a, b, c⟩ := onceR_ok r l h
      refine ⟨a, fun y => (b y).trans ?_, by rw [List.length_cons]; omega⟩
      rw [List.mem_cons]
      constructor
      · rintro (q | q)
        · exact .inl q
        · exact .inr (.inr q)
      · rintro (q | q | q)
        · exact .inl q
        · exact .inl (by rw [q]; exact z)
        · exact .inr q
    · rw [if_neg z]
      obtain ⟨a, b, c⟩ := onceR_ok r (x :: l) (List.nodup_cons.mpr ⟨z, h⟩)
      refine ⟨a, fun y => (b y).trans ?_, by rw [List.length_cons] at c ⊢; omega⟩
      rw [List.mem_cons, List.mem_cons, or_assoc, or_left_comm]
theorem onceR_nodup (xs : List Str) : (onceR xs).Nodup := (onceR_ok xs [] .nil).1
theorem onceR_mem (xs : List Str) (y : Str) : y ∈ onceR xs ↔ y ∈ xs := ((onceR_ok xs [] .nil).2.1 y).trans (by simp)
theorem onceR_len (xs : List Str) : (onceR xs).length ≤ xs.length := Nat.le_trans (onceR_ok xs [] .nil).2.2 (by simp)
section
variable {prog : Program} {w : World} {A : Around}
theorem setTx_loop {R : Result → Shared → Prop} {it : Addr} {fp wr : List Addr} {G : Array GenState → Array GenState → Prop} {n : Nat} {P : Nat → Value → Prop} {St : Nat → Shared → Prop} (W : WalksS prog w A.in1 it fp wr G n P St) (S : Addr) (nS : S ∉ fp) (xs : List Str)
    (len : xs.length = n) (big : n + 1 < scanBound) (val : ∀ i v, P i v → ∃ t, v = .str (xs.getD i Str.empty) t) :
    ∀ (k i : Nat) (s : Shared), n - i = k → i ≤ n → St i s → SetTx prog w s.heap S (onceR (xs.take i)) →
      (∀ s', Moved (S :: wr) G s s' → SetTx prog w s'.heap S (onceR xs) → R (.ok (.ret .none)) s') →
      codeAny (model prog w) A (.builtin "set.update.loop" ⟨[.ref S, .ref it], []⟩) R s := by
  have nW : S ∉ wr := fun h => nS (W.sub _ h)
  have up : ∀ b ∈ wr, b ∈ S :: wr := fun b hb => List.mem_cons_of_mem _ hb
  have stay : ∀ {s s' : Shared} {l : List Str}, Moved wr G s s' → SetTx prog w s.heap S l → SetTx prog w s'.heap S l := fun mv ⟨D, ho, r⟩ => ⟨D, mv.heap S _ nW ho, r⟩
  intro k
  induction k with
  | zero =>
    intro i s hk hi st hS hR
    obtain rfl : i = n := by omega
    refine codeAny_builtin PyProof.Rows.F.entry_set_update_loop ?_
    rw [Around.under_plainId PyProof.Rows.F.plain_set_update_loop _]
    show wpAny _ A.in1 (pyNext (.ref it) >>= _) _ _ s
    refine wpAny_bind (W.done s _ _ st fun s' mv => ?_)
    rw [List.take_of_length_le (Nat.le_of_eq len)] at hS
    exact wpAny_pure (hR s' (mv.mono up) (stay mv hS))
  | succ k ih =>
    intro i s hk hi st hS hR
    have lt : i < n := by omega
    refine codeAny_builtin PyProof.Rows.F.entry_set_update_loop ?_
    rw [Around.under_plainId PyProof.Rows.F.plain_set_update_loop _]
    show wpAny _ A.in1 (pyNext (.ref it) >>= _) _ _ s
    refine wpAny_bind (W.item i s _ _ lt st fun v s' hP st' mv => ?_)
    obtain ⟨t, rfl⟩ := val i v hP
    show wpAny _ A.in1 (holding [Value.str (xs.getD i Str.empty) t] (setAdd S (.str (xs.getD i Str.empty) t)) >>= _) _ _ s'
    refine wpAny_bind (wpAny_holding ?_)
    unfold setAdd
    refine wpAny_holding (wpAny_bind ((PySem.strKind prog w).pyHash (k := xs.getD i Str.empty) (strKind_is _ _ _ _) ?_))
    have small : (onceR (xs.take i)).length + 1 < scanBound := by
      have h := onceR_len (xs.take i)
      rw [List.length_take] at h
      omega
    refine setTx_add (s := { s' with toks := s'.toks + 1 }) (show SetTx prog w s'.heap S _ from stay mv hS) small fun h' b sb hS2 => ?_
    have hx : xs.take (i + 1) = xs.take i ++ [xs.getD i Str.empty] := by
      have hl : i < xs.length := by omega
      rw [List.take_add_one, List.getElem?_eq_getElem hl, List.getD_eq_getElem?_getD, List.getElem?_eq_getElem hl]
      rfl
    rw [← onceR_snoc, ← hx] at hS2
    refine wpAny_pure ⟨plainId_quiet PyProof.Rows.F.plain_set_update_loop _, ih (i + 1) _ (by omega) lt (W.frame _ s' _ _ st' (Nat.le_succ _) fun b hb o e => ?_) hS2 fun s'' mv'' hS'' => ?_⟩
    · rw [sb.2 b (fun z : b = S => nS (by rw [← z]; exact hb))]
      exact e
    · refine hR s'' (Moved.trans W.gtrans ((mv.mono up).then_heap (Nat.le_succ _) fun b o hb e => ?_) mv'') hS''
      rw [sb.2 b (fun z : b = S => hb (by rw [z]; exact List.mem_cons_self))]
      exact e
theorem code_set_led1 {E : Value → Shared → Prop} {s : Shared} (a : Value) {Q₁ : Value → Shared → Prop}
    (h : Q₁ (.ref s.heap.objs.size) { s with heap := s.heap.push (PySem.Froz.sObj "set" (#[], 0, .fresh 0 0 (!w.params.followText "set-order"))) }) :
    codeAny (model prog w) A (.call (.builtin "set.__new__") ⟨[.type "set", a], []⟩) (wants Q₁ E) s := by
  refine codeAny_of_tree ?_
  show wpAny _ A.in1 (do checkBuiltinCall "set.__new__" ⟨[.type "set", a], []⟩; again (.builtin "set.__new__" ⟨[.type "set", a], []⟩)) _ _ s
  refine wpAny_bind (wpAny_of_eq (PySem.F.newCall_set_1 a) (wpAny_pure ⟨plainId_quiet PySem.F.plain_set_new _, codeAny_builtin PySem.F.entry_set_new ?_⟩))
  rw [Around.under_plainId PySem.F.plain_set_new _]
  unfold Builtin.«set.__new__» Builtin.Frozenset.newClass
  have hsub := sub_set_self
  obtain ⟨hp, g, d, tk, os⟩ := s
  dsimp only
  wp_walk
  refine wpAny_askSetting (wpAny_pure ?_)
  dsimp only
  simp only [newObj]
  refine wpAny_bind (wpAny_alloc (wpAny_pure ?_))
  exact wpAny_pure h
abbrev setL (w : World) : Obj := PySem.Froz.sObj "set" (#[], 0, .fresh 0 0 (!w.params.followText "set-order"))
theorem setTx_fresh {h : Heap} : SetTx prog w (h.push (setL w)) h.objs.size (onceR []) :=
  ⟨_, Heap.get?_push_size _ rfl, PySem.Froz.TxOk.nil rfl, List.Pairwise.nil, by
    show _ ∨ (!w.params.followText "set-order") = true
    cases w.params.followText "set-order"
    · exact .inr rfl
    · exact .inl rfl⟩
set_option maxHeartbeats 3200000 in
theorem setTx_of_tuple {E : Value → Shared → Prop} {s : Shared} {l : Addr} {items : Array Value} {xs : List Str} {Q : Value → Shared → Prop} (hh : A.handled = none) (hl : s.heap.IsTuple l items) (hi : PyProof.Rows.StrsAre items.toList xs) (big : xs.length + 1 < scanBound)
    (h : ∀ (h' : Heap) (tk : Nat), SetTx prog w h' s.heap.objs.size (onceR xs) →
      (∀ b o, b < s.heap.objs.size → s.heap.get? b = some o → h'.get? b = some o) → Q (.ref s.heap.objs.size) { s with heap := h', toks := tk }) :
    wpAny (model prog w) A (call (.type "set") [.ref l]) Q E s := by
  obtain ⟨c, tl, hmro⟩ := PySem.F.called_set.mro
  have hmade := PySem.F.called_set.made
  have hsub := PySem.F.called_set.sub
  refine wpAny_call (codeAny_of_tree ?_)
  show wpAny _ _ (callAny (.type "set") _) _ _ _
  refine wpAny_pure ⟨Code.quiet_builtin _ (by decide +kernel), codeAny_builtin PySem.F.entry_type_call ?_⟩
  rw [Around.under_plain (weight_type_call_type "set" [.ref l] []) rfl]
  have h1 := PySem.F.called_set.notType
  have h2 := PySem.F.called_set.canCreate
  have hct := PySem.F.typeCall_set_1 (.ref l)
  repeat (any_goals (first | assumption | wp_step))
  refine codeAny_mono (code_set_led1 (.ref l) (E := E) (Q₁ := fun obj s₁ => obj = .ref s.heap.objs.size ∧ s₁ = { s with heap := s.heap.push (setL w) }) ⟨rfl, rfl⟩) fun r s₁ hr => ?_
  cases r with
  | error e => exact hr
  | ok fl =>
    cases fl with
    | ret obj =>
      obtain ⟨rfl, rfl⟩ := hr
      have hS : (s.heap.push (setL w)).get? s.heap.objs.size = some (setL w) := Heap.get?_push_size _ rfl
      have hT : Shared.TypeIs { s with heap := s.heap.push (setL w) } (.ref s.heap.objs.size) "set" := ⟨_, hS, rfl⟩
      have hli := PySem.F.called_set.init.lookup
      have hbi := PySem.F.called_set.init.bind (.ref s.heap.objs.size)
      repeat (any_goals (first | assumption | wp_step))
      refine codeAny_mono (codeAny_call_builtin (R := wants (fun r s₂ => r = .none ∧ ∃ h' tk, s₂ = { s with heap := h', toks := tk } ∧
          SetTx prog w h' s.heap.objs.size (onceR xs) ∧
          (∀ b o, b < s.heap.objs.size → s.heap.get? b = some o → h'.get? b = some o)) E) PySem.F.called_set.init.plain PySem.F.entry_set_init (check_set_init_1 hT ?_)) fun r₂ s₂ hr₂ => ?_
      · obtain ⟨⟨ocls, odict, odata, oslots⟩, hol, hcl, nl, hdl⟩ := hl
        simp only at hcl hdl
        subst hcl; subst hdl
        have hol' : (s.heap.push (setL w)).get? l = some { cls := .type "tuple", dict := odict, data := .seq items nl, slots := oslots } := Heap.get?_push_of_some _ hol
        have hsls := PySem.F.sub_tuple_set
        have hslf := PySem.F.sub_tuple_frozenset
        have hne : (Value.type "tuple" == Value.type "dict") = false := by decide
        have hl1 : (s.heap.push (setL w)).IsTuple l items := ⟨_, hol', rfl, nl, rfl⟩
        unfold Builtin.«set.__init__» noKeywords Builtin.Frozenset.updateFrom
        generalize hPI : pyIter = PI
        wp_walk
        subst hPI
        refine wpAny_pyIter_tuple hl1 ?_
        refine wpAny_bind (wpAny_runValue ?_)
        have ltl : l < s.heap.objs.size := Heap.lt_size hol
        have szP : (s.heap.push (setL w)).objs.size = s.heap.objs.size + 1 := Heap.size_push ..
        have hh3 : A.in1.in1.in1.handled = none := hh
        have neI : l ≠ (s.heap.push (setL w)).objs.size := by rw [szP]; exact Nat.ne_of_lt (Nat.lt_succ_of_lt ltl)
        have len : xs.length = items.size := by rw [← StrsAre.len_eq hi, Array.length_toList]
        refine setTx_loop ((Walks.tuple hh3 _ l neI items).toS) s.heap.objs.size ?n xs len (by rw [← len]; exact big)
          (fun i v hv => SS.strs_at hi i v (by rw [Array.getElem?_toList]; exact hv)) (items.size - 0) 0 _ (by omega) (Nat.zero_le _) ⟨⟨_, Heap.get?_push_size _ rfl, rfl, rfl⟩, (hl1.push _)⟩ ?z ?r
        case n =>
          rw [szP]
          simp only [List.mem_cons, List.not_mem_nil, or_false, not_or]
          exact ⟨Nat.ne_of_lt (Nat.lt_succ_self _), Nat.ne_of_gt ltl⟩
        case z =>
          obtain ⟨D, q1, q2⟩ := (setTx_fresh (prog := prog) (w := w) (h := s.heap)).ex
          exact ⟨D, Heap.get?_push_of_some _ q1, q2⟩
        case r =>
          intro s' mv hS'
          obtain ⟨h', g', d', tk', os'⟩ := s'
          obtain rfl : g' = s.gens := mv.gens
          obtain rfl : d' = s.drawn := mv.drawn
          obtain rfl : os' = s.os := mv.os
          refine wpAny_pure ?_
          show wpAny _ _ (ret Value.none) _ _ _
          refine wpAny_pure ⟨rfl, h', tk', rfl, hS', fun b o hb e => mv.heap b o ?_ (Heap.get?_push_of_some _ (Heap.get?_push_of_some _ e))⟩
          rw [szP]
          simp only [List.mem_cons, List.not_mem_nil, or_false, not_or]
          exact ⟨Nat.ne_of_lt hb, Nat.ne_of_lt (Nat.lt_succ_of_lt hb)⟩
      · cases r₂ with
        | error e => exact hr₂
        | ok fl₂ =>
          cases fl₂ with
          | ret r =>
            obtain ⟨rfl, h', tk, rfl, hS', hk'⟩ := hr₂
            repeat (any_goals (first | assumption | wp_step))
            exact h _ _ hS' hk'
          | _ => exact hr₂.elim
    | _ => exact hr.elim
set_option maxHeartbeats 3200000 in
theorem setTx_of_list {E : Value → Shared → Prop} {s : Shared} {l : Addr} {items : Array Value} {xs : List Str} {Q : Value → Shared → Prop} (hh : A.handled = none) (hl : s.heap.IsList l items) (hi : PyProof.Rows.StrsAre items.toList xs) (big : xs.length + 1 < scanBound)
    (h : ∀ (h' : Heap) (tk : Nat), SetTx prog w h' s.heap.objs.size (onceR xs) →
      (∀ b o, b < s.heap.objs.size → s.heap.get? b = some o → h'.get? b = some o) → Q (.ref s.heap.objs.size) { s with heap := h', toks := tk }) :
    wpAny (model prog w) A (call (.type "set") [.ref l]) Q E s := by
  obtain ⟨c, tl, hmro⟩ := PySem.F.called_set.mro
  have hmade := PySem.F.called_set.made
  have hsub := PySem.F.called_set.sub
  refine wpAny_call (codeAny_of_tree ?_)
  show wpAny _ _ (callAny (.type "set") _) _ _ _
  refine wpAny_pure ⟨Code.quiet_builtin _ (by decide +kernel), codeAny_builtin PySem.F.entry_type_call ?_⟩
  rw [Around.under_plain (weight_type_call_type "set" [.ref l] []) rfl]
  have h1 := PySem.F.called_set.notType
  have h2 := PySem.F.called_set.canCreate
  have hct := PySem.F.typeCall_set_1 (.ref l)
  repeat (any_goals (first | assumption | wp_step))
  refine codeAny_mono (code_set_led1 (.ref l) (E := E) (Q₁ := fun obj s₁ => obj = .ref s.heap.objs.size ∧ s₁ = { s with heap := s.heap.push (setL w) }) ⟨rfl, rfl⟩) fun r s₁ hr => ?_
  cases r with
  | error e => exact hr
  | ok fl =>
    cases fl with
    | ret obj =>
      obtain ⟨rfl, rfl⟩ := hr
      have hS : (s.heap.push (setL w)).get? s.heap.objs.size = some (setL w) := Heap.get?_push_size _ rfl
      have hT : Shared.TypeIs { s with heap := s.heap.push (setL w) } (.ref s.heap.objs.size) "set" := ⟨_, hS, rfl⟩
      have hli := PySem.F.called_set.init.lookup
      have hbi := PySem.F.called_set.init.bind (.ref s.heap.objs.size)
      repeat (any_goals (first | assumption | wp_step))
      refine codeAny_mono (codeAny_call_builtin (R := wants (fun r s₂ => r = .none ∧ ∃ h' tk, s₂ = { s with heap := h', toks := tk } ∧
          SetTx prog w h' s.heap.objs.size (onceR xs) ∧
          (∀ b o, b < s.heap.objs.size → s.heap.get? b = some o → h'.get? b = some o)) E) PySem.F.called_set.init.plain PySem.F.entry_set_init (check_set_init_1 hT ?_)) fun r₂ s₂ hr₂ => ?_
      · obtain ⟨⟨ocls, odict, odata, oslots⟩, hol, hcl, nl, hdl⟩ := hl
        simp only at hcl hdl
        subst hcl; subst hdl
        have hol' : (s.heap.push (setL w)).get? l = some { cls := .type "list", dict := odict, data := .seq items nl, slots := oslots } := Heap.get?_push_of_some _ hol
        have hsls := PySem.F.sub_list_set
        have hslf := PySem.F.sub_list_frozenset
        have hne : (Value.type "list" == Value.type "dict") = false := by decide
        have hl1 : (s.heap.push (setL w)).IsList l items := ⟨_, hol', rfl, nl, rfl⟩
        unfold Builtin.«set.__init__» noKeywords Builtin.Frozenset.updateFrom
        generalize hPI : pyIter = PI
        wp_walk
        subst hPI
        refine wpAny_pyIter_list hl1 ?_
        refine wpAny_bind (wpAny_runValue ?_)
        have ltl : l < s.heap.objs.size := Heap.lt_size hol
        have szP : (s.heap.push (setL w)).objs.size = s.heap.objs.size + 1 := Heap.size_push ..
        have hh3 : A.in1.in1.in1.handled = none := hh
        have neI : l ≠ (s.heap.push (setL w)).objs.size := by rw [szP]; exact Nat.ne_of_lt (Nat.lt_succ_of_lt ltl)
        have len : xs.length = items.size := by rw [← StrsAre.len_eq hi, Array.length_toList]
        refine setTx_loop ((Walks.list hh3 _ l neI items).toS) s.heap.objs.size ?n xs len (by rw [← len]; exact big)
          (fun i v hv => SS.strs_at hi i v (by rw [Array.getElem?_toList]; exact hv)) (items.size - 0) 0 _ (by omega) (Nat.zero_le _) ⟨⟨_, Heap.get?_push_size _ rfl, rfl, rfl⟩, (hl1.push _)⟩ ?z ?r
        case n =>
          rw [szP]
          simp only [List.mem_cons, List.not_mem_nil, or_false, not_or]
          exact ⟨Nat.ne_of_lt (Nat.lt_succ_self _), Nat.ne_of_gt ltl⟩
        case z =>
          obtain ⟨D, q1, q2⟩ := (setTx_fresh (prog := prog) (w := w) (h := s.heap)).ex
          exact ⟨D, Heap.get?_push_of_some _ q1, q2⟩
        case r =>
          intro s' mv hS'
          obtain ⟨h', g', d', tk', os'⟩ := s'
          obtain rfl : g' = s.gens := mv.gens
          obtain rfl : d' = s.drawn := mv.drawn
          obtain rfl : os' = s.os := mv.os
          refine wpAny_pure ?_
          show wpAny _ _ (ret Value.none) _ _ _
          refine wpAny_pure ⟨rfl, h', tk', rfl, hS', fun b o hb e => mv.heap b o ?_ (Heap.get?_push_of_some _ (Heap.get?_push_of_some _ e))⟩
          rw [szP]
          simp only [List.mem_cons, List.not_mem_nil, or_false, not_or]
          exact ⟨Nat.ne_of_lt hb, Nat.ne_of_lt (Nat.lt_succ_of_lt hb)⟩
      · cases r₂ with
        | error e => exact hr₂
        | ok fl₂ =>
          cases fl₂ with
          | ret r =>
            obtain ⟨rfl, h', tk, rfl, hS', hk'⟩ := hr₂
            repeat (any_goals (first | assumption | wp_step))
            exact h _ _ hS' hk'
          | _ => exact hr₂.elim
    | _ => exact hr.elim
end
def strV : Value → Str
  | .str k _ => k
  | _ => Str.empty
theorem strs_are : ∀ vs : List Value, (∀ v ∈ vs, ∃ k tk, v = Value.str k tk) → StrsAre vs (vs.map strV)
  | [], _ => .nil
  | v :: r, h => by
    obtain ⟨k, tk, rfl⟩ := h v List.mem_cons_self
    exact .cons k tk (strs_are r fun u hu => h u (List.mem_cons_of_mem _ hu))
theorem isStr_shape {P : Program} {w : World} {k : Str} {v : Value} (h : (PySem.strKind P w).is k v = true) : ∃ tk, v = .str k tk := Value.isStrOf_shape h
/-- sorted(s) of a set of texts -/
theorem sorted_setTx {P : Program} {w : World} {A : Around} {E : Value → Shared → Prop} {s : Shared} {a : Addr} {l : List Str} {Q : Value → Shared → Prop} (R : SetTx P w s.heap a l) (nd : l.Nodup) (hh : A.handled = none) (h64 : l.length < 64)
    (hQ : ∀ s' p (out : Array Value) (c : Nat) (ys : List Str), (∀ b o, s.heap.get? b = some o → s'.heap.get? b = some o) → s'.gens = s.gens → s'.os = s.os → s.heap.objs.size ≤ p →
      s'.heap.get? p = some (seqObj "list" out c) → StrsAre out.toList ys → ys.Perm l → sortedS ys = true → Q (.ref p) s') :
    wpAny (model P w) A (call (.builtin "sorted") [.ref a]) Q E s := by
  obtain ⟨D, ho, F, r, ld⟩ := R.ex
  obtain ⟨es, ep, t⟩ := D
  have hsz : es.size = l.length := F.sz
  refine sorted_by (L2.collect_set (A := A.in1) (es := es) (ep := ep) (t := t) hh ⟨_, ho, rfl, rfl⟩ F.fit (by unfold scanBound; omega) r ld fun s1 vs k1 hz g1 o1 pm => ?_)
  have sh : ∀ v ∈ vs, ∃ k tk, v = Value.str k tk := fun v hv => by
    obtain ⟨e, he, q⟩ := List.mem_map.mp (pm.mem_iff.mp hv)
    obtain ⟨⟨k, hk, _⟩, _⟩ := F.el e he
    obtain ⟨tk, z⟩ := isStr_shape hk
    exact ⟨k, tk, by rw [← q, z]⟩
  have len : vs.length = l.length := by rw [pm.length_eq, List.length_map, Array.length_toList]; exact hsz
  have pl : (vs.map strV).Perm l := perm_of_sub nd (fun x hx => by
    obtain ⟨e, he, q⟩ := (F.mem x).mp hx
    obtain ⟨tk, z⟩ := isStr_shape q
    exact List.mem_map.mpr ⟨.str x tk, pm.mem_iff.mpr (List.mem_map.mpr ⟨e, he, z⟩), rfl⟩) (by rw [List.length_map, len]; exact Nat.le_refl _)
  refine ⟨vs.map strV, strs_are vs sh, by rw [len]; exact h64, fun out ys h' c q1 q2 q3 q4 q5 => ?_⟩
  exact hQ _ _ out c ys (fun b o e => q4 b o (k1 b o e)) g1 o1 hz q5 q1 (q2.trans pl) q3
def tSortSet (K : PySem.W.Frag) (ta : TE) : TE := fun σ H Q => ta σ H fun x H1 => ∃ l, ∃ xs : List Str, x = .ref l ∧ (SqT K H1 l (xs.map V.str) ∨ SqL K H1 l (xs.map V.str)) ∧ (onceR xs).length < 64 ∧ xs.length ≤ 1000 ∧
  ∀ (ys : List Str) (p : Addr), ys.Perm (onceR xs) → sortedS ys = true → H1 p = none → Q (.ref p) (upd H1 p (.lst (ys.map V.str)))
theorem pe_sortSet {X : Cx} {a : Expr} {ta : TE} {p p2 q pos : Pos} (hc : X.calm = true) (hg : Gl X "sorted") (hm : X.mg "sorted" = none) (hg2 : Gl X "set") (hm2 : X.mg "set" = none) (ha : PE X a ta)
    (na : starEach [a] X.env = (false, eval a X.env) :: starEach [] X.env := by rfl) : PE X (.Call (.Name "sorted" p) [.Call (.Name "set" p2) [a] [] q] [] pos) (tSortSet X.K ta) := by
  refine ⟨fun pins s σ H Q I h => Call_ (ld_blt I hg hm boot_sorted (PyProof.Rows.callWith_builtin1 (PyProof.Rows.args_cons ?_ rfl) rfl rfl))⟩
  refine Call_ (ld_blt I hg2 hm2 boot_set (PyProof.Rows.callWith_type1 (PyProof.Rows.args_cons (thn (ha.run pins s σ H _ I h) fun v s1 ⟨x, H1, I1, r1, q1⟩ => PyProof.Rows.args_nil ?_) na) na rfl))
  obtain ⟨l, xs, rfl, hq, l64, le, q1⟩ := q1
  cases r1
  have fin : ∀ (h' : Heap) (tk : Nat), SetTx X.prog X.w h' s1.heap.objs.size (onceR xs) → (∀ b o, b < s1.heap.objs.size → s1.heap.get? b = some o → h'.get? b = some o) →
      wpAny (model X.prog X.w) X.A (call (.builtin "sorted") [.ref s1.heap.objs.size]) (fun v s' => ∃ x H2, Inv X pins σ H2 s' ∧ RelV x v ∧ Q x H2) X.xe { s1 with heap := h', toks := tk } := fun h' tk hS hk => by
    have I2 : Inv X pins σ H1 { s1 with heap := h', toks := tk } := I1.kept fun b o e => hk b o (Heap.lt_size e) e
    refine sorted_setTx hS (onceR_nodup xs) (I1.ok.hd hc) l64 fun s' p out c ys k g o hp hgp hi pm hs => ?_
    have hlen : (ys.map V.str).length ≤ sizeLine := by rw [List.length_map, pm.length_eq]; exact small64 l64
    have hn : H1 p = none := I2.hok.fresh hp
    have J : Inv X pins σ (upd H1 p (.lst (ys.map V.str))) { ({ s1 with heap := h', toks := tk } : Shared) with heap := s'.heap, gens := s'.gens, drawn := s'.drawn, toks := s'.toks } :=
      I2.call (ch := []) (Un.laid k hp hn) (I2.hok.laid k hp ⟨hlen, out.toList, c, vals_of_strs hi, hgp⟩) (by rw [g]; exact I2.bare) (fun _ z => nomatch z)
    have e : s' = { ({ s1 with heap := h', toks := tk } : Shared) with heap := s'.heap, gens := s'.gens, drawn := s'.drawn, toks := s'.toks } := by
      cases s'
      cases s1
      cases o
      rfl
    rw [e]
    exact ⟨.ref p, _, J, rfl, q1 ys p pm hs hn⟩
  rcases hq with hq | hq
  · obtain ⟨its, r, pl, hz⟩ := I1.tuple hq
    exact setTx_of_tuple (I1.ok.hd hc) pl (by simpa using strsAre_of r) (by unfold scanBound; omega) fun h' tk hS hk => PyProof.Rows.args_nil (fin h' tk hS hk)
  · obtain ⟨its, r, pl, hz⟩ := I1.list hq
    exact setTx_of_list (I1.ok.hd hc) pl.isList (by simpa using strsAre_of r) (by unfold scanBound; omega) fun h' tk hS hk => PyProof.Rows.args_nil (fin h' tk hS hk)
/-! ### x in d.values(), texts -/
section
variable {prog : Program} {w : World} {A : Around} {E : Value → Shared → Prop} {s : Shared}
theorem plain_ci : plainId "proto.contains_iter" = true := by decide +kernel
theorem entry_ci : entryFor table "proto.contains_iter" = some Builtin.«proto.contains_iter» := entryFor_of_tree (by kernel_rfl)
theorem nocont_vals : typeLookup (.type "dict_values") "__contains__" = pure none := by rw [typeLookup_type, builtinLookup_eq_fast]; kernel_rfl
theorem ci_loop {it d : Addr} {ep : Nat} {vs : List (Key × Value)} {ys : List Str} {z : Str} {t : Tok} (hA : A.handled = none) (hv : ∀ (i : Nat) (p : Key × Value), vs[i]? = some p → ∃ y u, ys[i]? = some y ∧ p.2 = .str y u) (hl : ys.length = vs.length) (hdi : d ≠ it) {R : Result → Shared → Prop} :
    ∀ (n i : Nat) (s : Shared), i + n = vs.length → s.heap.IsValIter it d i vs.length ep → s.heap.DictAt (mixKind prog w) d vs ep → (∀ h', Heap.ExtBut it s.heap h' → R (.ok (.ret (.bool (decide (z ∈ ys.drop i))))) { s with heap := h' }) →
      codeAny (model prog w) A (.builtin "proto.contains_iter" ⟨[.ref it, .str z t], []⟩) R s
  | 0, i, s, hn, hit, hd, hR => by
    refine codeAny_builtin entry_ci ?_
    rw [Around.under_plainId plain_ci]
    unfold Builtin.«proto.contains_iter»
    refine wpAny_bind (wpAny_pyNext_values_end hA hit hd (List.getElem?_eq_none (by omega)) fun h' eb => ?_)
    refine wpAny_bind (wpAny_rule (wpAny_pure ?_))
    have e : ys.drop i = [] := List.drop_eq_nil_of_le (by omega)
    have q := hR h' eb
    rw [e] at q
    exact q
  | n + 1, i, s, hn, hit, hd, hR => by
    refine codeAny_builtin entry_ci ?_
    rw [Around.under_plainId plain_ci]
    unfold Builtin.«proto.contains_iter»
    obtain ⟨p, hp⟩ : ∃ p, vs[i]? = some p := ⟨_, List.getElem?_eq_getElem (by omega)⟩
    obtain ⟨y, u, hy, ev⟩ := hv i p hp
    have ed : ys.drop i = y :: ys.drop (i + 1) := by
      rw [List.drop_eq_getElem_cons (by omega)]
      rw [List.getElem?_eq_getElem (by omega)] at hy
      rw [Option.some.inj hy]
    refine wpAny_bind (wpAny_pyNext_values_item hit hd (k := p.1) (v := p.2) hp fun h' hit' sb => ?_)
    rw [ev]
    refine wpAny_bind ((mixKind prog w).eqBool (a := Sum.inr y) (b := Sum.inr z) (kV_is (k := Sum.inr y) ⟨u, rfl⟩) (kV_is (k := Sum.inr z) ⟨t, rfl⟩) ?_)
    by_cases e : y = z
    · rw [if_pos (by simp [e])]
      refine wpAny_bind (wpAny_rule (wpAny_pure ?_))
      have q := hR h' fun b o hb eo => (sb.2 b hb).trans eo
      rw [ed, decide_eq_true (by rw [e]; exact List.mem_cons_self)] at q
      exact q
    · rw [if_neg (by simp [e])]
      refine wpAny_pure ⟨plainId_quiet plain_ci _, ci_loop hA hv hl hdi n (i + 1) { s with heap := h' } (by omega) hit' (let ⟨o, es, ho, r⟩ := hd; ⟨o, es, (sb.2 d hdi).trans ho, r⟩) fun h2 eb2 => ?_⟩
      have q := hR h2 (fun b o hb eo => eb2 b o hb ((sb.2 b hb).trans eo))
      rw [ed] at q
      have e2 : decide (z ∈ y :: ys.drop (i + 1)) = decide (z ∈ ys.drop (i + 1)) := by
        have : ¬ z = y := fun h => e h.symm
        simp [this]
      rw [e2] at q
      exact q
end
def valsO (v d : Addr) : HO := .ext fun h => h.get? v = some { cls := .type "dict_values", data := .fields #[.ref d] }
/-- d.values(), as a value -/
def tVals (td : TE) : TE := fun σ H Q => td σ H fun x H1 => ∃ (d : Addr) (kvs : List (Key × V)), x = .ref d ∧ H1 d = some (.dK kvs) ∧ ∀ v, H1 v = none → Q (.ref v) (upd H1 v (valsO v d))
theorem pe_vals {X : Cx} {e : Expr} {td : TE} {apos cpos : Pos} (he : PE X e td) (hbase : attributeBase e "values" X.env (eval e X.env) = eval e X.env := by rfl) (hline : (apos.endLine == cpos.line) = true := by rfl) :
    PE X (.Call (.Attribute e "values" apos) [] [] cpos) (tVals td) := by
  refine ⟨fun pins s σ H Q I h => ?_⟩
  refine wpAny_Call_method (T := "dict") (id := "dict.values") hbase rfl hline F.plainAttrs_dict F.slot_dict_values F.type_dict_values (thn (he.run pins s σ H _ I h) ?_)
  rintro u s1 ⟨x, H1, I1, rx, d, kvs, rfl, hd, q⟩
  obtain rfl : u = Value.ref d := rx
  obtain ⟨_, dS, vs, rel, dd⟩ := dk_of I1.hok hd
  refine ⟨dd.typeIs, dd.mapOf.noDict, ?_⟩
  show wpAny _ _ (callWith cpos (.builtin "dict.values") [.ref d] [] []) _ X.xe s1
  refine method_meetsIn F.slot_dict_values F.entry_dict_values rfl (PySem.evalArgs_none ⟨rfl, dd.typeIs, F.args_dict_values_1 _, _, meets_dict_values (mixKind X.prog X.w) d dS, ⟨vs, dd⟩, ?_⟩)
  refine ⟨.ref s1.heap.objs.size, _, I1.laid (t' := s1.toks) (a := s1.heap.objs.size) (o := valsO s1.heap.objs.size d) (fun b ob q => Heap.get?_push_of_some _ q) (Nat.le_refl _) ?_, rfl, q _ (I1.hok.fresh (Nat.le_refl _))⟩
  have e : (s1.heap.push { cls := .type "dict_values", data := .fields #[.ref d] }).get? s1.heap.objs.size = some { cls := .type "dict_values", data := .fields #[.ref d] } := Heap.get?_push_size _ rfl
  exact ⟨e, ⟨_, e⟩, fun h1 h2 p k => k _ p⟩
def rInVals : R2 := fun x y H Q => ∃ (z : Str) (v d : Addr) (kvs : List (Key × V)) (ys : List Str), x = .str z ∧ y = .ref v ∧ H v = some (valsO v d) ∧ H d = some (.dK kvs) ∧ kvs.map (·.2) = ys.map V.str ∧ Q (.bl (decide (z ∈ ys))) H
theorem op_inVals {X : Cx} (hc : X.calm = true) : OpR X (compareOp .In) rInVals := by
  rintro pins s σ H x y vx vy Q I rx ry ⟨z, v, d, kvs, ys, rfl, rfl, hv, hd, hy, q⟩
  obtain ⟨t, rfl⟩ : ∃ t, vx = Value.str z t := rx
  obtain rfl : vy = Value.ref v := ry
  obtain ⟨ev, _, _⟩ := I.hok v _ hv
  obtain ⟨_, dS, vs, rel, o, es, ep, dd⟩ := dk_of I.hok hd
  have dA : s.heap.DictAt (mixKind X.prog X.w) d vs ep := ⟨o, es, dd⟩
  have tv : s.TypeIs (.ref v) "dict_values" := ⟨_, ev, rfl⟩
  have lv : kvs.length = vs.length := Paired.length rel
  have ly : ys.length = vs.length := by
    have := congrArg List.length hy
    rw [List.length_map, List.length_map] at this
    omega
  show wpAny _ _ (contains (.ref v) (.str z t) >>= fun b => pure (Value.bool b)) _ _ s
  refine wpAny_bind ?_
  unfold contains
  refine wpAny_holding ?_
  show wpAny _ _ (specialOf (.ref v) "__contains__" >>= _) _ _ s
  refine wpAny_bind (wpAny_specialOf tv nocont_vals ?_)
  show wpAny _ _ (if ((none : Option Value) == some Value.none) = true then _ else _) _ _ s
  rw [if_neg (by decide)]
  refine wpAny_bind (wpAny_callSpecialUnlessNone?_none tv nocont_vals ?_)
  refine wpAny_bind (wpAny_rule ?_)
  refine wpAny_bind (wpAny_tryCatch (wpAny_pyIter_values (d := d) (knd := mixKind X.prog X.w) ⟨_, ev, rfl, rfl⟩ dA ?_))
  have nvi : d ≠ s.heap.objs.size := Nat.ne_of_lt (Heap.lt_size dd.1)
  refine wpAny_bind (wpAny_runValue (ci_loop (ys := ys) (I.ok.hd hc) ?_ ly nvi vs.length 0 _ (by omega) ⟨_, Heap.get?_push_size _ rfl, rfl, rfl⟩ ?_ fun h' eb => ?_))
  · intro i p hp
    have hi : i < vs.length := (List.getElem?_eq_some_iff.mp hp).1
    obtain ⟨⟨k, v'⟩, hk⟩ : ∃ e, kvs[i]? = some e := ⟨_, List.getElem?_eq_getElem (by omega)⟩
    obtain ⟨u, hu, ru⟩ := kv_get rel hk
    obtain ⟨y, hy'⟩ : ∃ y, ys[i]? = some y := ⟨_, List.getElem?_eq_getElem (by omega)⟩
    have e1 : (kvs.map (·.2))[i]? = some v' := by rw [List.getElem?_map, hk]; rfl
    rw [hy, List.getElem?_map, hy'] at e1
    obtain rfl : V.str y = v' := Option.some.inj e1
    obtain ⟨t2, rfl⟩ := ru
    rw [hp] at hu
    exact ⟨y, t2, hy', by rw [Option.some.inj hu]⟩
  · exact ⟨o, es, Heap.get?_push_of_some _ dd.1, dd.2⟩
  · refine wpAny_pure (wpAny_pure ⟨.bl _, H, I.kept (t' := s.toks) (fun b ob e => eb b ob (Nat.ne_of_lt (Heap.lt_size e)) (Heap.get?_push_of_some _ e)), rfl, ?_⟩)
    rw [List.drop_zero]
    exact q
/-! ### d.setdefault, list(d.values()), walks over lists and tuples -/
namespace Sdf
section
variable {prog : Program} {w : World} {K : Type} [DecidableEq K] {knd : KeyKind prog w K} {A : Around} {E : Value → Shared → Prop} {s : Shared}
theorem sdf_pairs {d : Addr} {kvs : List (K × Value)} {k : K} {key dflt : Value} {Q : Value → Shared → Prop} (hkey : knd.is k key = true) (hm : s.heap.DictOf knd d kvs) (hsz : kvs.length ≤ sizeLine)
    (hthere : ∀ v, valueAt kvs k = some v → Q v { s with toks := s.toks + 1 })
    (hnew : valueAt kvs k = none → ∀ h', h'.DictOf knd d (stored kvs k dflt) → Heap.SameBut d s.heap h' → Q dflt { s with heap := h', toks := s.toks + 1 }) :
    wpAny (model prog w) A (dictSetDefault d key dflt) Q E s := by
  have hm0 := hm.mapOf
  obtain ⟨o, es, ep, ho, hc, hd, hk, hp, hn⟩ := hm
  have hes : es.size ≤ sizeLine := by
    have e1 := hp.length
    have e2 : es.toList.length = es.size := by simp
    omega
  have hf : ∀ x, findBy knd.is es x = valueAt kvs x := fun x => by
    rw [← hp.find x]
    obtain ⟨l⟩ := es
    simp [findBy]
  unfold dictSetDefault
  try with_reducible refine wpAny_holding ?_
  refine wpAny_bind (knd.pyHash hkey ?_)
  refine wpAny_bind (wpAny_dictFind_of (s := { s with toks := s.toks + 1 }) hkey ho hd hk ?_)
  have hidx : (es.findIdx? fun e => knd.is k e.key) = kvs.findIdx? fun kv => decide (kv.1 = k) := by
    rw [← hp.findIdx k]; obtain ⟨l⟩ := es; simp
  cases hi : es.findIdx? fun e => knd.is k e.key with
  | some i =>
    have hfk : valueAt kvs k = (es[i]?).map (·.val) := by rw [← hf k, findBy_of_findIdx?, hi]
    refine wpAny_bind (wpAny_dictEntries (s := { s with toks := s.toks + 1 }) ho hd ?_)
    cases he : es[i]? with
    | none =>
      exfalso
      have := Array.findIdx?_eq_some_iff_findIdx_eq.mp hi
      have hlt : i < es.size := this.1
      rw [Array.getElem?_eq_getElem hlt] at he
      exact nomatch he
    | some e =>
      rw [he] at hfk
      exact wpAny_bind (wpAny_rule (wpAny_pure (hthere e.val hfk)))
  | none =>
    have hfk : valueAt kvs k = none := by rw [← hf k, findBy_of_findIdx?, hi]
    have hnot : k ∉ kvs.map (·.1) := not_mem_of_findIdx_none (hidx ▸ hi)
    have hany : ¬ (kvs.any fun kv => decide (kv.1 = k)) = true := by
      rw [List.any_eq_true]; rintro ⟨kv, hkv, he⟩
      exact hnot (List.mem_map.mpr ⟨kv, hkv, of_decide_eq_true he⟩)
    refine wpAny_bind (wpAny_rule (wpAny_bind (wpAny_updateDictKeys (hz := hes) (s := { s with toks := s.toks + 1 }) ho hd (wpAny_pure (hnew hfk _ ⟨_, _, ep + 1, Heap.get?_update_self _ ho (Obj.isFreed_of_dict (Obj.data_mapDictKeys hd _)),
      hc.mapDictKeys _, Obj.data_mapDictKeys hd _, hk.push hkey _, ?_, ?_⟩ (Heap.SameBut.update ..))))))
    · rw [stored, if_neg hany]
      have := hp.append hkey (knd.hash k) dflt
      obtain ⟨l⟩ := es
      simpa using this
    · rw [stored, if_neg hany, List.map_append, List.nodup_append]
      refine ⟨hn, by simp, ?_⟩
      intro a ha b hb
      simp only [List.map_cons, List.map_nil, List.mem_singleton] at hb
      subst hb
      exact fun e => hnot (e ▸ ha)
theorem meets_sdf (knd : KeyKind prog w K) {k : K} {key : Value} (d : Addr) (hkey : knd.is k key = true) (hd : (d == sysModules) = false) (dflt : Value) :
    MeetsIn prog w (Builtin.«dict.setdefault» ⟨[.ref d, key, dflt], []⟩) (fun _ R s => ∃ kvs, s.heap.DictOf knd d kvs ∧ kvs.length ≤ sizeLine ∧
      (∀ v, valueAt kvs k = some v → R (.ok (.ret v)) { s with toks := s.toks + 1 }) ∧
      (valueAt kvs k = none → ∀ h', h'.DictOf knd d (stored kvs k dflt) → Heap.SameBut d s.heap h' → R (.ok (.ret dflt)) { s with heap := h', toks := s.toks + 1 })) :=
  .of_wp fun A R s ⟨kvs, hm, hz, h1, h2⟩ => by
    unfold Builtin.«dict.setdefault»
    refine wpAny_bind ?_
    unfold Builtin.Dict.keyAndDefault
    refine wpAny_bind (wpAny_notOrdered_dict hm.typeIs ?_)
    show wpAny _ _ (pure (d, key, some dflt)) _ _ s
    refine wpAny_pure ?_
    show wpAny _ _ (if (d == sysModules) = true then _ else (dictSetDefault d key dflt >>= _)) _ _ s
    rw [if_neg (by rw [hd]; exact Bool.false_ne_true)]
    exact wpAny_bind (sdf_pairs hkey hm hz (fun v hv => wpAny_pure ⟨v, rfl, h1 v hv⟩) fun hn h' hm' hs' => wpAny_pure ⟨dflt, rfl, h2 hn h' hm' hs'⟩)
end
section
variable {X : Cx} {pins : List (Addr × Obj)} {σ : L2.St} {H : Hp} {s : Shared} {a : Addr} {A : Around} {E : Value → Shared → Prop}
theorem d_sdf {kvs : List (Key × V)} {k : Key} {z : V} {u r : Value} {Q : Value → Shared → Prop} (I : Inv X pins σ H s) (e : H a = some (.dK kvs)) (lt : kvs.length < sizeLine) (ry : RelV (kV k) u) (rz : RelV z r)
    (h1 : ∀ v w' s', valV kvs k = some v → Inv X pins σ H s' → RelV v w' → Q w' s') (h2 : ∀ s', valV kvs k = none → Inv X pins σ (upd H a (.dK (putK kvs k z))) s' → Q r s') :
    wpAny (model X.prog X.w) A (call (.builtin "dict.setdefault") [.ref a, u, r]) Q E s := by
  obtain ⟨zz, hd, vs, rel, dd⟩ := dk_of I.hok e
  have hz : vs.length ≤ sizeLine := by rw [← rel.length]; exact zz
  refine call_meetsIn PySem.F.slot_dict_setdefault dd.typeIs PySem.F.entry_dict_setdefault (PySem.F.args_dict_setdefault_3 _ _ _) (meets_sdf (mixKind X.prog X.w) a (kV_is ry) hd r) ⟨vs, dd, hz, fun w' hw => ?_, fun hn h' dd' hs => ?_⟩
  · have q := rel.val k
    rw [hw] at q
    cases ev : valV kvs k with
    | none =>
      rw [ev] at q
      exact absurd q (fun z => by cases z)
    | some v =>
      rw [ev] at q
      exact h1 v w' _ ev (I.tok _) q
  · have ev : valV kvs k = none := by
      have q := rel.val k
      rw [hn] at q
      cases ev : valV kvs k with
      | none => rfl
      | some v =>
        rw [ev] at q
        exact absurd q (fun z => by cases z)
    have he : ∃ q, h'.get? a = some q := let ⟨q, _, _, hq, _⟩ := dd'; ⟨q, hq⟩
    have hl : (putK kvs k z).length ≤ sizeLine := by have := length_putK kvs k z; omega
    exact h2 _ ev (d_write I (by rw [e]; exact True.intro) hs he (dk_new hl hd (rel.put k rz) dd'))
end
end Sdf
/-- d.setdefault(k, x) -/
def tSdf (td ty tx : TE) : TE := fun σ H Q => td σ H fun x H1 => ∃ a, x = .ref a ∧ IsD H1 a ∧ ty σ H1 fun y H2 => tx σ H2 fun z H3 => ∃ kvs k, H3 a = some (.dK kvs) ∧ y = kV k ∧ kvs.length < sizeLine ∧
  (∀ v, valV kvs k = some v → Q v H3) ∧ (valV kvs k = none → Q z (upd H3 a (.dK (putK kvs k z))))
theorem pe_sdf {X : Cx} {o e f : Expr} {apos cpos : Pos} {td ty tx : TE} (ho : PE X o td) (he : PE X e ty) (hf : PE X f tx) (m : M2 X o "setdefault" apos e f cpos) : PE X (.Call (.Attribute o "setdefault" apos) [e, f] [] cpos) (tSdf td ty tx) := by
  refine ⟨fun pins s σ H Q I h => ?_⟩
  refine wpAny_Call_method m.base m.few m.line PySem.F.plainAttrs_dict PySem.F.slot_dict_setdefault PySem.F.type_dict_setdefault (thn (ho.run pins s σ H _ I h) fun u s1 ⟨x, H1, I1, rx, a, ex, d, q1⟩ => ?_)
  subst ex
  obtain rfl : u = Value.ref a := rx
  obtain ⟨t1, t2, _⟩ := isD_at I1 d
  refine ⟨t1, t2, ?_⟩
  rw [m.trees]
  refine Calls.callWith_builtin rfl (Calls.evalArgs_plain (Calls.spliced_cons (thn (he.run pins s1 σ H1 _ I1 q1) fun iv s2 ⟨y, H2, I2, ry, q2⟩ =>
    Calls.spliced_cons (thn (hf.run pins s2 σ H2 _ I2 q2) fun fv s3 ⟨z, H3, I3, rz, kvs, k, hd, ey, lt, qa, qb⟩ => Calls.spliced_nil ?_))))
  subst ey
  exact Sdf.d_sdf I3 hd lt ry rz (fun v w' s4 ev I4 rw' => ⟨_, H3, I4, rw', qa v ev⟩) fun s4 ev I4 => ⟨_, _, I4, rz, qb ev⟩
/-- list(d.values()) -/
theorem call_listVals {X : Cx} (hc : X.calm = true) : CallR X (.type "list") (fun xs H Q => ∃ (v d : Addr) (kvs : List (Key × V)), xs = [.ref v] ∧ H v = some (valsO v d) ∧ H d = some (.dK kvs) ∧ ∀ q, H q = none → Q (.ref q) (upd H q (.lst (kvs.map (·.2))))) := by
  rintro pins s σ H xs us Q I r ⟨v, d, kvs, rfl, hv, hd, q⟩
  obtain ⟨u, eu, rx⟩ := vals1 r
  subst eu
  obtain rfl : u = Value.ref v := rx
  obtain ⟨ev, _, _⟩ := I.hok v _ hv
  obtain ⟨z, lo, vs, rk, hdd⟩ := (show ObjOk X.prog X.w H s.heap d (.dK kvs) from I.hok d _ hd)
  obtain ⟨ep, hat⟩ := hdd.dictAt
  have hl : kvs.length = vs.length := Paired.length rk
  refine PySem.W.kdl_call (PySem.W.kdl_values (knd := mixKind X.prog X.w) (kvs := vs) (ep := ep)) (I.ok.hd hc) ⟨⟨_, ev, rfl, rfl⟩, hat⟩ (by rw [← hl]; exact z) fun h' tk acc' c' hkeep hS hacc => ?_
  refine ⟨.ref s.heap.objs.size, upd H s.heap.objs.size (.lst (kvs.map (·.2))), I.laid hkeep (Nat.le_refl _) (show ObjOk X.prog X.w _ _ _ (.lst (kvs.map (·.2))) from ⟨?_, acc'.toList, c', ?_, ?_⟩), rfl, q _ (I.hok.fresh (Nat.le_refl _))⟩
  · rw [List.length_map]; exact z
  · have el : acc'.toList.length = acc'.size := by simp
    refine vals_of_at (by rw [List.length_map, el, hacc.1, hl]) fun j x w h1 h2 => ?_
    obtain ⟨k, hky⟩ := hacc.2 j w (by rw [← Array.getElem?_toList]; exact h2)
    obtain ⟨y, hy, ry⟩ := KV.at' rk hky
    rw [List.getElem?_map, hy] at h1
    rw [← Option.some.inj h1]
    exact ry
  · rw [Array.toArray_toList]; exact hS
/-! a list or a tuple -/
def LT (H : Hp) (a : Addr) (xs : List V) : Prop := H a = some (.lst xs) ∨ H a = some (.tup xs)
theorem LT.by {H H' : Hp} {a : Addr} {xs : List V} (h : LT H a xs) (k : ∀ o, H a = some o → (∀ ps, o ≠ .tbl ps) → H' a = some o) : LT H' a xs := h.imp (fun e => k _ e fun _ z => nomatch z) fun e => k _ e fun _ z => nomatch z
theorem LT.on {H H' : Hp} {a : Addr} {xs : List V} (h : LT H a xs) (s : Same H H') : LT H' a xs := h.imp (fun e => s _ _ e) fun e => s _ _ e
abbrev iSeq (K : PySem.W.Frag) (tl : TE) : TI := fun σ H R => iList K tl σ H R ∨ iTup K tl σ H R
theorem pi_seq {X : Cx} {tg l : Expr} {tl : TE} (hl : PE X l tl) : PI X tg l (iSeq X.K tl) := ⟨fun pins s σ H R I h => h.elim ((pi_list hl).run pins s σ H R I) ((pi_tup hl).run pins s σ H R I)⟩
structure Over (J : It) (xs : List V) (At : Hp → Prop) : Prop where
  go : ∀ i H x, At H → xs[i]? = some x → J.go i H
  yld : ∀ i H y H', At H → J.yld i H y H' → H' = H ∧ xs[i]? = some y
  stop : ∀ i H, At H → xs.length ≤ i → J.stop i H
theorem over_l {K : PySem.W.Frag} {a : Addr} {xs : List V} : Over (Itl K a) xs (fun H => SqL K H a xs) :=
  ⟨fun i H x h e => ⟨xs, x, h, e⟩, fun i H y H' h z => ⟨z.1, z.2 xs h⟩, fun i H h e => ⟨xs, h, e⟩⟩
theorem over_t {K : PySem.W.Frag} {a : Addr} {xs : List V} : Over (Itt K a) xs (fun H => SqT K H a xs) :=
  ⟨fun i H x h e => ⟨xs, x, h, e⟩, fun i H y H' h z => ⟨z.1, z.2 xs h⟩, fun i H h e => ⟨xs, h, e⟩⟩
/-- all(.. for x in xs), its iterator being there -/
theorem all_over {J : It} {At : Hp → Prop} {T : Addr} {xs : List V} {g : TG} {tt : TT} {te : TE} {vs : List Nat} {σ : L2.St} {H : Hp} {Q : VK} (o : Over J xs At) (W : Nat → Hp → Prop) (tg : GxR.TabG H T) (h0 : ∀ H2, GxR.Tabbed T H H2 → W 0 H2) (hl : ∀ i H', i ≤ xs.length → W i H' → At H')
    (step : ∀ i x H' (Go : Hp → Prop), xs[i]? = some x → W i H' → (∀ H4, W (i + 1) H4 → Go H4) → g x (wipe σ vs) H' fun σ2 H2 => wipe σ2 vs = wipe σ vs ∧ tt σ2 H2 fun b H3 => if b = true then te σ2 H3 fun y H4 => ∃ k, y = .bl k ∧ (if k = true then Go H4 else Q (.bl false) H4) else Go H3)
    (done : ∀ H', W xs.length H' → Q (.bl true) H') :
    GxR.TabG H T ∧ ∀ H2, GxR.Tabbed T H H2 → ∃ W : Nat → Nat → Hp → Prop, (∃ m, W 0 m H2) ∧
      GTurns J g tt te vs σ W (fun i m y H' => ∃ k, y = .bl k ∧ (if k = true then ∃ m', m' < m ∧ W (i + 1) m' H' else Q (.bl false) H')) (fun H' => Q (.bl true) H') := by
  refine ⟨tg, fun H2 tb => ⟨fun i m H' => m = xs.length - i ∧ i ≤ xs.length ∧ W i H', ⟨_, rfl, Nat.zero_le _, h0 H2 tb⟩, ?_⟩⟩
  rintro i m H3 ⟨rfl, hi, w3⟩
  by_cases lt : i < xs.length
  · refine .inr ⟨o.go i H3 xs[i] (hl i H3 hi w3) (List.getElem?_eq_getElem lt), fun x H' y => ?_⟩
    obtain ⟨rfl, hx⟩ := o.yld i H3 x H' (hl i H3 hi w3) y
    exact step i x _ (fun H' => ∃ m', m' < xs.length - i ∧ m' = xs.length - (i + 1) ∧ i + 1 ≤ xs.length ∧ W (i + 1) H') hx w3 fun H4 w4 => ⟨_, by omega, rfl, lt, w4⟩
  · have ei : i = xs.length := by omega
    exact .inl ⟨o.stop i H3 (hl i H3 hi w3) (by omega), done H3 (ei ▸ w3)⟩
theorem all_seq {K : PySem.W.Frag} {T l : Addr} {xs : List V} {g : TG} {tt : TT} {te : TE} {vs : List Nat} {σ : L2.St} {H : Hp} {Q : VK} {k : Nat} (h : LT H l xs) (hv : σ[k]? = some (some (.ref l))) (W : Nat → Hp → Prop) (tg : GxR.TabG H T) (h0 : ∀ H2, GxR.Tabbed T H H2 → W 0 H2) (hl : ∀ i H', i ≤ xs.length → W i H' → ∀ o, H l = some o → (∀ ps, o ≠ .tbl ps) → H' l = some o)
    (step : ∀ i x H' (Go : Hp → Prop), xs[i]? = some x → W i H' → (∀ H4, W (i + 1) H4 → Go H4) → g x (wipe σ vs) H' fun σ2 H2 => wipe σ2 vs = wipe σ vs ∧ tt σ2 H2 fun b H3 => if b = true then te σ2 H3 fun y H4 => ∃ k, y = .bl k ∧ (if k = true then Go H4 else Q (.bl false) H4) else Go H3)
    (done : ∀ H', W xs.length H' → Q (.bl true) H') : tAllG T (iSeq K (tVar k)) g tt te vs σ H Q := by
  rcases h with h | h
  · exact .inl ⟨_, hv, l, rfl, ⟨_, SqL.of h⟩, all_over over_l W tg h0 (fun i H' hi w => SqL.of (hl i H' hi w _ h fun _ z => nomatch z)) step done⟩
  · exact .inr ⟨_, hv, l, rfl, ⟨_, SqT.of h⟩, all_over over_t W tg h0 (fun i H' hi w => SqT.of (hl i H' hi w _ h fun _ z => nomatch z)) step done⟩
theorem for_seq {K : PySem.W.Frag} {l : Addr} {xs : List V} {g : TG} {tb : TS} {D : Ends} {σ : L2.St} {H : Hp} {k : Nat} (h : LT H l xs) (hv : σ[k]? = some (some (.ref l))) (Pv : Nat → L2.St → Hp → Prop) (h0 : Pv 0 σ H) (hl : ∀ i σ H', i ≤ xs.length → Pv i σ H' → ∀ o, H l = some o → (∀ ps, o ≠ .tbl ps) → H' l = some o)
    (hs : ∀ i x σ H, xs[i]? = some x → Pv i σ H → g x σ H fun σ2 H2 => tb { D with nx := Pv (i + 1), ct := Pv (i + 1), bk := D.nx } σ2 H2) (hd : ∀ σ H, Pv xs.length σ H → D.nx σ H) : tFor (iSeq K (tVar k)) g tb D σ H := by
  rcases h with h | h
  · exact .inl ⟨_, hv, l, rfl, ⟨_, SqL.of h⟩, for_list Pv h0 (fun i σ' H' hi w => SqL.of (hl i σ' H' hi w _ h fun _ z => nomatch z)) hs hd⟩
  · exact .inr ⟨_, hv, l, rfl, ⟨_, SqT.of h⟩, for_tup Pv h0 (fun i σ' H' hi w => SqT.of (hl i σ' H' hi w _ h fun _ z => nomatch z)) hs hd⟩
/-! ### sorted(..) of a list of data -/
theorem each_unmap {R : Value → PyData → Prop} {f : V × PyData → PyData} : ∀ {es : List (V × PyData)} {us : List Value}, PySem.W.EachIs R us (es.map f) → PySem.W.EachIs (fun v e => R v (f e)) us es
  | [], _, .nil => .nil
  | _ :: _, _, .cons a t => .cons a (each_unmap t)
theorem cr_sortD {X : Cx} (hu : X.A.units + 64 < cLine) : CallR X (.builtin "sorted") (fun vs H Q => ∃ (l : Addr) (es : List (V × PyData)), vs = [.ref l] ∧ SqL X.K H l (es.map (·.1)) ∧ DpAll X.K H (es.map (·.1)) (es.map (·.2)) ∧ PySem.W.AllAlike (es.map (·.2)) ∧ PySem.W.Sortable (es.map (·.2)) ∧
    (∀ e ∈ es, e.2.depth ≤ 60) ∧ ∀ p, H p = none → Q (.ref p) (upd H p (.lst ((keyed es).map (·.1))))) := by
  rintro pins s σ H vs us Q I r ⟨l, es, rfl, hs, dp, al, so, de, q⟩
  obtain rfl := Vals.ref1 r
  obtain ⟨its, rv, hl, hz⟩ := I.list hs
  have hlen : its.length = es.length := by rw [← rv.length, List.length_map]
  have hL : es.length ≤ sizeLine := by rw [← hlen, ← rv.length]; exact hz
  refine PySem.W.sorted_data (R := fun v (e : V × PyData) => RelV e.1 v) (enc := fun e : V × PyData => e.2) hl.isList (each_pairs rv) (each_unmap (each_dp I dp rv)) al so hL (fun b hb => ?_) fun out lo eo => ?_
  · have := de b hb
    omega
  · obtain ⟨c, hc⟩ := sortedAll_at s.heap its out.toArray
    have l2 : ((keyed es).map (·.1)).length ≤ sizeLine := by
      rw [List.length_map, List.length_mergeSort]
      exact hL
    exact ⟨.ref (s.heap.objs.size + 1), upd H (s.heap.objs.size + 1) (.lst ((keyed es).map (·.1))), I.laid (t' := s.toks) (fun b o => sortedAll_old) (Nat.le_succ _) ⟨l2, out, c, pairs_each eo, hc⟩, rfl, q _ (I.hok.fresh (Nat.le_succ _))⟩
/-! their text isn't long -/
theorem toString_neg (i : Int) (h : i < 0) : (toString i).length ≤ (toString (-i)).length + 1 := by
  obtain ⟨n, rfl⟩ : ∃ n : Nat, i = -((n + 1 : Nat) : Int) := ⟨(-i).toNat - 1, by omega⟩
  rw [Int.neg_neg]
  show ("-" ++ toString (n + 1)).length ≤ (toString (n + 1)).length + 1
  rw [String.length_append]
  have : ("-" : String).length = 1 := rfl
  omega
theorem short_big {i : Int} (h0 : -100000000000 < i) (h1 : i < 100000000000) : Short (.int i) 8 0 := by
  have e : (PyData.shown (.int i)).length ≤ 13 := by
    by_cases z : 0 ≤ i
    · exact Nat.le_trans (toString_length_le z (k := 11) (by decide) (by omega)) (by decide)
    · show (Str.ofString (toString i)).length ≤ 13
      have h := toString_length_le (v := -i) (by omega) (k := 11) (by decide) (by omega)
      rw [PySem.ofString_length] at h ⊢
      have := toString_neg i (by omega)
      omega
  refine ⟨?_, rfl, decide_eq_true e, Nat.zero_le _, Nat.zero_le _⟩
  show decide (i.natAbs.log2 < 1920) = true
  refine decide_eq_true ?_
  by_cases z : i.natAbs = 0
  · rw [z]
    decide
  · exact Nat.lt_trans ((Nat.log2_lt z).mpr (show i.natAbs < 2 ^ 40 by omega)) (by decide)
theorem short_lst {n k m : Nat} {ds : List PyData} (h : ∀ d ∈ ds, Short d n k) (l : ds.length * (n + 1) ≤ m) : Short (.list ds) m (k + 1) := by
  obtain ⟨a1, a2, a3, a4, a5⟩ := short_all h
  refine ⟨?_, ?_, ?_, ?_, ?_⟩
  · rw [PyData.showable]; exact a1
  · rw [PyData.hasDict]; exact a2
  · rw [PyData.leavesShort]; exact a3
  · rw [PyData.bulk]; omega
  · rw [PyData.depth]; omega
theorem Short.fits2 {d : PyData} {n k : Nat} (h : Short d n k) (hn : n ≤ 400000) : d.shown.length ≤ sizeLine := by
  have q := PyData.shown_le_bulk 13 (by decide) d h.ls
  have := h.bk
  rw [sizeLine_eq]
  omega
/-! ### rising_names -/
theorem seq_l {K : PySem.W.Frag} : PySem.W.kitAny K (.type "list") [.type "list", .type "tuple"] = some true := by
  simp only [PySem.W.kitAny, kit_ty (show kitB "list" "list" = some true by decide +kernel)]
theorem seq_t {K : PySem.W.Frag} : PySem.W.kitAny K (.type "tuple") [.type "list", .type "tuple"] = some true := by
  simp only [PySem.W.kitAny, kit_ty (show kitB "tuple" "list" = some false by decide +kernel), kit_ty (show kitB "tuple" "tuple" = some true by decide +kernel)]
theorem is_lt {K : PySem.W.Frag} {H : Hp} {a : Addr} {xs : List V} (h : LT H a xs) : ∃ t, TyX K H (.ref a) t ∧ PySem.W.kitAny K t [.type "list", .type "tuple"] = some true := by
  rcases h with h | h
  · exact ⟨_, .base (.lst h), seq_l⟩
  · exact ⟨_, .base (.tup h), seq_t⟩
abbrev clsLT : Paired ClsV [V.ty "list", V.ty "tuple"] [.type "list", .type "tuple"] := .cons (.ty "list") (.cons (.ty "tuple") .nil)
def spRising (Ts : List Addr) : Sp := fun vs H Q _ => ∃ (l : Addr) (xs : List Str) (most : Int), vs = [.ref l, .int most] ∧ LT H l (xs.map V.str) ∧ (∀ y ∈ xs, nameB y = true) ∧ xs.length ≤ 1000 ∧ 1 ≤ (onceR xs).length ∧ ((onceR xs).length : Int) ≤ most ∧ most ≤ 60 ∧ TabsG Ts H ∧
  ∀ (tp : Addr) (ys : List Str) (H' : Hp), ys.Perm (onceR xs) → sortedS ys = true → TB1 Ts H H' → H' tp = some (.tup (ys.map V.str)) → Q (.ref tp) H'
section
variable {P : Program} {w : World} {K : PySem.W.Frag} {mg : Str → Option Value} {base : Heap}
abbrev sRisingN : List Str := ["things", "most", "names", "thing"]
theorem sc_sRising : FnScope sRisingN ["things", "most"] (defScope sRising) := ⟨rfl, rfl, rfl, by decide +kernel, rfl, by decide +kernel, by decide +kernel⟩
theorem ok_rising {f cR T1 T3 fN : Addr} {Ts : List Addr} {dN : FuncData} {oc kV doc pm ct : Value} {od an : Option Addr} {osl : Array (Option Value)}
    (lk : K.lookup f = some ⟨oc, od, .func (PySem.W.fnOf "rising_names" "rising_names" (defArgs sRising) (defBody sRising) (defScope sRising) .none kV doc pm an (.ref cR) ct), osl⟩) (cdI : PySem.W.codeIn K (.ref cR) "rising_names" = true)
    (TB : GxR.TabB base mg cR T3) (i1 : T1 ∈ Ts) (i3 : T3 ∈ Ts) (NM : DefT P w K mg base "is_name" 1 fN dN ["thing"] (spName K T1))
    (mis : mg "isinstance" = none) (mT_list : mg "list" = none) (mT_tuple : mg "tuple" = none) (ml : mg "len" = none) (mal : mg "all" = none) (ms : mg "sorted" = none) (mse : mg "set" = none) :
    FnOk P w K mg base CX0 3 f (PySem.W.fnOf "rising_names" "rising_names" (defArgs sRising) (defBody sRising) (defScope sRising) .none kV doc pm an (.ref cR) ct) ["things", "most"] (spRising Ts) := by
  refine fn_of lk cdI sc_sRising (fun vs H Q E h => ?_) (fun A outer s H vs Q E hr h => ?_)
  · obtain ⟨l, xs, most, rfl, _⟩ := h
    rfl
  · obtain ⟨l, xs, most, rfl, hl, nm, lx, o1, o2, o3, tg, q⟩ := h
    have nd := sc_sRising.nd
    refine ⟨_, pss_cons (ps_if (pt_not (pt_val (pe_callB call_isiT (by rfl) mis (by decide +kernel) (pa_cons (pv 0) (pa_cons (pe_tup (pa_cons (pe_bltn (v := .ty "list") (u := .type "list") (by rfl) mT_list (by decide +kernel) rfl) (pa_cons (pe_bltn (v := .ty "tuple") (u := .type "tuple") (by rfl) mT_tuple (by decide +kernel) rfl) pa_nil))) pa_nil))))) (pss_one ps_never) pss_nil)
      (pss_cons (ps_if (pt_not (pt_val (pe_allG (T := T3) (c := cR) (k := 1) (own := [("thing", 3)]) (g := gName 3) (tt := tYes) (te := tCall (spName K T1) [] E0 (tCons (tVar 3) tNil))
          hr (by rfl) mal rfl nd TB rfl ⟨blkOk_by (N := sRisingN) (sc := defScope sRising) (by decide +kernel), rfl, by decide +kernel, rfl⟩
          (pi_seq (pv 0)) (fun _ _ _ _ _ _ => pg_name (i := 3) nd rfl (Or.inl rfl)) (fun _ _ _ _ _ _ _ => pts_nil) (fun _ _ _ _ _ _ hr' => pe_call NM.ok hr' (by rfl) NM.g NM.kp NM.b .nil pass0 (pa_cons (pv 3) pa_nil))))) (pss_one ps_never) pss_nil)
      (pss_cons (ps_set (i := 2) nd rfl (Or.inl rfl) (pe_callTy call_tuple_of (by rfl) mT_tuple (by decide +kernel) (pa_cons (pe_sortSet rfl (by rfl) ms (by rfl) mse (pv 0)) pa_nil)))
      (pss_cons (ps_if (pt_not (pt_chain op_le op_le pe_int (pe_callB call_len_seq (by rfl) ml PySem.boot_len (pa_cons (pv 2) pa_nil)) (pv 1))) (pss_one ps_never) pss_nil)
      (pss_one (ps_ret (pv 2)))))), ?_⟩
    refine ⟨_, rfl, (by show 2 ≤ sizeLine; decide), fun tq ntq => ?_⟩
    have s0 := @same_new _ _ (.tup [V.ty "list", V.ty "tuple"]) ntq
    have hl0 := hl.on s0
    have tg0 := tabs_sm s0 tg
    have b0 : TB1 Ts H (upd H tq (.tup [V.ty "list", V.ty "tuple"])) := .same tg s0
    obtain ⟨t, ty, kt⟩ := is_lt (K := K) hl0
    refine ⟨_, tq, _, t, _, true, rfl, upd_same, clsLT, ty, kt, _, rfl, iteF ?_⟩
    generalize upd H tq (.tup [V.ty "list", V.ty "tuple"]) = H1 at hl0 tg0 b0
    clear ty kt
    -- all are names
    dsimp only [tNext, tSeq, tIfS, tNot, tB]
    refine all_seq (k := 0) hl0 rfl (fun _ H' => TB1 Ts H1 H') (tg0 T3 i3) (fun H2 tb => TB1.tab tb tg0 i3) (fun i H' _ b o e n => b.2 _ _ e n) ?_ ?_
    · intro i x H' Go hx b go
      rw [List.getElem?_map] at hx
      obtain ⟨y, hy, rfl⟩ := Option.map_eq_some_iff.mp hx
      have ny := nm y (List.mem_of_getElem? hy)
      refine ⟨rfl, yesT ⟨_, rfl, _, rfl, b.1 T1 i1, .inl ⟨y, rfl, small_sz (by have := name_len ny; omega), fun H3 tb => ?_⟩⟩⟩
      rw [ny]
      exact ⟨true, rfl, iteT (go _ (b.tr (.tab tb b.1 i1)))⟩
    · intro H2 b2
      refine ⟨true, rfl, iteF ?_⟩
      have hl2 : LT H2 l (xs.map V.str) := hl0.by fun o e n => b2.2 _ _ e n
      refine ⟨_, rfl, l, xs, rfl, hl2.symm.imp (fun h => SqT.of h) (fun h => SqL.of h), by omega, lx, fun ys p pm so np => ?_⟩
      refine ⟨p, _, rfl, .inl ⟨SqL.of upd_same, fun tp ntp => ?_⟩⟩
      have s3 := (@same_new _ _ (.lst (ys.map V.str)) np).trans (@same_new _ _ (.tup (ys.map V.str)) ntp)
      have ly : ys.length = (onceR xs).length := pm.length_eq
      have z1 : decide ((1 : Int) ≤ ((ys.map V.str).length : Int)) = true := decide_eq_true (by rw [List.length_map, ly]; omega)
      have z2 : decide (((ys.map V.str).length : Int) ≤ most) = true := decide_eq_true (by rw [List.length_map, ly]; omega)
      refine ⟨_, rfl, tp, _, rfl, .inr (SqT.of upd_same), 1, _, rfl, rfl, _, rfl, ?_⟩
      rw [z1]
      refine iteT ⟨_, rfl, _, most, rfl, rfl, _, rfl, ?_⟩
      rw [z2]
      exact iteF ⟨_, rfl, q tp ys _ pm so (b0.tr (b2.tr (.same b2.1 s3))) upd_same⟩
end
theorem inV_iff {x : Str} {ys : List Str} : inV (.str x) (ys.map V.str) = decide (x ∈ ys) := by
  unfold inV
  rw [List.any_map]
  by_cases h : x ∈ ys
  · rw [decide_eq_true h]
    exact List.any_eq_true.mpr ⟨x, h, by show (x == x) = true; simp⟩
  · rw [decide_eq_false h, List.any_eq_false]
    intro y hy z
    have z' : (y == x) = true := z
    exact h (eq_of_beq z' ▸ hy)
theorem all_flat (ys : List Str) : (ys.map V.str).all flatV = true := by
  rw [List.all_map]
  exact List.all_eq_true.mpr fun y _ => rfl
theorem scal_good (e : Ent) (g : Str) : scal e.goodV (.str g) = true := by cases e <;> rfl
/-! ### is_entry_of -/
theorem TB1.of2 {Ts : List Addr} {T1 T2 : Addr} {H H' : Hp} (g : TabsG Ts H) (i1 : T1 ∈ Ts) (i2 : T2 ∈ Ts) (b : TB2 T1 T2 H H') : TB1 Ts H H' := by
  have n1 : ∀ {a o}, H a = some o → (∀ ps, o ≠ .tbl ps) → a ≠ T1 ∧ a ≠ T2 := fun {a o} e n => by
    obtain ⟨p1, e1, _⟩ := g T1 i1
    obtain ⟨p2, e2, _⟩ := g T2 i2
    exact ⟨ne_of e e1 (n p1), ne_of e e2 (n p2)⟩
  refine ⟨fun T hT => ?_, fun a o e n => b.1 a o e (n1 e n).1 (n1 e n).2, fun a n => ?_, fun a o e n => b.1 a o e (fun z => n (z ▸ i1)) fun z => n (z ▸ i2)⟩
  · by_cases z1 : T = T1
    · rw [z1]; exact b.2.1
    · by_cases z2 : T = T2
      · rw [z2]; exact b.2.2
      · obtain ⟨ps, e, ok⟩ := g T hT
        exact ⟨ps, b.1 T _ e z1 z2, ok⟩
  · cases e : H a with
    | none => rfl
    | some o =>
      by_cases z1 : a = T1
      · obtain ⟨ps, e1, _⟩ := b.2.1
        rw [z1, e1] at n
        cases n
      · by_cases z2 : a = T2
        · obtain ⟨ps, e1, _⟩ := b.2.2
          rw [z2, e1] at n
          cases n
        · rw [b.1 a o e z1 z2] at n
          cases n
theorem take_sn {α : Type} {l : List α} {i : Nat} {x : α} (h : l[i]? = some x) : l.take (i + 1) = l.take i ++ [x] := by
  rw [List.take_add_one, h]
  rfl
def goodOk (e : Ent) (G : List Str) : Bool := match e.goodV with | .str g => decide (g ∈ G) | _ => true
def ofB (e : Ent) (P G : List Str) : Bool := goodOk e G && e.places.all fun y => decide (y ∈ P)
def spIsEntryOf (Ts : List Addr) : Sp := fun vs H Q _ => ∃ (a pl gl : Addr) (e : Ent) (P G : List Str), vs = [.ref a, .ref pl, .ref gl] ∧ H a = some (.tup e.vals) ∧ e.Fine ∧ H pl = some (.tup (P.map V.str)) ∧ H gl = some (.tup (G.map V.str)) ∧ TabsG Ts H ∧
  ∀ H', TB1 Ts H H' → Q (.bl (ofB e P G)) H'
theorem goodV_cases (e : Ent) : e.goodV = .non ∨ ∃ g, e.goodV = .str g := by cases e <;> first | exact .inl rfl | exact .inr ⟨_, rfl⟩
section
variable {P : Program} {w : World} {K : PySem.W.Frag} {mg : Str → Option Value} {base : Heap}
abbrev sIsEntryOfN : List Str := ["thing", "places", "goods", "good", "place"]
theorem sc_sIsEntryOf : FnScope sIsEntryOfN ["thing", "places", "goods"] (defScope sIsEntryOf) := ⟨rfl, rfl, rfl, by decide +kernel, rfl, by decide +kernel, by decide +kernel⟩
theorem ok_isEntryOf {f cR T1 T2 T4 fI fG fP : Addr} {Ts : List Addr} {dI dG dP : FuncData} {oc kV doc pm ct : Value} {od an : Option Addr} {osl : Array (Option Value)}
    (lk : K.lookup f = some ⟨oc, od, .func (PySem.W.fnOf "is_entry_of" "is_entry_of" (defArgs sIsEntryOf) (defBody sIsEntryOf) (defScope sIsEntryOf) .none kV doc pm an (.ref cR) ct), osl⟩) (cdI : PySem.W.codeIn K (.ref cR) "is_entry_of" = true)
    (TB : GxR.TabB base mg cR T4) (i1 : T1 ∈ Ts) (i2 : T2 ∈ Ts) (i4 : T4 ∈ Ts) (IE : DefT P w K mg base "is_entry" 4 fI dI ["thing"] (spIsEntry T1 T2)) (GO : DefT P w K mg base "good_of" 1 fG dG ["entry"] spGood) (PO : DefT P w K mg base "places_of" 1 fP dP ["entry"] spPlaces)
    (mal : mg "all" = none) :
    FnOk P w K mg base CX0 5 f (PySem.W.fnOf "is_entry_of" "is_entry_of" (defArgs sIsEntryOf) (defBody sIsEntryOf) (defScope sIsEntryOf) .none kV doc pm an (.ref cR) ct) ["thing", "places", "goods"] (spIsEntryOf Ts) := by
  refine fn_of lk cdI sc_sIsEntryOf (fun vs H Q E h => ?_) (fun A outer s H vs Q E hr h => ?_)
  · obtain ⟨a, pl, gl, e, Ps, G, rfl, _⟩ := h
    rfl
  · obtain ⟨a, pl, gl, e, Ps, G, rfl, ha, fi, hp, hg, tg, q⟩ := h
    have nd := sc_sIsEntryOf.nd
    have hr1 : Room 1 _ := hr.mono (by decide)
    refine ⟨_, pss_cons (ps_if (pt_not (pt_val (pe_call IE.ok hr (by rfl) IE.g IE.kp IE.b .nil pass0 (pa_cons (pv 0) pa_nil)))) (pss_one (ps_ret pe_bl)) pss_nil)
      (pss_cons (ps_set (i := 3) nd rfl (Or.inl rfl) (pe_call GO.ok hr1 (by rfl) GO.g GO.kp GO.b .nil pass0 (pa_cons (pv 0) pa_nil)))
      (pss_cons (ps_if (PW.pt (pw_and (pt_cmpR op_notN (pv 3) pe_non (by rfl)) (pw_and1 (pt_cmpR op_notIn_seq (pv 3) (pv 2) (by rfl))))) (pss_one (ps_ret pe_bl)) pss_nil)
      (pss_one (ps_ret (pe_allG (T := T4) (c := cR) (k := 1) (own := [("place", 4)]) (g := gName 4) (tt := tYes) (te := tOp (rIn K false) (tVar 4) (tVar 1))
          (hr.mono (by decide)) (by rfl) mal rfl nd TB rfl ⟨blkOk_by (N := sIsEntryOfN) (sc := defScope sIsEntryOf) (by decide +kernel), rfl, by decide +kernel, rfl⟩
          (pi_tup (pe_call PO.ok hr1 (by rfl) PO.g PO.kp PO.b .nil pass0 (pa_cons (pv 0) pa_nil))) (fun _ _ _ _ _ _ => pg_name (i := 4) nd rfl (Or.inl rfl)) (fun _ _ _ _ _ _ _ => pts_nil) (fun _ _ _ _ _ _ _ => pe_cmpR op_in_seq (pv 4) (pv 1) (by rfl))))))), ?_⟩
    refine ⟨_, rfl, a, e, rfl, ha, fi, tg T1 i1, tg T2 i2, fun H1 b => ?_⟩
    have b1 := TB1.of2 tg i1 i2 b
    have ha1 := b1.tk _ _ ha
    have hp1 := b1.tk _ _ hp
    have hg1 := b1.tk _ _ hg
    refine ⟨true, rfl, iteF ⟨_, rfl, a, e, rfl, ha1, ?_⟩⟩
    -- the places
    have last : goodOk e G = true → tRet (tAllG T4 (iTup K (tCall spPlaces [] E0 (tCons (tVar 0) tNil))) (gName 4) tYes (tOp (rIn K false) (tVar 4) (tVar 1)) [4]) { nx := fun x H' => Q V.non H', rt := Q } [some (.ref a), some (.ref pl), some (.ref gl), some e.goodV, none] H1 := fun go => by
      refine ⟨_, rfl, a, e, rfl, ha1, fun tp H4 s4 ht => ⟨tp, rfl, ⟨_, SqT.of ht⟩, ?_⟩⟩
      have b4 := b1.tr (.same b1.1 s4)
      refine all_over (over_t (K := K) (a := tp) (xs := e.places.map V.str)) (fun i H' => TB1 Ts H4 H' ∧ (e.places.take i).all (fun y => decide (y ∈ Ps)) = true) (b4.1 T4 i4) (fun H2 tb => ⟨.tab tb b4.1 i4, rfl⟩) (fun i H' _ b => SqT.of (b.1.tk _ _ ht)) ?_ ?_
      · intro i x H' Go hx b go'
        rw [List.getElem?_map] at hx
        obtain ⟨y, hy, rfl⟩ := Option.map_eq_some_iff.mp hx
        refine ⟨rfl, yesT ⟨_, rfl, _, rfl, pl, Ps.map V.str, rfl, .inr (SqT.of (b.1.tk _ _ (s4 _ _ hp1))), rfl, all_flat _, _, rfl, ?_⟩⟩
        rw [inV_iff]
        by_cases z : y ∈ Ps
        · rw [decide_eq_true z]
          refine iteT (go' _ ⟨b.1, ?_⟩)
          rw [take_sn hy, List.all_append, b.2]
          simp [z]
        · rw [decide_eq_false z]
          refine iteF ?_
          have := q H' (b4.tr b.1)
          rw [show ofB e Ps G = false by
            unfold ofB
            rw [go, Bool.true_and, List.all_eq_false]
            exact ⟨y, List.mem_of_getElem? hy, by simp [z]⟩] at this
          exact this
      · intro H' b
        have := q H' (b4.tr b.1)
        rw [show ofB e Ps G = true by
          unfold ofB
          rw [go, Bool.true_and, ← b.2, List.length_map, List.take_length]] at this
        exact this
    rcases goodV_cases e with eg | ⟨g, eg⟩
    · have go : goodOk e G = true := by unfold goodOk; rw [eg]
      refine ⟨_, rfl, rfl, ?_⟩
      have := last go
      rw [eg] at this ⊢
      exact ⟨_, rfl, iteF this⟩
    · have go : goodOk e G = decide (g ∈ G) := by unfold goodOk; rw [eg]
      refine ⟨_, rfl, rfl, ?_⟩
      rw [eg] at last ⊢
      refine ⟨_, rfl, iteT ⟨_, rfl, _, rfl, gl, G.map V.str, rfl, .inr (SqT.of hg1), rfl, all_flat _, _, rfl, ?_⟩⟩
      rw [inV_iff]
      by_cases z : g ∈ G
      · rw [decide_eq_true z]
        exact iteF (last (by rw [go, decide_eq_true z]))
      · rw [decide_eq_false z]
        refine iteT ?_
        have := q H1 b1
        rw [show ofB e Ps G = false by unfold ofB; rw [go, decide_eq_false z]; rfl] at this
        exact this
end
/-! ### own_entries, in_order, house_of -/
theorem ents_pairs {H : Hp} : ∀ {pr : List (Addr × Ent)}, (∀ x ∈ pr, H x.1 = some (.tup x.2.vals)) → EntsAt H (pr.map (·.1)) (pr.map (·.2))
  | [], _ => .nil
  | x :: r, h => .cons (h x List.mem_cons_self) (ents_pairs fun y hy => h y (List.mem_cons_of_mem _ hy))
def prV (x : Addr × Ent) : V × PyData := (.ref x.1, ordD x.2)
/-- entries in their order -/
def ordLe (a b : Addr × Ent) : Bool := PySem.W.dataLe false id (ordD a.2) (ordD b.2)
def sortE (pr : List (Addr × Ent)) : List (Addr × Ent) := pr.mergeSort ordLe
theorem keyed_prV (pr : List (Addr × Ent)) : keyed (pr.map prV) = (sortE pr).map prV := (List.map_mergeSort (f := prV) (s := PySem.W.dataLe false fun e : V × PyData => e.2) (r := ordLe) (l := pr) fun a _ b _ => rfl).symm
theorem sortE_p (pr : List (Addr × Ent)) : (sortE pr).Perm pr := List.mergeSort_perm _ _
theorem ord_inj {e g : Ent} (h : PySem.W.keyToks (ordD e) = PySem.W.keyToks (ordD g)) : e.name = g.name := by
  have h' : ([.inl 1, .inl e.moment, .inl 1, .inl e.rank, .inl 1, .inr e.name.cps.toList, .inl 0] : List (Int ⊕ List Nat)) = [.inl 1, .inl g.moment, .inl 1, .inl g.rank, .inl 1, .inr g.name.cps.toList, .inl 0] := by
    simpa [ordD, PySem.W.keyToks, PySem.W.keyToksAll] using h
  simp only [List.cons.injEq, Sum.inr.injEq, Sum.inl.injEq, true_and, and_true] at h'
  exact str_ext h'.2.2
theorem dle_iff (a b : PyData) : PySem.W.dataLe false id a b = !PySem.W.dataLt b a := rfl
theorem dlt_asym {a b : PyData} (h : PySem.W.dataLt a b = true) : PySem.W.dataLt b a = false := by
  cases e : PySem.W.dataLt b a with
  | false => rfl
  | true =>
    have := PyProof.Rows.lex_trans (O := PyProof.Rows.itemOrd) _ _ _ h e
    rw [PyProof.Rows.lex_irrefl] at this
    cases this
theorem dle_tr (a b c : PyData) (h1 : PySem.W.dataLe false id a b = true) (h2 : PySem.W.dataLe false id b c = true) : PySem.W.dataLe false id a c = true := by
  rw [dle_iff] at *
  have g1 : PySem.W.dataLt b a = false := by simpa using h1
  have g2 : PySem.W.dataLt c b = false := by simpa using h2
  cases e : PySem.W.dataLt c a with
  | false => rfl
  | true =>
    rcases PyProof.Rows.lex_negTrans (O := PyProof.Rows.itemOrd) _ (PySem.W.keyToks b) _ e with z | z
    · exact absurd (g2.symm.trans z) (by decide)
    · exact absurd (g1.symm.trans z) (by decide)
theorem dle_tot (a b : PyData) : (PySem.W.dataLe false id a b || PySem.W.dataLe false id b a) = true := by
  rw [dle_iff, dle_iff]
  cases e : PySem.W.dataLt b a with
  | false => rfl
  | true => rw [dlt_asym e]; rfl
theorem ordLe_tr (a b c : Addr × Ent) (h1 : ordLe a b = true) (h2 : ordLe b c = true) : ordLe a c = true := dle_tr _ _ _ h1 h2
theorem ordLe_tot (a b : Addr × Ent) : (ordLe a b || ordLe b a) = true := dle_tot _ _
theorem sortE_perm {a b : List (Addr × Ent)} (p : a.Perm b) (inj : ∀ x ∈ a, ∀ y ∈ a, x.2.name = y.2.name → x = y) : sortE a = sortE b := by
  have pa := sortE_p a
  have pb := sortE_p b
  refine List.Perm.eq_of_pairwise (le := fun x y => ordLe x y = true) (fun x y hx hy h1 h2 => ?_) (List.pairwise_mergeSort ordLe_tr ordLe_tot a) (List.pairwise_mergeSort ordLe_tr ordLe_tot b) (pa.trans (p.trans pb.symm))
  unfold ordLe at h1 h2
  rw [dle_iff] at h1 h2
  have g1 : PySem.W.dataLt (ordD y.2) (ordD x.2) = false := by simpa using h1
  have g2 : PySem.W.dataLt (ordD x.2) (ordD y.2) = false := by simpa using h2
  exact inj x (pa.mem_iff.mp hx) y (p.mem_iff.mpr (pb.mem_iff.mp hy)) (ord_inj (PyProof.Rows.lex_total (O := PyProof.Rows.itemOrd) _ _ g2 g1))
def spInOrder : Sp := fun vs H Q _ => ∃ (l : Addr) (pr : List (Addr × Ent)), vs = [.ref l] ∧ H l = some (.lst (pr.map fun x => V.ref x.1)) ∧ (∀ x ∈ pr, H x.1 = some (.tup x.2.vals)) ∧
  ∀ (tp : Addr) (H' : Hp), H tp = none → Same H H' → H' tp = some (.tup ((sortE pr).map fun x => V.ref x.1)) → Q (.ref tp) H'
section
variable {P : Program} {w : World} {K : PySem.W.Frag} {mg : Str → Option Value} {base : Heap}
abbrev sInOrderN : List Str := ["entries"]
theorem sc_sInOrder : FnScope sInOrderN ["entries"] (defScope sInOrder) := ⟨rfl, rfl, rfl, by decide +kernel, rfl, by decide +kernel, by decide +kernel⟩
theorem ok_inOrder {f fO : Addr} {fd dO : FuncData} (F : Fun K "in_order" "in_order" sInOrder f fd) (O : DefT P w K mg base "order_of" 1 fO dO ["entry"] spOrd) (ms : mg "sorted" = none) (mt : mg "tuple" = none) : FnOk P w K mg base CX0 4 f fd ["entries"] spInOrder := by
  refine F.ok sc_sInOrder (fun vs H Q E h => ?_) (fun cdv A outer s H vs Q E hr h => ?_)
  · obtain ⟨l, pr, rfl, _⟩ := h
    rfl
  · obtain ⟨l, pr, rfl, hl, hE, q⟩ := h
    have nd := sc_sInOrder.nd
    have hr3 : Room 3 _ := hr
    have nd := sc_sInOrder.nd
    have hr3 : Room 3 _ := hr.mono (by decide)
    refine ⟨_, pss_one (ps_ret (pe_callTy call_tuple_of (by rfl) mt (by decide +kernel) (pa_cons (pe_callBK (cr_sortK O.ok hr3 O.b) (by rfl) ms (by decide +kernel) (pa_cons (pv 0) pa_nil) (pk_cons (pe_glob (v := .ref fO) (by rfl) O.g rfl) pk_nil)) pa_nil))), ?_⟩
    refine ⟨_, rfl, l, pr.map prV, rfl, rfl, SqL.of (by rw [hl, List.map_map]; rfl), ?_, .inl ?_, ?_, ?_, fun a3 H10 na3 s3 h3 => ⟨a3, _, rfl, .inl ⟨SqL.of h3, fun t3 nt3 => ?_⟩⟩⟩
    · intro d hd d' hd'
      rw [List.map_map] at hd hd'
      obtain ⟨x, _, rfl⟩ := List.mem_map.mp hd
      obtain ⟨y, _, rfl⟩ := List.mem_map.mp hd'
      exact ord_alike x.2 y.2
    · intro d hd
      rw [List.map_map] at hd
      obtain ⟨x, _, rfl⟩ := List.mem_map.mp hd
      exact ⟨_, _, rfl⟩
    · intro e he
      obtain ⟨x, _, rfl⟩ := List.mem_map.mp he
      show 1 ≤ 60
      decide
    · intro e he H1 sm Q1 hq
      obtain ⟨x, hx, rfl⟩ := List.mem_map.mp he
      exact ⟨x.1, x.2, rfl, sm _ _ (hE x hx), fun tp H2 sm2 h2 => hq _ _ sm2 (ord_dp h2)⟩
    · rw [keyed_prV]
      refine q t3 _ ?_ (s3.trans (same_new nt3)) ?_
      · cases e : H t3 with
        | none => rfl
        | some o => exact absurd (s3 _ _ e) (by rw [nt3]; intro z; cases z)
      · rw [upd_same, List.map_map]
        rfl
end
/-! ### own_entries -/
theorem snocInd {α : Type} {p : List α → Prop} (h0 : p []) (h1 : ∀ r y, p r → p (r ++ [y])) (l : List α) : p l := by
  have : ∀ m : List α, p m.reverse := fun m => by
    induction m with
    | nil => exact h0
    | cons y r ih => rw [List.reverse_cons]; exact h1 _ _ ih
  have := this l.reverse
  rwa [List.reverse_reverse] at this
theorem nodup_of_map {α β : Type} {f : α → β} {l : List α} (h : (l.map f).Nodup) : l.Nodup := (List.pairwise_map.mp h).imp fun h z => h (congrArg f z)
theorem perm_of_in {α : Type} {l ks : List α} (n1 : l.Nodup) (n2 : ks.Nodup) (h : ∀ x, x ∈ l ↔ x ∈ ks) : l.Perm ks := by
  classical
  induction l generalizing ks with
  | nil =>
    cases ks with
    | nil => exact .nil
    | cons y r => exact nomatch (h y).mpr List.mem_cons_self
  | cons x r ih =>
    have hx : x ∈ ks := (h x).mp List.mem_cons_self
    have p := List.perm_cons_erase hx
    refine (List.Perm.cons x (ih (List.nodup_cons.mp n1).2 (n2.erase x) fun y => ?_)).trans p.symm
    rw [n2.mem_erase_iff]
    constructor
    · intro hy
      exact ⟨fun z => (List.nodup_cons.mp n1).1 (z ▸ hy), (h y).mp (List.mem_cons_of_mem _ hy)⟩
    · intro ⟨ne, hy⟩
      exact (List.mem_cons.mp ((h y).mpr hy)).resolve_left ne
def hasN (l : List (Addr × Ent)) (n : Str) : Bool := l.any fun y => decide (y.2.name = n)
def onceN (ts : List (Addr × Ent)) : List (Addr × Ent) := ts.foldl (fun acc x => if hasN acc x.2.name = true then acc else acc ++ [x]) []
theorem onceN_snoc (ts : List (Addr × Ent)) (x : Addr × Ent) : onceN (ts ++ [x]) = if hasN (onceN ts) x.2.name = true then onceN ts else onceN ts ++ [x] := by
  unfold onceN
  rw [List.foldl_append]
  rfl
def kvN (l : List (Addr × Ent)) : List (Key × V) := l.map fun x => ((Sum.inr x.2.name : Key), V.ref x.1)
theorem hasN_iff {l : List (Addr × Ent)} {n : Str} : hasN l n = true ↔ ∃ y ∈ l, y.2.name = n := by
  unfold hasN
  rw [List.any_eq_true]
  exact ⟨fun ⟨y, hy, e⟩ => ⟨y, hy, of_decide_eq_true e⟩, fun ⟨y, hy, e⟩ => ⟨y, hy, decide_eq_true e⟩⟩
theorem onceN_sub (ts : List (Addr × Ent)) : ∀ x ∈ onceN ts, x ∈ ts := by
  induction ts using snocInd with
  | h0 => intro x hx; exact nomatch hx
  | h1 r y ih =>
    intro x hx
    rw [onceN_snoc] at hx
    by_cases h : hasN (onceN r) y.2.name = true
    · rw [if_pos h] at hx
      exact List.mem_append.mpr (.inl (ih x hx))
    · rw [if_neg h] at hx
      rcases List.mem_append.mp hx with hx | hx
      · exact List.mem_append.mpr (.inl (ih x hx))
      · exact List.mem_append.mpr (.inr hx)
theorem onceN_has (ts : List (Addr × Ent)) : ∀ x ∈ ts, hasN (onceN ts) x.2.name = true := by
  induction ts using snocInd with
  | h0 => intro x hx; exact nomatch hx
  | h1 r y ih =>
    intro x hx
    rw [onceN_snoc]
    by_cases h : hasN (onceN r) y.2.name = true
    · rw [if_pos h]
      rcases List.mem_append.mp hx with hx | hx
      · exact ih x hx
      · rw [List.mem_singleton.mp hx]; exact h
    · rw [if_neg h]
      rcases List.mem_append.mp hx with hx | hx
      · obtain ⟨z, hz, e⟩ := hasN_iff.mp (ih x hx)
        exact hasN_iff.mpr ⟨z, List.mem_append.mpr (.inl hz), e⟩
      · exact hasN_iff.mpr ⟨x, List.mem_append.mpr (.inr hx), rfl⟩
theorem onceN_nodup (ts : List (Addr × Ent)) : ((onceN ts).map fun x => x.2.name).Nodup := by
  induction ts using snocInd with
  | h0 => exact .nil
  | h1 r y ih =>
    rw [onceN_snoc]
    by_cases h : hasN (onceN r) y.2.name = true
    · rw [if_pos h]; exact ih
    · rw [if_neg h, List.map_append, List.nodup_append]
      refine ⟨ih, List.nodup_cons.mpr ⟨fun z => (nomatch z), .nil⟩, fun a ha b hb z => h ?_⟩
      obtain ⟨u, hu, rfl⟩ := List.mem_map.mp ha
      rw [List.mem_singleton.mp hb] at z
      exact hasN_iff.mpr ⟨u, hu, z⟩
theorem onceN_len (ts : List (Addr × Ent)) : (onceN ts).length ≤ ts.length := by
  induction ts using snocInd with
  | h0 => exact Nat.le_refl _
  | h1 r y ih =>
    rw [onceN_snoc, List.length_append]
    by_cases h : hasN (onceN r) y.2.name = true
    · rw [if_pos h]; omega
    · rw [if_neg h, List.length_append]; simp only [List.length_cons, List.length_nil]; omega
/-- whatever the order: where a name tells the entry, what is left is the set -/
theorem onceN_perm {ts pr : List (Addr × Ent)} (nd : (pr.map fun x => x.2.name).Nodup) (h1 : ∀ x ∈ ts, x ∈ pr) (h2 : ∀ x ∈ pr, x ∈ ts) : (onceN ts).Perm pr := by
  have n1 : (onceN ts).Nodup := nodup_of_map (onceN_nodup ts)
  have n2 : pr.Nodup := nodup_of_map nd
  refine perm_of_in n1 n2 fun x => ⟨fun h => h1 x (onceN_sub ts x h), fun h => ?_⟩
  obtain ⟨z, hz, e⟩ := hasN_iff.mp (onceN_has ts x (h2 x h))
  have hz' := h1 z (onceN_sub ts z hz)
  have : z = x := by
    obtain ⟨i, hi⟩ := List.mem_iff_getElem?.mp hz'
    obtain ⟨j, hj⟩ := List.mem_iff_getElem?.mp h
    have : i = j := (List.getElem?_inj (by rw [List.length_map]; exact (List.getElem?_eq_some_iff.mp hi).1) nd).mp (by rw [List.getElem?_map, List.getElem?_map, hi, hj]; exact congrArg some e)
    rw [this, hj] at hi
    exact (Option.some.inj hi).symm
  rw [← this]
  exact hz
theorem val_kvN {l : List (Addr × Ent)} {n : Str} : (hasN l n = false → valV (kvN l) (Sum.inr n) = none) ∧ (∀ v, valV (kvN l) (Sum.inr n) = some v → ∃ y ∈ l, y.2.name = n ∧ v = .ref y.1) ∧ (hasN l n = true → (valV (kvN l) (Sum.inr n)).isSome = true) := by
  induction l with
  | nil => exact ⟨fun _ => rfl, fun v h => (nomatch h), fun h => (nomatch h)⟩
  | cons x r ih =>
    have e0 : kvN (x :: r) = ((Sum.inr x.2.name : Key), V.ref x.1) :: kvN r := rfl
    have e1 : hasN (x :: r) n = (decide (x.2.name = n) || hasN r n) := rfl
    by_cases z : x.2.name = n
    · have e2 : valV (kvN (x :: r)) (Sum.inr n) = some (.ref x.1) := by rw [e0]; exact valV_pos (congrArg Sum.inr z)
      rw [e1, decide_eq_true z, e2]
      exact ⟨fun h => (nomatch h), fun v h => ⟨x, List.mem_cons_self, z, (Option.some.inj h).symm⟩, fun _ => rfl⟩
    · have e2 : valV (kvN (x :: r)) (Sum.inr n) = valV (kvN r) (Sum.inr n) := by rw [e0]; exact valV_neg fun q => z (Sum.inr.inj q)
      rw [e1, decide_eq_false z, e2, Bool.false_or]
      exact ⟨ih.1, fun v h => let ⟨y, hy, r⟩ := ih.2.1 v h; ⟨y, List.mem_cons_of_mem _ hy, r⟩, ih.2.2⟩
def spOwnEnts (Ts : List Addr) : Sp := fun vs H Q _ => ∃ (l pl gl : Addr) (ts : List (Addr × Ent)) (P G : List Str), vs = [.ref l, .ref pl, .ref gl] ∧ LT H l (ts.map fun x => V.ref x.1) ∧ (∀ x ∈ ts, H x.1 = some (.tup x.2.vals) ∧ x.2.Fine ∧ SeqAt.shaped (entD x.2) = true ∧ ofB x.2 P G = true) ∧
  (∀ x ∈ ts, ∀ y ∈ ts, x.2.name = y.2.name → x = y) ∧ ts.length ≤ 1000 ∧ (onceN ts).length ≤ 30 ∧ H pl = some (.tup (P.map V.str)) ∧ H gl = some (.tup (G.map V.str)) ∧ TabsG Ts H ∧
  ∀ (tp : Addr) (H' : Hp), TB1 Ts H H' → H' tp = some (.tup ((sortE (onceN ts)).map fun x => V.ref x.1)) → Q (.ref tp) H'
theorem ent_dp {K : PySem.W.Frag} {H : Hp} {a : Addr} {e : Ent} (h : H a = some (.tup e.vals)) : Dp K H (.ref a) (entD e) := dp_ent h
theorem tabs_updD {H : Hp} {Ts : List Addr} {l : Addr} {kvs : List (Key × V)} {o : HO} (t : TabsG Ts H) (e : H l = some (.dK kvs)) : TabsG Ts (upd H l o) := fun T hT => by
  obtain ⟨ps, e1, ok⟩ := t T hT
  exact ⟨ps, (upd_ne (ne_of e1 e (by intro z; cases z))).trans e1, ok⟩
theorem TB1.putD {Ts : List Addr} {H H' : Hp} {l : Addr} {kvs : List (Key × V)} {o : HO} (t : TB1 Ts H H') (n : H l = none) (e : H' l = some (.dK kvs)) : TB1 Ts H (upd H' l o) :=
  ⟨tabs_updD t.1 e, fun a u eu na => (upd_ne (ne_of_none eu n)).trans (t.2 a u eu na), fun a na => by
    by_cases z : a = l
    · rw [z]
      exact n
    · rw [upd_ne z] at na
      exact t.free a na, fun a u eu na => (upd_ne (ne_of_none eu n)).trans (t.oth a u eu na)⟩
section
variable {P : Program} {w : World} {K : PySem.W.Frag} {mg : Str → Option Value} {base : Heap}
abbrev sOwnEntsN : List Str := ["things", "places", "goods", "called", "thing"]
theorem sc_sOwnEnts : FnScope sOwnEntsN ["things", "places", "goods"] (defScope sOwnEnts) := ⟨rfl, rfl, rfl, by decide +kernel, rfl, by decide +kernel, by decide +kernel⟩
set_option maxHeartbeats 1000000 in
theorem ok_ownEnts {f fI fO : Addr} {fd dI dO : FuncData} {Ts : List Addr} (F : Fun K "own_entries" "own_entries" sOwnEnts f fd) (IO : DefT P w K mg base "is_entry_of" 5 fI dI ["thing", "places", "goods"] (spIsEntryOf Ts)) (IN : DefT P w K mg base "in_order" 4 fO dO ["entries"] spInOrder)
    (mis : mg "isinstance" = none) (mT_list : mg "list" = none) (mT_tuple : mg "tuple" = none) (ml : mg "len" = none) (mME : ∃ t, mg "MOST_ENTRIES" = some (.int 30 t)) : FnOk P w K mg base CX0 6 f fd ["things", "places", "goods"] (spOwnEnts Ts) := by
  obtain ⟨tME, mME⟩ := mME
  refine F.ok sc_sOwnEnts (fun vs H Q E h => ?_) (fun cdv A outer s H vs Q E hr h => ?_)
  · obtain ⟨l, pl, gl, ts, Ps, G, rfl, _⟩ := h
    rfl
  · obtain ⟨l, pl, gl, ts, Ps, G, rfl, hl, hE, inj, lt, l30, hp, hg, tg, q⟩ := h
    have nd := sc_sOwnEnts.nd
    have hr4 : Room 4 _ := hr.mono (by decide)
    have nd := sc_sOwnEnts.nd
    have hr4 : Room 4 _ := hr.mono (by decide)
    refine ⟨_, pss_cons (ps_if (pt_not (pt_val (pe_callB call_isiT (by rfl) mis (by decide +kernel) (pa_cons (pv 0) (pa_cons (pe_tup (pa_cons (pe_bltn (v := .ty "list") (u := .type "list") (by rfl) mT_list (by decide +kernel) rfl) (pa_cons (pe_bltn (v := .ty "tuple") (u := .type "tuple") (by rfl) mT_tuple (by decide +kernel) rfl) pa_nil))) pa_nil))))) (pss_one ps_never) pss_nil)
      (pss_cons (ps_set (i := 3) nd rfl (Or.inl rfl) pe_dnewK)
      (pss_cons (ps_for PassesOwn.never rfl (pi_seq (pv 0)) (pg_name (i := 4) nd rfl (Or.inl rfl))
        (pss_cons (ps_if (pt_not (pt_val (pe_call IO.ok hr (by rfl) IO.g IO.kp IO.b .nil pass0 (pa_cons (pv 4) (pa_cons (pv 1) (pa_cons (pv 2) pa_nil)))))) (pss_one ps_never) pss_nil)
        (pss_one (ps_if (pt_cmpR (op_neD hr.units) (pe_sdf (pv 3) (pe_ix ix_tup (pv 4) pe_int (fun _ _ => rfl)) (pv 4) ⟨rfl, rfl, rfl, rfl⟩) (pv 4) (nomark _)) (pss_one ps_never) pss_nil))))
      (pss_cons (ps_if (pt_cmpR op_gt (pe_callB call_lenD (by rfl) ml PySem.boot_len (pa_cons (pv 3) pa_nil)) (pe_glob (v := .int 30) rfl mME ⟨_, rfl⟩) (nomark _)) (pss_one ps_never) pss_nil)
      (pss_one (ps_ret (pe_call IN.ok hr4 (by rfl) IN.g IN.kp IN.b .nil pass0 (pa_cons (pe_callTy (call_listVals rfl) (by rfl) mT_list (by decide +kernel) (pa_cons (pe_vals (pv 3)) pa_nil)) pa_nil))))))), ?_⟩
    refine ⟨_, rfl, (by show 2 ≤ sizeLine; decide), fun tq ntq => ?_⟩
    have s0 := @same_new _ _ (.tup [V.ty "list", V.ty "tuple"]) ntq
    obtain ⟨t, ty, kt⟩ := is_lt (K := K) (hl.on s0)
    refine ⟨_, tq, _, t, _, true, rfl, upd_same, clsLT, ty, kt, _, rfl, iteF fun D nD => ?_⟩
    clear ty kt
    have sD := s0.trans (@same_new _ _ (.dK []) nD)
    have hDn : H D = none := s0.free nD
    have hD : (upd (upd H tq (.tup [V.ty "list", V.ty "tuple"])) D (.dK [])) D = some (.dK []) := upd_same
    generalize upd (upd H tq (.tup [V.ty "list", V.ty "tuple"])) D (.dK []) = H1 at sD hD
    dsimp only [tNext, tSeq]
    refine for_seq (k := 0) (hl.on sD) rfl (fun i σ H' => ∃ y4, σ = [some (.ref l), some (.ref pl), some (.ref gl), some (.ref D), y4] ∧ TB1 Ts H H' ∧ H' D = some (.dK (kvN (onceN (ts.take i))))) ⟨_, rfl, .same tg sD, hD⟩ ?_ ?_ ?_
    · rintro i σ H' hi ⟨y4, rfl, b, _⟩ o e n
      rcases hl with h | h
      · rw [sD _ _ h] at e
        exact (b.2 _ _ h fun _ z => nomatch z).trans e
      · rw [sD _ _ h] at e
        exact (b.2 _ _ h fun _ z => nomatch z).trans e
    · rintro i x σ H2 hx ⟨y4, rfl, b2, hD2⟩
      rw [List.getElem?_map] at hx
      obtain ⟨y, hy, rfl⟩ := Option.map_eq_some_iff.mp hx
      have my := List.mem_of_getElem? hy
      obtain ⟨e1, e2, e3, e4⟩ := hE y my
      refine ⟨_, rfl, _, rfl, _, rfl, y.1, pl, gl, y.2, Ps, G, rfl, b2.tk _ _ e1, e2, b2.tk _ _ hp, b2.tk _ _ hg, b2.1, fun H3 b3 => ?_⟩
      rw [e4]
      have b23 := b2.tr b3
      have hD3 := b3.dct hD2
      have hy3 := b23.tk _ _ e1
      refine ⟨true, rfl, iteF ⟨_, rfl, D, rfl, .inl ⟨_, .inl hD3⟩, _, rfl, y.1, _, 1, _, rfl, rfl, SqT.of hy3, at1 y.2, _, rfl, _, Sum.inr y.2.name, hD3, rfl, ?_, fun v hv => ?_, fun hv => ?_⟩⟩
      · have : (kvN (onceN (ts.take i))).length ≤ 1000 := by
          show (List.map _ _).length ≤ _
          rw [List.length_map]
          refine Nat.le_trans (onceN_len _) ?_
          rw [List.length_take]
          omega
        exact small1000 (by omega)
      · obtain ⟨z, hz, ez, rfl⟩ := val_kvN.2.1 v hv
        have mz : z ∈ ts := List.mem_of_mem_take (onceN_sub _ z hz)
        obtain rfl := inj z mz y my ez
        refine ⟨_, rfl, _, _, ent_dp hy3, ent_dp hy3, e3, e3, _, rfl, ?_⟩
        rw [SeqAt.eqv_refl _ (SeqAt.canLay_of_shaped e3)]
        refine iteF ⟨_, rfl, b23, ?_⟩
        rw [hD3, take_sn hy, onceN_snoc, if_pos (hasN_iff.mpr ⟨z, hz, rfl⟩)]
      · refine ⟨_, rfl, _, _, ent_dp ((upd_ne (ne_of hy3 hD3 (by intro z; cases z))).trans hy3), ent_dp ((upd_ne (ne_of hy3 hD3 (by intro z; cases z))).trans hy3), e3, e3, _, rfl, ?_⟩
        rw [SeqAt.eqv_refl _ (SeqAt.canLay_of_shaped e3)]
        refine iteF ⟨_, rfl, b23.putD hDn hD3, ?_⟩
        have hn : ¬ hasN (onceN (ts.take i)) y.2.name = true := fun z => by
          have := val_kvN.2.2 z
          rw [hv] at this
          cases this
        rw [upd_same, putK_new _ hv, take_sn hy, onceN_snoc, if_neg hn]
        show _ = some (HO.dK (List.map _ (_ ++ [y])))
        rw [List.map_append]
        rfl
    · rintro σ H2 ⟨y4, rfl, b2, hD2⟩
      rw [List.length_map, List.take_length] at hD2
      refine ⟨_, rfl, D, _, rfl, hD2, (kvN (onceN ts)).length, 30, rfl, rfl, _, rfl, ?_⟩
      have z30 : (kvN (onceN ts)).length = (onceN ts).length := List.length_map _
      rw [decide_eq_false (show ¬ ((30 : Int) < ((kvN (onceN ts)).length : Int)) by rw [z30]; omega)]
      refine iteF ⟨_, rfl, D, _, rfl, hD2, fun v nv => ?_⟩
      have nvD : D ≠ v := ne_of_none hD2 nv
      refine ⟨v, D, _, rfl, upd_same, (upd_ne nvD).trans hD2, fun a na => ?_⟩
      have s3 := (@same_new _ _ (valsO v D) nv).trans (@same_new _ _ (.lst ((kvN (onceN ts)).map (·.2))) na)
      have b3 := b2.tr (.same b2.1 s3)
      refine ⟨a, onceN ts, rfl, ?_, fun x hx => b3.tk _ _ (hE x (onceN_sub ts x hx)).1, fun tp H5 ntp s5 h5 => q tp H5 (b3.tr (.same b3.1 s5)) h5⟩
      rw [upd_same]
      show some (HO.lst (List.map _ (List.map _ _))) = _
      rw [List.map_map]
      rfl
end
def spHouseOf (Ts : List Addr) : Sp := fun vs H Q _ => ∃ (l1 l2 l3 : Addr) (xs ys : List Str) (ts : List (Addr × Ent)), vs = [.ref l1, .ref l2, .ref l3] ∧ LT H l1 (xs.map V.str) ∧ LT H l2 (ys.map V.str) ∧ LT H l3 (ts.map fun x => V.ref x.1) ∧
  (∀ y ∈ xs, nameB y = true) ∧ xs.length ≤ 1000 ∧ 1 ≤ (onceR xs).length ∧ (onceR xs).length ≤ 6 ∧ (∀ y ∈ ys, nameB y = true) ∧ ys.length ≤ 1000 ∧ 1 ≤ (onceR ys).length ∧ (onceR ys).length ≤ 3 ∧
  (∀ x ∈ ts, H x.1 = some (.tup x.2.vals) ∧ x.2.Fine ∧ SeqAt.shaped (entD x.2) = true ∧ ofB x.2 xs ys = true) ∧ (∀ x ∈ ts, ∀ y ∈ ts, x.2.name = y.2.name → x = y) ∧ ts.length ≤ 1000 ∧ (onceN ts).length ≤ 30 ∧ TabsG Ts H ∧
  ∀ (h : Addr) (P G : List Str) (H' : Hp), P.Perm (onceR xs) → sortedS P = true → G.Perm (onceR ys) → sortedS G = true → TB1 Ts H H' → (∃ hp hg he, H' h = some (.tup [.ref hp, .ref hg, .ref he]) ∧ H' hp = some (.tup (P.map V.str)) ∧ H' hg = some (.tup (G.map V.str)) ∧ H' he = some (.tup ((sortE (onceN ts)).map fun x => V.ref x.1))) → Q (.ref h) H'
theorem ofB_congr {e : Ent} {P P' G G' : List Str} (h1 : ∀ y, y ∈ P ↔ y ∈ P') (h2 : ∀ y, y ∈ G ↔ y ∈ G') : ofB e P G = ofB e P' G' := by
  have e1 : (fun y => decide (y ∈ P)) = fun y => decide (y ∈ P') := funext fun y => decide_eq_decide.mpr (h1 y)
  have e2 : goodOk e G = goodOk e G' := by
    unfold goodOk
    cases e.goodV with
    | str g => exact decide_eq_decide.mpr (h2 g)
    | _ => rfl
  unfold ofB
  rw [e1, e2]
section
variable {P : Program} {w : World} {K : PySem.W.Frag} {mg : Str → Option Value} {base : Heap}
abbrev sHouseOfN : List Str := ["places", "goods", "entries", "own_places", "own_goods"]
theorem sc_sHouseOf : FnScope sHouseOfN ["places", "goods", "entries"] (defScope sHouseOf) := ⟨rfl, rfl, rfl, by decide +kernel, rfl, by decide +kernel, by decide +kernel⟩
theorem ok_houseOf {f fR fO : Addr} {fd dR dO : FuncData} {Ts : List Addr} (F : Fun K "house_of" "house_of" sHouseOf f fd) (RN : DefT P w K mg base "rising_names" 3 fR dR ["things", "most"] (spRising Ts)) (OE : DefT P w K mg base "own_entries" 6 fO dO ["things", "places", "goods"] (spOwnEnts Ts))
    (mP : ∃ t, mg "MOST_PLACES" = some (.int 6 t)) (mG : ∃ t, mg "MOST_GOODS" = some (.int 3 t)) : FnOk P w K mg base CX0 7 f fd ["places", "goods", "entries"] (spHouseOf Ts) := by
  obtain ⟨tP, mP⟩ := mP
  obtain ⟨tG, mG⟩ := mG
  refine F.ok sc_sHouseOf (fun vs H Q E h => ?_) (fun cdv A outer s H vs Q E hr h => ?_)
  · obtain ⟨l1, l2, l3, xs, ys, ts, rfl, _⟩ := h
    rfl
  · obtain ⟨l1, l2, l3, xs, ys, ts, rfl, h1, h2, h3, n1, lx, a1, a2, n2, ly, g1, g2, hE, inj, lt, l30, tg, q⟩ := h
    have nd := sc_sHouseOf.nd
    have hr3 : Room 3 _ := hr.mono (by decide)
    have nd := sc_sHouseOf.nd
    have hr3 : Room 3 _ := hr.mono (by decide)
    refine ⟨_, pss_cons (ps_set (i := 3) nd rfl (Or.inl rfl) (pe_call RN.ok hr3 (by rfl) RN.g RN.kp RN.b .nil pass0 (pa_cons (pv 0) (pa_cons (pe_glob (v := .int 6) rfl mP ⟨_, rfl⟩) pa_nil))))
      (pss_cons (ps_set (i := 4) nd rfl (Or.inl rfl) (pe_call RN.ok hr3 (by rfl) RN.g RN.kp RN.b .nil pass0 (pa_cons (pv 1) (pa_cons (pe_glob (v := .int 3) rfl mG ⟨_, rfl⟩) pa_nil))))
      (pss_one (ps_ret (pe_tup (pa_cons (pv 3) (pa_cons (pv 4) (pa_cons (pe_call OE.ok hr (by rfl) OE.g OE.kp OE.b .nil pass0 (pa_cons (pv 2) (pa_cons (pv 3) (pa_cons (pv 4) pa_nil)))) pa_nil))))))), ?_⟩
    refine ⟨_, rfl, l1, xs, 6, rfl, h1, n1, lx, a1, by omega, by decide, tg, fun t1 Ps H1 pm1 so1 b1 k1 => ?_⟩
    refine ⟨_, rfl, l2, ys, 3, rfl, h2.by fun o e n => b1.2 _ _ e n, n2, ly, g1, by omega, by decide, b1.1, fun t2 G H2 pm2 so2 b2 k2 => ?_⟩
    have b12 := b1.tr b2
    have m1 : ∀ y, y ∈ xs ↔ y ∈ Ps := fun y => ⟨fun h => pm1.mem_iff.mpr ((onceR_mem xs y).mpr h), fun h => (onceR_mem xs y).mp (pm1.mem_iff.mp h)⟩
    have m2 : ∀ y, y ∈ ys ↔ y ∈ G := fun y => ⟨fun h => pm2.mem_iff.mpr ((onceR_mem ys y).mpr h), fun h => (onceR_mem ys y).mp (pm2.mem_iff.mp h)⟩
    refine ⟨_, rfl, _, rfl, _, rfl, _, rfl, _, rfl, l3, t1, t2, ts, Ps, G, rfl, h3.by fun o e n => b12.2 _ _ e n, fun x hx => ?_, inj, lt, l30, b2.tk _ _ k1, k2, b12.1, fun t3 H3 b3 k3 => ?_⟩
    · obtain ⟨e1, e2, e3, e4⟩ := hE x hx
      exact ⟨b12.tk _ _ e1, e2, e3, (ofB_congr m1 m2) ▸ e4⟩
    · have b123 := b12.tr b3
      refine ⟨(by show 3 ≤ sizeLine; decide), fun h nh => ?_⟩
      have s4 := @same_new _ _ (.tup [V.ref t1, .ref t2, .ref t3]) nh
      exact q h Ps G _ pm1 so1 pm2 so2 (b123.tr (.same b123.1 s4)) ⟨t1, t2, t3, upd_same, s4 _ _ (b3.tk _ _ (b2.tk _ _ k1)), s4 _ _ (b3.tk _ _ k2), s4 _ _ k3⟩
end
/-! ### entries told by their parts -/
def snB : V → Bool
  | .int _ => true
  | .str _ => true
  | _ => false
theorem vals_sn (e : Ent) : ∀ v ∈ e.vals, (∃ i, v = .int i) ∨ ∃ s, v = .str s := by
  have h : e.vals.all snB = true := by cases e <;> rfl
  intro v hv
  have := List.all_eq_true.mp h v hv
  cases v with
  | int i => exact .inl ⟨i, rfl⟩
  | str s => exact .inr ⟨s, rfl⟩
  | _ => exact nomatch this
theorem wno {a b : String} (h : (Str.ofString a == Str.ofString b) = false) : ¬ (Str.ofString a = Str.ofString b) := fun e => by rw [e] at h; exact absurd (beq_self_eq_true (Str.ofString b)) (by rw [h]; exact fun z => nomatch z)
theorem vals_inj {e f : Ent} (h : e.vals = f.vals) : e = f := by
  have w2 : ∀ x ∈ words7, ∀ y ∈ words7, V.str x = V.str y → x = y := fun x _ y _ z => V.str.inj z
  have hw : e.word = f.word := by
    have := (List.cons.inj h).1
    exact V.str.inj this
  cases e <;> cases f <;> first
    | (simpa [Ent.vals, Ent.rest, Ent.name, Ent.moment, Ent.word] using h)
    | (exact absurd hw (wno (by decide +kernel)))
/-! ### is_entry, asked of anything -/
/-- a thing of the usual kinds -/
inductive Thg (H : Hp) : V → Prop where
  | str (z : Str) (h : z.length ≤ 1000) : Thg H (.str z)
  | int (i : Int) : Thg H (.int i)
  | bl (b : Bool) : Thg H (.bl b)
  | non : Thg H .non
  | lst {a : Addr} {xs : List V} (h : H a = some (.lst xs)) : Thg H (.ref a)
  | tup {a : Addr} {xs : List V} (h : H a = some (.tup xs)) : Thg H (.ref a)
  | dct {a : Addr} {kvs : List (Key × V)} (h : H a = some (.dK kvs)) : Thg H (.ref a)
theorem Thg.on {H H' : Hp} {v : V} (k : ∀ a o, v = .ref a → H a = some o → (∀ ps, o ≠ .tbl ps) → H' a = some o) (t : Thg H v) : Thg H' v := by
  cases t with
  | str z h => exact .str z h
  | int i => exact .int i
  | bl b => exact .bl b
  | non => exact .non
  | lst h => exact .lst (k _ _ rfl h fun ps z => nomatch z)
  | tup h => exact .tup (k _ _ rfl h fun ps z => nomatch z)
  | dct h => exact .dct (k _ _ rfl h fun ps z => nomatch z)
theorem Thg.of_part {H : Hp} {v : V} (p : Part v) : Thg H v := by
  rcases p with ⟨z, rfl, h⟩ | ⟨i, rfl⟩
  · exact .str z h
  · exact .int i
/-- the built-in kind of a thing -/
theorem Thg.ty {K : PySem.W.Frag} {H : Hp} {v : V} (t : Thg H v) : ∃ n : String, TyX K H v (.type n) ∧ n ∈ ["str", "int", "bool", "NoneType", "list", "tuple", "dict"] ∧ (n = "str" ↔ ∃ z, v = .str z) ∧ (n = "tuple" ↔ ∃ a xs, v = .ref a ∧ H a = some (.tup xs)) := by
  have no : ∀ {p q : Prop}, ¬ p → ¬ q → (p ↔ q) := fun a b => ⟨fun x => absurd x a, fun x => absurd x b⟩
  cases t with
  | str z h => exact ⟨"str", .base (.str z), by decide, ⟨fun _ => ⟨z, rfl⟩, fun _ => rfl⟩, no (by decide) (fun ⟨_, _, e, _⟩ => nomatch e)⟩
  | int i => exact ⟨"int", .base (.int i), by decide, no (by decide) (fun ⟨_, e⟩ => nomatch e), no (by decide) (fun ⟨_, _, e, _⟩ => nomatch e)⟩
  | bl b => exact ⟨"bool", .base (.bl b), by decide, no (by decide) (fun ⟨_, e⟩ => nomatch e), no (by decide) (fun ⟨_, _, e, _⟩ => nomatch e)⟩
  | non => exact ⟨"NoneType", .base .non, by decide, no (by decide) (fun ⟨_, e⟩ => nomatch e), no (by decide) (fun ⟨_, _, e, _⟩ => nomatch e)⟩
  | lst h => exact ⟨"list", .base (.lst h), by decide, no (by decide) (fun ⟨_, e⟩ => nomatch e), no (by decide) (fun ⟨_, _, e, h2⟩ => by cases e; rw [h] at h2; exact nomatch h2)⟩
  | tup h => exact ⟨"tuple", .base (.tup h), by decide, no (by decide) (fun ⟨_, e⟩ => nomatch e), ⟨fun _ => ⟨_, _, rfl, h⟩, fun _ => rfl⟩⟩
  | dct h => exact ⟨"dict", .base (.dK h), by decide, no (by decide) (fun ⟨_, e⟩ => nomatch e), no (by decide) (fun ⟨_, _, e, h2⟩ => by cases e; rw [h] at h2; exact nomatch h2)⟩
theorem kit_str {n : String} (m : n ∈ ["str", "int", "bool", "NoneType", "list", "tuple", "dict"]) : kitB n "str" = some (decide (n = "str")) := by
  simp only [List.mem_cons, List.not_mem_nil, or_false] at m
  rcases m with rfl | rfl | rfl | rfl | rfl | rfl | rfl <;> decide +kernel
theorem kit_tup {n : String} (m : n ∈ ["str", "int", "bool", "NoneType", "list", "tuple", "dict"]) : kitB n "tuple" = some (decide (n = "tuple")) := by
  simp only [List.mem_cons, List.not_mem_nil, or_false] at m
  rcases m with rfl | rfl | rfl | rfl | rfl | rfl | rfl <;> decide +kernel
namespace EqE
open PySem PySem.Spec in
theorem no_str (t : Str) (u : Tok) (l : Addr) (es : Array DictEntry) (n : Nat) (od : Option Addr) (sl : Array (Option Value)) :
    Meets (Builtin.«str.__eq__» ⟨[.str t u, .ref l], []⟩) (fun _ R z => z.heap.get? l = some ⟨.type "dict", od, .dict es n, sl⟩ ∧ R (.ok (.ret .notImplemented)) z) := by
  refine .of_wp fun prog w A R z h => ?_
  obtain ⟨hp, g, d, tk, os⟩ := z
  obtain ⟨hl, h⟩ := h
  wp_walk using wpAny_loadPart' hl, wpAny_load hl
  exact ⟨_, rfl, h⟩
theorem no_dict (t : Str) (u : Tok) (l : Addr) (es : Array DictEntry) (n : Nat) (od : Option Addr) (sl : Array (Option Value)) :
    Meets (Builtin.«dict.__eq__» ⟨[.ref l, .str t u], []⟩) (fun _ R z => z.heap.get? l = some ⟨.type "dict", od, .dict es n, sl⟩ ∧ R (.ok (.ret .notImplemented)) z) := by
  refine .of_wp fun prog w A R z h => ?_
  obtain ⟨hp, g, d, tk, os⟩ := z
  obtain ⟨hl, h⟩ := h
  have f1 := F.sub_str_dict
  wp_walk using wpAny_loadPart' hl, wpAny_load hl
  exact ⟨_, rfl, h⟩
theorem dict_txt {prog : Program} {w : World} {A : Around} {E : Value → Shared → Prop} {z : Shared} {Q : Value → Shared → Prop} {t : Str} {u : Tok} {l : Addr} {es : Array DictEntry} {n : Nat} {od : Option Addr} {sl : Array (Option Value)} (ho : z.heap.get? l = some ⟨.type "dict", od, .dict es n, sl⟩) (hu : A.units < cLine) (h : Q (.bool false) z) :
    wpAny (model prog w) A (compareOp .Eq (.ref l) (.str t u)) Q E z :=
  SeqAt.rc_eq_decline_or (k := false) ⟨_, ho, rfl⟩ (typeIs_str z t u) (by decide) F.sub_str_dict F.slot_dict_eq F.slot_str_eq_refl
    (fun _ hq => call_meets F.slot_dict_eq ⟨_, ho, rfl⟩ F.entry_dict_eq (F.args_dict_eq_2 _ _) (no_dict t u l es n od sl) ⟨ho, hq⟩)
    (fun _ hq => call_meets F.slot_str_eq_refl (typeIs_str z t u) F.entry_str_eq (F.args_str_eq_2 _ _) (no_str t u l es n od sl) ⟨ho, hq⟩)
    (fun _ hq => wpAny_of_eq (rfl : isSame (.ref l) (.str t u) = pure false) hq) (.inr hu) h
def rEqE : R2 := fun x y G W => ∃ s, y = V.str s ∧ Thg G x ∧ W (V.bl (decide (x = V.str s))) G
theorem op_eqE {X : Cx} (hu : X.A.units + 64 < cLine) : OpR X (compareOp .Eq) rEqE := by
  rintro pins z τ G x y v u W I rx ry ⟨s, rfl, th, q⟩
  obtain ⟨t, rfl⟩ : ∃ t, u = Value.str s t := ry
  cases th with
  | str z' h => exact op_eq pins z τ G (V.str z') (V.str s) v _ W I rx ⟨t, rfl⟩ ⟨rfl, q⟩
  | int i => exact op_eq pins z τ G (V.int i) (V.str s) v _ W I rx ⟨t, rfl⟩ ⟨rfl, q⟩
  | bl i => exact op_eq pins z τ G (V.bl i) (V.str s) v _ W I rx ⟨t, rfl⟩ ⟨rfl, q⟩
  | non => exact op_eq pins z τ G V.non (V.str s) v _ W I rx ⟨t, rfl⟩ ⟨rfl, q⟩
  | @lst a xs h =>
    obtain rfl : v = Value.ref a := rx
    rw [decide_eq_false fun q => nomatch q] at q
    obtain ⟨its, rv, pl, hz⟩ := I.list (SqL.of h)
    exact SeqAt.RcAt.list_str s t pl.isList (by omega) _ _ _ _ ⟨.bl false, G, I, rfl, q⟩
  | @tup a xs h =>
    obtain rfl : v = Value.ref a := rx
    rw [decide_eq_false fun q => nomatch q] at q
    obtain ⟨its, rv, pl, hz⟩ := I.tuple (SqT.of h)
    exact SeqAt.RcAt.tuple_str s t pl (by omega) _ _ _ _ ⟨.bl false, G, I, rfl, q⟩
  | @dct a kvs h =>
    obtain rfl : v = Value.ref a := rx
    rw [decide_eq_false fun q => nomatch q] at q
    obtain ⟨_, _, vs, _, o, es, ep, h1, h2, h3, _⟩ := (show ObjOk X.prog X.w G z.heap a (.dK kvs) from I.hok a _ h)
    obtain ⟨oc, od, dt, sl⟩ := o
    have z1 := h2.1
    dsimp only at z1 h3
    subst z1 h3
    exact dict_txt h1 (by omega) ⟨.bl false, G, I, rfl, q⟩
end EqE
/-- the words of the forms alone are keys -/
theorem forms_only {K : PySem.W.Frag} {a : Addr} {es : Array DictEntry} {n : Nat} (h : K.lookup a = some ⟨.type "dict", none, .dict es n, #[]⟩) (k : (es.toList.all fun e => match e.key with | .str s _ => words7.any fun y => s == y | _ => false) = true) (z : Str) (nz : z ∉ words7) : PySem.W.nsIn K a z = some none := by
  have all := List.all_eq_true.mp k
  have ks : ∀ e ∈ es.toList, ∃ s t, e.key = .str s t ∧ s ∈ words7 := fun e he => by
    have := all e he
    cases ek : e.key with
    | str s t =>
      rw [ek] at this
      obtain ⟨y, hy, e2⟩ := List.any_eq_true.mp this
      exact ⟨s, t, rfl, by rw [eq_of_beq e2]; exact hy⟩
    | _ => rw [ek] at this; exact nomatch this
  unfold PySem.W.nsIn
  rw [h]
  dsimp only
  have f1 : es.toList.find? (fun e => e.key.isStr z) = none := by
    rw [List.find?_eq_none]
    intro e he q
    obtain ⟨s, t, ek, hs⟩ := ks e he
    rw [ek] at q
    have q2 : (s == z) = true := q
    exact nz (by rw [← eq_of_beq q2]; exact hs)
  rw [f1]
  have f2 : es.toList.any (fun e => e.refKey) = false := by
    rw [List.any_eq_false]
    intro e he q
    obtain ⟨s, t, ek, hs⟩ := ks e he
    unfold DictEntry.refKey at q
    rw [ek] at q
    exact Bool.false_ne_true q
  dsimp only
  rw [f2]
  rfl
def spWholeA : Sp := fun vs H Q _ => ∃ v : V, vs = [v] ∧ Thg H v ∧ Q (.bl (match v with | .int _ => true | _ => false)) H
def spFitsA (T1 : Addr) : Sp := fun vs H Q _ => ∃ (v : V) (x : Str), vs = [v, .str x] ∧ Thg H v ∧ x ∈ sorts6 ∧ GxR.TabG H T1 ∧ ∀ H', GxR.Tabbed T1 H H' → Q (.bl (fitB v x)) H'
/-- the parts of an entry -/
def IsE (xs : List V) : Prop := ∃ e : Ent, e.Fine ∧ xs = e.vals
/-- what is an entry, and what is none -/
def spIsEntryA (T1 T2 : Addr) : Sp := fun vs H Q _ => ∃ v : V, vs = [v] ∧ GxR.TabG H T1 ∧ GxR.TabG H T2 ∧
  ((Thg H v ∧ (∀ a xs, v = .ref a → H a ≠ some (.tup xs)) ∧ ∀ H', TB2 T1 T2 H H' → Q (.bl false) H') ∨
   ∃ (a : Addr) (xs : List V), v = .ref a ∧ H a = some (.tup xs) ∧ xs.length ≤ 1000 ∧ (∀ x ∈ xs, Thg H x) ∧ (IsE xs → ∀ H', TB2 T1 T2 H H' → Q (.bl true) H') ∧ (¬ IsE xs → ∀ H', TB2 T1 T2 H H' → Q (.bl false) H'))
theorem vals_len (e : Ent) : e.vals.length = e.sorts.length + 1 := by cases e <;> rfl
theorem sorts_word {e f : Ent} (h : e.word = f.word) : e.sorts = f.sorts := by
  cases e <;> cases f <;> first
    | rfl
    | (exact absurd h (wno (by decide +kernel)))
theorem word_of {z : Str} (h : z ∈ words7) : ∃ e : Ent, e.word = z := by
  simp only [words7, List.mem_cons, List.not_mem_nil, or_false] at h
  rcases h with rfl | rfl | rfl | rfl | rfl | rfl | rfl
  · exact ⟨.come "" 0 "" "" 0 0, rfl⟩
  · exact ⟨.go "" 0 "" "" 0, rfl⟩
  · exact ⟨.move "" 0 "" "" "" 0, rfl⟩
  · exact ⟨.some_ "" 0 "" "" "", rfl⟩
  · exact ⟨.swap "" 0 "" "", rfl⟩
  · exact ⟨.count "" 0 "" "" 0 "", rfl⟩
  · exact ⟨.look "" 0 "" "", rfl⟩
theorem fit_str {v : V} {x : Str} (h : fitB v x = true) (hx : x = "name" ∨ x = "end") : ∃ s, v = .str s := by
  rcases hx with rfl | rfl
  · unfold fitB at h
    rw [if_pos rfl] at h
    cases v with
    | str s => exact ⟨s, rfl⟩
    | _ => exact nomatch h
  · unfold fitB at h
    rw [if_neg ken, if_pos rfl] at h
    cases v with
    | str s => exact ⟨s, rfl⟩
    | int i => simp [nmV] at h
    | bl i => simp [nmV] at h
    | non => simp [nmV] at h
    | ref i => simp [nmV] at h
    | _ => simp [nmV] at h
theorem fit_int {v : V} {x : Str} (h : fitB v x = true) (hx : x ∈ sorts4) : ∃ i, v = .int i := by
  have n1 : x ≠ "name" ∧ x ≠ "end" := by
    simp only [sorts4, List.mem_cons, List.not_mem_nil, or_false] at hx
    rcases hx with rfl | rfl | rfl | rfl
    · exact ⟨kmn, kme⟩
    · exact ⟨kyn, kye⟩
    · exact ⟨kcn, kce⟩
    · exact ⟨kpn, kpe⟩
  unfold fitB at h
  rw [if_neg n1.1, if_neg n1.2] at h
  cases v with
  | int i => exact ⟨i, rfl⟩
  | _ => exact nomatch h
theorem fit_part {H : Hp} {v : V} {x : Str} (t : Thg H v) (h : fitB v x = true) (hx : x ∈ sorts6) : Part v := by
  have : (∃ s, v = .str s) ∨ ∃ i, v = .int i := by
    simp only [sorts6, List.mem_cons, List.not_mem_nil, or_false] at hx
    rcases hx with rfl | rfl | rfl | rfl | rfl | rfl
    · exact .inl (fit_str h (.inl rfl))
    · exact .inl (fit_str h (.inr rfl))
    · exact .inr (fit_int h (by simp [sorts4]))
    · exact .inr (fit_int h (by simp [sorts4]))
    · exact .inr (fit_int h (by simp [sorts4]))
    · exact .inr (fit_int h (by simp [sorts4]))
  rcases this with ⟨s, rfl⟩ | ⟨i, rfl⟩
  · cases t with
    | str _ h => exact .inl ⟨s, rfl, h⟩
  · exact .inr ⟨i, rfl⟩
/-- parts that fit are those of an entry -/
theorem ent_of {f : Ent} {ps : List V} (l : ps.length = f.sorts.length) (h : ∀ (i : Nat) (v : V) (x : Str), ps[i]? = some v → f.sorts[i]? = some x → fitB v x = true) : ∃ e : Ent, e.word = f.word ∧ e.parts = ps := by
  have s : ∀ (i : Nat) (x : Str), f.sorts[i]? = some x → x = "name" ∨ x = "end" → ∃ s, ps[i]? = some (.str s) := fun i x hx k => by
    have lt : i < ps.length := by rw [l]; exact (List.getElem?_eq_some_iff.mp hx).1
    obtain ⟨s, e⟩ := fit_str (h i _ x (List.getElem?_eq_getElem lt) hx) k
    exact ⟨s, by rw [List.getElem?_eq_getElem lt, e]⟩
  have n : ∀ (i : Nat) (x : Str), f.sorts[i]? = some x → x ∈ sorts4 → ∃ j, ps[i]? = some (.int j) := fun i x hx k => by
    have lt : i < ps.length := by rw [l]; exact (List.getElem?_eq_some_iff.mp hx).1
    obtain ⟨s, e⟩ := fit_int (h i _ x (List.getElem?_eq_getElem lt) hx) k
    exact ⟨s, by rw [List.getElem?_eq_getElem lt, e]⟩
  have m4 : ("moment" : Str) ∈ sorts4 ∧ ("many" : Str) ∈ sorts4 ∧ ("counted" : Str) ∈ sorts4 ∧ ("price" : Str) ∈ sorts4 := by simp [sorts4]
  cases f with
  | come =>
    match ps, l with
    | [p0, p1, p2, p3, p4, p5], _ =>
      obtain ⟨a0, e0⟩ := s 0 _ rfl (.inl rfl); obtain ⟨a1, e1⟩ := n 1 _ rfl m4.1; obtain ⟨a2, e2⟩ := s 2 _ rfl (.inl rfl); obtain ⟨a3, e3⟩ := s 3 _ rfl (.inl rfl); obtain ⟨a4, e4⟩ := n 4 _ rfl m4.2.1; obtain ⟨a5, e5⟩ := n 5 _ rfl m4.2.2.2
      cases e0; cases e1; cases e2; cases e3; cases e4; cases e5
      exact ⟨.come a0 a1 a2 a3 a4 a5, rfl, rfl⟩
  | go =>
    match ps, l with
    | [p0, p1, p2, p3, p4], _ =>
      obtain ⟨a0, e0⟩ := s 0 _ rfl (.inl rfl); obtain ⟨a1, e1⟩ := n 1 _ rfl m4.1; obtain ⟨a2, e2⟩ := s 2 _ rfl (.inl rfl); obtain ⟨a3, e3⟩ := s 3 _ rfl (.inl rfl); obtain ⟨a4, e4⟩ := n 4 _ rfl m4.2.1
      cases e0; cases e1; cases e2; cases e3; cases e4
      exact ⟨.go a0 a1 a2 a3 a4, rfl, rfl⟩
  | move =>
    match ps, l with
    | [p0, p1, p2, p3, p4, p5], _ =>
      obtain ⟨a0, e0⟩ := s 0 _ rfl (.inl rfl); obtain ⟨a1, e1⟩ := n 1 _ rfl m4.1; obtain ⟨a2, e2⟩ := s 2 _ rfl (.inl rfl); obtain ⟨a3, e3⟩ := s 3 _ rfl (.inl rfl); obtain ⟨a4, e4⟩ := s 4 _ rfl (.inl rfl); obtain ⟨a5, e5⟩ := n 5 _ rfl m4.2.1
      cases e0; cases e1; cases e2; cases e3; cases e4; cases e5
      exact ⟨.move a0 a1 a2 a3 a4 a5, rfl, rfl⟩
  | some_ =>
    match ps, l with
    | [p0, p1, p2, p3, p4], _ =>
      obtain ⟨a0, e0⟩ := s 0 _ rfl (.inl rfl); obtain ⟨a1, e1⟩ := n 1 _ rfl m4.1; obtain ⟨a2, e2⟩ := s 2 _ rfl (.inl rfl); obtain ⟨a3, e3⟩ := s 3 _ rfl (.inl rfl); obtain ⟨a4, e4⟩ := s 4 _ rfl (.inr rfl)
      cases e0; cases e1; cases e2; cases e3; cases e4
      exact ⟨.some_ a0 a1 a2 a3 a4, rfl, rfl⟩
  | swap =>
    match ps, l with
    | [p0, p1, p2, p3], _ =>
      obtain ⟨a0, e0⟩ := s 0 _ rfl (.inl rfl); obtain ⟨a1, e1⟩ := n 1 _ rfl m4.1; obtain ⟨a2, e2⟩ := s 2 _ rfl (.inl rfl); obtain ⟨a3, e3⟩ := s 3 _ rfl (.inl rfl)
      cases e0; cases e1; cases e2; cases e3
      exact ⟨.swap a0 a1 a2 a3, rfl, rfl⟩
  | count =>
    match ps, l with
    | [p0, p1, p2, p3, p4, p5], _ =>
      obtain ⟨a0, e0⟩ := s 0 _ rfl (.inl rfl); obtain ⟨a1, e1⟩ := n 1 _ rfl m4.1; obtain ⟨a2, e2⟩ := s 2 _ rfl (.inl rfl); obtain ⟨a3, e3⟩ := s 3 _ rfl (.inl rfl); obtain ⟨a4, e4⟩ := n 4 _ rfl m4.2.2.1; obtain ⟨a5, e5⟩ := s 5 _ rfl (.inl rfl)
      cases e0; cases e1; cases e2; cases e3; cases e4; cases e5
      exact ⟨.count a0 a1 a2 a3 a4 a5, rfl, rfl⟩
  | look =>
    match ps, l with
    | [p0, p1, p2, p3], _ =>
      obtain ⟨a0, e0⟩ := s 0 _ rfl (.inl rfl); obtain ⟨a1, e1⟩ := n 1 _ rfl m4.1; obtain ⟨a2, e2⟩ := s 2 _ rfl (.inl rfl); obtain ⟨a3, e3⟩ := s 3 _ rfl (.inl rfl)
      cases e0; cases e1; cases e2; cases e3
      exact ⟨.look a0 a1 a2 a3, rfl, rfl⟩
theorem once_len_nd {e : Ent} (h : ¬ e.places.Nodup) : (once e.places).length ≠ e.places.length := by
  have two : ∀ o t : Str, ¬ [o, t].Nodup → (once [o, t]).length ≠ 2 := fun o t h => by
    have e : o = t := Classical.byContradiction fun z => h (List.nodup_cons.mpr ⟨fun q => z (List.mem_singleton.mp q), nd1 _⟩)
    subst e
    have : once [o, o] = [o] := by
      show (if ([o] : List Str).contains o = true then [o] else [o] ++ [o]) = [o]
      rw [if_pos (by simp)]
    rw [this]
    exact fun z => by cases z
  cases e with
  | some_ n m g o t =>
    by_cases z : t = ""
    · rw [show Ent.places (.some_ n m g o t) = [o] from if_pos z] at h
      exact absurd (nd1 _) h
    · rw [show Ent.places (.some_ n m g o t) = [o, t] from if_neg z] at h ⊢
      exact two o t h
  | move n m g o t k => exact two o t h
  | swap n m o t => exact two o t h
  | come => exact absurd (nd1 _) h
  | go => exact absurd (nd1 _) h
  | count => exact absurd (nd1 _) h
  | look => exact absurd (nd1 _) h
section
variable {P : Program} {w : World} {K : PySem.W.Frag} {mg : Str → Option Value} {base : Heap}
theorem ok_wholeA {f : Addr} {fd : FuncData} (F : Fun K "is_whole" "is_whole" sWhole f fd) (mi : mg "isinstance" = none) (m1 : mg "int" = none) (m2 : mg "bool" = none) : FnOk P w K mg base CX0 1 f fd ["thing"] spWholeA := by
  refine F.ok scWhole (fun vs H Q E h => ?_) (fun cdv A outer s H vs Q E hr h => ?_)
  · obtain ⟨v, rfl, _⟩ := h
    rfl
  · obtain ⟨v, rfl, pt, q⟩ := h
    refine ⟨_, pss_one (ps_ret (pe_and (pe_callB call_isi (by rfl) mi (by decide +kernel) (pa_cons (pv 0) (pa_cons (pe_bltn (v := .ty "int") (u := .type "int") (by rfl) m1 (by decide +kernel) rfl) pa_nil)))
      (pe_one (pe_not (pe_callB call_isi (by rfl) mi (by decide +kernel) (pa_cons (pv 0) (pa_cons (pe_bltn (v := .ty "bool") (u := .type "bool") (by rfl) m2 (by decide +kernel) rfl) pa_nil))))))), ?_⟩
    cases pt with
    | str z h => exact ⟨_, rfl, _, _, _, _, false, rfl, .ty "int", .base (.str z), kit_ty (by decide +kernel), _, rfl, iteF q⟩
    | int i => exact ⟨_, rfl, _, _, _, _, true, rfl, .ty "int", .base (.int i), kit_ty (by decide +kernel), _, rfl, iteT ⟨_, rfl, _, _, _, _, false, rfl, .ty "bool", .base (.int i), kit_ty (by decide +kernel), _, rfl, q⟩⟩
    | bl b => exact ⟨_, rfl, _, _, _, _, true, rfl, .ty "int", .base (.bl b), kit_ty (by decide +kernel), _, rfl, iteT ⟨_, rfl, _, _, _, _, true, rfl, .ty "bool", .base (.bl b), kit_ty (by decide +kernel), _, rfl, q⟩⟩
    | non => exact ⟨_, rfl, _, _, _, _, false, rfl, .ty "int", .base .non, kit_ty (by decide +kernel), _, rfl, iteF q⟩
    | lst h => exact ⟨_, rfl, _, _, _, _, false, rfl, .ty "int", .base (.lst h), kit_ty (by decide +kernel), _, rfl, iteF q⟩
    | tup h => exact ⟨_, rfl, _, _, _, _, false, rfl, .ty "int", .base (.tup h), kit_ty (by decide +kernel), _, rfl, iteF q⟩
    | dct h => exact ⟨_, rfl, _, _, _, _, false, rfl, .ty "int", .base (.dK h), kit_ty (by decide +kernel), _, rfl, iteF q⟩
theorem ok_fitsA {f fN fW aB T1 : Addr} {fd dN dW : FuncData} (F : Fun K "fits" "fits" sFits f fd) (N : DefT P w K mg base "is_name" 1 fN dN ["thing"] (spName K T1)) (W : DefT P w K mg base "is_whole" 1 fW dW ["thing"] spWholeA)
    (mB : mg "BOUNDS" = some (.ref aB)) (hB : ∀ x ∈ sorts4, ∃ aT, KDct K w aB x (.ref aT) ∧ ∀ H, SqT K H aT [.int (bnd x).1, .int (bnd x).2]) : FnOk P w K mg base CX0 2 f fd ["part", "sort"] (spFitsA T1) := by
  refine F.ok scFits (fun vs H Q E h => ?_) (fun cdv A outer s H vs Q E hr h => ?_)
  · obtain ⟨v, x, rfl, _⟩ := h
    rfl
  · obtain ⟨v, x, rfl, pt, hx, tg, q⟩ := h
    have nd := scFits.nd
    have hu64 := hr.units
    refine ⟨_, pss_cons (ps_if (pt_cmpR op_eq (pv 1) pe_str (nomark _)) (pss_one (ps_ret (pe_call N.ok hr (by rfl) N.g N.kp N.b .nil pass0 (pa_cons (pv 0) pa_nil)))) pss_nil)
      (pss_cons (ps_if (pt_cmpR op_eq (pv 1) pe_str (nomark _)) (pss_one (ps_ret (pe_or (pe_cmpR (EqE.op_eqE hu64) (pv 0) pe_str (nomark _)) (pe_one (pe_call N.ok hr (by rfl) N.g N.kp N.b .nil pass0 (pa_cons (pv 0) pa_nil)))))) pss_nil)
      (pss_cons (ps_asg (pe_ix ix_kdict (pe_glob (v := .ref aB) rfl mB rfl) (pv 1) (fun _ _ => rfl)) (pg_tup (by rfl) (pgs_cons (pg_name (i := 2) nd rfl (Or.inl rfl)) (pgs_cons (pg_name (i := 3) nd rfl (Or.inl rfl)) pgs_nil))))
      (pss_one (ps_ret (pe_and (pe_call W.ok hr (by rfl) W.g W.kp W.b .nil pass0 (pa_cons (pv 0) pa_nil)) (pe_one (pe_chain op_le op_le (pv 2) (pv 0) (pv 3)))))))), ?_⟩
    have same0 : GxR.Tabbed T1 H H := ⟨tg, fun _ _ => rfl⟩
    -- is_name of the part
    have nm : ∀ (Q1 : VK), (∀ H2, GxR.Tabbed T1 H H2 → Q1 (.bl (nmV v)) H2) → spName K T1 ([v] ++ []) H Q1 E0 := fun Q1 h1 => by
      obtain ⟨n, ty, m, st, _⟩ := pt.ty (K := K)
      by_cases z : n = "str"
      · obtain ⟨s, rfl⟩ := st.mp z
        cases pt with
        | str _ lz => exact ⟨_, rfl, tg, .inl ⟨s, rfl, small_sz lz, h1⟩⟩
      · have e : nmV v = false := by
          cases v with
          | str s => exact absurd (st.mpr ⟨s, rfl⟩) z
          | _ => rfl
        rw [e] at h1
        exact ⟨_, rfl, tg, .inr ⟨n, ty, by rw [kit_str m, decide_eq_false z], h1 H same0⟩⟩
    refine ⟨_, rfl, rfl, _, rfl, ite2 (fun e => ?_) (fun e => ?_)⟩
    · have e' : x = "name" := V.str.inj (of_decide_eq_true e)
      refine ⟨_, rfl, nm _ fun H2 tb => ?_⟩
      have z := q H2 tb
      unfold fitB at z
      rw [if_pos e'] at z
      exact z
    · have e1 : ¬ x = "name" := fun h => e (decide_eq_true (congrArg V.str h))
      refine ⟨_, rfl, rfl, _, rfl, ite2 (fun e => ?_) (fun e => ?_)⟩
      · have e' : x = "end" := V.str.inj (of_decide_eq_true e)
        have fe : fitB v x = (decide (v = .str "") || nmV v) := by
          unfold fitB
          rw [if_neg e1, if_pos e']
        rw [fe] at q
        refine ⟨_, rfl, _, rfl, pt, decide (v = .str ""), rfl, ?_⟩
        cases hd : decide (v = V.str "") with
        | true =>
          rw [hd] at q
          exact iteT (q H same0)
        | false =>
          rw [hd] at q
          exact iteF ⟨_, rfl, nm _ fun H2 tb => q H2 tb⟩
      · have e2 : ¬ x = "end" := fun h => e (decide_eq_true (congrArg V.str h))
        have x4 : x ∈ sorts4 := by
          simp only [sorts6, sorts4, List.mem_cons, List.not_mem_nil, or_false] at hx ⊢
          rcases hx with h | h | h | h | h | h
          · exact absurd h e1
          · exact absurd h e2
          · exact .inl h
          · exact .inr (.inl h)
          · exact .inr (.inr (.inl h))
          · exact .inr (.inr (.inr h))
        obtain ⟨aT, kd, sq⟩ := hB x x4
        have fe : fitB v x = inB x v := by
          unfold fitB
          rw [if_neg e1, if_neg e2]
        rw [fe] at q
        have q0 := q H same0
        refine ⟨_, rfl, aB, x, _, rfl, rfl, kd, aT, _, rfl, sq H, rfl, _, _, rfl, _, _, rfl, rfl, _, rfl, v, rfl, pt, ?_⟩
        cases v with
        | int i =>
          refine ⟨_, rfl, iteT ⟨_, rfl, _, rfl, (bnd x).1, i, rfl, rfl, _, rfl, ite2 (fun a1 => ?_) (fun a1 => ?_)⟩⟩
          · refine ⟨_, rfl, i, (bnd x).2, rfl, rfl, ?_⟩
            have z : inB x (.int i) = decide (i ≤ (bnd x).2) := by
              show (decide ((bnd x).1 ≤ i) && decide (i ≤ (bnd x).2)) = _
              rw [a1, Bool.true_and]
            rw [z] at q0
            exact q0
          · have z : inB x (.int i) = false := by
              show (decide ((bnd x).1 ≤ i) && decide (i ≤ (bnd x).2)) = _
              rw [Bool.eq_false_iff.mpr a1, Bool.false_and]
            rw [z] at q0
            exact q0
        | _ => exact ⟨_, rfl, iteF q0⟩
theorem ok_isEntryA {f cE T1 T2 aF fF fP : Addr} {dF dP : FuncData} {oc kV doc pm ct : Value} {od an : Option Addr} {osl : Array (Option Value)} {es : Array DictEntry} {nE : Nat}
    (lk : K.lookup f = some ⟨oc, od, .func (PySem.W.fnOf "is_entry" "is_entry" (defArgs sIsEntry) (defBody sIsEntry) (defScope sIsEntry) .none kV doc pm an (.ref cE) ct), osl⟩) (cdI : PySem.W.codeIn K (.ref cE) "is_entry" = true)
    (TB : GxR.TabB base mg cE T2) (ne : T1 ≠ T2) (FI : DefT P w K mg base "fits" 2 fF dF ["part", "sort"] (spFitsA T1)) (PO : DefT P w K mg base "places_of" 1 fP dP ["entry"] spPlaces)
    (mi : mg "isinstance" = none) (mt : mg "tuple" = none) (ml : mg "len" = none) (mst : mg "str" = none) (ma : mg "all" = none) (mz : mg "zip" = none) (ms : mg "set" = none) (mF : mg "FORMS" = some (.ref aF)) (D : KDict K w aF es nE)
    (hF : ∀ e : Ent, ∃ aS, KDct K w aF e.word (.ref aS) ∧ ∀ H, SqT K H aS (e.sorts.map V.str)) (hO : ∀ z : Str, z ∉ words7 → PySem.W.nsIn K aF z = some none) :
    FnOk P w K mg base CX0 4 f (PySem.W.fnOf "is_entry" "is_entry" (defArgs sIsEntry) (defBody sIsEntry) (defScope sIsEntry) .none kV doc pm an (.ref cE) ct) ["thing"] (spIsEntryA T1 T2) := by
  refine fn_of lk cdI scIs (fun vs H Q E h => ?_) (fun A outer s H vs Q E hr h => ?_)
  · obtain ⟨v, rfl, _⟩ := h
    rfl
  · obtain ⟨v, rfl, t1, t2, h⟩ := h
    have nd := scIs.nd
    have hr1 : Room 1 _ := hr.mono (by decide)
    refine ⟨_, pss_cons (ps_if (PW.pt (pw_or (pt_not (pt_val (pe_callB call_isi (by rfl) mi (by decide +kernel) (pa_cons (pv 0) (pa_cons (pe_bltn (v := .ty "tuple") (u := .type "tuple") (by rfl) mt (by decide +kernel) rfl) pa_nil)))))
          (pw_or1 (pt_cmpR op_eq (pe_callB call_len_seq (by rfl) ml PySem.boot_len (pa_cons (pv 0) pa_nil)) pe_int (nomark _))))) (pss_one (ps_ret pe_bl)) pss_nil)
      (pss_cons (ps_if (PW.pt (pw_or (pt_not (pt_val (pe_callB call_isi (by rfl) mi (by decide +kernel) (pa_cons (pe_ix ix_tup (pv 0) pe_int (fun _ _ => rfl)) (pa_cons (pe_bltn (v := .ty "str") (u := .type "str") (by rfl) mst (by decide +kernel) rfl) pa_nil)))))
          (pw_or1 (pt_cmpR (op_notIn_kd D) (pe_ix ix_tup (pv 0) pe_int (fun _ _ => rfl)) (pe_glob (v := .ref aF) rfl mF rfl) (by rfl))))) (pss_one (ps_ret pe_bl)) pss_nil)
      (pss_cons (ps_set (i := 1) nd rfl (Or.inl rfl) (pe_ix ix_kdict (pe_glob (v := .ref aF) rfl mF rfl) (pe_ix ix_tup (pv 0) pe_int (fun _ _ => rfl)) (fun _ _ => rfl)))
      (pss_cons (ps_if (pt_cmpR op_ne (pe_callB call_len_seq (by rfl) ml PySem.boot_len (pa_cons (pv 0) pa_nil)) (pe_op op_add (pe_callB call_len_seq (by rfl) ml PySem.boot_len (pa_cons (pv 1) pa_nil)) pe_int) (nomark _)) (pss_one (ps_ret pe_bl)) pss_nil)
      (pss_cons (ps_if (pt_not (pt_val (pe_allG (T := T2) (c := cE) (k := 2) (own := [("part", 3), ("sort", 4)]) (g := gTup K 2 (gCons (gName 3) (gCons (gName 4) gNil))) (tt := tYes) (te := tCall (spFitsA T1) [] E0 (tCons (tVar 3) (tCons (tVar 4) tNil)))
          hr (by rfl) ma rfl nd TB rfl ⟨blkOk_by (N := isN) (sc := defScope sIsEntry) (by decide +kernel), rfl, by decide +kernel, rfl⟩
          (RZ.pi_zipA (by rfl) mz (pa_cons (pe_slice sl_tup (pv 0) (po_some pe_int) po_none) (pa_cons (pv 1) pa_nil)))
          (fun _ _ _ _ _ _ => pg_tup (by rfl) (pgs_cons (pg_name (i := 3) nd rfl (Or.inl rfl)) (pgs_cons (pg_name (i := 4) nd rfl (Or.inl rfl)) pgs_nil)))
          (fun _ _ _ _ _ _ _ => pts_nil) (fun _ _ _ _ _ _ hr' => pe_call FI.ok hr' (by rfl) FI.g FI.kp FI.b .nil pass0 (pa_cons (pv 3) (pa_cons (pv 4) pa_nil)))))) (pss_one (ps_ret pe_bl)) pss_nil)
      (pss_cons (ps_set (i := 2) nd rfl (Or.inl rfl) (pe_call PO.ok hr1 (by rfl) PO.g PO.kp PO.b .nil pass0 (pa_cons (pv 0) pa_nil)))
      (pss_one (ps_ret (pe_cmpR op_eq (pe_lenSetX rfl (by rfl) ml (by rfl) ms (pv 2)) (pe_callB call_len_seq (by rfl) ml PySem.boot_len (pa_cons (pv 2) pa_nil)) (nomark _))))))))), ?_⟩
    have tb0 : TB2 T1 T2 H H := TB2.same t1 t2 fun _ _ e => e
    rcases h with ⟨th, nt, q⟩ | ⟨a, xs, rfl, ha, lx, hT, qT, qF⟩
    · obtain ⟨n, ty, m, _, tt⟩ := th.ty (K := K)
      have nn : n ≠ "tuple" := fun z => by
        obtain ⟨a, xs, e, h2⟩ := tt.mp z
        exact nt a xs e h2
      exact ⟨_, rfl, _, _, _, _, false, rfl, .ty "tuple", ty, kit_ty (by rw [kit_tup m, decide_eq_false nn]), _, rfl, iteT (q H tb0)⟩
    -- a tuple
    refine ⟨_, rfl, _, _, _, _, true, rfl, .ty "tuple", .base (.tup ha), kit_ty (by decide +kernel), _, rfl, iteF ?_⟩
    match xs, ha, lx, hT, qT, qF with
    | [], ha, lx, hT, qT, qF =>
      refine ⟨_, rfl, a, _, rfl, .inr (SqT.of ha), rfl, true, rfl, iteT (qF ?_ H tb0)⟩
      rintro ⟨e, _, h⟩
      exact nomatch h
    | x0 :: ps, ha, lx, hT, qT, qF =>
    refine ⟨_, rfl, a, _, rfl, .inr (SqT.of ha), rfl, false, congrArg V.bl (decide_eq_false fun z => ?_), iteF ?_⟩
    · have z' : (((x0 :: ps).length : Nat) : Int) = 0 := V.int.inj z
      rw [List.length_cons] at z'
      omega
    have at0x : atI (x0 :: ps) 0 = some x0 := atI_nat (j := 0) rfl
    obtain ⟨n0, ty0, m0, st0, _⟩ := (hT x0 List.mem_cons_self).ty (K := K)
    by_cases zs : n0 = "str"
    rotate_left
    · refine ⟨_, rfl, a, _, 0, _, rfl, rfl, SqT.of ha, at0x, _, _, _, _, false, rfl, .ty "str", ty0, kit_ty (by rw [kit_str m0, decide_eq_false zs]), _, rfl, iteT (qF ?_ H tb0)⟩
      rintro ⟨e, _, h⟩
      exact zs (st0.mpr ⟨e.word, (List.cons.inj h).1⟩)
    obtain ⟨z, rfl⟩ := st0.mp zs
    refine ⟨_, rfl, a, _, 0, _, rfl, rfl, SqT.of ha, at0x, _, _, _, _, true, rfl, .ty "str", ty0, kit_ty (by rw [kit_str m0, decide_eq_true zs]), _, rfl, iteF ?_⟩
    by_cases zw : z ∈ words7
    rotate_left
    · refine ⟨_, rfl, a, _, 0, _, rfl, rfl, SqT.of ha, at0x, z, none, rfl, rfl, hO z zw, _, rfl, iteT (qF ?_ H tb0)⟩
      rintro ⟨e, _, h⟩
      have : z = e.word := V.str.inj (List.cons.inj h).1
      exact zw (this ▸ e.word_in)
    obtain ⟨f0, rfl⟩ := word_of zw
    obtain ⟨aS, kd, sq⟩ := hF f0
    obtain ⟨es', n', u, hl, hlit, hns, ru⟩ := id kd
    refine ⟨_, rfl, a, _, 0, _, rfl, rfl, SqT.of ha, at0x, f0.word, some u, rfl, rfl, hns, _, rfl, iteF ?_⟩
    refine ⟨_, rfl, a, _, 0, _, rfl, rfl, SqT.of ha, at0x, aF, f0.word, _, rfl, rfl, kd, ?_⟩
    by_cases ll : ps.length = f0.sorts.length
    rotate_left
    · refine ⟨_, rfl, a, _, rfl, .inr (SqT.of ha), _, rfl, aS, _, rfl, .inr (sq H), _, 1, rfl, rfl, rfl, true, ?_, iteT (qF ?_ H tb0)⟩
      · refine congrArg V.bl ?_
        have l1 : ¬ ((((V.str f0.word) :: ps).length : Nat) : Int) = ((f0.sorts.map V.str).length : Int) + 1 := by
          rw [List.length_cons, List.length_map]
          omega
        rw [decide_eq_false fun q => l1 (V.int.inj q)]
        rfl
      · rintro ⟨e, _, h⟩
        have w0 : e.word = f0.word := V.str.inj (List.cons.inj h).1.symm
        have := congrArg List.length h
        rw [vals_len, sorts_word w0, List.length_cons] at this
        omega
    refine ⟨_, rfl, a, _, rfl, .inr (SqT.of ha), _, rfl, aS, _, rfl, .inr (sq H), _, 1, rfl, rfl, rfl, false, ?_, iteF ?_⟩
    · refine congrArg V.bl ?_
      have l1 : ((((V.str f0.word) :: ps).length : Nat) : Int) = ((f0.sorts.map V.str).length : Int) + 1 := by
        rw [List.length_cons, List.length_map, ll]
        rfl
      rw [l1, decide_eq_true rfl]
      rfl
    -- all fit
    have cut : cutV ((V.str f0.word) :: ps) (some 1) none = ps := by
      have h : cutV ((V.str f0.word) :: ps) (some ((1 : Nat) : Int)) none = ps := by
        unfold cutV
        rw [HT.sIx_nat, HT.sIx_none, Nat.min_eq_left (by rw [List.length_cons]; omega)]
        show ps.take (ps.length + 1 - 1) = ps
        rw [Nat.add_sub_cancel]
        exact List.take_length
      exact h
    refine ⟨_, rfl, 1, rfl, a, _, rfl, SqT.of ha, ?_, fun pp npp => ?_⟩
    · rintro ⟨z, _⟩
      rw [show HT.sIx ((V.str f0.word) :: ps).length 0 (some 1) = min 1 ((V.str f0.word) :: ps).length from HT.sIx_nat _ _ 1, List.length_cons] at z
      omega
    rw [cut]
    have sp := @same_new _ _ (.tup ps) npp
    have hpp := @upd_same H pp (.tup ps)
    generalize upd H pp (.tup ps) = H1 at sp hpp ⊢
    refine ⟨_, rfl, pp, aS, ps, f0.sorts.map V.str, rfl, .inr ⟨SqT.of hpp, sq _, tabg_same sp t2, fun H2 tb2 => ?_⟩⟩
    have b0 : TB2 T1 T2 H H2 := (TB2.same t1 t2 sp).tr (.two ne (tabg_same sp t1) tb2)
    have b1 : TB2 T1 T2 H1 H2 := .two ne (tabg_same sp t1) tb2
    have hp2 : H2 pp = some (.tup ps) := b1.keep (tabg_same sp t1) (tabg_same sp t2) hpp (by intro ps z; cases z)
    refine ⟨fun i m H' => m = ps.length - i ∧ i ≤ ps.length ∧ H' pp = some (.tup ps) ∧ TB2 T1 T2 H H' ∧ ∀ (j : Nat) (v : V) (x : Str), j < i → ps[j]? = some v → f0.sorts[j]? = some x → fitB v x = true, ⟨_, rfl, Nat.zero_le _, hp2, b0, fun j v x hj => absurd hj (Nat.not_lt_zero _)⟩, ?_⟩
    rintro i m H3 ⟨rfl, hi, hp3, b3, hfit⟩
    by_cases lt : i < ps.length
    · refine .inr ⟨⟨ps, f0.sorts.map V.str, ps[i], .str (f0.sorts[i]'(by rw [← ll]; exact lt)), SqT.of hp3, sq _, List.getElem?_eq_getElem lt, ?_⟩, fun v H4 y => ?_⟩
      · rw [List.getElem?_map, List.getElem?_eq_getElem (by rw [← ll]; exact lt)]
        rfl
      · obtain ⟨TT, x', y', rfl, nT, rfl, f1, f2⟩ := y
        have g1 := f1 ps (SqT.of hp3)
        have g2 := f2 (f0.sorts.map V.str) (sq _)
        rw [List.getElem?_map] at g2
        obtain ⟨srt, hsrt, rfl⟩ := Option.map_eq_some_iff.mp g2
        have s4 := @same_new _ _ (.tup [x', V.str srt]) nT
        have b4 : TB2 T1 T2 H (upd H3 TT (.tup [x', V.str srt])) := b3.tr (.same b3.2.1 b3.2.2 s4)
        have hx' : Thg (upd H3 TT (.tup [x', V.str srt])) x' := (hT x' (List.mem_cons_of_mem _ (List.mem_of_getElem? g1))).on fun a' o' _ e' n' => b4.keep t1 t2 e' n'
        refine ⟨TT, _, rfl, SqT.of upd_same, rfl, _, _, rfl, _, _, rfl, rfl, rfl, yesT ?_⟩
        refine ⟨_, rfl, _, rfl, x', srt, rfl, hx', f0.sorts_in srt (List.mem_of_getElem? hsrt), b4.2.1, fun H5 tb5 => ?_⟩
        have b5 : TB2 T1 T2 H H5 := b4.tr (.one ne b4.2.2 tb5)
        have b45 : TB2 T1 T2 (upd H3 TT (.tup [x', V.str srt])) H5 := .one ne b4.2.2 tb5
        cases fit : fitB x' srt with
        | true =>
          refine ⟨true, rfl, iteT ⟨_, by omega, rfl, lt, b45.keep b4.2.1 b4.2.2 (s4 _ _ hp3) (by intro ps z; cases z), b5, fun j v x hj hv hx => ?_⟩⟩
          by_cases ej : j = i
          · subst ej
            rw [g1] at hv
            rw [hsrt] at hx
            rw [← Option.some.inj hv, ← Option.some.inj hx]
            exact fit
          · exact hfit j v x (by omega) hv hx
        | false =>
          refine ⟨false, rfl, iteF ⟨false, rfl, iteT (qF ?_ H5 b5)⟩⟩
          rintro ⟨e, fine, h⟩
          have w0 : e.word = f0.word := V.str.inj (List.cons.inj h).1.symm
          have hps : ps = e.parts := (List.cons.inj h).2
          rw [hps] at g1
          have := (fine.fit i x' srt g1 (by rw [sorts_word w0]; exact hsrt)).2
          rw [fit] at this
          exact nomatch this
    · have ei : i = ps.length := by omega
      subst ei
      obtain ⟨e, we, rfl⟩ := ent_of ll fun j v x hv hx => hfit j v x (List.getElem?_eq_some_iff.mp hv).1 hv hx
      have ev : e.vals = (V.str f0.word) :: e.parts := by
        rw [← we]
        rfl
      refine .inl ⟨⟨e.parts, f0.sorts.map V.str, SqT.of hp3, sq _, .inl (Nat.le_refl _)⟩, ?_⟩
      refine ⟨true, rfl, iteF ?_⟩
      -- unlike places
      rw [← ev] at ha qT qF
      have ha3 : H3 a = some (.tup e.vals) := b3.keep t1 t2 ha (by intro ps z; cases z)
      refine ⟨_, rfl, a, e, rfl, ha3, fun tp H4 s4 ht => ?_⟩
      have b4 := b3.tr (.same b3.2.1 b3.2.2 s4)
      refine ⟨_, rfl, tp, e.places, rfl, SqT.of ht, Nat.le_trans (places_le e) (by decide), _, rfl, tp, _, rfl, .inr (SqT.of ht), rfl, ?_⟩
      by_cases ndp : e.places.Nodup
      · rw [once_nodup ndp, List.length_map, decide_eq_true rfl]
        refine qT ⟨e, ⟨fun j v x hv hx => ?_, ndp⟩, rfl⟩ H4 b4
        have hx2 : f0.sorts[j]? = some x := by rw [← sorts_word we]; exact hx
        have ft := hfit j v x (List.getElem?_eq_some_iff.mp hv).1 hv hx2
        exact ⟨fit_part (hT v (List.mem_cons_of_mem _ (List.mem_of_getElem? hv))) ft (f0.sorts_in x (List.mem_of_getElem? hx2)), ft⟩
      · rw [List.length_map, decide_eq_false fun q => once_len_nd ndp (by have := V.int.inj q; omega)]
        refine qF ?_ H4 b4
        rintro ⟨e', fine, h⟩
        rw [vals_inj h] at ndp
        exact ndp fine.apart
end
/-- of entries the old promise holds -/
theorem isE_old {T1 T2 : Addr} {vs : List V} {H : Hp} {Q : VK} {E : XK} (h : spIsEntry T1 T2 vs H Q E) : spIsEntryA T1 T2 vs H Q E := by
  obtain ⟨a, e, rfl, ha, fine, t1, t2, q⟩ := h
  refine ⟨_, rfl, t1, t2, .inr ⟨a, e.vals, rfl, ha, ?_, fun x hx => ?_, fun _ => q, fun n => absurd ⟨e, fine, rfl⟩ n⟩⟩
  · cases e <;> exact Nat.le_of_ble_eq_true rfl
  · rcases List.mem_cons.mp hx with rfl | hx
    · exact .str _ ((by decide +kernel : ∀ w ∈ words7, w.length ≤ 1000) _ e.word_in)
    · obtain ⟨i, hi⟩ := List.mem_iff_getElem?.mp hx
      have lt := (List.getElem?_eq_some_iff.mp hi).1
      exact .of_part (fine.fit i x _ hi (List.getElem?_eq_getElem (by rw [← e.len_parts]; exact lt))).1
/-! ### names are texts -/
theorem name_ok {y : Str} (h : nameB y = true) : PyData.strOk y = true := by
  have all : y.cps.toList.all signB = true := by
    unfold nameB at h
    rw [Bool.and_eq_true] at h
    exact h.2
  have low : ∀ c ∈ abc.cps.toList, c < 0x110000 := by decide +kernel
  unfold PyData.strOk
  rw [← Array.all_toList, List.all_eq_true]
  intro c hc
  exact decide_eq_true (low c (of_decide_eq_true (List.all_eq_true.mp all c hc)))
/-! ### entries as data are told by themselves -/
def flatE : PyData → Bool
  | .int _ => true
  | .str _ => true
  | _ => false
theorem dV_flat {vs : List V} (h : ∀ v ∈ vs, (∃ i, v = .int i) ∨ ∃ s, v = .str s) : (vs.map dV).all flatE = true := by
  rw [List.all_eq_true]
  intro d hd
  obtain ⟨v, hv, rfl⟩ := List.mem_map.mp hd
  rcases h v hv with ⟨i, rfl⟩ | ⟨s, rfl⟩ <;> rfl
theorem vals_flat (e : Ent) : (e.vals.map dV).all flatE = true := by
  cases e <;> rfl
theorem dV_inj : ∀ (xs ys : List V), (xs.map dV).all flatE = true → (∀ v ∈ xs, (∃ i, v = .int i) ∨ ∃ s, v = .str s) → (∀ v ∈ ys, (∃ i, v = .int i) ∨ ∃ s, v = .str s) → xs.map dV = ys.map dV → xs = ys
  | [], [], _, _, _, _ => rfl
  | [], y :: ys, _, _, _, h => nomatch h
  | x :: xs, [], _, _, _, h => nomatch h
  | x :: xs, y :: ys, hf, hx, hy, h => by
    rw [List.map_cons, List.all_cons, Bool.and_eq_true] at hf
    rw [List.map_cons, List.map_cons] at h
    injection h with e1 e2
    have ih := dV_inj xs ys hf.2 (fun v hv => hx v (List.mem_cons_of_mem _ hv)) (fun v hv => hy v (List.mem_cons_of_mem _ hv)) e2
    have : x = y := by
      rcases hx x List.mem_cons_self with ⟨i, rfl⟩ | ⟨s, rfl⟩ <;> rcases hy y List.mem_cons_self with ⟨j, rfl⟩ | ⟨t, rfl⟩
      · exact congrArg _ (PyData.int.inj e1)
      · exact nomatch e1
      · exact nomatch e1
      · exact congrArg _ (PyData.str.inj e1)
    rw [this, ih]
theorem entD_inj {e f : Ent} (h : entD e = entD f) : e = f := by
  have h2 : e.vals.map dV = f.vals.map dV := PyData.tuple.inj h
  exact vals_inj (dV_inj _ _ (vals_flat e) (vals_sn e) (vals_sn f) h2)
theorem eqv_flat : ∀ xs ys : List PyData, xs.all flatE = true → ys.all flatE = true → (PyData.eqvAll xs ys = true ↔ xs = ys)
  | [], [], _, _ => ⟨fun _ => rfl, fun _ => rfl⟩
  | [], y :: ys, _, _ => ⟨fun h => by simp [PyData.eqvAll] at h, fun h => nomatch h⟩
  | x :: xs, [], _, _ => ⟨fun h => by simp [PyData.eqvAll] at h, fun h => nomatch h⟩
  | x :: xs, y :: ys, hx, hy => by
    rw [List.all_cons, Bool.and_eq_true] at hx hy
    have ih := eqv_flat xs ys hx.2 hy.2
    rw [PyData.eqvAll, Bool.and_eq_true, ih]
    have one : PyData.eqv x y = true ↔ x = y := by
      cases x with
      | int a =>
        cases y with
        | int b => exact ⟨fun h => by rw [show a = b from eq_of_beq h], fun h => by rw [h]; exact beq_self_eq_true b⟩
        | str b => exact ⟨fun h => (nomatch h), fun h => nomatch h⟩
        | _ => exact nomatch hy.1
      | str a =>
        cases y with
        | str b => exact ⟨fun h => by rw [show a = b from eq_of_beq h], fun h => by rw [h]; exact beq_self_eq_true b⟩
        | int b => exact ⟨fun h => (nomatch h), fun h => nomatch h⟩
        | _ => exact nomatch hy.1
      | _ => exact nomatch hx.1
    rw [one]
    exact ⟨fun ⟨a, b⟩ => by rw [a, b], fun h => by injection h with a b; exact ⟨a, b⟩⟩
theorem eqv_ents (e f : Ent) : PyData.eqv (entD e) (entD f) = true ↔ e = f := by
  have h : PyData.eqv (entD e) (entD f) = PyData.eqvAll (e.vals.map dV) (f.vals.map dV) := by rw [entD, entD, PyData.eqv]
  rw [h]
  exact ⟨fun q => entD_inj (congrArg PyData.tuple ((eqv_flat _ _ (vals_flat e) (vals_flat f)).mp q)), fun z => by rw [z]; exact (eqv_flat _ _ (vals_flat f) (vals_flat f)).mpr rfl⟩

/-! ### defs that may raise -/
structure DefX (P : Program) (w : World) (K : PySem.W.Frag) (mg : Str → Option Value) (base : Heap) (x : Str) (k : Nat) (f : Addr) (fd : FuncData) (ps : List Str) (sp : Sp) : Prop where
  ok : FnOk P w K mg base (L2.CX P w) k f fd ps sp
  g : mg x = some (.ref f)
  kp : PySem.W.keepIn K (.ref f) = true
  b : Binds K fd ps []
/-- an own class of errors over ValueError -/
structure Err (K : PySem.W.Frag) (mg : Str → Option Value) (x : Str) (C : Addr) : Prop where
  gC : mg x = some (.ref C)
  ex : PySem.W.excIn K C [.type "ValueError", .type "Exception", .type "BaseException", .type "object"] "ValueError.__new__" = true
  kp : PySem.W.keepIn K (.ref C) = true
  sb : PySem.W.subIn K (.ref C) (.type "BaseException") = some true
  ty : PySem.W.typeIn K (.ref C) = some (.type "type")
/-! ### what is no entry, entered -/
theorem FnOk.or {P : Program} {w : World} {K : PySem.W.Frag} {mg : Str → Option Value} {base : Heap} {CX : CXT} {k : Nat} {f : Addr} {fd : FuncData} {ps : List Str} {s1 s2 : Sp} (F : FnOk P w K mg base CX k f fd ps s1) (G : FnOk P w K mg base CX k f fd ps s2) :
    FnOk P w K mg base CX k f fd ps (fun vs H Q E => s1 vs H Q E ∨ s2 vs H Q E) :=
  ⟨fun vs H Q E h => h.elim (F.len vs H Q E) (G.len vs H Q E), fun A outer s H args us vs Q E hr he hb hv hs => hs.elim (F.run A outer s H args us vs Q E hr he hb hv) (G.run A outer s H args us vs Q E hr he hb hv)⟩
/-- no entry of these places and goods -/
def NoE (H : Hp) (P G : List Str) (v : V) : Prop := (Thg H v ∧ ∀ a xs, v = .ref a → H a ≠ some (.tup xs)) ∨
  ∃ (a : Addr) (xs : List V), v = .ref a ∧ H a = some (.tup xs) ∧ xs.length ≤ 1000 ∧ (∀ x ∈ xs, Thg H x) ∧ ¬ ∃ e : Ent, e.Fine ∧ ofB e P G = true ∧ xs = e.vals
theorem NoE.on {H H' : Hp} {P G : List Str} {v : V} (k : ∀ a o, H a = some o → (∀ ps, o ≠ .tbl ps) → H' a = some o) (h : NoE H P G v) : NoE H' P G v := by
  rcases h with ⟨t, n⟩ | ⟨a, xs, rfl, ha, lx, hT, no⟩
  · refine .inl ⟨t.on fun a o _ => k a o, fun a xs e h2 => ?_⟩
    subst e
    cases t with
    | lst h => rw [k _ _ h (fun ps z => nomatch z)] at h2; exact nomatch h2
    | tup h => exact n _ _ rfl h
    | dct h => rw [k _ _ h (fun ps z => nomatch z)] at h2; exact nomatch h2
  · exact .inr ⟨a, xs, rfl, k _ _ ha (fun ps z => nomatch z), lx, fun x hx => (hT x hx).on fun a o _ => k a o, no⟩
def spNoEntryOf (Ts : List Addr) : Sp := fun vs H Q _ => ∃ (v : V) (pl gl : Addr) (P G : List Str), vs = [v, .ref pl, .ref gl] ∧ NoE H P G v ∧ H pl = some (.tup (P.map V.str)) ∧ H gl = some (.tup (G.map V.str)) ∧ TabsG Ts H ∧ ∀ H', TB1 Ts H H' → Q (.bl false) H'
def spNoE1 (Ts : List Addr) : Sp := fun vs H Q _ => ∃ (v p1 p2 : V), vs = [v, p1, p2] ∧ TabsG Ts H ∧
  ((Thg H v ∧ ∀ a xs, v = .ref a → H a ≠ some (.tup xs)) ∨ ∃ (a : Addr) (xs : List V), v = .ref a ∧ H a = some (.tup xs) ∧ xs.length ≤ 1000 ∧ (∀ x ∈ xs, Thg H x) ∧ ¬ IsE xs) ∧ ∀ H', TB1 Ts H H' → Q (.bl false) H'
theorem noE_split {Ts : List Addr} {vs : List V} {H : Hp} {Q : VK} {E : XK} (h : spNoEntryOf Ts vs H Q E) : spIsEntryOf Ts vs H Q E ∨ spNoE1 Ts vs H Q E := by
  obtain ⟨v, pl, gl, P, G, rfl, no, hp, hg, tg, q⟩ := h
  rcases no with h | ⟨a, xs, rfl, ha, lx, hT, no⟩
  · exact .inr ⟨_, _, _, rfl, tg, .inl h, q⟩
  · by_cases i : IsE xs
    · obtain ⟨e, fi, rfl⟩ := i
      have ob : ofB e P G = false := Bool.eq_false_iff.mpr fun z => no ⟨e, fi, z, rfl⟩
      exact .inl ⟨a, pl, gl, e, P, G, rfl, ha, fi, hp, hg, tg, fun H' t => by rw [ob]; exact q H' t⟩
    · exact .inr ⟨_, _, _, rfl, tg, .inr ⟨a, xs, rfl, ha, lx, hT, i⟩, q⟩
section
variable {P : Program} {w : World} {K : PySem.W.Frag} {mg : Str → Option Value} {base : Heap}
theorem ok_noEntry1 {f cR T1 T2 T4 fI fG fP : Addr} {Ts : List Addr} {dI dG dP : FuncData} {oc kV doc pm ct : Value} {od an : Option Addr} {osl : Array (Option Value)}
    (lk : K.lookup f = some ⟨oc, od, .func (PySem.W.fnOf "is_entry_of" "is_entry_of" (defArgs sIsEntryOf) (defBody sIsEntryOf) (defScope sIsEntryOf) .none kV doc pm an (.ref cR) ct), osl⟩) (cdI : PySem.W.codeIn K (.ref cR) "is_entry_of" = true)
    (TB : GxR.TabB base mg cR T4) (i1 : T1 ∈ Ts) (i2 : T2 ∈ Ts) (i4 : T4 ∈ Ts) (IE : DefT P w K mg base "is_entry" 4 fI dI ["thing"] (spIsEntryA T1 T2)) (GO : DefT P w K mg base "good_of" 1 fG dG ["entry"] spGood) (PO : DefT P w K mg base "places_of" 1 fP dP ["entry"] spPlaces)
    (mal : mg "all" = none) :
    FnOk P w K mg base CX0 5 f (PySem.W.fnOf "is_entry_of" "is_entry_of" (defArgs sIsEntryOf) (defBody sIsEntryOf) (defScope sIsEntryOf) .none kV doc pm an (.ref cR) ct) ["thing", "places", "goods"] (spNoE1 Ts) := by
  refine fn_of lk cdI sc_sIsEntryOf (fun vs H Q E h => ?_) (fun A outer s H vs Q E hr h => ?_)
  · obtain ⟨v, p1, p2, rfl, _⟩ := h
    rfl
  · obtain ⟨v, p1, p2, rfl, tg, no, q⟩ := h
    have nd := sc_sIsEntryOf.nd
    have hr1 : Room 1 _ := hr.mono (by decide)
    refine ⟨_, pss_cons (ps_if (pt_not (pt_val (pe_call IE.ok hr (by rfl) IE.g IE.kp IE.b .nil pass0 (pa_cons (pv 0) pa_nil)))) (pss_one (ps_ret pe_bl)) pss_nil)
      (pss_cons (ps_set (i := 3) nd rfl (Or.inl rfl) (pe_call GO.ok hr1 (by rfl) GO.g GO.kp GO.b .nil pass0 (pa_cons (pv 0) pa_nil)))
      (pss_cons (ps_if (PW.pt (pw_and (pt_cmpR op_notN (pv 3) pe_non (by rfl)) (pw_and1 (pt_cmpR op_notIn_seq (pv 3) (pv 2) (by rfl))))) (pss_one (ps_ret pe_bl)) pss_nil)
      (pss_one (ps_ret (pe_allG (T := T4) (c := cR) (k := 1) (own := [("place", 4)]) (g := gName 4) (tt := tYes) (te := tOp (rIn K false) (tVar 4) (tVar 1))
          (hr.mono (by decide)) (by rfl) mal rfl nd TB rfl ⟨blkOk_by (N := sIsEntryOfN) (sc := defScope sIsEntryOf) (by decide +kernel), rfl, by decide +kernel, rfl⟩
          (pi_tup (pe_call PO.ok hr1 (by rfl) PO.g PO.kp PO.b .nil pass0 (pa_cons (pv 0) pa_nil))) (fun _ _ _ _ _ _ => pg_name (i := 4) nd rfl (Or.inl rfl)) (fun _ _ _ _ _ _ _ => pts_nil) (fun _ _ _ _ _ _ _ => pe_cmpR op_in_seq (pv 4) (pv 1) (by rfl))))))), ?_⟩
    have fin : ∀ H1, TB2 T1 T2 H H1 → Q (.bl false) H1 := fun H1 b => q H1 (TB1.of2 tg i1 i2 b)
    rcases no with ⟨th, nt⟩ | ⟨a, xs, rfl, ha, lx, hT, no⟩
    · exact ⟨_, rfl, _, rfl, tg T1 i1, tg T2 i2, .inl ⟨th, nt, fun H1 b => ⟨false, rfl, iteT (fin H1 b)⟩⟩⟩
    · exact ⟨_, rfl, _, rfl, tg T1 i1, tg T2 i2, .inr ⟨a, xs, rfl, ha, lx, hT, fun y => absurd y no, fun _ H1 b => ⟨false, rfl, iteT (fin H1 b)⟩⟩⟩
end
/-! ### what is an entry, part by part -/
def fitsA : List V → List Str → Bool
  | v :: vs, x :: xs => fitB v x && fitsA vs xs
  | _, _ => true
theorem fitsA_of : ∀ (ps : List V) (ss : List Str), (∀ (i : Nat) (v : V) (x : Str), ps[i]? = some v → ss[i]? = some x → fitB v x = true) → fitsA ps ss = true
  | [], _, _ => by unfold fitsA; rfl
  | _ :: _, [], _ => by unfold fitsA; rfl
  | v :: vs, x :: xs, h => by
    show (fitB v x && fitsA vs xs) = true
    rw [h 0 v x rfl rfl, fitsA_of vs xs fun i v x h1 h2 => h (i + 1) v x h1 h2]
    rfl
theorem of_fitsA : ∀ (ps : List V) (ss : List Str), fitsA ps ss = true → ∀ (i : Nat) (v : V) (x : Str), ps[i]? = some v → ss[i]? = some x → fitB v x = true
  | [], _, _, _, _, _, h1, _ => by rw [List.getElem?_nil] at h1; exact nomatch h1
  | _ :: _, [], _, _, _, _, _, h2 => by rw [List.getElem?_nil] at h2; exact nomatch h2
  | v :: vs, x :: xs, h, 0, _, _, h1, h2 => by
    cases h1
    cases h2
    exact (Bool.and_eq_true_iff.mp (show (fitB v x && fitsA vs xs) = true from h)).1
  | v :: vs, x :: xs, h, i + 1, v', x', h1, h2 => of_fitsA vs xs (Bool.and_eq_true_iff.mp (show (fitB v x && fitsA vs xs) = true from h)).2 i v' x' h1 h2
theorem isE_len {f : Ent} {ps : List V} (h : IsE (.str f.word :: ps)) : ps.length = f.sorts.length := by
  obtain ⟨e, _, q⟩ := h
  have w0 : e.word = f.word := V.str.inj (List.cons.inj q).1.symm
  rw [(List.cons.inj q).2, ← sorts_word w0]
  exact e.len_parts
theorem isE_fits {f : Ent} {ps : List V} (h : IsE (.str f.word :: ps)) : fitsA ps f.sorts = true := by
  obtain ⟨e, fi, q⟩ := h
  have w0 : e.word = f.word := V.str.inj (List.cons.inj q).1.symm
  rw [(List.cons.inj q).2, ← sorts_word w0]
  exact fitsA_of _ _ fun i v x h1 h2 => (fi.fit i v x h1 h2).2
theorem isE_mk {H : Hp} {f : Ent} {ps : List V} (hT : ∀ v ∈ ps, Thg H v) (l : ps.length = f.sorts.length) (h : fitsA ps f.sorts = true) (ap : ∀ e : Ent, e.word = f.word → e.parts = ps → e.places.Nodup) : IsE (.str f.word :: ps) := by
  have ft := of_fitsA _ _ h
  obtain ⟨e, we, rfl⟩ := ent_of l ft
  refine ⟨e, ⟨fun j v x hv hx => ?_, ap e we rfl⟩, ?_⟩
  · have hx2 : f.sorts[j]? = some x := by rw [← sorts_word we]; exact hx
    have q := ft j v x hv hx2
    exact ⟨fit_part (hT v (List.mem_of_getElem? hv)) q (f.sorts_in x (List.mem_of_getElem? hx2)), q⟩
  · rw [← we]
    rfl
theorem fit_n {v : V} : fitB v "name" = nmV v := if_pos rfl
theorem fit_e {v : V} : fitB v "end" = (decide (v = .str "") || nmV v) := by
  unfold fitB
  rw [if_neg ken, if_pos rfl]
/-- a number between -/
def whB (lo hi : Int) : V → Bool
  | .int i => decide (lo ≤ i) && decide (i ≤ hi)
  | _ => false
theorem fit_mo {v : V} : fitB v "moment" = whB 0 9999 v := by
  unfold fitB
  rw [if_neg kmn, if_neg kme]
  cases v <;> simp [inB, whB, bnd]
theorem fit_ma {v : V} : fitB v "many" = whB 1 1000000000 v := by
  unfold fitB
  rw [if_neg kyn, if_neg kye]
  cases v <;> simp [inB, whB, bnd, kym]
theorem fit_co {v : V} : fitB v "counted" = whB 0 1000000000 v := by
  unfold fitB
  rw [if_neg kcn, if_neg kce]
  cases v <;> simp [inB, whB, bnd, kcm, kcy]
theorem fit_pr {v : V} : fitB v "price" = whB 0 1000000000 v := by
  unfold fitB
  rw [if_neg kpn, if_neg kpe]
  cases v <;> simp [inB, whB, bnd, kpm, kpy]
theorem isE_word {x0 : V} {ps : List V} (h : IsE (x0 :: ps)) : ∃ f : Ent, x0 = .str f.word := by
  obtain ⟨e, _, q⟩ := h
  exact ⟨e, (List.cons.inj q).1⟩
theorem isE_heads {x0 p0 p1 p2 p3 : V} {rest : List V} (h : IsE (x0 :: p0 :: p1 :: p2 :: p3 :: rest)) : nmV p0 = true ∧ whB 0 9999 p1 = true ∧ nmV p2 = true ∧ nmV p3 = true := by
  obtain ⟨f, rfl⟩ := isE_word h
  have ft := of_fitsA _ _ (isE_fits h)
  have s0 : f.sorts[0]? = some ("name" : Str) := by cases f <;> rfl
  have s1 : f.sorts[1]? = some ("moment" : Str) := by cases f <;> rfl
  have s2 : f.sorts[2]? = some ("name" : Str) := by cases f <;> rfl
  have s3 : f.sorts[3]? = some ("name" : Str) := by cases f <;> rfl
  exact ⟨by rw [← fit_n]; exact ft 0 p0 _ rfl s0, by rw [← fit_mo]; exact ft 1 p1 _ rfl s1, by rw [← fit_n]; exact ft 2 p2 _ rfl s2, by rw [← fit_n]; exact ft 3 p3 _ rfl s3⟩
theorem isE_five {xs : List V} (h : IsE xs) : 5 ≤ xs.length := by
  obtain ⟨e, _, rfl⟩ := h
  cases e <;> exact Nat.le_of_ble_eq_true rfl
theorem nm_str {v : V} (h : nmV v = true) : ∃ z, v = .str z ∧ nameB z = true := by
  cases v with
  | str z => exact ⟨z, rfl, h⟩
  | _ => exact nomatch h
/-- the ends of a move or of a some -/
def endsB (w y4 : Str) (v : V) : Bool := if w = "some" ∧ v = .str "" then true else nmV v && !decide (v = .str y4)
section
variable {H : Hp} {p0 p1 p2 p3 : V} {rest : List V} (h0 : nmV p0 = true) (h1 : whB 0 9999 p1 = true) (h2 : nmV p2 = true) (h3 : nmV p3 = true) (hT : ∀ v ∈ p0 :: p1 :: p2 :: p3 :: rest, Thg H v)
include h0 h1 h2 h3 hT
theorem isE_swap : IsE (.str "swap" :: p0 :: p1 :: p2 :: p3 :: rest) ↔ rest = [] ∧ p2 ≠ p3 := by
  constructor
  · intro h
    have l := isE_len (f := .swap "" 0 "" "") h
    have r : rest = [] := List.eq_nil_of_length_eq_zero (by simp only [List.length_cons, Ent.sorts, List.length_nil] at l; omega)
    subst r
    refine ⟨rfl, fun z => ?_⟩
    obtain ⟨e, fi, q⟩ := h
    subst z
    have w0 : e.word = "swap" := V.str.inj (List.cons.inj q).1.symm
    cases e with
    | swap n m o t =>
      have q2 := (List.cons.inj q).2
      simp only [Ent.vals, Ent.rest, Ent.name, Ent.moment, List.cons.injEq] at q2
      have : o = t := V.str.inj (q2.2.2.1.symm.trans q2.2.2.2.1)
      subst this
      exact (List.nodup_cons.mp fi.apart).1 (List.mem_singleton.mpr rfl)
    | _ => exact absurd w0 (wno (by decide +kernel))
  · rintro ⟨rfl, ne⟩
    refine isE_mk (f := .swap "" 0 "" "") hT rfl ?_ fun e we ep => ?_
    · show (fitB p0 "name" && (fitB p1 "moment" && (fitB p2 "name" && (fitB p3 "name" && true)))) = true
      rw [fit_n, fit_mo, fit_n, fit_n, h0, h1, h2, h3]
      rfl
    · cases e with
      | swap n m o t =>
        simp only [Ent.parts, Ent.rest, List.cons.injEq] at ep
        refine List.nodup_cons.mpr ⟨fun z => ne ?_, nd1 t⟩
        rw [← ep.2.2.1, ← ep.2.2.2.1, List.mem_singleton.mp z]
      | _ => exact absurd we (wno (by decide +kernel))
theorem isE_look : IsE (.str "look" :: p0 :: p1 :: p2 :: p3 :: rest) ↔ rest = [] := by
  constructor
  · intro h
    have l := isE_len (f := .look "" 0 "" "") h
    exact List.eq_nil_of_length_eq_zero (by simp only [List.length_cons, Ent.sorts, List.length_nil] at l; omega)
  · rintro rfl
    refine isE_mk (f := .look "" 0 "" "") hT rfl ?_ fun e we ep => ?_
    · show (fitB p0 "name" && (fitB p1 "moment" && (fitB p2 "name" && (fitB p3 "name" && true)))) = true
      rw [fit_n, fit_mo, fit_n, fit_n, h0, h1, h2, h3]
      rfl
    · cases e with
      | look n m g p => exact nd1 p
      | _ => exact absurd we (wno (by decide +kernel))
theorem isE_come : IsE (.str "come" :: p0 :: p1 :: p2 :: p3 :: rest) ↔ ∃ x y, rest = [x, y] ∧ whB 1 1000000000 x = true ∧ whB 0 1000000000 y = true := by
  constructor
  · intro h
    have l := isE_len (f := .come "" 0 "" "" 0 0) h
    match rest, l with
    | [x, y], _ =>
      have q := isE_fits (f := .come "" 0 "" "" 0 0) h
      have q' : (fitB p0 "name" && (fitB p1 "moment" && (fitB p2 "name" && (fitB p3 "name" && (fitB x "many" && (fitB y "price" && true)))))) = true := q
      rw [fit_n, fit_mo, fit_n, fit_n, h0, h1, h2, h3, fit_ma, fit_pr] at q'
      simp only [Bool.true_and, Bool.and_true, Bool.and_eq_true] at q'
      exact ⟨x, y, rfl, q'⟩
  · rintro ⟨x, y, rfl, hx, hy⟩
    refine isE_mk (f := .come "" 0 "" "" 0 0) hT rfl ?_ fun e we ep => ?_
    · show (fitB p0 "name" && (fitB p1 "moment" && (fitB p2 "name" && (fitB p3 "name" && (fitB x "many" && (fitB y "price" && true)))))) = true
      rw [fit_n, fit_mo, fit_n, fit_n, h0, h1, h2, h3, fit_ma, fit_pr, hx, hy]
      rfl
    · cases e with
      | come n m g p k r => exact nd1 p
      | _ => exact absurd we (wno (by decide +kernel))
theorem isE_go : IsE (.str "go" :: p0 :: p1 :: p2 :: p3 :: rest) ↔ ∃ x, rest = [x] ∧ whB 1 1000000000 x = true := by
  constructor
  · intro h
    have l := isE_len (f := .go "" 0 "" "" 0) h
    match rest, l with
    | [x], _ =>
      have q := isE_fits (f := .go "" 0 "" "" 0) h
      have q' : (fitB p0 "name" && (fitB p1 "moment" && (fitB p2 "name" && (fitB p3 "name" && (fitB x "many" && true))))) = true := q
      rw [fit_n, fit_mo, fit_n, fit_n, h0, h1, h2, h3, fit_ma] at q'
      simp only [Bool.true_and, Bool.and_true] at q'
      exact ⟨x, rfl, q'⟩
  · rintro ⟨x, rfl, hx⟩
    refine isE_mk (f := .go "" 0 "" "" 0) hT rfl ?_ fun e we ep => ?_
    · show (fitB p0 "name" && (fitB p1 "moment" && (fitB p2 "name" && (fitB p3 "name" && (fitB x "many" && true))))) = true
      rw [fit_n, fit_mo, fit_n, fit_n, h0, h1, h2, h3, fit_ma, hx]
      rfl
    · cases e with
      | go n m g p k => exact nd1 p
      | _ => exact absurd we (wno (by decide +kernel))
theorem isE_count : IsE (.str "count" :: p0 :: p1 :: p2 :: p3 :: rest) ↔ ∃ x y, rest = [x, y] ∧ whB 0 1000000000 x = true ∧ nmV y = true := by
  constructor
  · intro h
    have l := isE_len (f := .count "" 0 "" "" 0 "") h
    match rest, l with
    | [x, y], _ =>
      have q := isE_fits (f := .count "" 0 "" "" 0 "") h
      have q' : (fitB p0 "name" && (fitB p1 "moment" && (fitB p2 "name" && (fitB p3 "name" && (fitB x "counted" && (fitB y "name" && true)))))) = true := q
      rw [fit_n, fit_mo, fit_n, fit_n, h0, h1, h2, h3, fit_co, fit_n] at q'
      simp only [Bool.true_and, Bool.and_true, Bool.and_eq_true] at q'
      exact ⟨x, y, rfl, q'⟩
  · rintro ⟨x, y, rfl, hx, hy⟩
    refine isE_mk (f := .count "" 0 "" "" 0 "") hT rfl ?_ fun e we ep => ?_
    · show (fitB p0 "name" && (fitB p1 "moment" && (fitB p2 "name" && (fitB p3 "name" && (fitB x "counted" && (fitB y "name" && true)))))) = true
      rw [fit_n, fit_mo, fit_n, fit_n, h0, h1, h2, h3, fit_co, fit_n, hx, hy]
      rfl
    · cases e with
      | count n m g p k r => exact nd1 p
      | _ => exact absurd we (wno (by decide +kernel))
theorem isE_move {y3 : Str} (hp : p3 = .str y3) : IsE (.str "move" :: p0 :: p1 :: p2 :: p3 :: rest) ↔ ∃ x y, rest = [x, y] ∧ endsB "move" y3 x = true ∧ whB 1 1000000000 y = true := by
  have eb : ∀ x, endsB "move" y3 x = (nmV x && !decide (x = .str y3)) := fun x => if_neg fun z => absurd z.1 (wno (by decide +kernel))
  subst hp
  constructor
  · intro h
    have l := isE_len (f := .move "" 0 "" "" "" 0) h
    match rest, l with
    | [x, y], _ =>
      have q := isE_fits (f := .move "" 0 "" "" "" 0) h
      have q' : (fitB p0 "name" && (fitB p1 "moment" && (fitB p2 "name" && (fitB (.str y3) "name" && (fitB x "name" && (fitB y "many" && true)))))) = true := q
      rw [fit_n, fit_mo, fit_n, fit_n, fit_n, h0, h1, h2, h3, fit_ma] at q'
      simp only [Bool.true_and, Bool.and_true, Bool.and_eq_true] at q'
      refine ⟨x, y, rfl, ?_, q'.2⟩
      rw [eb, q'.1]
      refine (Bool.true_and _).trans ?_
      rw [Bool.not_eq_true']
      refine decide_eq_false fun z => ?_
      subst z
      obtain ⟨e, fi, q⟩ := h
      have w0 : e.word = "move" := V.str.inj (List.cons.inj q).1.symm
      cases e with
      | move n m g o t k =>
        have q2 := (List.cons.inj q).2
        simp only [Ent.vals, Ent.rest, Ent.name, Ent.moment, List.cons.injEq] at q2
        have : o = t := V.str.inj (q2.2.2.2.1.symm.trans q2.2.2.2.2.1)
        subst this
        exact (List.nodup_cons.mp fi.apart).1 (List.mem_singleton.mpr rfl)
      | _ => exact absurd w0 (wno (by decide +kernel))
  · rintro ⟨x, y, rfl, hx, hy⟩
    rw [eb] at hx
    obtain ⟨hx1, hx2⟩ := Bool.and_eq_true_iff.mp hx
    refine isE_mk (f := .move "" 0 "" "" "" 0) hT rfl ?_ fun e we ep => ?_
    · show (fitB p0 "name" && (fitB p1 "moment" && (fitB p2 "name" && (fitB (.str y3) "name" && (fitB x "name" && (fitB y "many" && true)))))) = true
      rw [fit_n, fit_mo, fit_n, fit_n, fit_n, h0, h1, h2, h3, fit_ma, hx1, hy]
      rfl
    · cases e with
      | move n m g o t k =>
        simp only [Ent.parts, Ent.rest, List.cons.injEq] at ep
        refine List.nodup_cons.mpr ⟨fun z => ?_, nd1 t⟩
        rw [Bool.not_eq_true'] at hx2
        refine of_decide_eq_false hx2 ?_
        rw [← ep.2.2.2.2.1, ← ep.2.2.2.1, List.mem_singleton.mp z]
      | _ => exact absurd we (wno (by decide +kernel))
theorem isE_some {y3 : Str} (hp : p3 = .str y3) : IsE (.str "some" :: p0 :: p1 :: p2 :: p3 :: rest) ↔ ∃ x, rest = [x] ∧ endsB "some" y3 x = true := by
  have ne3 : y3 ≠ "" := name_ne (by rw [hp] at h3; exact h3)
  subst hp
  constructor
  · intro h
    have l := isE_len (f := .some_ "" 0 "" "" "") h
    match rest, l with
    | [x], _ =>
      have q := isE_fits (f := .some_ "" 0 "" "" "") h
      have q' : (fitB p0 "name" && (fitB p1 "moment" && (fitB p2 "name" && (fitB (.str y3) "name" && (fitB x "end" && true))))) = true := q
      rw [fit_n, fit_mo, fit_n, fit_n, h0, h1, h2, h3, fit_e] at q'
      simp only [Bool.true_and, Bool.and_true] at q'
      refine ⟨x, rfl, ?_⟩
      unfold endsB
      by_cases z : x = .str ""
      · rw [if_pos ⟨rfl, z⟩]
      · rw [if_neg fun y => z y.2]
        rw [decide_eq_false z, Bool.false_or] at q'
        rw [q']
        refine (Bool.true_and _).trans ?_
        rw [Bool.not_eq_true']
        refine decide_eq_false fun z2 => ?_
        subst z2
        obtain ⟨e, fi, q⟩ := h
        have w0 : e.word = "some" := V.str.inj (List.cons.inj q).1.symm
        cases e with
        | some_ n m g o t =>
          have q2 := (List.cons.inj q).2
          simp only [Ent.vals, Ent.rest, Ent.name, Ent.moment, List.cons.injEq] at q2
          have e1 : y3 = o := V.str.inj q2.2.2.2.1
          have e2 : y3 = t := V.str.inj q2.2.2.2.2.1
          have := fi.apart
          rw [show Ent.places (.some_ n m g o t) = [o, t] from if_neg (by rw [← e2]; exact ne3), ← e1, ← e2] at this
          exact (List.nodup_cons.mp this).1 (List.mem_singleton.mpr rfl)
        | _ => exact absurd w0 (wno (by decide +kernel))
  · rintro ⟨x, rfl, hx⟩
    unfold endsB at hx
    have fx : fitB x "end" = true := by
      rw [fit_e]
      by_cases z : x = .str ""
      · rw [decide_eq_true z]
        rfl
      · rw [if_neg fun y => z y.2] at hx
        rw [(Bool.and_eq_true_iff.mp hx).1, Bool.or_true]
    refine isE_mk (f := .some_ "" 0 "" "" "") hT rfl ?_ fun e we ep => ?_
    · show (fitB p0 "name" && (fitB p1 "moment" && (fitB p2 "name" && (fitB (.str y3) "name" && (fitB x "end" && true))))) = true
      rw [fit_n, fit_mo, fit_n, fit_n, h0, h1, h2, h3, fx]
      rfl
    · cases e with
      | some_ n m g o t =>
        simp only [Ent.parts, Ent.rest, List.cons.injEq] at ep
        show (if t = "" then [o] else [o, t]).Nodup
        by_cases z : t = ""
        · rw [if_pos z]
          exact nd1 o
        · rw [if_neg z]
          have xz : x ≠ .str "" := fun q => z (V.str.inj (ep.2.2.2.2.1.trans q))
          rw [if_neg fun y => xz y.2] at hx
          have hx2 := (Bool.and_eq_true_iff.mp hx).2
          rw [Bool.not_eq_true'] at hx2
          refine List.nodup_cons.mpr ⟨fun y => of_decide_eq_false hx2 ?_, nd1 t⟩
          rw [← ep.2.2.2.2.1, ← ep.2.2.2.1, List.mem_singleton.mp y]
      | _ => exact absurd we (wno (by decide +kernel))
end
/-! ### what makes no house: the names -/
theorem kit_noLT {K : PySem.W.Frag} {n : String} (h1 : kitB n "list" = some false) (h2 : kitB n "tuple" = some false) : PySem.W.kitAny K (.type n) [.type "list", .type "tuple"] = some false := by
  simp only [PySem.W.kitAny, kit_ty h1, kit_ty h2]
/-- neither a list nor a tuple -/
def NoSeq (H : Hp) (v : V) : Prop := (Thg H v ∨ ∃ (a : Addr) (kvs : List (List Key × V)), v = .ref a ∧ H a = some (.dT kvs)) ∧ (∀ a xs, v = .ref a → H a ≠ some (.tup xs)) ∧ ∀ a xs, v = .ref a → H a ≠ some (.lst xs)
theorem NoSeq.on {H H' : Hp} {v : V} (k : ∀ a o, H a = some o → (∀ ps, o ≠ .tbl ps) → H' a = some o) (h : NoSeq H v) : NoSeq H' v := by
  obtain ⟨t | ⟨a, kvs, rfl, h⟩, n1, n2⟩ := h
  · refine ⟨.inl (t.on fun a o _ h n => k a o h n), fun a xs e z => ?_, fun a xs e z => ?_⟩ <;> subst e <;> cases t with
      | lst h => exact n2 _ _ rfl h
      | tup h => exact n1 _ _ rfl h
      | dct h => rw [k _ _ h (fun ps z => nomatch z)] at z; exact nomatch z
  · have h' := k _ _ h (fun ps z => nomatch z)
    exact ⟨.inr ⟨a, kvs, rfl, h'⟩, (fun a' xs e z => by rw [← V.ref.inj e, h'] at z; exact nomatch z), (fun a' xs e z => by rw [← V.ref.inj e, h'] at z; exact nomatch z)⟩
theorem NoSeq.ty {K : PySem.W.Frag} {H : Hp} {v : V} (h : NoSeq H v) : ∃ n : String, TyX K H v (.type n) ∧ PySem.W.kitAny K (.type n) [.type "list", .type "tuple"] = some false := by
  obtain ⟨t | ⟨a, kvs, rfl, h⟩, n1, n2⟩ := h
  · cases t with
    | str z h => exact ⟨"str", .base (.str z), kit_noLT (by decide +kernel) (by decide +kernel)⟩
    | int i => exact ⟨"int", .base (.int i), kit_noLT (by decide +kernel) (by decide +kernel)⟩
    | bl b => exact ⟨"bool", .base (.bl b), kit_noLT (by decide +kernel) (by decide +kernel)⟩
    | non => exact ⟨"NoneType", .base .non, kit_noLT (by decide +kernel) (by decide +kernel)⟩
    | lst h => exact absurd h (n2 _ _ rfl)
    | tup h => exact absurd h (n1 _ _ rfl)
    | dct h => exact ⟨"dict", .base (.dK h), kit_noLT (by decide +kernel) (by decide +kernel)⟩
  · exact ⟨"dict", .base (.dT h), kit_noLT (by decide +kernel) (by decide +kernel)⟩
/-- what makes no rising names -/
def NamesBad (H : Hp) (v : V) (most : Int) : Prop := NoSeq H v ∨ ∃ (l : Addr) (xs : List V), v = .ref l ∧ LT H l xs ∧ xs.length ≤ 1000 ∧ (∀ x ∈ xs, Thg H x) ∧
  ((∃ x ∈ xs, nmV x = false) ∨ ∃ ys : List Str, xs = ys.map V.str ∧ (∀ y ∈ ys, nameB y = true) ∧ (onceR ys).length ≤ 60 ∧ ¬ (1 ≤ (onceR ys).length ∧ ((onceR ys).length : Int) ≤ most))
def spNoRising (C : Addr) (Ts : List Addr) : Sp := fun vs H _ E => ∃ (v : V) (most : Int), vs = [v, .int most] ∧ NamesBad H v most ∧ TabsG Ts H ∧ ∀ H', TB1 Ts H H' → E (.ref C) none H'
theorem nm_no {v : V} {H : Hp} {K : PySem.W.Frag} {T : Addr} {Q : VK} {E : XK} (t : Thg H v) (tg : GxR.TabG H T) (q : ∀ H2, GxR.Tabbed T H H2 → Q (.bl (nmV v)) H2) : spName K T [v] H Q E := by
  refine ⟨v, rfl, tg, ?_⟩
  obtain ⟨n, ty, m, st, _⟩ := t.ty (K := K)
  by_cases zs : n = "str"
  · obtain ⟨z, rfl⟩ := st.mp zs
    cases t with
    | str _ h => exact .inl ⟨z, rfl, Nat.le_of_lt (small1000 h), q⟩
  · refine .inr ⟨n, ty, by rw [kit_str m, decide_eq_false zs], ?_⟩
    have e : nmV v = false := by
      cases v with
      | str z => exact absurd (st.mpr ⟨z, rfl⟩) zs
      | _ => rfl
    rw [← e]
    exact q H ⟨tg, fun _ _ => rfl⟩
section
variable {P : Program} {w : World} {K : PySem.W.Frag} {mg : Str → Option Value} {base : Heap}
set_option maxHeartbeats 1000000 in
theorem ok_noRising {f cR T1 T3 fN C : Addr} {Ts : List Addr} {dN : FuncData} {oc kV doc pm ct : Value} {od an : Option Addr} {osl : Array (Option Value)}
    (lk : K.lookup f = some ⟨oc, od, .func (PySem.W.fnOf "rising_names" "rising_names" (defArgs sRising) (defBody sRising) (defScope sRising) .none kV doc pm an (.ref cR) ct), osl⟩) (cdI : PySem.W.codeIn K (.ref cR) "rising_names" = true)
    (TB : GxR.TabB base mg cR T3) (i1 : T1 ∈ Ts) (i3 : T3 ∈ Ts) (NM : DefT P w K mg base "is_name" 1 fN dN ["thing"] (spName K T1)) (NH : Err K mg "NoHouse" C)
    (mis : mg "isinstance" = none) (mT_list : mg "list" = none) (mT_tuple : mg "tuple" = none) (ml : mg "len" = none) (mal : mg "all" = none) (ms : mg "sorted" = none) (mse : mg "set" = none) :
    FnOk P w K mg base (L2.CX P w) 3 f (PySem.W.fnOf "rising_names" "rising_names" (defArgs sRising) (defBody sRising) (defScope sRising) .none kV doc pm an (.ref cR) ct) ["things", "most"] (spNoRising C Ts) := by
  refine fn_of lk cdI sc_sRising (fun vs H Q E h => ?_) (fun A outer s H vs Q E hr h => ?_)
  · obtain ⟨v, most, rfl, _⟩ := h
    rfl
  · obtain ⟨v, most, rfl, bad, tg, q⟩ := h
    have nd := sc_sRising.nd
    refine ⟨_, pss_cons (ps_if (pt_not (pt_val (pe_callB call_isiT (by rfl) mis (by decide +kernel) (pa_cons (pv 0) (pa_cons (pe_tup (pa_cons (pe_bltn (v := .ty "list") (u := .type "list") (by rfl) mT_list (by decide +kernel) rfl) (pa_cons (pe_bltn (v := .ty "tuple") (u := .type "tuple") (by rfl) mT_tuple (by decide +kernel) rfl) pa_nil))) pa_nil))))) (pss_one (ps_raise rfl (takes_of rfl rfl rfl rfl) (pmk_own PySem.F.excBase_ValueError NH.ex NH.gC NH.kp (raises_own NH.sb NH.ty) rfl))) pss_nil)
      (pss_cons (ps_if (pt_not (PT.nox (pt_val (pe_allG (T := T3) (c := cR) (k := 1) (own := [("thing", 3)]) (g := gName 3) (tt := tYes) (te := tCall (spName K T1) [] E0 (tCons (tVar 3) tNil))
          hr (by rfl) mal rfl nd TB rfl ⟨blkOk_by (N := sRisingN) (sc := defScope sRising) (by decide +kernel), rfl, by decide +kernel, rfl⟩
          (pi_seq (pv 0)) (fun _ _ _ _ _ _ => pg_name (i := 3) nd rfl (Or.inl rfl)) (fun _ _ _ _ _ _ _ => pts_nil) (fun _ _ _ _ _ _ hr' => pe_call NM.ok hr' (by rfl) NM.g NM.kp NM.b .nil pass0 (pa_cons (pv 3) pa_nil)))))) (pss_one (ps_raise rfl (takes_of rfl rfl rfl rfl) (pmk_own PySem.F.excBase_ValueError NH.ex NH.gC NH.kp (raises_own NH.sb NH.ty) rfl))) pss_nil)
      (pss_cons (ps_set (i := 2) nd rfl (Or.inl rfl) (pe_callTy call_tuple_of (by rfl) mT_tuple (by decide +kernel) (pa_cons (pe_sortSet rfl (by rfl) ms (by rfl) mse (pv 0)) pa_nil)))
      (pss_cons (ps_if (pt_not (pt_chain op_le op_le pe_int (pe_callB call_len_seq (by rfl) ml PySem.boot_len (pa_cons (pv 2) pa_nil)) (pv 1))) (pss_one (ps_raise rfl (takes_of rfl rfl rfl rfl) (pmk_own PySem.F.excBase_ValueError NH.ex NH.gC NH.kp (raises_own NH.sb NH.ty) rfl))) pss_nil)
      (pss_one (ps_ret (pv 2)))))), ?_⟩
    refine ⟨_, rfl, (by show 2 ≤ sizeLine; decide), fun tq ntq => ?_⟩
    have s0 := @same_new _ _ (.tup [V.ty "list", V.ty "tuple"]) ntq
    have tg0 := tabs_sm s0 tg
    have b0 : TB1 Ts H (upd H tq (.tup [V.ty "list", V.ty "tuple"])) := .same tg s0
    rcases bad with ns | ⟨l, xs, rfl, hl, lx, hT, bad⟩
    · obtain ⟨n, ty, kt⟩ := (ns.on fun a o h _ => s0 a o h).ty (K := K)
      exact ⟨_, tq, _, _, _, false, rfl, upd_same, clsLT, ty, kt, _, rfl, iteT (q _ b0)⟩
    have hl0 := hl.on s0
    have hT0 : ∀ x ∈ xs, Thg (upd H tq (.tup [V.ty "list", V.ty "tuple"])) x := fun x hx => (hT x hx).on fun a o _ h _ => s0 a o h
    obtain ⟨t, ty, kt⟩ := is_lt (K := K) hl0
    refine ⟨_, tq, _, t, _, true, rfl, upd_same, clsLT, ty, kt, _, rfl, iteF ?_⟩
    generalize upd H tq (.tup [V.ty "list", V.ty "tuple"]) = H1 at hl0 tg0 b0 hT0
    clear ty kt
    dsimp only [tNext, tSeq, tIfS, tNot, tB]
    refine all_seq (k := 0) hl0 rfl (fun i H' => TB1 Ts H1 H' ∧ ∀ x ∈ xs.take i, nmV x = true) (tg0 T3 i3) (fun H2 tb => ⟨TB1.tab tb tg0 i3, fun x hx => nomatch hx⟩) (fun i H' _ b o e n => b.1.2 _ _ e n) ?_ ?_
    · rintro i x H' Go hx ⟨b, pre⟩ go
      have mx := List.mem_of_getElem? hx
      refine ⟨rfl, yesT ⟨_, rfl, ?_⟩⟩
      have tx : Thg H' x := (hT0 x mx).on fun a o _ h n => b.2 a o h n
      have key : ∀ H3, GxR.Tabbed T1 H' H3 → TB1 Ts H1 H3 := fun H3 tb => b.tr (.tab tb b.1 i1)
      obtain ⟨n, ty, m, st, _⟩ := tx.ty (K := K)
      have fin : ∀ H3, TB1 Ts H1 H3 → nmV x = false → E (.ref C) none H3 := fun H3 b3 _ => q H3 (b0.tr b3)
      by_cases zs : n = "str"
      · obtain ⟨z, rfl⟩ := st.mp zs
        have hz : z.length ≤ 1000 := by cases tx with | str _ h => exact h
        refine ⟨_, rfl, b.1 T1 i1, .inl ⟨z, rfl, Nat.le_of_lt (small1000 hz), fun H3 tb => ?_⟩⟩
        cases e : nameB z with
        | true =>
          refine ⟨true, rfl, iteT (go _ ⟨key H3 tb, fun y hy => ?_⟩)⟩
          rw [take_sn hx] at hy
          rcases List.mem_append.mp hy with hy | hy
          · exact pre y hy
          · rw [List.mem_singleton.mp hy]
            exact e
        | false => exact ⟨false, rfl, iteF ⟨false, rfl, iteT (fin H3 (key H3 tb) e)⟩⟩
      · refine ⟨_, rfl, b.1 T1 i1, .inr ⟨n, ty, by rw [kit_str m, decide_eq_false zs], ⟨false, rfl, iteF ⟨false, rfl, iteT ?_⟩⟩⟩⟩
        exact q H' (b0.tr b)
    · rintro H2 ⟨b2, all⟩
      rw [List.take_length] at all
      refine ⟨true, rfl, iteF ?_⟩
      rcases bad with ⟨x, hx, e⟩ | ⟨ys, rfl, nm, o60, no⟩
      · rw [all x hx] at e
        exact nomatch e
      have hl2 : LT H2 l (ys.map V.str) := hl0.by fun o e n => b2.2 _ _ e n
      have ly1 : ys.length ≤ 1000 := by rw [List.length_map] at lx; exact lx
      refine ⟨_, rfl, l, ys, rfl, hl2.symm.imp (fun h => SqT.of h) (fun h => SqL.of h), (by have hu := hr.units; omega), (by first | exact ly1 | exact lx), fun zs p pm so np => ?_⟩
      refine ⟨p, _, rfl, .inl ⟨SqL.of upd_same, fun tp ntp => ?_⟩⟩
      have s3 := (@same_new _ _ (.lst (zs.map V.str)) np).trans (@same_new _ _ (.tup (zs.map V.str)) ntp)
      have ly : zs.length = (onceR ys).length := pm.length_eq
      have fin := q _ (b0.tr (b2.tr (.same b2.1 s3)))
      refine ⟨_, rfl, tp, _, rfl, .inr (SqT.of upd_same), 1, _, rfl, rfl, _, rfl, ite2 (fun z1 => ?_) (fun z1 => ?_)⟩
      · have z1' := of_decide_eq_true z1
        rw [List.length_map, ly] at z1'
        refine ⟨_, rfl, _, most, rfl, rfl, _, rfl, ite2 (fun z2 => ?_) (fun z2 => ?_)⟩
        · exact fin
        · have z2' : ((zs.map V.str).length : Int) ≤ most := by
            cases d : decide (((zs.map V.str).length : Int) ≤ most) with
            | true => exact of_decide_eq_true d
            | false => rw [d] at z2; exact absurd rfl z2
          rw [List.length_map, ly] at z2'
          exact absurd ⟨by omega, z2'⟩ no
      · exact ⟨false, rfl, iteT fin⟩
end
/-! ### what makes no house: the entries -/
def OneE (H : Hp) (P G : List Str) (x : Addr × Ent) : Prop := H x.1 = some (.tup x.2.vals) ∧ x.2.Fine ∧ SeqAt.shaped (entD x.2) = true ∧ ofB x.2 P G = true
def EntsBad (H : Hp) (P G : List Str) (v : V) : Prop := NoSeq H v ∨ ∃ (l : Addr) (us : List V), v = .ref l ∧ LT H l us ∧ us.length ≤ 1000 ∧ (∀ u ∈ us, (∃ x, u = .ref x.1 ∧ OneE H P G x) ∨ NoE H P G u) ∧
  ∀ ts : List (Addr × Ent), us = ts.map (fun x => V.ref x.1) → (∀ x ∈ ts, OneE H P G x) → (∀ x ∈ ts, ∀ y ∈ ts, x.2.name = y.2.name → x.2 = y.2) → 30 < (onceN ts).length
def spNoOwn (C : Addr) (Ts : List Addr) : Sp := fun vs H _ E => ∃ (v : V) (pl gl : Addr) (P G : List Str), vs = [v, .ref pl, .ref gl] ∧ EntsBad H P G v ∧ H pl = some (.tup (P.map V.str)) ∧ H gl = some (.tup (G.map V.str)) ∧ TabsG Ts H ∧ ∀ H', TB1 Ts H H' → E (.ref C) none H'
section
variable {P : Program} {w : World} {K : PySem.W.Frag} {mg : Str → Option Value} {base : Heap}
set_option maxHeartbeats 2000000 in
theorem ok_noOwn {f fI fO C : Addr} {fd dI dO : FuncData} {Ts : List Addr} (F : Fun K "own_entries" "own_entries" sOwnEnts f fd)
    (IO : DefT P w K mg base "is_entry_of" 5 fI dI ["thing", "places", "goods"] (fun vs H Q E => spIsEntryOf Ts vs H Q E ∨ spNoEntryOf Ts vs H Q E)) (IN : DefT P w K mg base "in_order" 4 fO dO ["entries"] spInOrder) (NH : Err K mg "NoHouse" C)
    (mis : mg "isinstance" = none) (mT_list : mg "list" = none) (mT_tuple : mg "tuple" = none) (ml : mg "len" = none) (mME : ∃ t, mg "MOST_ENTRIES" = some (.int 30 t)) : FnOk P w K mg base (L2.CX P w) 6 f fd ["things", "places", "goods"] (spNoOwn C Ts) := by
  obtain ⟨tME, mME⟩ := mME
  refine F.okX sc_sOwnEnts (fun vs H Q E h => ?_) (fun cdv A outer s H vs Q E hr h => ?_)
  · obtain ⟨v, pl, gl, Ps, G, rfl, _⟩ := h
    rfl
  · obtain ⟨v, pl, gl, Ps, G, rfl, bad, hp, hg, tg, q⟩ := h
    have nd := sc_sOwnEnts.nd
    have hr4 : Room 4 _ := hr.mono (by decide)
    have hr5 : Room 5 _ := hr.mono (by decide)
    refine ⟨_, pss_cons (ps_if (pt_not (pt_val (pe_callB call_isiT (by rfl) mis (by decide +kernel) (pa_cons (pv 0) (pa_cons (pe_tup (pa_cons (pe_bltn (v := .ty "list") (u := .type "list") (by rfl) mT_list (by decide +kernel) rfl) (pa_cons (pe_bltn (v := .ty "tuple") (u := .type "tuple") (by rfl) mT_tuple (by decide +kernel) rfl) pa_nil))) pa_nil))))) (pss_one (ps_raise rfl (takes_of rfl rfl rfl rfl) (pmk_own PySem.F.excBase_ValueError NH.ex NH.gC NH.kp (raises_own NH.sb NH.ty) rfl))) pss_nil)
      (pss_cons (ps_set (i := 3) nd rfl (Or.inl rfl) pe_dnewK)
      (pss_cons (ps_for (passes_of rfl) rfl (pi_seq (pv 0)) (pg_name (i := 4) nd rfl (Or.inl rfl))
        (pss_cons (ps_if (pt_not (pt_val (pe_call IO.ok hr5 (by rfl) IO.g IO.kp IO.b .nil pass0 (pa_cons (pv 4) (pa_cons (pv 1) (pa_cons (pv 2) pa_nil)))))) (pss_one (ps_raise rfl (takes_of rfl rfl rfl rfl) (pmk_own PySem.F.excBase_ValueError NH.ex NH.gC NH.kp (raises_own NH.sb NH.ty) rfl))) pss_nil)
        (pss_one (ps_if (pt_cmpR (op_neD hr.units) (pe_sdf (pv 3) (pe_ix ix_tup (pv 4) pe_int (fun _ _ => rfl)) (pv 4) ⟨rfl, rfl, rfl, rfl⟩) (pv 4) (nomark _)) (pss_one (ps_raise rfl (takes_of rfl rfl rfl rfl) (pmk_own PySem.F.excBase_ValueError NH.ex NH.gC NH.kp (raises_own NH.sb NH.ty) rfl))) pss_nil))))
      (pss_cons (ps_if (pt_cmpR op_gt (pe_callB call_lenD (by rfl) ml PySem.boot_len (pa_cons (pv 3) pa_nil)) (pe_glob (v := .int 30) rfl mME ⟨_, rfl⟩) (nomark _)) (pss_one (ps_raise rfl (takes_of rfl rfl rfl rfl) (pmk_own PySem.F.excBase_ValueError NH.ex NH.gC NH.kp (raises_own NH.sb NH.ty) rfl))) pss_nil)
      (pss_one (ps_ret (pe_call IN.ok hr4 (by rfl) IN.g IN.kp IN.b .nil pass0 (pa_cons (pe_callTy (call_listVals rfl) (by rfl) mT_list (by decide +kernel) (pa_cons (pe_vals (pv 3)) pa_nil)) pa_nil))))))), ?_⟩
    refine ⟨_, rfl, (by show 2 ≤ sizeLine; decide), fun tq ntq => ?_⟩
    have s0 := @same_new _ _ (.tup [V.ty "list", V.ty "tuple"]) ntq
    rcases bad with ns | ⟨l, us, rfl, hl, lt, hE, bad⟩
    · obtain ⟨n, ty, kt⟩ := (ns.on fun a o h _ => s0 a o h).ty (K := K)
      exact ⟨_, tq, _, _, _, false, rfl, upd_same, clsLT, ty, kt, _, rfl, iteT (q _ (.same tg s0))⟩
    obtain ⟨t, ty, kt⟩ := is_lt (K := K) (hl.on s0)
    refine ⟨_, tq, _, t, _, true, rfl, upd_same, clsLT, ty, kt, _, rfl, iteF fun D nD => ?_⟩
    clear ty kt
    have sD := s0.trans (@same_new _ _ (.dK []) nD)
    have hDn : H D = none := s0.free nD
    have hD : (upd (upd H tq (.tup [V.ty "list", V.ty "tuple"])) D (.dK [])) D = some (.dK []) := upd_same
    generalize upd (upd H tq (.tup [V.ty "list", V.ty "tuple"])) D (.dK []) = H1 at sD hD
    dsimp only [tNext, tSeq]
    refine for_seq (k := 0) (hl.on sD) rfl (fun i σ H' => ∃ y4 ts, σ = [some (.ref l), some (.ref pl), some (.ref gl), some (.ref D), y4] ∧ us.take i = ts.map (fun x => V.ref x.1) ∧ (∀ x ∈ ts, OneE H Ps G x) ∧ (∀ x ∈ ts, ∀ y ∈ ts, x.2.name = y.2.name → x.2 = y.2) ∧ TB1 Ts H H' ∧ H' D = some (.dK (kvN (onceN ts)))) ⟨_, [], rfl, rfl, (fun x hx => nomatch hx), (fun x hx => nomatch hx), .same tg sD, hD⟩ ?_ ?_ ?_
    · rintro i σ H' hi ⟨y4, ts, rfl, _, _, _, b, _⟩ o e n
      rcases hl with h | h
      · rw [sD _ _ h] at e
        exact (b.2 _ _ h fun _ z => nomatch z).trans e
      · rw [sD _ _ h] at e
        exact (b.2 _ _ h fun _ z => nomatch z).trans e
    · rintro i u σ H2 hx ⟨y4, ts, rfl, htk, hg1, hcon, b2, hD2⟩
      have mu := List.mem_of_getElem? hx
      have li : i < us.length := (List.getElem?_eq_some_iff.mp hx).1
      have lts : ts.length = i := by
        have := congrArg List.length htk
        rw [List.length_take, List.length_map] at this
        omega
      rcases hE u mu with ⟨y, rfl, one⟩ | no
      rotate_left
      · refine ⟨_, rfl, _, rfl, _, rfl, .inr ⟨u, pl, gl, Ps, G, rfl, no.on fun a o e n => b2.2 a o e n, b2.tk _ _ hp, b2.tk _ _ hg, b2.1, fun H3 b3 => ?_⟩⟩
        exact ⟨false, rfl, iteT (q H3 (b2.tr b3))⟩
      obtain ⟨e1, e2, e3, e4⟩ := id one
      refine ⟨_, rfl, _, rfl, _, rfl, .inl ⟨y.1, pl, gl, y.2, Ps, G, rfl, b2.tk _ _ e1, e2, b2.tk _ _ hp, b2.tk _ _ hg, b2.1, fun H3 b3 => ?_⟩⟩
      rw [e4]
      have b23 := b2.tr b3
      have hD3 := b3.dct hD2
      have hy3 := b23.tk _ _ e1
      have tk1 : us.take (i + 1) = (ts ++ [y]).map (fun x => V.ref x.1) := by
        rw [take_sn hx, htk, List.map_append]
        rfl
      have all1 : ∀ x ∈ ts ++ [y], OneE H Ps G x := fun x hx => (List.mem_append.mp hx).elim (hg1 x) fun h => by rw [List.mem_singleton.mp h]; exact one
      refine ⟨true, rfl, iteF ⟨_, rfl, D, rfl, .inl ⟨_, .inl hD3⟩, _, rfl, y.1, _, 1, _, rfl, rfl, SqT.of hy3, at1 y.2, _, rfl, _, Sum.inr y.2.name, hD3, rfl, ?_, fun v hv => ?_, fun hv => ?_⟩⟩
      · have : (kvN (onceN ts)).length ≤ 1000 := by
          show (List.map _ _).length ≤ _
          rw [List.length_map]
          exact Nat.le_trans (onceN_len _) (by omega)
        exact small1000 (by omega)
      · obtain ⟨z, hz, ez, rfl⟩ := val_kvN.2.1 v hv
        have mz : z ∈ ts := onceN_sub _ z hz
        obtain ⟨z1, z2, z3, z4⟩ := hg1 z mz
        have hz3 := b23.tk _ _ z1
        refine ⟨_, rfl, _, _, ent_dp hz3, ent_dp hy3, z3, e3, _, rfl, ?_⟩
        cases eq : PyData.eqv (entD z.2) (entD y.2) with
        | false => exact iteT (q H3 b23)
        | true =>
          have zy : z.2 = y.2 := (eqv_ents _ _).mp eq
          refine iteF ⟨_, ts ++ [y], rfl, tk1, all1, ?_, b23, ?_⟩
          · intro x hx x' hx' en
            have on : ∀ x ∈ ts, x.2.name = y.2.name → x.2 = y.2 := fun x hx e => (hcon x hx z mz (e.trans ez.symm)).trans zy
            rcases List.mem_append.mp hx with hx | hx <;> rcases List.mem_append.mp hx' with hx' | hx'
            · exact hcon x hx x' hx' en
            · rw [List.mem_singleton.mp hx'] at en ⊢
              exact on x hx en
            · rw [List.mem_singleton.mp hx] at en ⊢
              exact (on x' hx' en.symm).symm
            · rw [List.mem_singleton.mp hx, List.mem_singleton.mp hx']
          · rw [hD3, onceN_snoc, if_pos (hasN_iff.mpr ⟨z, hz, ez⟩)]
      · refine ⟨_, rfl, _, _, ent_dp ((upd_ne (ne_of hy3 hD3 (by intro z; cases z))).trans hy3), ent_dp ((upd_ne (ne_of hy3 hD3 (by intro z; cases z))).trans hy3), e3, e3, _, rfl, ?_⟩
        rw [SeqAt.eqv_refl _ (SeqAt.canLay_of_shaped e3)]
        have hn : ¬ hasN (onceN ts) y.2.name = true := fun z => by
          have := val_kvN.2.2 z
          rw [hv] at this
          cases this
        refine iteF ⟨_, ts ++ [y], rfl, tk1, all1, ?_, b23.putD hDn hD3, ?_⟩
        · have nw : ∀ x ∈ ts, x.2.name ≠ y.2.name := fun x hx e => hn (by rw [← e]; exact onceN_has ts x hx)
          intro x hx x' hx' en
          rcases List.mem_append.mp hx with hx | hx <;> rcases List.mem_append.mp hx' with hx' | hx'
          · exact hcon x hx x' hx' en
          · rw [List.mem_singleton.mp hx'] at en
            exact absurd en (nw x hx)
          · rw [List.mem_singleton.mp hx] at en
            exact absurd en.symm (nw x' hx')
          · rw [List.mem_singleton.mp hx, List.mem_singleton.mp hx']
        · rw [upd_same, putK_new _ hv, onceN_snoc, if_neg hn]
          show _ = some (HO.dK (List.map _ (_ ++ [y])))
          rw [List.map_append]
          rfl
    · rintro σ H2 ⟨y4, ts, rfl, htk, hg1, hcon, b2, hD2⟩
      rw [List.take_length] at htk
      have big := bad ts htk hg1 hcon
      refine ⟨_, rfl, D, _, rfl, hD2, (kvN (onceN ts)).length, 30, rfl, rfl, _, rfl, ?_⟩
      have z30 : (kvN (onceN ts)).length = (onceN ts).length := List.length_map _
      rw [decide_eq_true (show (30 : Int) < ((kvN (onceN ts)).length : Int) by rw [z30]; omega)]
      exact iteT (q H2 b2)
end
/-! ### what makes no house -/
theorem FnOk.lift {P : Program} {w : World} {K : PySem.W.Frag} {mg : Str → Option Value} {base : Heap} {CX : CXT} {k : Nat} {f : Addr} {fd : FuncData} {ps : List Str} {sp : Sp} (F : FnOk P w K mg base CX0 k f fd ps sp) : FnOk P w K mg base CX k f fd ps sp :=
  ⟨F.len, fun A outer s H args us vs Q E hr he hb hv hs => codeAny_mono (F.run A outer s H args us vs Q E hr he hb hv hs) fun r s' h => by
    cases r with
    | ok fl => cases fl <;> exact h
    | error e => exact False.elim h⟩
theorem EntsBad.on {H H' : Hp} {P G : List Str} {v : V} (k : ∀ a o, H a = some o → (∀ ps, o ≠ .tbl ps) → H' a = some o) (h : EntsBad H P G v) : EntsBad H' P G v := by
  rcases h with h | ⟨l, us, rfl, hl, lt, hE, bad⟩
  · exact .inl (h.on k)
  · have one : ∀ x, OneE H P G x → OneE H' P G x := fun x h => ⟨k _ _ h.1 (fun ps z => nomatch z), h.2⟩
    refine .inr ⟨l, us, rfl, hl.by fun o e n => k _ _ e n, lt, fun u hu => (hE u hu).imp (fun ⟨x, e, h⟩ => ⟨x, e, one x h⟩) fun h => h.on k, fun ts e hg hc => bad ts e (fun x hx => ?_) hc⟩
    obtain ⟨g1, g2, g3, g4⟩ := hg x hx
    rcases hE (.ref x.1) (by rw [e]; exact List.mem_map.mpr ⟨x, hx, rfl⟩) with ⟨z, ez, z1, z2, z3, z4⟩ | no
    · have e1 : x.1 = z.1 := V.ref.inj ez
      have := k _ _ z1 (fun ps z => nomatch z)
      rw [← e1, g1] at this
      have e2 : x.2 = z.2 := vals_inj (HO.tup.inj (Option.some.inj this))
      exact ⟨by rw [e1, e2]; exact z1, g2, g3, g4⟩
    · rcases no.on k with ⟨_, n⟩ | ⟨a, xs, ea, h1, _, _, n⟩
      · exact absurd g1 (n _ _ rfl)
      · rw [← V.ref.inj ea, g1] at h1
        exact absurd ⟨x.2, g2, g4, (HO.tup.inj (Option.some.inj h1)).symm⟩ n
theorem NamesBad.on {H H' : Hp} {v : V} {most : Int} (k : ∀ a o, H a = some o → (∀ ps, o ≠ .tbl ps) → H' a = some o) (h : NamesBad H v most) : NamesBad H' v most := by
  rcases h with h | ⟨l, xs, rfl, hl, lx, hT, bad⟩
  · exact .inl (h.on k)
  · exact .inr ⟨l, xs, rfl, hl.by fun o e n => k _ _ e n, lx, fun x hx => (hT x hx).on fun a o _ h n => k a o h n, bad⟩
/-- names that are told -/
def NamesOk (H : Hp) (v : V) (most : Int) (xs : List Str) : Prop := ∃ l, v = .ref l ∧ LT H l (xs.map V.str) ∧ (∀ y ∈ xs, nameB y = true) ∧ xs.length ≤ 1000 ∧ 1 ≤ (onceR xs).length ∧ ((onceR xs).length : Int) ≤ most
theorem NamesOk.on {H H' : Hp} {v : V} {most : Int} {xs : List Str} (k : ∀ a o, H a = some o → (∀ ps, o ≠ .tbl ps) → H' a = some o) (h : NamesOk H v most xs) : NamesOk H' v most xs := by
  obtain ⟨l, rfl, hl, r⟩ := h
  exact ⟨l, rfl, hl.by fun o e n => k _ _ e n, r⟩
def HouseBad (H : Hp) (v1 v2 v3 : V) : Prop := NamesBad H v1 6 ∨ ∃ xs, NamesOk H v1 6 xs ∧ (NamesBad H v2 3 ∨ ∃ ys, NamesOk H v2 3 ys ∧ ∀ P G : List Str, P.Perm (onceR xs) → G.Perm (onceR ys) → EntsBad H P G v3)
def spNoHouse (C : Addr) (Ts : List Addr) : Sp := fun vs H _ E => ∃ v1 v2 v3 : V, vs = [v1, v2, v3] ∧ HouseBad H v1 v2 v3 ∧ TabsG Ts H ∧ ∀ H', TB1 Ts H H' → E (.ref C) none H'
section
variable {P : Program} {w : World} {K : PySem.W.Frag} {mg : Str → Option Value} {base : Heap}
theorem ok_noHouse {f fR fO C : Addr} {fd dR dO : FuncData} {Ts : List Addr} (F : Fun K "house_of" "house_of" sHouseOf f fd) (RN : DefX P w K mg base "rising_names" 3 fR dR ["things", "most"] (fun vs H Q E => spRising Ts vs H Q E ∨ spNoRising C Ts vs H Q E))
    (OE : DefX P w K mg base "own_entries" 6 fO dO ["things", "places", "goods"] (spNoOwn C Ts)) (mP : ∃ t, mg "MOST_PLACES" = some (.int 6 t)) (mG : ∃ t, mg "MOST_GOODS" = some (.int 3 t)) : FnOk P w K mg base (L2.CX P w) 7 f fd ["places", "goods", "entries"] (spNoHouse C Ts) := by
  obtain ⟨tP, mP⟩ := mP
  obtain ⟨tG, mG⟩ := mG
  refine F.okX sc_sHouseOf (fun vs H Q E h => ?_) (fun cdv A outer s H vs Q E hr h => ?_)
  · obtain ⟨v1, v2, v3, rfl, _⟩ := h
    rfl
  · obtain ⟨v1, v2, v3, rfl, bad, tg, q⟩ := h
    have nd := sc_sHouseOf.nd
    have hr3 : Room 3 _ := hr.mono (by decide)
    have hr6 : Room 6 _ := hr.mono (by decide)
    refine ⟨_, pss_cons (ps_set (i := 3) nd rfl (Or.inl rfl) (pe_callS RN.ok hr3 (by rfl) RN.g RN.kp RN.b (fun σ => passAt (takes_of rfl rfl rfl rfl) σ) (pa_cons (pv 0) (pa_cons (pe_glob (v := .int 6) rfl mP ⟨_, rfl⟩) pa_nil))))
      (pss_cons (ps_set (i := 4) nd rfl (Or.inl rfl) (pe_callS RN.ok hr3 (by rfl) RN.g RN.kp RN.b (fun σ => passAt (takes_of rfl rfl rfl rfl) σ) (pa_cons (pv 1) (pa_cons (pe_glob (v := .int 3) rfl mG ⟨_, rfl⟩) pa_nil))))
      (pss_one (ps_ret (pe_tup (pa_cons (pv 3) (pa_cons (pv 4) (pa_cons (pe_callS OE.ok hr6 (by rfl) OE.g OE.kp OE.b (fun σ => passAt (takes_of rfl rfl rfl rfl) σ) (pa_cons (pv 2) (pa_cons (pv 3) (pa_cons (pv 4) pa_nil)))) pa_nil))))))), ?_⟩
    rcases bad with bad | ⟨xs, ⟨l1, rfl, h1, n1, lx, a1, a2⟩, bad⟩
    · exact ⟨_, rfl, .inr ⟨v1, 6, rfl, bad, tg, fun H' b => q H' b⟩⟩
    refine ⟨_, rfl, .inl ⟨l1, xs, 6, rfl, h1, n1, lx, a1, a2, by decide, tg, fun t1 Ps H1 pm1 so1 b1 k1 => ?_⟩⟩
    rcases bad with bad | ⟨ys, ok2, bad⟩
    · exact ⟨_, rfl, .inr ⟨v2, 3, rfl, bad.on fun a o e n => b1.2 _ _ e n, b1.1, fun H' b => q H' (b1.tr b)⟩⟩
    obtain ⟨l2, rfl, h2, n2, ly, g1, g2⟩ := ok2.on (H' := H1) fun a o e n => b1.2 _ _ e n
    refine ⟨_, rfl, .inl ⟨l2, ys, 3, rfl, h2, n2, ly, g1, g2, by decide, b1.1, fun t2 G H2 pm2 so2 b2 k2 => ?_⟩⟩
    have b12 := b1.tr b2
    exact ⟨_, rfl, _, rfl, _, rfl, _, rfl, _, rfl, v3, t1, t2, Ps, G, rfl, (bad Ps G pm1 pm2).on fun a o e n => b12.2 _ _ e n, b2.tk _ _ k1, k2, b12.1, fun H' b => q H' (b12.tr b)⟩
end
/-! ### repr of any data, with lists, tuples and dicts one within the other -/
def keyD : Key → PyData
  | .inl i => .int i
  | .inr x => .str x
mutual
inductive Dq (K : PySem.W.Frag) (H : Hp) : V → PyData → Prop where
  | non : Dq K H .non .none
  | bl (b : Bool) : Dq K H (.bl b) (.bool b)
  | int (i : Int) : Dq K H (.int i) (.int i)
  | str (x : Str) : Dq K H (.str x) (.str x)
  | lst {a : Addr} {xs : List V} {ds : List PyData} (h : SqL K H a xs) (t : DqAll K H xs ds) : Dq K H (.ref a) (.list ds)
  | tup {a : Addr} {xs : List V} {ds : List PyData} (h : SqT K H a xs) (t : DqAll K H xs ds) : Dq K H (.ref a) (.tuple ds)
  | dct {a : Addr} {kvs : List (Key × V)} {D : List (PyData × PyData)} (h : H a = some (.dK kvs)) (t : DqAll K H (kvs.map (·.2)) (D.map (·.2))) (ke : D.map (·.1) = kvs.map fun p => keyD p.1) : Dq K H (.ref a) (.dict D)
  | dtt {a : Addr} {kvs : List (List Key × V)} {D : List (PyData × PyData)} (h : H a = some (.dT kvs)) (t : DqAll K H (kvs.map (·.2)) (D.map (·.2))) (ke : D.map (·.1) = kvs.map fun p => .tuple (p.1.map keyD)) : Dq K H (.ref a) (.dict D)
inductive DqAll (K : PySem.W.Frag) (H : Hp) : List V → List PyData → Prop where
  | nil : DqAll K H [] []
  | cons {v : V} {vs : List V} {d : PyData} {ds : List PyData} (h : Dq K H v d) (t : DqAll K H vs ds) : DqAll K H (v :: vs) (d :: ds)
end
section
variable {P : Program} {w : World}
theorem key_reads {h : Heap} {k : Key} {u : Value} (e : keyIs k u = true) : Reads h u (keyD k) [] := by
  rcases keyIs_shape e with ⟨i, t, rfl, rfl⟩ | ⟨x, t, rfl, rfl⟩
  · exact .int i t
  · exact .str x t
theorem rel_reads {h : Heap} {k : Key} {u : Value} (e : RelV (kV k) u) : Reads h u (keyD k) [] := by
  cases k with
  | inl i =>
    obtain ⟨t, rfl⟩ := e
    exact .int i t
  | inr x =>
    obtain ⟨t, rfl⟩ := e
    exact .str x t
theorem kv_reads {h : Heap} : ∀ {kvs : List (Key × V)} {vs : List (Key × Value)} {es : List DictEntry}, KV kvs vs → Pairs (mixKind P w) es vs → ReadsAll h (es.map (·.key)) (kvs.map fun p => keyD p.1) [] ∧ Vals (kvs.map (·.2)) (es.map (·.val))
  | _, _, _, .nil, p => by
    cases p
    exact ⟨.nil, .nil⟩
  | _, _, _, .cons ⟨e1, e2⟩ t, p => by
    cases p with
    | cons k v r =>
      obtain ⟨i1, i2⟩ := kv_reads t r
      refine ⟨?_, ?_⟩
      · refine ReadsAll.cons (as := []) (bs := []) (key_reads ?_) i1
        rw [e1]
        exact k
      · refine .cons ?_ i2
        show RelV _ (DictEntry.val _)
        rw [v]
        exact e2
theorem tup_reads {h : Heap} : ∀ {ks : List Key} {us : List Value}, Vals (ks.map kV) us → ReadsAll h us (ks.map keyD) []
  | [], _, r => by
    cases r
    exact .nil
  | k :: ks, _, r => by
    cases r with
    | cons r1 r2 => exact ReadsAll.cons (as := []) (bs := []) (rel_reads r1) (tup_reads r2)
theorem kt_reads {H : Hp} {h : Heap} (hok : HOk P w H h) : ∀ {kvs : List (List Key × V)} {xs : List (List Key × Addr × Value)},
    Paired (fun (p : List Key × V) (q : List Key × Addr × Value) => p.1 = q.1 ∧ H q.2.1 = some (.tup (p.1.map kV)) ∧ RelV p.2 q.2.2) kvs xs →
    ReadsAll h ((xs.map (entryOfKey (tupleKind (mixKind P w)))).map (·.key)) (kvs.map fun p => .tuple (p.1.map keyD)) [] ∧ Vals (kvs.map (·.2)) ((xs.map (entryOfKey (tupleKind (mixKind P w)))).map (·.val))
  | _, _, .nil => ⟨.nil, .nil⟩
  | _, _, .cons ⟨e1, e2, e3⟩ t => by
    obtain ⟨i1, i2⟩ := kt_reads hok t
    refine ⟨?_, .cons e3 i2⟩
    obtain ⟨_, its, rv, o, ho, hc, n, hd⟩ := (show ObjOk P w H h _ (.tup _) from hok _ _ e2)
    exact ReadsAll.cons (as := []) (bs := []) (.tuple ho hc hd (tup_reads rv)) i1
end
section
variable {X : Cx} {pins : List (Addr × Obj)} {σ : L2.St} {H : Hp} {s : Shared}
/-- what a dict's object holds -/
theorem dk_obj (I : Inv X pins σ H s) {a : Addr} {kvs : List (Key × V)} (h : H a = some (.dK kvs)) : ∃ o es ep, s.heap.get? a = some o ∧ o.cls = .type "dict" ∧ o.data = .dict es ep ∧ (a == sysModules) = false ∧
    ReadsAll s.heap (es.toList.map (·.key)) (kvs.map fun p => keyD p.1) [] ∧ Vals (kvs.map (·.2)) (es.toList.map (·.val)) := by
  obtain ⟨_, ns, vs, kv, o, es, ep, h1, h2, h3, h4⟩ := dk_of I.hok h
  obtain ⟨r1, r2⟩ := kv_reads (h := s.heap) kv h4.2.1
  exact ⟨o, es, ep, h1, h2.1, h3, ns, r1, r2⟩
theorem dt_obj (I : Inv X pins σ H s) {a : Addr} {kvs : List (List Key × V)} (h : H a = some (.dT kvs)) : ∃ o es ep, s.heap.get? a = some o ∧ o.cls = .type "dict" ∧ o.data = .dict es ep ∧ (a == sysModules) = false ∧
    ReadsAll s.heap (es.toList.map (·.key)) (kvs.map fun p => PyData.tuple (p.1.map keyD)) [] ∧ Vals (kvs.map (·.2)) (es.toList.map (·.val)) := by
  obtain ⟨_, ns, xs, pr, o, es, ep, h1, h2, h3, h4, _⟩ := (show ObjOk X.prog X.w H s.heap a (.dT kvs) from I.hok a _ h)
  obtain ⟨r1, r2⟩ := kt_reads I.hok pr
  rw [← h4] at r1 r2
  exact ⟨o, es, ep, h1, h2.1, h3, ns, r1, r2⟩
mutual
theorem Dq.reads (I : Inv X pins σ H s) : ∀ {v : V} {d : PyData}, Dq X.K H v d → ∀ u, RelV v u → ∃ as, Reads s.heap u d as
  | _, _, .non, _, r => by
    cases r
    exact ⟨_, .none⟩
  | _, _, .bl b, _, r => by
    cases r
    exact ⟨_, .bool b⟩
  | _, _, .int i, _, r => by
    obtain ⟨t, rfl⟩ := r
    exact ⟨_, .int i t⟩
  | _, _, .str x, _, r => by
    obtain ⟨t, rfl⟩ := r
    exact ⟨_, .str x t⟩
  | _, _, .lst h t, _, r => by
    cases r
    obtain ⟨its, rv, ⟨o, n, ho, hc, _, hd⟩, _⟩ := I.list h
    obtain ⟨as, q⟩ := DqAll.reads I t its rv
    exact ⟨_, .list ho hc hd q⟩
  | _, _, .tup h t, _, r => by
    cases r
    obtain ⟨its, rv, ⟨o, ho, hc, n, hd⟩, _⟩ := I.tuple h
    obtain ⟨as, q⟩ := DqAll.reads I t its rv
    exact ⟨_, .tuple ho hc hd q⟩
  | _, _, .dct h t ke, _, r => by
    cases r
    obtain ⟨o, es, ep, h1, h2, h3, _, r1, r2⟩ := dk_obj I h
    obtain ⟨as, q⟩ := DqAll.reads I t _ r2
    rw [← ke] at r1
    exact ⟨_, .dict h1 h2 h3 r1 q⟩
  | _, _, .dtt h t ke, _, r => by
    cases r
    obtain ⟨o, es, ep, h1, h2, h3, _, r1, r2⟩ := dt_obj I h
    obtain ⟨as, q⟩ := DqAll.reads I t _ r2
    rw [← ke] at r1
    exact ⟨_, .dict h1 h2 h3 r1 q⟩
theorem DqAll.reads (I : Inv X pins σ H s) : ∀ {vs : List V} {ds : List PyData}, DqAll X.K H vs ds → ∀ us, Vals vs us → ∃ as, ReadsAll s.heap us ds as
  | _, _, .nil, _, r => by
    cases r
    exact ⟨_, .nil⟩
  | _, _, .cons h t, _, r => by
    cases r with
    | cons r1 r2 =>
      obtain ⟨as, q1⟩ := Dq.reads I h _ r1
      obtain ⟨bs, q2⟩ := DqAll.reads I t _ r2
      exact ⟨_, .cons q1 q2⟩
end
mutual
theorem Dq.rep (I : Inv X pins σ H s) : ∀ {v : V} {d : PyData}, Dq X.K H v d → ∀ u, RelV v u → d.showable = true → d.shown.length ≤ sizeLine → ∃ bs, ReadAtMost s.heap d.depth bs ∧ ReprK X.prog X.w bs s.heap d.depth u d.shown
  | _, _, .non, _, r, _, _ => by
    cases r
    exact ⟨[], (fun _ h => nomatch h), by simp only [PyData.shown]; exact .of_is ReprIs.none _ _ _⟩
  | _, _, .bl b, _, r, _, _ => by
    cases r
    exact ⟨[], (fun _ h => nomatch h), by simp only [PyData.shown]; exact .of_is (ReprIs.bool b) _ _ _⟩
  | _, _, .int i, _, r, hs, _ => by
    obtain ⟨t, rfl⟩ := r
    exact ⟨[], (fun _ h => nomatch h), by simp only [PyData.shown]; exact .of_is (ReprIs.int t (by simpa [PyData.showable] using hs)) _ _ _⟩
  | _, _, .str x, _, r, _, hz => by
    obtain ⟨t, rfl⟩ := r
    exact ⟨[], (fun _ h => nomatch h), by simp only [PyData.shown]; exact .of_is (ReprIs.str x t (by simpa only [PyData.shown] using hz)) _ _ _⟩
  | _, _, .lst (ds := ds) h t, _, r, hs, hz => by
    cases r
    obtain ⟨its, rv, ⟨o, n, ho, hc, _, hd⟩, _⟩ := I.list h
    have hz' : (listText (PyData.shownAll ds)).length ≤ sizeLine := by simpa only [PyData.shown] using hz
    obtain ⟨as, q⟩ := DqAll.reads I t its rv
    obtain ⟨bs, hb, hk⟩ := DqAll.rep I t its rv (by simpa [PyData.showable] using hs) fun t ht => Nat.le_trans (listText_mem_le ht) hz'
    have r := Reads.list ho hc hd q
    have hna := not_mem_of_deeper r (by simp only [PyData.depth]; omega) hb
    refine ⟨_ :: bs, ReadAtMost.cons r (by simp only [PyData.depth]; omega) hb, ?_⟩
    simp only [PyData.depth, PyData.shown]
    cases its with
    | nil =>
      cases rv
      cases t
      simp only [PyData.shownAll, listText_nil]
      exact ReprK.listEmpty ho hc hd
    | cons x l => exact ReprK.list ho hc hd hna (by simpa using hk.length_eq) (fun i y e => hk.item i y (by simpa using e))
  | _, _, .tup (ds := ds) h t, _, r, hs, hz => by
    cases r
    obtain ⟨its, rv, ⟨o, ho, hc, n, hd⟩, _⟩ := I.tuple h
    have hz' : (tupleText (PyData.shownAll ds)).length ≤ sizeLine := by simpa only [PyData.shown] using hz
    obtain ⟨as, q⟩ := DqAll.reads I t its rv
    obtain ⟨bs, hb, hk⟩ := DqAll.rep I t its rv (by simpa [PyData.showable] using hs) fun t ht => Nat.le_trans (tupleText_mem_le ht) hz'
    have r := Reads.tuple ho hc hd q
    have hna := not_mem_of_deeper r (by simp only [PyData.depth]; omega) hb
    refine ⟨_ :: bs, ReadAtMost.cons r (by simp only [PyData.depth]; omega) hb, ?_⟩
    simp only [PyData.depth, PyData.shown]
    exact ReprK.tuple ho hc hd hna hk
  | _, _, .dct (D := D) h t ke, _, r, hs, hz => by
    cases r
    obtain ⟨o, es, ep, h1, h2, h3, ns, r1, r2⟩ := dk_obj I h
    rw [← ke] at r1
    have hz' : (dictText (PyData.shownKv D)).length ≤ sizeLine := by simpa only [PyData.shown] using hz
    obtain ⟨as, q⟩ := DqAll.reads I t _ r2
    obtain ⟨hs1, hs2⟩ := PyData.showableKv_split D (by simpa [PyData.showable] using hs)
    obtain ⟨b1, hb1, k1⟩ := ReprAllK.of_readsAll (prog := X.prog) (w := X.w) r1 hs1 (fun _ hm => nomatch hm) fun t ht => let ⟨p, hp, hl⟩ := PyData.shownKv_key_le D t ht; Nat.le_trans hl (Nat.le_trans (dictText_mem_le hp) hz')
    obtain ⟨b2, hb2, k2⟩ := DqAll.rep I t _ r2 hs2 fun t ht => let ⟨p, hp, hl⟩ := PyData.shownKv_val_le D t ht; Nat.le_trans hl (Nat.le_trans (dictText_mem_le hp) hz')
    have r := Reads.dict h1 h2 h3 r1 q
    have hb : ReadAtMost s.heap (PyData.depthKv D) (b1 ++ b2) := (hb1.mono (PyData.depthAll_keys_le D)).append (hb2.mono (PyData.depthAll_vals_le D))
    have hna := not_mem_of_deeper r (by simp only [PyData.depth]; omega) hb
    refine ⟨_ :: (b1 ++ b2), ReadAtMost.cons r (by simp only [PyData.depth]; omega) hb, ?_⟩
    simp only [PyData.depth, PyData.shown, PyData.shownKv_eq]
    exact ReprK.dict h1 h2 h3 ns hna (ReprEntriesK.of_two es.toList _ _
      (k1.more_le (fun b hb => List.mem_append_left _ hb) (PyData.depthAll_keys_le D)) (k2.more_le (fun b hb => List.mem_append_right _ hb) (PyData.depthAll_vals_le D)))
  | _, _, .dtt (D := D) h t ke, _, r, hs, hz => by
    cases r
    obtain ⟨o, es, ep, h1, h2, h3, ns, r1, r2⟩ := dt_obj I h
    rw [← ke] at r1
    have hz' : (dictText (PyData.shownKv D)).length ≤ sizeLine := by simpa only [PyData.shown] using hz
    obtain ⟨as, q⟩ := DqAll.reads I t _ r2
    obtain ⟨hs1, hs2⟩ := PyData.showableKv_split D (by simpa [PyData.showable] using hs)
    obtain ⟨b1, hb1, k1⟩ := ReprAllK.of_readsAll (prog := X.prog) (w := X.w) r1 hs1 (fun _ hm => nomatch hm) fun t ht => let ⟨p, hp, hl⟩ := PyData.shownKv_key_le D t ht; Nat.le_trans hl (Nat.le_trans (dictText_mem_le hp) hz')
    obtain ⟨b2, hb2, k2⟩ := DqAll.rep I t _ r2 hs2 fun t ht => let ⟨p, hp, hl⟩ := PyData.shownKv_val_le D t ht; Nat.le_trans hl (Nat.le_trans (dictText_mem_le hp) hz')
    have r := Reads.dict h1 h2 h3 r1 q
    have hb : ReadAtMost s.heap (PyData.depthKv D) (b1 ++ b2) := (hb1.mono (PyData.depthAll_keys_le D)).append (hb2.mono (PyData.depthAll_vals_le D))
    have hna := not_mem_of_deeper r (by simp only [PyData.depth]; omega) hb
    refine ⟨_ :: (b1 ++ b2), ReadAtMost.cons r (by simp only [PyData.depth]; omega) hb, ?_⟩
    simp only [PyData.depth, PyData.shown, PyData.shownKv_eq]
    exact ReprK.dict h1 h2 h3 ns hna (ReprEntriesK.of_two es.toList _ _
      (k1.more_le (fun b hb => List.mem_append_left _ hb) (PyData.depthAll_keys_le D)) (k2.more_le (fun b hb => List.mem_append_right _ hb) (PyData.depthAll_vals_le D)))
theorem DqAll.rep (I : Inv X pins σ H s) : ∀ {vs : List V} {ds : List PyData}, DqAll X.K H vs ds → ∀ us, Vals vs us → PyData.showableAll ds = true → (∀ t ∈ PyData.shownAll ds, t.length ≤ sizeLine) →
    ∃ bs, ReadAtMost s.heap (PyData.depthAll ds) bs ∧ ReprAllK X.prog X.w bs s.heap (PyData.depthAll ds) us (PyData.shownAll ds)
  | _, _, .nil, _, r, _, _ => by
    cases r
    exact ⟨[], (fun _ h => nomatch h), by simp only [PyData.shownAll]; exact .nil⟩
  | _, _, .cons (d := d) (ds := ds) h t, _, r, hs, hz => by
    cases r with
    | cons r1 r2 =>
      have hs' : d.showable = true ∧ PyData.showableAll ds = true := by simpa [PyData.showableAll] using hs
      obtain ⟨b1, hb1, k1⟩ := Dq.rep I h _ r1 hs'.1 (hz _ (by simp only [PyData.shownAll]; exact List.mem_cons_self ..))
      obtain ⟨b2, hb2, k2⟩ := DqAll.rep I t _ r2 hs'.2 fun t ht => hz t (by simp only [PyData.shownAll]; exact List.mem_cons_of_mem _ ht)
      refine ⟨b1 ++ b2, ?_, ?_⟩
      · intro b hm
        simp only [PyData.depthAll]
        rcases List.mem_append.mp hm with hm | hm
        · obtain ⟨d', as', r', hd'⟩ := hb1 b hm
          exact ⟨d', as', r', Nat.le_trans hd' (Nat.le_max_left _ _)⟩
        · obtain ⟨d', as', r', hd'⟩ := hb2 b hm
          exact ⟨d', as', r', Nat.le_trans hd' (Nat.le_max_right _ _)⟩
      · simp only [PyData.depthAll, PyData.shownAll]
        exact .cons ((k1.more fun b hb => List.mem_append_left _ hb).level_le (Nat.le_max_left _ _)) (k2.more_le (fun b hb => List.mem_append_right _ hb) (Nat.le_max_right _ _))
end
end
def rShowQ (K : PySem.W.Frag) : List V → Hp → VK → Prop := fun vs H Q => ∃ (a : Addr) (d : PyData), vs = [.ref a] ∧ Dq K H (.ref a) d ∧ d.showable = true ∧ d.depth ≤ 60 ∧ d.shown.length ≤ sizeLine ∧ Q (.str d.shown) H
theorem cr_reprQ {X : Cx} (hG : X.A.guards = some []) (hu : X.A.units + 64 < cLine) : CallR X (.builtin "repr") (rShowQ X.K) := by
  rintro pins s σ H vs us Q I r ⟨a, d, rfl, dq, sh, dp, sz, q⟩
  rw [Vals.ref1 r]
  have hQ : ∀ (h' : Heap) (u : Tok) (tk : _), (∀ b o, s.heap.get? b = some o → h'.get? b = some o) → EP X pins σ Q (.str d.shown u) { s with heap := h', toks := tk } := fun h' u tk hk => ⟨.str d.shown, H, I.kept hk, ⟨_, rfl⟩, q⟩
  cases dq with
  | @lst _ xs ds h t =>
    obtain ⟨its, rv, ⟨o, n, ho, hc, _, hd⟩, _⟩ := I.list h
    have hz' : (listText (PyData.shownAll ds)).length ≤ sizeLine := by simpa only [PyData.shown] using sz
    obtain ⟨as, q1⟩ := DqAll.reads I t its rv
    obtain ⟨bs, hb, hk⟩ := DqAll.rep I t its rv (by simpa [PyData.showable] using sh) fun t ht => Nat.le_trans (listText_mem_le ht) hz'
    have r := Reads.list ho hc hd q1
    have hna := not_mem_of_deeper r (by simp only [PyData.depth]; omega) hb
    simp only [PyData.depth] at dp
    simp only [PyData.shown] at hQ
    refine call_repr_slot (by omega) ⟨o, ho, hc⟩ F.slot_list_repr.toG ?_
    cases its with
    | nil =>
      cases rv
      cases t
      simp only [PyData.shownAll, listText_nil] at hQ
      exact call_list_repr_empty ⟨o, ho, hc⟩ ho hd ⟨_, _, rfl, hQ s.heap _ _ fun _ _ e => e⟩
    | cons x l => exact call_list_reprK ho hc hd hna (by simpa using hk.length_eq) (fun i y e => hk.item i y (by simpa using e)) hG (fun b _ => Clear.nil b) (by show X.A.units + 1 + _ < cLine; omega) (fun _ _ e => e) (fun h' u tk hk => ⟨_, _, rfl, hQ h' u tk hk⟩) hz'
  | @tup _ xs ds h t =>
    obtain ⟨its, rv, ⟨o, ho, hc, n, hd⟩, _⟩ := I.tuple h
    have hz' : (tupleText (PyData.shownAll ds)).length ≤ sizeLine := by simpa only [PyData.shown] using sz
    obtain ⟨as, q1⟩ := DqAll.reads I t its rv
    obtain ⟨bs, hb, hk⟩ := DqAll.rep I t its rv (by simpa [PyData.showable] using sh) fun t ht => Nat.le_trans (tupleText_mem_le ht) hz'
    have r := Reads.tuple ho hc hd q1
    have hna := not_mem_of_deeper r (by simp only [PyData.depth]; omega) hb
    simp only [PyData.depth] at dp
    simp only [PyData.shown] at hQ
    refine call_repr_slot (by omega) ⟨o, ho, hc⟩ F.slot_tuple_repr ?_
    exact call_tuple_reprK ho hc hd hna hk hG (fun b _ => Clear.nil b) (by show X.A.units + 1 + _ < cLine; omega) (fun _ _ e => e) (fun h' u tk hk => ⟨_, _, rfl, hQ h' u tk hk⟩) hz'
  | @dct _ kvs D h t ke =>
    obtain ⟨o, es, ep, h1, h2, h3, ns, r1, r2⟩ := dk_obj I h
    rw [← ke] at r1
    have hz' : (dictText (PyData.shownKv D)).length ≤ sizeLine := by simpa only [PyData.shown] using sz
    obtain ⟨as, q1⟩ := DqAll.reads I t _ r2
    obtain ⟨hs1, hs2⟩ := PyData.showableKv_split D (by simpa [PyData.showable] using sh)
    obtain ⟨b1, hb1, k1⟩ := ReprAllK.of_readsAll (prog := X.prog) (w := X.w) r1 hs1 (fun _ hm => nomatch hm) fun t ht => let ⟨p, hp, hl⟩ := PyData.shownKv_key_le D t ht; Nat.le_trans hl (Nat.le_trans (dictText_mem_le hp) hz')
    obtain ⟨b2, hb2, k2⟩ := DqAll.rep I t _ r2 hs2 fun t ht => let ⟨p, hp, hl⟩ := PyData.shownKv_val_le D t ht; Nat.le_trans hl (Nat.le_trans (dictText_mem_le hp) hz')
    have r := Reads.dict h1 h2 h3 r1 q1
    have hb : ReadAtMost s.heap (PyData.depthKv D) (b1 ++ b2) := (hb1.mono (PyData.depthAll_keys_le D)).append (hb2.mono (PyData.depthAll_vals_le D))
    have hna := not_mem_of_deeper r (by simp only [PyData.depth]; omega) hb
    simp only [PyData.depth] at dp
    simp only [PyData.shown, PyData.shownKv_eq] at hQ
    refine call_repr_slot (by omega) ⟨o, h1, h2⟩ F.slot_dict_repr ?_
    exact call_dict_reprK h1 h2 h3 ns hna (ReprEntriesK.of_two es.toList _ _
      (k1.more_le (fun b hb => List.mem_append_left _ hb) (PyData.depthAll_keys_le D)) (k2.more_le (fun b hb => List.mem_append_right _ hb) (PyData.depthAll_vals_le D))) hG (fun b _ => Clear.nil b) (by show X.A.units + 1 + _ < cLine; omega) (fun _ _ e => e) (fun h' u tk hk => ⟨_, _, rfl, hQ h' u tk hk⟩) (by rw [← PyData.shownKv_eq]; exact hz')
  | @dtt _ kvs D h t ke =>
    obtain ⟨o, es, ep, h1, h2, h3, ns, r1, r2⟩ := dt_obj I h
    rw [← ke] at r1
    have hz' : (dictText (PyData.shownKv D)).length ≤ sizeLine := by simpa only [PyData.shown] using sz
    obtain ⟨as, q1⟩ := DqAll.reads I t _ r2
    obtain ⟨hs1, hs2⟩ := PyData.showableKv_split D (by simpa [PyData.showable] using sh)
    obtain ⟨b1, hb1, k1⟩ := ReprAllK.of_readsAll (prog := X.prog) (w := X.w) r1 hs1 (fun _ hm => nomatch hm) fun t ht => let ⟨p, hp, hl⟩ := PyData.shownKv_key_le D t ht; Nat.le_trans hl (Nat.le_trans (dictText_mem_le hp) hz')
    obtain ⟨b2, hb2, k2⟩ := DqAll.rep I t _ r2 hs2 fun t ht => let ⟨p, hp, hl⟩ := PyData.shownKv_val_le D t ht; Nat.le_trans hl (Nat.le_trans (dictText_mem_le hp) hz')
    have r := Reads.dict h1 h2 h3 r1 q1
    have hb : ReadAtMost s.heap (PyData.depthKv D) (b1 ++ b2) := (hb1.mono (PyData.depthAll_keys_le D)).append (hb2.mono (PyData.depthAll_vals_le D))
    have hna := not_mem_of_deeper r (by simp only [PyData.depth]; omega) hb
    simp only [PyData.depth] at dp
    simp only [PyData.shown, PyData.shownKv_eq] at hQ
    refine call_repr_slot (by omega) ⟨o, h1, h2⟩ F.slot_dict_repr ?_
    exact call_dict_reprK h1 h2 h3 ns hna (ReprEntriesK.of_two es.toList _ _
      (k1.more_le (fun b hb => List.mem_append_left _ hb) (PyData.depthAll_keys_le D)) (k2.more_le (fun b hb => List.mem_append_right _ hb) (PyData.depthAll_vals_le D))) hG (fun b _ => Clear.nil b) (by show X.A.units + 1 + _ < cLine; omega) (fun _ _ e => e) (fun h' u tk hk => ⟨_, _, rfl, hQ h' u tk hk⟩) (by rw [← PyData.shownKv_eq]; exact hz')
/-! ### shown data, as the heap grows; how long they are -/
theorem SqL.keep {K : PySem.W.Frag} {H H' : Hp} {a : Addr} {xs : List V} (k : ∀ a o, H a = some o → (∀ ps, o ≠ .tbl ps) → H' a = some o) (h : SqL K H a xs) : SqL K H' a xs := by
  rcases h with (h | ⟨o, h⟩) | h
  · exact .inl (.inl (k _ _ h fun ps z => nomatch z))
  · exact .inl (.inr ⟨o, k _ _ h fun ps z => nomatch z⟩)
  · exact .inr h
theorem SqT.keep {K : PySem.W.Frag} {H H' : Hp} {a : Addr} {xs : List V} (k : ∀ a o, H a = some o → (∀ ps, o ≠ .tbl ps) → H' a = some o) (h : SqT K H a xs) : SqT K H' a xs := by
  rcases h with (h | ⟨o, h⟩) | h
  · exact .inl (.inl (k _ _ h fun ps z => nomatch z))
  · exact .inl (.inr ⟨o, k _ _ h fun ps z => nomatch z⟩)
  · exact .inr h
section
variable {K : PySem.W.Frag} {H H' : Hp}
mutual
theorem Dq.on (k : ∀ a o, H a = some o → (∀ ps, o ≠ .tbl ps) → H' a = some o) : ∀ {v : V} {d : PyData}, Dq K H v d → Dq K H' v d
  | _, _, .non => .non
  | _, _, .bl b => .bl b
  | _, _, .int i => .int i
  | _, _, .str x => .str x
  | _, _, .lst h t => .lst (SqL.keep k h) (DqAll.on k t)
  | _, _, .tup h t => .tup (SqT.keep k h) (DqAll.on k t)
  | _, _, .dct h t ke => .dct (k _ _ h fun ps z => nomatch z) (DqAll.on k t) ke
  | _, _, .dtt h t ke => .dtt (k _ _ h fun ps z => nomatch z) (DqAll.on k t) ke
theorem DqAll.on (k : ∀ a o, H a = some o → (∀ ps, o ≠ .tbl ps) → H' a = some o) : ∀ {vs : List V} {ds : List PyData}, DqAll K H vs ds → DqAll K H' vs ds
  | _, _, .nil => .nil
  | _, _, .cons h t => .cons (Dq.on k h) (DqAll.on k t)
end
end
theorem toString_neg5 (i : Int) (h : i < 0) : (toString i).length ≤ (toString (-i)).length + 1 := by
  obtain ⟨n, rfl⟩ : ∃ n : Nat, i = -((n + 1 : Nat) : Int) := ⟨(-i).toNat - 1, by omega⟩
  rw [Int.neg_neg]
  show ("-" ++ toString (n + 1)).length ≤ (toString (n + 1)).length + 1
  rw [String.length_append]
  have : ("-" : String).length = 1 := rfl
  omega
theorem int_shown5 {i : Int} (h : i.natAbs < 10 ^ 60) : (PyData.shown (.int i)).length ≤ 70 ∧ i.natAbs.log2 < 1920 := by
  have hb : ((i.natAbs : Nat) : Int) < 10 ^ 60 := by
    have e : (((10 : Nat) ^ 60 : Nat) : Int) = (10 : Int) ^ 60 := by decide +kernel
    rw [← e]
    exact Int.ofNat_lt.mpr h
  refine ⟨?_, ?_⟩
  · by_cases z : 0 ≤ i
    · exact Nat.le_trans (toString_length_le z (k := 60) (by decide) (by rw [← Int.natAbs_of_nonneg z]; exact hb)) (by decide)
    · show (Str.ofString (toString i)).length ≤ 70
      have n1 : ((i.natAbs : Nat) : Int) = -i := by omega
      have h := toString_length_le (v := -i) (by omega) (k := 60) (by decide) (by rw [← n1]; exact hb)
      rw [PySem.ofString_length] at h ⊢
      have := toString_neg5 i (by omega)
      omega
  · by_cases z : i.natAbs = 0
    · rw [z]
      decide
    · exact Nat.lt_trans ((Nat.log2_lt z).mpr (Nat.lt_trans h (show (10 : Nat) ^ 60 < 2 ^ 200 by decide +kernel))) (by decide)
/-- a thing whose text isn't long: at most n, k deep -/
def ShQ (K : PySem.W.Frag) (H : Hp) (v : V) (n k : Nat) : Prop := ∃ d, Dq K H v d ∧ d.showable = true ∧ d.leavesShort 70 = true ∧ d.bulk ≤ n ∧ d.depth ≤ k
def ShQs (K : PySem.W.Frag) (H : Hp) (vs : List V) (n k : Nat) : Prop := ∃ ds, DqAll K H vs ds ∧ PyData.showableAll ds = true ∧ PyData.leavesShortAll 70 ds = true ∧ PyData.bulkAll ds ≤ vs.length * (n + 1) ∧ PyData.depthAll ds ≤ k
section
variable {K : PySem.W.Frag} {H H' : Hp} {n k : Nat}
theorem ShQ.on {v : V} (kp : ∀ a o, H a = some o → (∀ ps, o ≠ .tbl ps) → H' a = some o) (h : ShQ K H v n k) : ShQ K H' v n k := by
  obtain ⟨d, q, r⟩ := h
  exact ⟨d, q.on kp, r⟩
theorem ShQ.mono {v : V} {n' k' : Nat} (h : ShQ K H v n k) (hn : n ≤ n') (hk : k ≤ k') : ShQ K H v n' k' := by
  obtain ⟨d, q, a, b, c, e⟩ := h
  exact ⟨d, q, a, b, Nat.le_trans c hn, Nat.le_trans e hk⟩
theorem shq_non : ShQ K H .non n k := ⟨_, .non, rfl, rfl, Nat.zero_le _, Nat.zero_le _⟩
theorem shq_bl (b : Bool) : ShQ K H (.bl b) n k := ⟨_, .bl b, rfl, rfl, Nat.zero_le _, Nat.zero_le _⟩
theorem shq_int {i : Int} (h : i.natAbs < 10 ^ 60) : ShQ K H (.int i) n k := ⟨_, .int i, decide_eq_true (int_shown5 h).2, decide_eq_true (int_shown5 h).1, Nat.zero_le _, Nat.zero_le _⟩
theorem shq_str {z : Str} (h : z.length ≤ n) (ok : PyData.strOk z = true) : ShQ K H (.str z) n k := by
  refine ⟨_, .str z, rfl, ?_, h, Nat.zero_le _⟩
  have ok' : z.cps.all (fun c => decide (c < 0x110000)) = true := ok
  rw [← Array.all_toList, List.all_eq_true] at ok'
  simp only [PyData.leavesShort, List.all_eq_true, decide_eq_true_eq]
  intro c hc
  have := of_decide_eq_true (ok' c hc)
  have e : (16 : Nat) ^ 8 = 4294967296 := by decide
  omega
theorem shqs_of : ∀ {vs : List V}, (∀ v ∈ vs, ShQ K H v n k) → ShQs K H vs n k
  | [], _ => ⟨[], .nil, rfl, rfl, by simp [PyData.bulkAll], Nat.zero_le _⟩
  | v :: vs, h => by
    obtain ⟨d, q, a, b, c, e⟩ := h v List.mem_cons_self
    obtain ⟨ds, q2, a2, b2, c2, e2⟩ := shqs_of fun x hx => h x (List.mem_cons_of_mem _ hx)
    refine ⟨d :: ds, .cons q q2, by simp [PyData.showableAll, a, a2], by simp [PyData.leavesShortAll, b, b2], ?_, ?_⟩
    · simp only [PyData.bulkAll, List.length_cons, Nat.succ_mul]
      omega
    · simp only [PyData.depthAll]
      exact Nat.max_le.mpr ⟨e, e2⟩
theorem shq_lst {a : Addr} {xs : List V} {m : Nat} (h : SqL K H a xs) (t : ∀ v ∈ xs, ShQ K H v n k) (l : xs.length * (n + 1) ≤ m) : ShQ K H (.ref a) m (k + 1) := by
  obtain ⟨ds, q, a1, b, c, e⟩ := shqs_of t
  exact ⟨_, .lst h q, by simpa only [PyData.showable] using a1, by simpa only [PyData.leavesShort] using b, by simp only [PyData.bulk]; omega, by simp only [PyData.depth]; omega⟩
theorem shq_tup {a : Addr} {xs : List V} {m : Nat} (h : SqT K H a xs) (t : ∀ v ∈ xs, ShQ K H v n k) (l : xs.length * (n + 1) ≤ m) : ShQ K H (.ref a) m (k + 1) := by
  obtain ⟨ds, q, a1, b, c, e⟩ := shqs_of t
  exact ⟨_, .tup h q, by simpa only [PyData.showable] using a1, by simpa only [PyData.leavesShort] using b, by simp only [PyData.bulk]; omega, by simp only [PyData.depth]; omega⟩
theorem shq_d0 {a : Addr} (h : H a = some (.dK [])) : ShQ K H (.ref a) n (k + 1) := ⟨_, .dct (D := []) h .nil rfl, rfl, rfl, Nat.zero_le _, by simp [PyData.depth, PyData.depthKv]⟩
theorem shq_d1 {a : Addr} {x : Str} {i : Int} (h : H a = some (.dK [(Sum.inr x, .int i)])) (hx : x.length ≤ 60) (ok : PyData.strOk x = true) (hi : i.natAbs < 10 ^ 60) (hn : 70 ≤ n) : ShQ K H (.ref a) n (k + 1) := by
  obtain ⟨d, q, a1, b, c, e⟩ := shq_str (K := K) (H := H) (n := 60) (k := 0) hx ok
  cases q
  have i1 := int_shown5 hi
  refine ⟨_, .dct (D := [(.str x, .int i)]) h (.cons (.int i) .nil) rfl, ?_, ?_, ?_, ?_⟩
  · simp [PyData.showable, PyData.showableKv, i1.2]
  · simp only [PyData.leavesShort, PyData.leavesShortKv, Bool.and_true] at b ⊢
    rw [Bool.and_eq_true]
    exact ⟨b, decide_eq_true i1.1⟩
  · simp only [PyData.bulk, PyData.bulkKv] at c ⊢
    omega
  · simp [PyData.depth, PyData.depthKv]
theorem ShQ.facts {v : V} (h : ShQ K H v n k) (hn : n ≤ 230000) : ∃ d, Dq K H v d ∧ d.showable = true ∧ d.depth ≤ k ∧ d.shown.length ≤ sizeLine := by
  obtain ⟨d, q, a, b, c, e⟩ := h
  refine ⟨d, q, a, e, ?_⟩
  have s := PyData.shown_le_bulk 70 (by decide) d b
  rw [sizeLine_eq]
  omega
end
/-! ### try .. except X as n, what is caught being kept -/
namespace Kept
def ExV (cls : Value) (d : Option Addr) (a : Addr) : HO := .ext fun h => ∃ (o : Obj) (fv : Array Value), h.get? a = some o ∧ Zc cls d o ∧ o.data = .fields fv
def wKeep (K : PySem.W.Frag) (c : Value) (i n : Nat) (ts : Addr → Value → Option Addr → TS) (D : Ends) : WX := fun cls d τ G => PySem.W.exmOne K cls c = some true ∧
  ∀ a, τ.length = n → G a = none → ts a cls d { nx := fun τ' G' => D.nx (τ'.set i none) (upd G' a (ExV cls d a)), rt := D.rt, bk := fun τ' G' => D.bk (τ'.set i none) G', ct := fun τ' G' => D.ct (τ'.set i none) G' } (τ.set i (some (.ref a))) G
section
variable {X : Cx}
theorem exv_ok {P : Program} {w : World} {G : Hp} {h : Heap} {a : Addr} {cls : Value} {d : Option Addr} {o : Obj} {fv : Array Value} (e : h.get? a = some o) (z : Zc cls d o) (dd : o.data = .fields fv) : ObjOk P w G h a (ExV cls d a) :=
  ⟨⟨o, fv, e, z, dd⟩, ⟨o, e⟩, fun _ _ ⟨u, v, q, r⟩ k => ⟨u, v, k u q, r⟩⟩
/-- an object that is there, and wasn't when the def began, is told of -/
theorem told_of {pins : List (Addr × Obj)} {τ : L2.St} {G : Hp} {z : Shared} {a : Addr} {cls : Value} {d : Option Addr} {o : Obj} {fv : Array Value} (I : Inv X pins τ G z) (ga : z.heap.get? a = some o) (zc : Zc cls d o) (dd : o.data = .fields fv)
    (na : G a = none) (nl : a ≠ X.env.locals) (old : ∀ u, X.s_0.heap.get? a = some u → a ∈ X.ex) (np : ∀ p ∈ X.pn ++ pins, p.1 ≠ a) : Inv X pins τ (upd G a (ExV cls d a)) z := by
  have other : ∀ {b : Addr} {u : HO}, G b = some u → (upd G a (ExV cls d a)) b = some u := fun e => (upd_ne (ne_of_none e na)).trans e
  refine ⟨I.ok, I.os, I.bare, ⟨I.base.keep, I.base.slot, fun b u e n hx => ?_, I.base.there, fun b xs e => other (I.base.tups b xs e), fun b u v e => other (I.base.frzs b u v e), fun b ps e => ?_⟩, I.loc, I.cell, (upd_ne (Ne.symm nl)).trans I.free, fun y c e => ?_, fun p hp => ?_, I.hok.laidN (fun _ _ e => e) na (exv_ok ga zc dd), I.len⟩
  · by_cases q : b = a
    · subst q
      exact absurd (old u e) hx
    · exact (upd_ne q).trans (I.base.free b u e n hx)
  · obtain ⟨more, q⟩ := I.base.tbls b ps e
    exact ⟨more, other q⟩
  · obtain ⟨v, hv⟩ := I.cell y c e
    have q : c ≠ a := fun q => by
      subst q
      obtain ⟨o', e', rest⟩ := hv
      rw [ga] at e'
      cases e'
      rw [dd] at rest
      cases rest
    exact (upd_ne q).trans (I.freeC y c e)
  · obtain ⟨p1, p2, p3⟩ := I.pin p hp
    exact ⟨p1, (upd_ne (np p hp)).trans p2, p3⟩
end
section
variable {X : Cx} {x n : Str} {c : Value} {i : Nat} {body rest : List Stmt} {b1 : Stmt} {q1 q2 q3 : Pos} {tb : WX → TS} {ts : Addr → Value → Option Addr → TS}
theorem ps_try_keep (st : X.stack = X.env :: X.outer) (fr : X.env.frame = some X.env.locals) (ndN : X.N.Nodup) (iy : X.N[i]? = some n) (kl : X.env.kindOf n = some .local) (nm : Names X x c)
    (Hb : ∀ (W : WX) (pn : List (Addr × Obj)) (xe : Value → Shared → Prop), Takes (X.tr pn xe) W → PassesOwn (model X.prog X.w) X.A X.env xe → PSs (X.tr pn xe) body (tb W))
    (Hs : ∀ (a : Addr) (ob : Obj) (cls : Value) (d : Option Addr) (pn : List (Addr × Obj)), Zc cls d ob → (∃ fv, ob.data = .fields fv) → PSs (X.suite a ((a, ob) :: pn)) (b1 :: rest) (ts a cls d)) :
    PS X (.Try body [.ExceptHandler (some (.Name x q1)) (some n) (b1 :: rest) q2] [] [] q3) (fun D τ G => tb (wKeep X.K c i X.N.length ts D) D τ G) := by
  constructor
  intro pins z τ G D I h
  have oX := I.ok
  have frs2 : X.A.frames = some (X.env :: X.outer) := by
    rw [oX.frames, st]
  refine wpAny_Try_except (wpAny_mono ((Hb (wKeep X.K c i X.N.length ts D) (X.pn ++ pins) (fun ev z1 => wpAny (model X.prog X.w) X.A (noteFrame ev X.env) (fun _ z2 => wpAny (model X.prog X.w) X.A (setFlight ev none) (fun _ z3 =>
    wpAny (model X.prog X.w) X.A (handleBy ev X.env [.ExceptHandler (some (.Name x q1)) (some n) (b1 :: rest) q2]) (SP X pins D) X.xe z3) X.xe z2) X.xe z1) (fun ev z' fly => ?_) PassesOwn.looking).run [] z τ G D (I.toTry _) h) (fun fl z1 hsp => ?_) (fun _ _ he => he))
  · obtain ⟨a, B, zI, pins', τ', G', cls, d, rfl, J', ground, up, sky, na, os, ag, match_, yes⟩ := fly
    have J : Inv X pins τ' G' zI := J'.ofTry oX
    show wpAny (model X.prog X.w) X.A (noteFrame (.ref a) X.env) _ _ z'
    refine Sky.land Zc.steady frs2 fr (show Sky B (X.env :: X.outer) a (Zc cls d) X.env.locals z'.heap by rw [← st]; exact sky) fun h3 f3 up3 => ?_
    have J3 : Inv X pins τ' G' { z' with heap := h3 } := J.landed ground f3.1 (up.trans up3) os ag
    obtain ⟨o3, fv3, e3, zc3, dd3⟩ := f3.there
    have nofr : a ∉ frs (X.env :: X.outer) := fun hm => by
      obtain ⟨_, o', e', hnf⟩ := f3.2.2.1.mem hm
      rw [e3] at e'
      cases e'
      exact hnf _ dd3
    have nl : a ≠ X.env.locals := fun q => nofr (List.mem_filterMap.mpr ⟨X.env, List.mem_cons_self, fr.trans (congrArg some q.symm)⟩)
    have nf : a ∉ X.fs := fun hm => by
      obtain ⟨ev, hev, q⟩ := List.mem_filterMap.mp hm
      exact nofr (List.mem_filterMap.mpr ⟨ev, List.mem_cons_of_mem _ hev, q⟩)
    have new : zI.heap.get? a = none := by
      cases q : zI.heap.get? a with
      | none => rfl
      | some u =>
        have := ground a u q (by rw [st]; exact nofr)
        rw [f3.2.1] at this
        cases this
    have old : ∀ u, X.s_0.heap.get? a = some u → a ∈ X.ex := fun u e => by
      by_cases hx : a ∈ X.ex
      · exact hx
      · obtain ⟨o', e'⟩ := J.base.there a u e hx
        rw [new] at e'
        cases e'
    have np : ∀ p ∈ X.pn ++ pins, p.1 ≠ a := fun p hp q => by
      have := (J.pin p hp).1
      rw [q, new] at this
      cases this
    have S3 := J3.suite e3 dd3 na nl nf
    refine wpAny_handleBy_cons (codeAny_handlers_test ?_) (by intro q; cases q)
    have ty : PySem.W.Looks (model X.prog X.w) h3 (typeOf (.ref a)) cls := fun A' Q' E' z4 k q => wpAny_typeOf_ref (k _ _ e3) (by rw [zc3.1]; exact q)
    have hit := PySem.W.exm_one (M := model X.prog X.w) (J3.kIn) ty match_
    have load : ∀ {Q' : Value → Shared → Prop} {E' : Value → Shared → Prop}, Q' c { z' with heap := h3 } → wpAny (model X.prog X.w) (X.A.mark (some (.ref a))) (eval (.Name x q1) X.env) Q' E' { z' with heap := h3 } := fun {Q' E'} q => by
      obtain ⟨gl, dbg, hm | ⟨hm, hv, hnn⟩⟩ := nm
      · exact ld_glob (X := X.suite a ((a, o3) :: (X.pn ++ pins))) S3 gl hm q dbg
      · exact ld_blt (X := X.suite a ((a, o3) :: (X.pn ++ pins))) S3 gl hm hv q hnn dbg
    refine load (hit.here (codeAny_handlers_suite_as (HandSPX.lands_againZ f3 fun h4 f4 up4 => ?_)))
    have J4 : Inv X pins τ' G' { z' with heap := h4 } := J.landed ground f4.1 ((up.trans up3).trans up4) os ag
    obtain ⟨o4, fv4, e4, zc4, dd4⟩ := f4.there
    refine store_ok (X := X.suite a ((a, o4) :: (X.pn ++ pins))) (v := .ref a) (J4.suite e4 dd4 na nl nf) ndN iy (.inl kl) rfl (fun z5 S5 => ?_) (.inr kl)
    refine wpAny_mono ((Hs a o4 cls d (X.pn ++ pins) zc4 ⟨_, dd4⟩).run [] z5 _ G' _ S5 (yes a J'.len na)) (fun fl z6 hsp => ?_) (fun _ _ q => False.elim q)
    have fin : ∀ {τ6 : L2.St} {G6 : Hp} {Q' : Shared → Prop}, Inv X pins τ6 G6 z6 → (∀ z7, Inv X pins (τ6.set i none) G6 z7 → Q' z7) →
        wpAny (model X.prog X.w) X.A (do bindName X.env n .none; unbindBehindTheSuite X.env n q2) (fun _ z7 => Q' z7) X.xe z6 := fun {τ6 G6 Q'} I6 hq => gone_ok I6 ndN iy kl hq
    cases fl with
    | next =>
      obtain ⟨τ6, G6, S6, w6⟩ := hsp
      have p6 := S6.pin (a, o4) (List.mem_append_left _ List.mem_cons_self)
      exact fin (told_of (S6.unsuite oX) p6.1 zc4 dd4 p6.2.1 nl old np) fun z7 J7 => ⟨_, _, J7, w6⟩
    | brk =>
      obtain ⟨τ6, G6, S6, w6⟩ := hsp
      exact fin (S6.unsuite oX) fun z7 J7 => ⟨_, _, J7, w6⟩
    | cont =>
      obtain ⟨τ6, G6, S6, w6⟩ := hsp
      exact fin (S6.unsuite oX) fun z7 J7 => ⟨_, _, J7, w6⟩
    | ret u =>
      obtain ⟨v6, τ6, G6, S6, r6, w6⟩ := hsp
      exact fin (S6.unsuite oX) fun z7 J7 => ⟨_, _, _, J7, r6, w6⟩
  · cases fl with
    | next =>
      obtain ⟨τ1, G1, J1, w1⟩ := hsp
      exact wpAny_execs_nil ⟨τ1, G1, J1.ofTry oX, w1⟩
    | brk =>
      obtain ⟨τ1, G1, J1, w1⟩ := hsp
      exact ⟨τ1, G1, J1.ofTry oX, w1⟩
    | cont =>
      obtain ⟨τ1, G1, J1, w1⟩ := hsp
      exact ⟨τ1, G1, J1.ofTry oX, w1⟩
    | ret u =>
      obtain ⟨v1, τ1, G1, J1, r1, w1⟩ := hsp
      exact ⟨v1, τ1, G1, J1.ofTry oX, r1, w1⟩
end
/-! isinstance of what was kept -/
def rIsX (K : PySem.W.Frag) : List V → Hp → VK → Prop := fun xs G W => ∃ (a D : Addr) (k : V) (kv : Value) (b : Bool), xs = [V.ref a, k] ∧ G a = some (ExV (.ref D) none a) ∧ ExcC K D ∧ (∀ u, RelV k u → u = kv) ∧ PySem.W.kitOne K (.ref D) kv = some b ∧ W (V.bl b) G
theorem inst_at {P : Program} {w : World} {G : Hp} {h : Heap} {a D : Addr} (ok : HOk P w G h) (e : G a = some (ExV (.ref D) none a)) : ∃ o, PySem.W.InstAt h a o D none := by
  obtain ⟨⟨o, fv, g, z, dd⟩, _⟩ := (show ObjOk P w G h a (ExV (.ref D) none a) from ok a _ e)
  obtain ⟨oc, od, dt, sl⟩ := o
  obtain ⟨z1, z2⟩ := z
  dsimp only at z1 z2 dd
  subst z1 z2 dd
  exact ⟨_, g, rfl, rfl, trivial⟩
theorem call_isX {X : Cx} : CallR X (.builtin "isinstance") (rIsX X.K) := by
  rintro pins z τ G xs us W I r ⟨a, D, k, kv, b, rfl, ea, C, hk, e, q⟩
  obtain ⟨u1, u2, rfl, r1, r2⟩ := vals2 r
  obtain rfl : u1 = Value.ref a := r1
  obtain rfl := hk _ r2
  obtain ⟨o, J⟩ := inst_at I.hok ea
  exact PySem.W.kia_one (PySem.W.handS_kitx_exc C.hg C.hk C.hs C.hd C.ha C.hn C.ht C.hm) I.kIn J e (fun q => nomatch q) fun tk => ⟨.bl b, G, I.tok tk, rfl, q⟩
def rIsXT (K : PySem.W.Frag) : List V → Hp → VK → Prop := fun xs G W => ∃ (a D tp : Addr) (cs : List V) (us : List Value) (b : Bool), xs = [V.ref a, V.ref tp] ∧ G a = some (ExV (.ref D) none a) ∧ ExcC K D ∧ G tp = some (.tup cs) ∧ Paired ClsV cs us ∧ PySem.W.kitAny K (.ref D) us = some b ∧ W (V.bl b) G
theorem call_isXT {X : Cx} : CallR X (.builtin "isinstance") (rIsXT X.K) := by
  rintro pins z τ G xs us W I r ⟨a, D, tp, cs, ws, b, rfl, ea, C, et, hk, e, q⟩
  obtain ⟨u1, u2, rfl, r1, r2⟩ := vals2 r
  obtain rfl : u1 = Value.ref a := r1
  obtain rfl : u2 = Value.ref tp := r2
  obtain ⟨o, J⟩ := inst_at I.hok ea
  obtain ⟨_, its, rv, ot, g1, g2, n, g3⟩ := (show ObjOk X.prog X.w G z.heap tp (.tup cs) from I.hok tp _ et)
  obtain rfl := ClsV.all hk rv
  obtain ⟨oc, od, dt, sl⟩ := ot
  dsimp only at g2 g3
  subst g2 g3
  exact PySem.W.kia_tup (PySem.W.handS_kitx_exc C.hg C.hk C.hs C.hd C.ha C.hn C.ht C.hm) I.kIn J g1 e (fun q => nomatch q) fun tk => ⟨.bl b, G, I.tok tk, rfl, q⟩
end Kept
/-! ### NoHouse, and nothing else, is raised -/
structure Cls16 where
  cl : Addr
  cd : Addr
  nd : Addr
  ne : Addr
  nf : Addr
  ng : Addr
  ngd : Addr
  nm : Addr
  nn : Addr
  np : Addr
  nr : Addr
  nt : Addr
  nth : Addr
  nti : Addr
  tm : Addr
  tw : Addr
structure ClsG (mg : Str → Option Value) (A : Cls16) (CE CH : Addr) : Prop where
  gE : mg "CountError" = some (.ref CE)
  gH : mg "NoHouse" = some (.ref CH)
  g_cl : mg "Clash" = some (.ref A.cl)
  g_cd : mg "Closed" = some (.ref A.cd)
  g_nd : mg "NoDay" = some (.ref A.nd)
  g_ne : mg "NoEntry" = some (.ref A.ne)
  g_nf : mg "NoFilling" = some (.ref A.nf)
  g_ng : mg "NoGo" = some (.ref A.ng)
  g_ngd : mg "NoGood" = some (.ref A.ngd)
  g_nm : mg "NoMove" = some (.ref A.nm)
  g_nn : mg "NoName" = some (.ref A.nn)
  g_np : mg "NoPlace" = some (.ref A.np)
  g_nr : mg "NoRow" = some (.ref A.nr)
  g_nt : mg "NoText" = some (.ref A.nt)
  g_nth : mg "NoThen" = some (.ref A.nth)
  g_nti : mg "NoTie" = some (.ref A.nti)
  g_tm : mg "TooMany" = some (.ref A.tm)
  g_tw : mg "Twice" = some (.ref A.tw)
structure IsH (K : PySem.W.Frag) (A : Cls16) (CE CH : Addr) : Prop where
  ec : ExcC K CH
  cm : PySem.W.exmOne K (.ref CH) (.ref CE) = some true
  t1 : PySem.W.kitAny K (.ref CH) [.ref A.cl, .ref A.cd, .ref A.nd, .ref A.ne, .ref A.nf, .ref A.ng, .ref A.ngd, .ref A.nm, .ref A.nn, .ref A.np, .ref A.nr] = some false
  t2 : PySem.W.kitAny K (.ref CH) [.ref A.nt, .ref A.nth, .ref A.nti, .ref A.tm, .ref A.tw] = some false
  h : PySem.W.kitOne K (.ref CH) (.ref CH) = some true
  v : PySem.W.kitOne K (.ref CH) (.type "ValueError") = some true
def spRefused (K : PySem.W.Frag) (Ts : List Addr) : Sp := fun vs H Q _ => ∃ (h : Addr) (v1 v2 v3 : V), vs = [.ref h] ∧ H h = some (.lst [v1, v2, v3]) ∧ HouseBad H v1 v2 v3 ∧ ShQ K H (.ref h) 230000 20 ∧ TabsG Ts H ∧ ∀ H', TB1 Ts H H' → Q (.bl true) H'
section
variable {P : Program} {w : World} {K : PySem.W.Frag} {mg : Str → Option Value} {base : Heap}
abbrev sRefusedN : List Str := ["_law_handed", "_law_caught", "_law_kept", "e"]
theorem sc_sRefused : FnScope sRefusedN ["_law_handed"] (defScope sRefused) := ⟨rfl, rfl, rfl, by decide +kernel, rfl, by decide +kernel, by decide +kernel⟩
set_option maxHeartbeats 2000000 in
theorem ok_refused {f fH CE CH : Addr} {fd dH : FuncData} {A : Cls16} {Ts : List Addr} (F : Fun K "_law_is_refused" "_law_is_refused" sRefused f fd) (HO : DefX P w K mg base "house_of" 7 fH dH ["places", "goods", "entries"] (spNoHouse CH Ts)) (CG : ClsG mg A CE CH) (isD : IsH K A CE CH)
    (mis : mg "isinstance" = none) (mp : mg "repr" = none) (mv : mg "ValueError" = none) : FnG P w K mg base 9 f fd ["_law_handed"] (spRefused K Ts) := by
  refine Fun.okG F sc_sRefused (fun vs H Q E h => ?_) (fun cdv Ar outer s H vs Q E hG hr h => ?_)
  · obtain ⟨h, v1, v2, v3, rfl, _⟩ := h
    rfl
  · obtain ⟨h, v1, v2, v3, rfl, hh, bad, sh, tg, q⟩ := h
    have nd := sc_sRefused.nd
    refine ⟨_, pss_cons (ps_set (i := 1) nd rfl (Or.inl rfl) pe_non)
      (pss_cons (ps_set (i := 2) nd rfl (Or.inl rfl) (pe_callB (cr_reprQ hG hr.units) (by rfl) mp (by decide +kernel) (pa_cons (pv 0) pa_nil)))
      (pss_cons (Kept.ps_try_keep (i := 3) rfl rfl nd rfl rfl ⟨rfl, by decide, .inl CG.gE⟩ (fun W pn xe tk _ => pss_one (ps_expr (pe_callS HO.ok (hr.mono (by decide)) (by rfl) HO.g HO.kp HO.b (fun σ => passAt tk σ) (pa_cons (pe_ix (show IxR _ (rIxL K) from ix_list) (pv 0) pe_int (fun _ _ => rfl)) (pa_cons (pe_ix (show IxR _ (rIxL K) from ix_list) (pv 0) pe_int (fun _ _ => rfl)) (pa_cons (pe_ix (show IxR _ (rIxL K) from ix_list) (pv 0) pe_int (fun _ _ => rfl)) pa_nil)))))) (fun a ob cls d pn hz hf => pss_one (ps_set (i := 1) nd rfl (Or.inl rfl) (pv 3))))
      (pss_cons (ps_if (pt_val (pe_callB Kept.call_isXT (by rfl) mis (by decide +kernel) (pa_cons (pv 1) (pa_cons (pe_tup (pa_cons (pe_glob (v := .ref A.cl) (u := .ref A.cl) (by rfl) CG.g_cl rfl) (pa_cons (pe_glob (v := .ref A.cd) (u := .ref A.cd) (by rfl) CG.g_cd rfl) (pa_cons (pe_glob (v := .ref A.nd) (u := .ref A.nd) (by rfl) CG.g_nd rfl) (pa_cons (pe_glob (v := .ref A.ne) (u := .ref A.ne) (by rfl) CG.g_ne rfl) (pa_cons (pe_glob (v := .ref A.nf) (u := .ref A.nf) (by rfl) CG.g_nf rfl) (pa_cons (pe_glob (v := .ref A.ng) (u := .ref A.ng) (by rfl) CG.g_ng rfl) (pa_cons (pe_glob (v := .ref A.ngd) (u := .ref A.ngd) (by rfl) CG.g_ngd rfl) (pa_cons (pe_glob (v := .ref A.nm) (u := .ref A.nm) (by rfl) CG.g_nm rfl) (pa_cons (pe_glob (v := .ref A.nn) (u := .ref A.nn) (by rfl) CG.g_nn rfl) (pa_cons (pe_glob (v := .ref A.np) (u := .ref A.np) (by rfl) CG.g_np rfl) (pa_cons (pe_glob (v := .ref A.nr) (u := .ref A.nr) (by rfl) CG.g_nr rfl) pa_nil)))))))))))) pa_nil)))) (pss_one (ps_ret pe_bl)) pss_nil)
      (pss_cons (ps_if (PW.pt (pw_or (pt_val (pe_callB Kept.call_isXT (by rfl) mis (by decide +kernel) (pa_cons (pv 1) (pa_cons (pe_tup (pa_cons (pe_glob (v := .ref A.nt) (u := .ref A.nt) (by rfl) CG.g_nt rfl) (pa_cons (pe_glob (v := .ref A.nth) (u := .ref A.nth) (by rfl) CG.g_nth rfl) (pa_cons (pe_glob (v := .ref A.nti) (u := .ref A.nti) (by rfl) CG.g_nti rfl) (pa_cons (pe_glob (v := .ref A.tm) (u := .ref A.tm) (by rfl) CG.g_tm rfl) (pa_cons (pe_glob (v := .ref A.tw) (u := .ref A.tw) (by rfl) CG.g_tw rfl) pa_nil)))))) pa_nil)))) (pw_or1 (pt_cmpR op_ne (pe_callB (cr_reprQ hG hr.units) (by rfl) mp (by decide +kernel) (pa_cons (pv 0) pa_nil)) (pv 2) (nomark _))))) (pss_one (ps_ret pe_bl)) pss_nil)
      (pss_one (ps_ret (pe_and (pe_callB Kept.call_isX (by rfl) mis (by decide +kernel) (pa_cons (pv 1) (pa_cons (pe_glob (v := .ref CH) (u := .ref CH) (by rfl) CG.gH rfl) pa_nil))) (pe_one (pe_callB Kept.call_isX (by rfl) mis (by decide +kernel) (pa_cons (pv 1) (pa_cons (pe_bltn (v := .ty "ValueError") (u := .type "ValueError") (by rfl) mv (by decide +kernel) rfl) pa_nil))))))))))), ?_⟩
    obtain ⟨d, dq, sh1, sh2, sh3⟩ := sh.facts (by decide)
    refine ⟨_, rfl, h, d, rfl, dq, sh1, by omega, sh3, ?_⟩
    refine ⟨_, rfl, h, _, 0, _, rfl, rfl, SqL.of hh, atI_nat (j := 0) rfl, _, rfl, h, _, 1, _, rfl, rfl, SqL.of hh, atI_nat (j := 1) rfl, _, rfl, h, _, 2, _, rfl, rfl, SqL.of hh, atI_nat (j := 2) rfl, v1, v2, v3, rfl, bad, tg, fun H1 b1 => ?_⟩
    refine ⟨isD.cm, fun a _ na => ?_⟩
    have s1 := @same_new _ _ (Kept.ExV (.ref CH) none a) na
    have ha : (upd H1 a (Kept.ExV (.ref CH) none a)) a = some (Kept.ExV (.ref CH) none a) := upd_same
    have own : ∀ (C : Addr), ClsV (.ref C) (.ref C) := .own
    refine ⟨_, rfl, ?_⟩
    refine ⟨_, rfl, (by show 11 ≤ sizeLine; decide), fun t1 n1 => ?_⟩
    have s2 := @same_new _ _ (.tup [V.ref A.cl, .ref A.cd, .ref A.nd, .ref A.ne, .ref A.nf, .ref A.ng, .ref A.ngd, .ref A.nm, .ref A.nn, .ref A.np, .ref A.nr]) n1
    have ha2 := s2 _ _ ha
    refine ⟨a, CH, t1, _, _, false, rfl, ha2, isD.ec, upd_same, .cons (own _) (.cons (own _) (.cons (own _) (.cons (own _) (.cons (own _) (.cons (own _) (.cons (own _) (.cons (own _) (.cons (own _) (.cons (own _) (.cons (own _) (.nil))))))))))), isD.t1, false, rfl, iteF ?_⟩
    generalize upd (upd H1 a (Kept.ExV (.ref CH) none a)) t1 (.tup [V.ref A.cl, .ref A.cd, .ref A.nd, .ref A.ne, .ref A.nf, .ref A.ng, .ref A.ngd, .ref A.nm, .ref A.nn, .ref A.np, .ref A.nr]) = H3 at s2 ha2 ⊢
    refine ⟨_, rfl, (by show 5 ≤ sizeLine; decide), fun t2 n2 => ?_⟩
    have s3 := @same_new _ _ (.tup [V.ref A.nt, .ref A.nth, .ref A.nti, .ref A.tm, .ref A.tw]) n2
    have ha3 := s3 _ _ ha2
    refine ⟨a, CH, t2, _, _, false, rfl, ha3, isD.ec, upd_same, .cons (own _) (.cons (own _) (.cons (own _) (.cons (own _) (.cons (own _) (.nil))))), isD.t2, false, rfl, iteF ?_⟩
    generalize upd H3 t2 (.tup [V.ref A.nt, .ref A.nth, .ref A.nti, .ref A.tm, .ref A.tw]) = H4 at s3 ha3 ⊢
    have s14 := s1.trans (s2.trans s3)
    have b4 : TB1 Ts H H4 := b1.tr (.same b1.1 s14)
    refine ⟨_, rfl, h, d, rfl, dq.on fun a o e n => b4.2 a o e n, sh1, by omega, sh3, _, rfl, rfl, false, ?_, iteF ?_⟩
    · rw [decide_eq_true rfl]
      rfl
    refine ⟨_, rfl, a, CH, .ref CH, .ref CH, true, rfl, ha3, isD.ec, fun u r => r, isD.h, true, rfl, iteT ?_⟩
    exact ⟨_, rfl, a, CH, .ty "ValueError", .type "ValueError", true, rfl, ha3, isD.ec, fun u r => r, isD.v, q H4 b4⟩
end
/-! ### parts of tuples, tuples one behind the other -/
theorem cut_head {xs : List V} {k : Nat} : cutV xs none (some (k : Int)) = xs.take k := by
  unfold cutV
  rw [HT.sIx_nat]
  show (xs.drop 0).take (min k xs.length - 0) = _
  rw [List.drop_zero, Nat.sub_zero, ← List.take_eq_take_min]
theorem cut_tail {xs : List V} {k : Nat} : cutV xs (some (k : Int)) none = xs.drop k := by
  unfold cutV
  rw [HT.sIx_nat, HT.sIx_none]
  by_cases h : k ≤ xs.length
  · rw [Nat.min_eq_left h, List.take_of_length_le (by rw [List.length_drop]; exact Nat.le_refl _)]
  · rw [Nat.min_eq_right (by omega), List.drop_of_length_le (by omega), List.drop_of_length_le (by omega), List.take_nil]
/-- a part of a tuple, made or the same -/
def rSlS : V → Option Int → Option Int → Hp → VK → Prop := fun x lo hi H Q => ∃ (a : Addr) (xs : List V), x = .ref a ∧ H a = some (.tup xs) ∧ ∀ (b : Addr) (H' : Hp), Same H H' → H' b = some (.tup (cutV xs lo hi)) → Q (.ref b) H'
theorem sl_S {X : Cx} : SlR X rSlS := by
  rintro pins s σ H x v vl vu lo hi sl Q I rx hs pl pu ⟨a, xs, rfl, ha, q⟩
  refine sl_tupA pins s σ H _ v vl vu _ _ sl Q I rx hs pl pu ⟨a, xs, rfl, SqT.of ha, fun z => q a H (fun _ _ e => e) ?_, fun _ p np => q p _ (same_new np) upd_same⟩
  rw [ha]
  unfold cutV
  rw [z.1, z.2, List.drop_zero, Nat.sub_zero, List.take_length]
/-- tuples one behind the other -/
theorem op_catS {X : Cx} : OpR X (binaryOp .Add) (fun x y H Q => ∃ (a b : Addr) (xs ys : List V), x = .ref a ∧ y = .ref b ∧ H a = some (.tup xs) ∧ H b = some (.tup ys) ∧ xs ≠ [] ∧ xs.length + ys.length ≤ sizeLine ∧
    ∀ (t : Addr) (H' : Hp), Same H H' → H' t = some (.tup (xs ++ ys)) → Q (.ref t) H') := by
  rintro pins s σ H x y v u Q I rx ry ⟨a, b, xs, ys, rfl, rfl, ha, hb, ne, hz, q⟩
  refine op_catT pins s σ H _ _ v u Q I rx ry ⟨a, b, xs, ys, rfl, rfl, SqT.of ha, SqT.of hb, ne, hz, fun z => q a H (fun _ _ e => e) ?_, fun _ p np => q p _ (same_new np) upd_same⟩
  rw [ha, z, List.append_nil]
theorem vals_len_e (e : Ent) : 5 ≤ e.vals.length ∧ e.vals.length ≤ 7 := by cases e <;> simp [Ent.vals, Ent.rest]
/-! ### one thing more in a list; names that are none -/
theorem pen_keep {H H' : Hp} {p c a : Addr} {n : Nat} (pen : PenAt H p c n) (bt : But p H H') {xs : List V} (h : H a = some (.tup xs)) : H' a = some (.tup xs) := bt _ _ h fun w => by
  obtain ⟨kvs, ns, a, l, e, _⟩ := pen.ex
  rw [w, e] at h
  exact nomatch h
theorem pen_keepL {H H' : Hp} {p c a : Addr} {n : Nat} (pen : PenAt H p c n) (bt : But p H H') {xs : List V} (h : H a = some (.lst xs)) : H' a = some (.lst xs) := bt _ _ h fun w => by
  obtain ⟨kvs, ns, a, l, e, _⟩ := pen.ex
  rw [w, e] at h
  exact nomatch h
/-- what is new when the pen is drawn stays -/
theorem new_keep {H H1 H2 : Hp} {p c a : Addr} {n : Nat} (pen : PenAt H p c n) (s : Same H H1) (bt : But p H1 H2) (h0 : H a = none) {o : HO} (h : H1 a = some o) : H2 a = some o := bt _ _ h fun w => pen.there (w ▸ h0)
def spPut : Sp := fun vs H Q _ => ∃ (p c l : Addr) (n : Nat) (xs : List V) (v : V), vs = [.ref p, .ref l, v] ∧ PenAt H p c n ∧ n ≤ 90000 ∧ H l = some (.lst xs) ∧ xs.length ≤ 100 ∧
  ∀ (r : Addr) (i : Nat) (H' : Hp), H r = none → i ≤ xs.length → LT H' r (xs.take i ++ [v] ++ xs.drop i) → PenAt H' p c (n + 2) → But p H H' → Q (.ref r) H'
section
variable {P : Program} {w : World} {K : PySem.W.Frag} {mg : Str → Option Value} {base : Heap}
abbrev sPutN : List Str := ["_law_pen_here", "_law_things", "_law_thing", "_law_at", "_law_found"]
theorem sc_sPut : FnScope sPutN ["_law_pen_here", "_law_things", "_law_thing"] (defScope sPut) := ⟨rfl, rfl, rfl, by decide +kernel, rfl, by decide +kernel, by decide +kernel⟩
theorem ok_put {f fT : Addr} {fd dT : FuncData} (F : Fun K "_law_put" "_law_put" sPut f fd) (T : TakeT P w K mg base fT dT) (ml : mg "len" = none) (mt : mg "tuple" = none) : FnOk P w K mg base CX0 2 f fd ["_law_pen_here", "_law_things", "_law_thing"] spPut := by
  refine F.ok sc_sPut (fun vs H Q E h => ?_) (fun cdv A outer s H vs Q E hr h => ?_)
  · obtain ⟨p, c, l, n, xs, v, rfl, _⟩ := h
    rfl
  · obtain ⟨p, c, l, n, xs, v, rfl, pen, hn, hl, lx, q⟩ := h
    have hr1 : Room 1 _ := hr.mono (by decide)
    have nd := sc_sPut.nd
    refine ⟨_, pss_cons (ps_set (i := 3) nd rfl (Or.inl rfl) (pe_call T.ok hr (by rfl) T.g T.kp T.b .nil pass0 (pa_cons (pv 0) (pa_cons (pe_op op_add (pe_callB call_len_seq (by rfl) ml PySem.boot_len (pa_cons (pv 1) pa_nil)) pe_int) pa_nil))))
      (pss_cons (ps_set (i := 4) nd rfl (Or.inl rfl) (pe_op op_cat (pe_op op_cat (pe_slice sl_list (pv 1) po_none (po_some (pv 3))) (pe_lst (pa_cons (pv 2) pa_nil))) (pe_slice sl_list (pv 1) (po_some (pv 3)) po_none)))
      (pss_cons (ps_if (pt_cmpR op_eq (pe_call T.ok hr (by rfl) T.g T.kp T.b .nil pass0 (pa_cons (pv 0) (pa_cons pe_int pa_nil))) pe_int (nomark _)) (pss_one (ps_ret (pe_callTy call_tuple_of (by rfl) mt (by decide +kernel) (pa_cons (pv 4) pa_nil)))) pss_nil)
      (pss_one (ps_ret (pv 4))))), ?_⟩
    refine ⟨_, rfl, _, rfl, l, _, rfl, .inl (SqL.of hl), _, 1, rfl, rfl, p, c, n, (xs.length : Int) + 1, rfl, pen, by omega, by omega, by omega, fun r1 H1 a1 b1 pen1 bt1 => ?_⟩
    obtain ⟨k, rfl⟩ : ∃ k : Nat, r1 = (k : Int) := ⟨r1.toNat, by omega⟩
    have hl1 := pen_keepL pen bt1 hl
    refine ⟨_, rfl, _, rfl, (k : Int), rfl, l, _, rfl, SqL.of hl1, fun m2 nm2 => ?_⟩
    have s2 := @same_new _ _ (.lst (cutV xs none (some (k : Int)))) nm2
    have h2 := @upd_same H1 m2 (.lst (cutV xs none (some (k : Int))))
    generalize upd H1 m2 (.lst (cutV xs none (some (k : Int)))) = H2 at s2 h2 ⊢
    rw [cut_head] at h2
    refine ⟨_, rfl, (by show 1 ≤ sizeLine; decide), fun m3 nm3 => ?_⟩
    have s3 := @same_new _ _ (.lst [v]) nm3
    have h3 := @upd_same H2 m3 (.lst [v])
    generalize upd H2 m3 (.lst [v]) = H3 at s3 h3 ⊢
    refine ⟨m2, m3, _, _, rfl, rfl, s3 _ _ h2, h3, Nat.le_of_lt (small1000 (by rw [List.length_take]; simp only [List.length_cons, List.length_nil]; omega)), fun m4 nm4 => ?_⟩
    have s4 := @same_new _ _ (.lst (xs.take k ++ [v])) nm4
    have h4 := @upd_same H3 m4 (.lst (xs.take k ++ [v]))
    generalize upd H3 m4 (.lst (xs.take k ++ [v])) = H4 at s4 h4 ⊢
    refine ⟨_, rfl, _, rfl, (k : Int), rfl, l, _, rfl, SqL.of (s4 _ _ (s3 _ _ (s2 _ _ hl1))), fun m5 nm5 => ?_⟩
    have s5 := @same_new _ _ (.lst (cutV xs (some (k : Int)) none)) nm5
    have h5 := @upd_same H4 m5 (.lst (cutV xs (some (k : Int)) none))
    generalize upd H4 m5 (.lst (cutV xs (some (k : Int)) none)) = H5 at s5 h5 ⊢
    rw [cut_tail] at h5
    refine ⟨m4, m5, _, _, rfl, rfl, s5 _ _ h4, h5, Nat.le_of_lt (small1000 (by rw [List.length_append, List.length_take, List.length_drop]; simp only [List.length_cons, List.length_nil]; omega)), fun m6 nm6 => ?_⟩
    have f6 : H m6 = none := bt1.free (s2.free (s3.free (s4.free (s5.free nm6)))) pen1.there
    have s6 := @same_new _ _ (.lst (xs.take k ++ [v] ++ xs.drop k)) nm6
    have h6 := @upd_same H5 m6 (.lst (xs.take k ++ [v] ++ xs.drop k))
    generalize upd H5 m6 (.lst (xs.take k ++ [v] ++ xs.drop k)) = H6 at s6 h6 ⊢
    have s26 := s2.trans (s3.trans (s4.trans (s5.trans s6)))
    refine ⟨_, rfl, p, c, n + 1, 2, rfl, pen1.same s26, by omega, by decide, by decide, fun r2 H7 a2 b2 pen7 bt7 => ?_⟩
    have h7 := pen_keepL (pen1.same s26) bt7 h6
    have bt := bt1.tr ((But.of s26).tr bt7)
    refine ⟨rfl, _, rfl, ite2 (fun _ => ?_) (fun _ => ?_)⟩
    · refine ⟨_, rfl, m6, _, rfl, .inl ⟨SqL.of h7, fun t nt => ?_⟩⟩
      have s8 := @same_new _ _ (.tup (xs.take k ++ [v] ++ xs.drop k)) nt
      exact q t k _ (bt.free nt pen7.there) (by omega) (.inr upd_same) (pen7.same s8) (bt.tr (.of s8))
    · exact ⟨_, rfl, q m6 k _ f6 (by omega) (.inl h7) pen7 bt⟩
/-- it holds too where a list that was there before, or the pen, has changed -/
def GdN (K : PySem.W.Frag) (H H' : Hp) (m : Addr) (v : V) (most : Int) : Prop := ∀ G : Hp, (∀ a o, H a = none → H' a = some o → G a = some o) → (∀ us, H m = some (.lst us) → G m = some (.lst us)) → NamesBad G v most ∧ ShQ K G v 6000 4
theorem fr_ne {H : Hp} {a r : Addr} {o : HO} (f : H a = none) (h : H r = some o) : a ≠ r := fun z => by
  rw [z, h] at f
  exact nomatch f
def spNoNames (K : PySem.W.Frag) : Sp := fun vs H Q _ => ∃ (p c l m : Addr) (n : Nat) (xs ys : List Str) (most : Int), vs = [.ref p, .ref l, .ref m] ∧ PenAt H p c n ∧ n ≤ 80000 ∧ StrsAt H l xs ∧ StrsAt H m ys ∧ xs ≠ [] ∧ xs.length ≤ 31 ∧ (∀ y ∈ xs, nameB y = true) ∧
  ys.Nodup ∧ ys.length ≤ 31 ∧ (∀ y ∈ ys, nameB y = true) ∧ most < (ys.length : Int) ∧ 0 ≤ most ∧ ∀ (v : V) (H' : Hp), GdN K H H' m v most → PenAt H' p c (n + 6) → But p H H' → Q v H'
theorem onceR_full {ys : List Str} (h : ys.Nodup) : (onceR ys).length = ys.length := by
  have p : (onceR ys).Perm ys := (List.perm_ext_iff_of_nodup (onceR_nodup ys) h).mpr fun a => onceR_mem ys a
  exact p.length_eq
theorem names_many {H : Hp} {l : Addr} {ys : List Str} {most : Int} (h : LT H l (ys.map V.str)) (nd : ys.Nodup) (l31 : ys.length ≤ 31) (nm : ∀ y ∈ ys, nameB y = true) (hm : most < (ys.length : Int)) : NamesBad H (.ref l) most := by
  refine .inr ⟨l, _, rfl, h, by rw [List.length_map]; omega, fun x hx => ?_, .inr ⟨ys, rfl, nm, by rw [onceR_full nd]; omega, fun z => ?_⟩⟩
  · obtain ⟨y, hy, rfl⟩ := List.mem_map.mp hx
    exact .str y (by have := name_len (nm y hy); omega)
  · rw [onceR_full nd] at z
    omega
theorem shq_name {K : PySem.W.Frag} {H : Hp} {y : Str} {k : Nat} (h : nameB y = true) : ShQ K H (.str y) 100 k := shq_str (by have := name_len h; omega) (name_ok h)
theorem shq_LT {K : PySem.W.Frag} {H : Hp} {a : Addr} {xs : List V} {n k m : Nat} (h : LT H a xs) (t : ∀ v ∈ xs, ShQ K H v n k) (l : xs.length * (n + 1) ≤ m) : ShQ K H (.ref a) m (k + 1) := by
  rcases h with h | h
  · exact shq_lst (SqL.of h) t l
  · exact shq_tup (SqT.of h) t l
abbrev sNoNamesN : List Str := ["_law_pen_here", "_law_names_here", "_law_more", "_law_way", "_law_odd"]
theorem sc_sNoNames : FnScope sNoNamesN ["_law_pen_here", "_law_names_here", "_law_more"] (defScope sNoNames) := ⟨rfl, rfl, rfl, by decide +kernel, rfl, by decide +kernel, by decide +kernel⟩
set_option maxHeartbeats 2000000 in
theorem ok_noNames {f fT fP : Addr} {fd dT dP : FuncData} (F : Fun K "_law_no_names" "_law_no_names" sNoNames f fd) (T : TakeT P w K mg base fT dT) (PU : DefT P w K mg base "_law_put" 2 fP dP ["_law_pen_here", "_law_things", "_law_thing"] spPut) (ml : mg "len" = none) (mt : mg "tuple" = none) : FnOk P w K mg base CX0 3 f fd ["_law_pen_here", "_law_names_here", "_law_more"] (spNoNames K) := by
  refine F.ok sc_sNoNames (fun vs H Q E h => ?_) (fun cdv A outer s H vs Q E hr h => ?_)
  · obtain ⟨p, c, l, m, n, xs, ys, most, rfl, _⟩ := h
    rfl
  · obtain ⟨p, c, l, m, n, xs, ys, most, rfl, pen, hn, hl, hm, nx, l31, nmx, nd', m31, nmy, mo, m0, q⟩ := h
    have hr1 : Room 1 _ := hr.mono (by decide)
    have nd := sc_sNoNames.nd
    have hr1 : Room 1 _ := hr.mono (by decide)
    refine ⟨_, pss_cons (ps_set (i := 3) nd rfl (Or.inl rfl) (pe_call T.ok hr1 (by rfl) T.g T.kp T.b .nil pass0 (pa_cons (pv 0) (pa_cons pe_int pa_nil))))
      (pss_cons (ps_if (pt_cmpR op_eq (pv 3) pe_int (nomark _)) (pss_one (ps_ret (pe_ix ix_list (pe_lst (pa_cons (pe_lst pa_nil) (pa_cons (pe_tup pa_nil) pa_nil))) (pe_call T.ok hr1 (by rfl) T.g T.kp T.b .nil pass0 (pa_cons (pv 0) (pa_cons pe_int pa_nil))) (fun _ _ => rfl)))) pss_nil)
      (pss_cons (ps_if (pt_cmpR op_eq (pv 3) pe_int (nomark _)) (pss_one (ps_ret (pe_ix ix_list (pe_lst (pa_cons pe_non (pa_cons pe_bl (pa_cons pe_int (pa_cons (pe_ix ix_list (pv 1) pe_int (fun _ _ => rfl)) (pa_cons pe_dnewK (pa_cons (pe_disp (pps_cons (pe_ix ix_list (pv 1) pe_int (fun _ _ => rfl)) pe_int pps_nil) (by rfl) (by rfl) (fun z => by cases z) (by decide)) (pa_cons pe_str (pa_cons pe_str pa_nil))))))))) (pe_call T.ok hr1 (by rfl) T.g T.kp T.b .nil pass0 (pa_cons (pv 0) (pa_cons pe_int pa_nil))) (fun _ _ => rfl)))) pss_nil)
      (pss_cons (ps_if (pt_cmpR op_eq (pv 3) pe_int (nomark _)) (pss_one (ps_ret (pe_ix ix_list (pe_lst (pa_cons (pv 2) (pa_cons (pe_callTy call_tuple_of (by rfl) mt (by decide +kernel) (pa_cons (pe_revL (pv 2)) pa_nil)) pa_nil))) (pe_call T.ok hr1 (by rfl) T.g T.kp T.b .nil pass0 (pa_cons (pv 0) (pa_cons pe_int pa_nil))) (fun _ _ => rfl)))) pss_nil)
      (pss_cons (ps_set (i := 4) nd rfl (Or.inl rfl) (pe_lst (pa_cons pe_non (pa_cons pe_bl (pa_cons pe_int (pa_cons pe_str (pa_cons pe_str (pa_cons pe_str (pa_cons pe_str (pa_cons pe_str (pa_cons (pe_lst (pa_cons pe_str pa_nil)) (pa_cons (pe_tup (pa_cons pe_str pa_nil)) (pa_cons pe_dnewK (pa_cons pe_int (pa_cons pe_str pa_nil)))))))))))))))
      (pss_one (ps_ret (pe_call PU.ok hr (by rfl) PU.g PU.kp PU.b .nil pass0 (pa_cons (pv 0) (pa_cons (pv 1) (pa_cons (pe_ix ix_list (pv 4) (pe_call T.ok hr1 (by rfl) T.g T.kp T.b .nil pass0 (pa_cons (pv 0) (pa_cons (pe_callB call_len_seq (by rfl) ml PySem.boot_len (pa_cons (pv 4) pa_nil)) pa_nil))) (fun _ _ => rfl)) pa_nil)))))))))), ?_⟩
    refine ⟨_, rfl, p, c, n, 5, rfl, pen, by omega, by decide, by decide, fun r1 H1 a1 b1 pen1 bt1 => ?_⟩
    have hl1 := pen_keepL pen bt1 hl
    have hm1 := pen_keepL pen bt1 hm
    have fin : ∀ (v : V) (H' : Hp) (k : Nat), GdN K H H' m v most → PenAt H' p c k → k ≤ n + 6 → But p H H' → Q v H' := fun v H' k b pk hk bt => q v H' b (pk.mono hk) bt
    refine ⟨_, rfl, rfl, _, rfl, ite2 (fun _ => ?_) (fun _ => ?_)⟩
    · refine ⟨(by show 0 ≤ sizeLine; decide), fun u1 nu1 => ?_⟩
      have s1 := @same_new _ _ (.lst []) nu1
      have e1 := @upd_same H1 u1 (.lst [])
      generalize upd H1 u1 (.lst []) = G1 at s1 e1 ⊢
      refine ⟨(by show 0 ≤ sizeLine; decide), fun u2 nu2 => ?_⟩
      have s2 := @same_new _ _ (.tup []) nu2
      have e2 := @upd_same G1 u2 (.tup [])
      generalize upd G1 u2 (.tup []) = G2 at s2 e2 ⊢
      refine ⟨(by show 2 ≤ sizeLine; decide), fun L nL => ?_⟩
      have s3 := @same_new _ _ (.lst [V.ref u1, .ref u2]) nL
      have e3 := @upd_same G2 L (.lst [V.ref u1, .ref u2])
      generalize upd G2 L (.lst [V.ref u1, .ref u2]) = G3 at s3 e3 ⊢
      have s13 := s1.trans (s2.trans s3)
      have pn := pen1.same s13
      refine ⟨_, rfl, p, c, n + 1, 2, rfl, pn, by omega, by decide, by decide, fun r H2 a2 b2 pen2 bt2 => ?_⟩
      obtain ⟨v, hv, mv⟩ := at_ex (xs := [V.ref u1, .ref u2]) a2 b2
      have k1 := pen_keepL pn bt2 (s3 _ _ (s2 _ _ e1))
      have k2 := pen_keep pn bt2 (s3 _ _ e2)
      have f1 : H u1 = none := bt1.free nu1 pen1.there
      have f2 : H u2 = none := bt1.free (s1.free nu2) pen1.there
      have bad : ∀ (G : Hp) a, LT G a [] → NamesBad G (.ref a) most ∧ ShQ K G (.ref a) 6000 4 := fun G a h =>
        ⟨.inr ⟨a, [], rfl, h, by decide, (fun x hx => nomatch hx), .inr ⟨[], rfl, (fun y hy => nomatch hy), by decide, fun z => absurd z.1 (by decide)⟩⟩, shq_LT (n := 0) (k := 3) h (fun x hx => nomatch hx) (by decide)⟩
      have bt := bt1.tr ((But.of s13).tr bt2)
      refine ⟨L, _, r, v, rfl, rfl, SqL.of (pen_keepL pn bt2 e3), hv, ?_⟩
      simp only [List.mem_cons, List.not_mem_nil, or_false] at mv
      rcases mv with rfl | rfl
      · exact fin _ H2 _ (fun G k kM => bad G _ (.inl (k _ _ f1 k1))) pen2 (by omega) bt
      · exact fin _ H2 _ (fun G k kM => bad G _ (.inr (k _ _ f2 k2))) pen2 (by omega) bt
    refine ⟨_, rfl, rfl, _, rfl, ite2 (fun _ => ?_) (fun _ => ?_)⟩
    · obtain ⟨x0, xr, rfl⟩ : ∃ x0 xr, xs = x0 :: xr := by
        cases xs with
        | nil => exact absurd rfl nx
        | cons a b => exact ⟨a, b, rfl⟩
      have n0 := nmx x0 List.mem_cons_self
      refine ⟨_, rfl, l, _, 0, _, rfl, rfl, SqL.of hl1, atI_nat (j := 0) rfl, fun u3 nu3 => ?_⟩
      have s3 := @same_new _ _ (.dK []) nu3
      have e3 := @upd_same H1 u3 (.dK [])
      generalize upd H1 u3 (.dK []) = G3 at s3 e3 ⊢
      refine fun u4 nu4 => ?_
      have ne4 : l ≠ u4 := ne_of_none (s3 _ _ hl1) nu4
      refine ⟨_, rfl, l, _, 0, _, rfl, rfl, SqL.of ((upd_ne ne4).trans (s3 _ _ hl1)), atI_nat (j := 0) rfl, ?_⟩
      refine ⟨upd_same, [(Sum.inr x0, .int 1)], rfl, (by show 1 ≤ 15; decide), ?_⟩
      have s4 : Same G3 (upd (upd G3 u4 (.dK [])) u4 (.dK (mergeK [] [(Sum.inr x0, V.int 1)]))) := fun b o e => by
        have ne : b ≠ u4 := ne_of_none e nu4
        rw [upd_ne ne, upd_ne ne]
        exact e
      have e4 : (upd (upd G3 u4 (.dK [])) u4 (.dK (mergeK [] [(Sum.inr x0, V.int 1)]))) u4 = some (.dK [(Sum.inr x0, V.int 1)]) := upd_same
      generalize upd (upd G3 u4 (.dK [])) u4 (.dK (mergeK [] [(Sum.inr x0, V.int 1)])) = G4 at s4 e4 ⊢
      refine ⟨(by show 8 ≤ sizeLine; decide), fun L nL => ?_⟩
      have s5 := @same_new _ _ (.lst [V.non, .bl true, .int 7, .str x0, .ref u3, .ref u4, .str "", .str "abc"]) nL
      have e5 := @upd_same G4 L (.lst [V.non, .bl true, .int 7, .str x0, .ref u3, .ref u4, .str "", .str "abc"])
      generalize upd G4 L (.lst [V.non, .bl true, .int 7, .str x0, .ref u3, .ref u4, .str "", .str "abc"]) = G5 at s5 e5 ⊢
      have s15 := s3.trans (s4.trans s5)
      have pn := pen1.same s15
      refine ⟨_, rfl, p, c, n + 1, 8, rfl, pn, by omega, by decide, by decide, fun r H2 a2 b2 pen2 bt2 => ?_⟩
      obtain ⟨v, hv, mv⟩ := at_ex (xs := [V.non, .bl true, .int 7, .str x0, .ref u3, .ref u4, .str "", .str "abc"]) a2 b2
      have bt := bt1.tr ((But.of s15).tr bt2)
      have k3 := new_keep pen1 s15 bt2 nu3 (s5 _ _ (s4 _ _ e3))
      have k4 := new_keep pen1 s15 bt2 (s3.free nu4) (s5 _ _ e4)
      refine ⟨L, _, r, v, rfl, rfl, SqL.of (pen_keepL pn bt2 e5), hv, ?_⟩
      have f3 : H u3 = none := bt1.free nu3 pen1.there
      have f4 : H u4 = none := bt1.free (s3.free nu4) pen1.there
      have sc : ∀ (G : Hp) v, (∀ a, v ≠ .ref a) → Thg G v → NamesBad G v most := fun G v n t => .inl ⟨.inl t, fun a xs e => absurd e (n a), fun a xs e => absurd e (n a)⟩
      have dc : ∀ (G : Hp) a kvs, G a = some (.dK kvs) → NamesBad G (.ref a) most := fun G a kvs h => .inl ⟨.inl (.dct h), (fun a' xs e z => by rw [← V.ref.inj e, h] at z; exact nomatch z), (fun a' xs e z => by rw [← V.ref.inj e, h] at z; exact nomatch z)⟩
      simp only [List.mem_cons, List.not_mem_nil, or_false] at mv
      rcases mv with rfl | rfl | rfl | rfl | rfl | rfl | rfl | rfl
      · exact fin _ H2 _ (fun G k kM => ⟨sc G _ (fun a => nofun) .non, shq_non⟩) pen2 (by omega) bt
      · exact fin _ H2 _ (fun G k kM => ⟨sc G _ (fun a => nofun) (.bl _), (shq_bl _)⟩) pen2 (by omega) bt
      · exact fin _ H2 _ (fun G k kM => ⟨sc G _ (fun a => nofun) (.int _), (shq_int (by decide))⟩) pen2 (by omega) bt
      · exact fin _ H2 _ (fun G k kM => ⟨sc G _ (fun a => nofun) (.str _ (by have := name_len n0; omega)), (shq_name (k := 4) n0).mono (by decide) (by decide)⟩) pen2 (by omega) bt
      · exact fin _ H2 _ (fun G k kM => ⟨dc G _ _ (k _ _ f3 k3), shq_d0 (k := 3) (k _ _ f3 k3)⟩) pen2 (by omega) bt
      · exact fin _ H2 _ (fun G k kM => ⟨dc G _ _ (k _ _ f4 k4), shq_d1 (k := 3) (k _ _ f4 k4) (by have := name_len n0; omega) (name_ok n0) (by decide) (by decide)⟩) pen2 (by omega) bt
      · exact fin _ H2 _ (fun G k kM => ⟨sc G _ (fun a => nofun) (.str _ (by decide +kernel)), (shq_str (by decide +kernel) (by decide +kernel))⟩) pen2 (by omega) bt
      · exact fin _ H2 _ (fun G k kM => ⟨sc G _ (fun a => nofun) (.str _ (by decide +kernel)), (shq_str (by decide +kernel) (by decide +kernel))⟩) pen2 (by omega) bt
    refine ⟨_, rfl, rfl, _, rfl, ite2 (fun _ => ?_) (fun _ => ?_)⟩
    · refine ⟨_, rfl, _, rfl, m, _, rfl, SqL.of hm1, fun R nR => ?_⟩
      have s3 := @same_new _ _ (.lst (ys.map V.str).reverse) nR
      have e3 := @upd_same H1 R (.lst (ys.map V.str).reverse)
      generalize upd H1 R (.lst (ys.map V.str).reverse) = G3 at s3 e3 ⊢
      refine ⟨R, _, rfl, .inl ⟨SqL.of e3, fun t nt => ?_⟩⟩
      have s4 := @same_new _ _ (.tup (ys.map V.str).reverse) nt
      have e4 := @upd_same G3 t (.tup (ys.map V.str).reverse)
      generalize upd G3 t (.tup (ys.map V.str).reverse) = G4 at s4 e4 ⊢
      refine ⟨(by show 2 ≤ sizeLine; decide), fun L nL => ?_⟩
      have s5 := @same_new _ _ (.lst [V.ref m, .ref t]) nL
      have e5 := @upd_same G4 L (.lst [V.ref m, .ref t])
      generalize upd G4 L (.lst [V.ref m, .ref t]) = G5 at s5 e5 ⊢
      have s15 := s3.trans (s4.trans s5)
      have pn := pen1.same s15
      refine ⟨_, rfl, p, c, n + 1, 2, rfl, pn, by omega, by decide, by decide, fun r H2 a2 b2 pen2 bt2 => ?_⟩
      obtain ⟨v, hv, mv⟩ := at_ex (xs := [V.ref m, .ref t]) a2 b2
      have bt := bt1.tr ((But.of s15).tr bt2)
      refine ⟨L, _, r, v, rfl, rfl, SqL.of (pen_keepL pn bt2 e5), hv, ?_⟩
      have fT : H t = none := bt1.free (s3.free nt) pen1.there
      have hm2 := pen_keepL pn bt2 (s15 _ _ hm1)
      have ht2 : H2 t = some (.tup (ys.reverse.map V.str)) := by rw [List.map_reverse]; exact pen_keep pn bt2 (s5 _ _ e4)
      have sh : ∀ (G : Hp) (a : Addr) (zs : List Str), LT G a (zs.map V.str) → (∀ y ∈ zs, nameB y = true) → zs.length ≤ 31 → ShQ K G (.ref a) 6000 4 := fun G a zs h nm l => shq_LT (n := 100) (k := 3) h (fun v hv => by
        obtain ⟨y, hy, rfl⟩ := List.mem_map.mp hv
        exact shq_name (nm y hy)) (by rw [List.length_map]; omega)
      simp only [List.mem_cons, List.not_mem_nil, or_false] at mv
      rcases mv with rfl | rfl
      · exact fin _ H2 _ (fun G k kM => have k1 : LT G m (ys.map V.str) := .inl (kM _ hm); ⟨names_many k1 nd' m31 nmy mo, sh G _ _ k1 nmy m31⟩) pen2 (by omega) bt
      · have nmr : ∀ y ∈ ys.reverse, nameB y = true := fun y hy => nmy y (List.mem_reverse.mp hy)
        exact fin _ H2 _ (fun G k kM => have k2 : LT G t (ys.reverse.map V.str) := .inr (k _ _ fT ht2); ⟨names_many k2 ((List.reverse_perm ys).symm.nodup nd') (by rw [List.length_reverse]; exact m31) nmr (by rw [List.length_reverse]; exact mo), sh G _ _ k2 nmr (by rw [List.length_reverse]; exact m31)⟩) pen2 (by omega) bt
    -- one that is none among them
    refine ⟨(by show 1 ≤ sizeLine; decide), fun u3 nu3 => ?_⟩
    have s3 := @same_new _ _ (.lst [V.str "a"]) nu3
    have e3 := @upd_same H1 u3 (.lst [V.str "a"])
    generalize upd H1 u3 (.lst [V.str "a"]) = G3 at s3 e3 ⊢
    refine ⟨(by show 1 ≤ sizeLine; decide), fun u4 nu4 => ?_⟩
    have s4 := @same_new _ _ (.tup [V.str "a"]) nu4
    have e4 := @upd_same G3 u4 (.tup [V.str "a"])
    generalize upd G3 u4 (.tup [V.str "a"]) = G4 at s4 e4 ⊢
    refine fun u5 nu5 => ?_
    have s5 := @same_new _ _ (.dK []) nu5
    have e5 := @upd_same G4 u5 (.dK [])
    generalize upd G4 u5 (.dK []) = G5 at s5 e5 ⊢
    refine ⟨(by show 13 ≤ sizeLine; decide), fun L nL => ?_⟩
    have s6 := @same_new _ _ (.lst [V.non, .bl true, .int 0, .str "", .str "abcdefghi", .str "A", .str "a b", .str "a\n", .ref u3, .ref u4, .ref u5, .int 7, .str "`"]) nL
    have e6 := @upd_same G5 L (.lst [V.non, .bl true, .int 0, .str "", .str "abcdefghi", .str "A", .str "a b", .str "a\n", .ref u3, .ref u4, .ref u5, .int 7, .str "`"])
    generalize upd G5 L (.lst [V.non, .bl true, .int 0, .str "", .str "abcdefghi", .str "A", .str "a b", .str "a\n", .ref u3, .ref u4, .ref u5, .int 7, .str "`"]) = G6 at s6 e6 ⊢
    have s16 := s3.trans (s4.trans (s5.trans s6))
    have pn := pen1.same s16
    refine ⟨_, rfl, _, rfl, _, rfl, _, rfl, _, rfl, L, _, rfl, .inl (SqL.of e6), p, c, n + 1, 13, rfl, pn, by omega, by decide, by decide, fun r H2 a2 b2 pen2 bt2 => ?_⟩
    obtain ⟨v, hv, mv⟩ := at_ex (xs := [V.non, .bl true, .int 0, .str "", .str "abcdefghi", .str "A", .str "a b", .str "a\n", .ref u3, .ref u4, .ref u5, .int 7, .str "`"]) a2 b2
    refine ⟨L, _, r, v, rfl, rfl, SqL.of (pen_keepL pn bt2 e6), hv, ?_⟩
    have hl2 := pen_keepL pn bt2 (s16 _ _ hl1)
    have k3 := new_keep pen1 s16 bt2 nu3 (s6 _ _ (s5 _ _ (s4 _ _ e3)))
    have k4 := new_keep pen1 s16 bt2 (s3.free nu4) (s6 _ _ (s5 _ _ e4))
    have k5 := new_keep pen1 s16 bt2 (s3.free (s4.free nu5)) (s6 _ _ e5)
    have ov : ∀ G : Hp, G u3 = some (.lst [V.str "a"]) → G u4 = some (.tup [V.str "a"]) → G u5 = some (.dK []) → Thg G v ∧ nmV v = false ∧ ShQ K G v 100 3 := by
      intro G k3 k4 k5
      have sa : ∀ v ∈ [V.str "a"], ShQ K G v 10 2 := fun v hv => by
        rw [List.mem_singleton.mp hv]
        exact shq_str (by decide +kernel) (by decide +kernel)
      simp only [List.mem_cons, List.not_mem_nil, or_false] at mv
      rcases mv with rfl | rfl | rfl | rfl | rfl | rfl | rfl | rfl | rfl | rfl | rfl | rfl | rfl
      · exact ⟨.non, rfl, shq_non⟩
      · exact ⟨.bl _, rfl, shq_bl _⟩
      · exact ⟨.int _, rfl, shq_int (by decide)⟩
      · exact ⟨.str _ (by decide +kernel), by decide +kernel, shq_str (by decide +kernel) (by decide +kernel)⟩
      · exact ⟨.str _ (by decide +kernel), by decide +kernel, shq_str (by decide +kernel) (by decide +kernel)⟩
      · exact ⟨.str _ (by decide +kernel), by decide +kernel, shq_str (by decide +kernel) (by decide +kernel)⟩
      · exact ⟨.str _ (by decide +kernel), by decide +kernel, shq_str (by decide +kernel) (by decide +kernel)⟩
      · exact ⟨.str _ (by decide +kernel), by decide +kernel, shq_str (by decide +kernel) (by decide +kernel)⟩
      · exact ⟨.lst k3, rfl, shq_lst (SqL.of k3) sa (by decide)⟩
      · exact ⟨.tup k4, rfl, shq_tup (SqT.of k4) sa (by decide)⟩
      · exact ⟨.dct k5, rfl, shq_d0 (k := 2) k5⟩
      · exact ⟨.int _, rfl, shq_int (by decide)⟩
      · exact ⟨.str _ (by decide +kernel), by decide +kernel, shq_str (by decide +kernel) (by decide +kernel)⟩
    refine ⟨p, c, l, n + 1 + 1, _, v, rfl, pen2, by omega, hl2, by rw [List.length_map]; omega, fun R i H3 fR hi hR pen3 bt3 => ?_⟩
    have q3 := bt3 _ _ k3 fun z => pen1.there (z ▸ nu3)
    have q4 := bt3 _ _ k4 fun z => pen1.there (z ▸ s3.free nu4)
    have q5 := bt3 _ _ k5 fun z => pen1.there (z ▸ s3.free (s4.free nu5))
    have g3 : H u3 = none := bt1.free nu3 pen1.there
    have g4 : H u4 = none := bt1.free (s3.free nu4) pen1.there
    have g5 : H u5 = none := bt1.free (s3.free (s4.free nu5)) pen1.there
    have gR : H R = none := (bt1.tr ((But.of s16).tr bt2)).free fR pen2.there
    refine fin _ H3 _ (fun G k kM => ?_) pen3 (by omega) (bt1.tr ((But.of s16).tr (bt2.tr bt3)))
    obtain ⟨tv, fv, sv⟩ := ov G (k _ _ g3 q3) (k _ _ g4 q4) (k _ _ g5 q5)
    have hG : LT G R ((xs.map V.str).take i ++ [v] ++ (xs.map V.str).drop i) := hR.imp (fun h => k _ _ gR h) fun h => k _ _ gR h
    have nmL : ∀ x ∈ xs.map V.str, Thg G x ∧ ShQ K G x 100 3 := fun x hx => by
      obtain ⟨y, hy, rfl⟩ := List.mem_map.mp hx
      have := name_len (nmx y hy)
      exact ⟨.str y (by omega), shq_name (nmx y hy)⟩
    have each : ∀ x ∈ (xs.map V.str).take i ++ [v] ++ (xs.map V.str).drop i, Thg G x ∧ ShQ K G x 100 3 := fun x hx => by
      rcases List.mem_append.mp hx with hx | hx
      · rcases List.mem_append.mp hx with hx | hx
        · exact nmL x (List.mem_of_mem_take hx)
        · rw [List.mem_singleton.mp hx]
          exact ⟨tv, sv⟩
      · exact nmL x (List.mem_of_mem_drop hx)
    have ln : ((xs.map V.str).take i ++ [v] ++ (xs.map V.str).drop i).length ≤ 33 := by
      rw [List.length_append, List.length_append, List.length_take, List.length_drop, List.length_map]
      simp only [List.length_cons, List.length_nil]
      omega
    exact ⟨.inr ⟨R, _, rfl, hG, by omega, fun x hx => (each x hx).1, .inl ⟨v, List.mem_append_left _ (List.mem_append_right _ (List.mem_singleton.mpr rfl)), fv⟩⟩,
      shq_LT (n := 100) (k := 3) hG (fun x hx => (each x hx).2) (by omega)⟩
end
/-! ### {t: v}, t a tuple -/
def tDisp1T (tk tv : TE) : TE := fun σ H Q => ∀ p, H p = none → tk σ (upd H p (.dT [])) fun x H1 => tv σ H1 fun y H2 => ∃ (b : Addr) (k : List Key), x = .ref b ∧ b ≠ p ∧ H2 b = some (.tup (k.map kV)) ∧ H2 p = some (.dT []) ∧ Q (.ref p) (upd H2 p (.dT [(k, y)]))
theorem pe_disp1T {X : Cx} {ek ev : Expr} {tk tv : TE} {pos : Pos} (hu : X.A.units + 64 < cLine) (hk : PE X ek tk) (hv : PE X ev tv) : PE X (.Dict [some ek] [ev] pos) (tDisp1T tk tv) := by
  refine ⟨fun pins s σ H Q I q => ?_⟩
  have hlen := pairTrees_length [some ek] [ev] X.env pos (by rfl) (by rfl)
  have l1 : (pairTrees [some ek] [ev] X.env pos).length = 1 := hlen
  rw [arm_eval_Dict, zip_pairTrees [some ek] [ev] X.env pos (by rfl) (by rfl), dictDisplay_pairs _ (fun z => by rw [z] at l1; exact nomatch l1) (by omega)]
  refine wpAny_bind (wpAny_standAt (wpAny_bind ?_))
  unfold subDict
  refine wpAny_bind (wpAny_alloc ?_)
  have fresh := I.hok.fresh (Nat.le_refl s.heap.objs.size)
  have I1 := I.laid (a := s.heap.objs.size) (o := .dT []) (h' := s.heap.push { cls := .type "dict", data := .dict #[] }) (t' := s.toks) (fun _ _ q => Heap.get?_push_of_some _ q) (Nat.le_refl _) (dt_empty s.heap I.big)
  refine wpAny_bind (wpAny_holding ?_)
  rw [if_pos (by rw [l1]; decide)]
  have q0 := q _ fresh
  generalize hp : s.heap.objs.size = p at *
  refine wpAny_bind (pairTrees_cons_walk (thn (hk.run pins _ σ _ _ I1 q0) ?_))
  rintro u s1 ⟨x, H1, I2, rx, q1⟩
  refine thn (hv.run pins s1 σ H1 _ I2 q1) ?_
  rintro u2 s2 ⟨y, H2, I3, ry, b, k, rfl, nbp, hb, hpE, q2⟩
  obtain rfl : u = Value.ref b := rx
  refine evalPairs_nil ?_
  obtain ⟨_, pS, xs, rel, dd⟩ := dt_of I3.hok hpE
  cases rel
  refine wpAny_holding ?_
  simp only [List.forIn_cons, List.forIn_nil]
  refine wpAny_bind (wpAny_bind (wpAny_bind (wpAny_dictSet_heap (hsz := by simp) (show (tupleKind (mixKind X.prog X.w)).room X.A from Nat.lt_of_le_of_lt (Nat.le_add_right _ 64) hu) (key_of I3.hok hb) dd fun h' dd' hs => ?_)))
  refine wpAny_pure (wpAny_pure (wpAny_pure (wpAny_pure (wpAny_pure ?_))))
  obtain ⟨o, es, ep, ho, h2, h3, h4, _, h5⟩ := dd'
  refine ⟨.ref p, _, ?_, rfl, q2⟩
  refine d_write I3 (by rw [hpE]; exact True.intro) hs ⟨o, ho⟩ ⟨(by show 1 ≤ sizeLine; decide), pS, _, ?_, o, es, ep, ho, h2, h3, h4, h5⟩
  exact .cons ⟨rfl, (upd_ne nbp).trans hb, ry⟩ .nil
/-! ### entries of what isn't there -/
def PartS (v : V) : Prop := (∃ z : Str, v = .str z ∧ z.length ≤ 60 ∧ PyData.strOk z = true) ∨ ∃ i : Int, v = .int i ∧ i.natAbs < 10 ^ 12
/-- an entry that is none of these places and goods -/
def Stray (H : Hp) (a : Addr) (P G : List Str) : Prop := ∃ e : Ent, H a = some (.tup e.vals) ∧ (∀ P' G' : List Str, (∀ y, y ∈ P' ↔ y ∈ P) → (∀ y, y ∈ G' ↔ y ∈ G) → ofB e P' G' = false) ∧ ∀ v ∈ e.vals, PartS v
def spStray : Sp := fun vs H Q _ => ∃ (p c lp lg ls : Addr) (n : Nat) (nm far kind : Str) (P G : List Str), vs = [.ref p, .str nm, .ref lp, .ref lg, .ref ls] ∧ PenAt H p c n ∧ n ≤ 90000 ∧ StrsAt H lp P ∧ StrsAt H lg G ∧ H ls = some (.tup [.str far, .str kind]) ∧
  P ≠ [] ∧ G ≠ [] ∧ P.length ≤ 31 ∧ G.length ≤ 31 ∧ far ∉ P ∧ kind ∉ G ∧ nameB nm = true ∧ nameB far = true ∧ nameB kind = true ∧ (∀ y ∈ P, nameB y = true) ∧ (∀ y ∈ G, nameB y = true) ∧
  ∀ (a : Addr) (H' : Hp), Stray H' a P G → PenAt H' p c (n + 3) → But p H H' → Q (.ref a) H'
section
variable {P : Program} {w : World} {K : PySem.W.Frag} {mg : Str → Option Value} {base : Heap}
abbrev sStrayN : List Str := ["_law_pen_here", "_law_name", "_law_places", "_law_goods", "_law_strange", "_law_one", "_law_good", "_law_far", "_law_kind", "_law_some"]
theorem sc_sStray : FnScope sStrayN ["_law_pen_here", "_law_name", "_law_places", "_law_goods", "_law_strange"] (defScope sStray) := ⟨rfl, rfl, rfl, by decide +kernel, rfl, by decide +kernel, by decide +kernel⟩
set_option maxHeartbeats 4000000 in
theorem ok_stray {f fT : Addr} {fd dT : FuncData} (F : Fun K "_law_stray" "_law_stray" sStray f fd) (T : TakeT P w K mg base fT dT) (ml : mg "len" = none) : FnOk P w K mg base CX0 2 f fd ["_law_pen_here", "_law_name", "_law_places", "_law_goods", "_law_strange"] spStray := by
  refine F.ok sc_sStray (fun vs H Q E h => ?_) (fun cdv A outer s H vs Q E hr h => ?_)
  · obtain ⟨p, c, lp, lg, ls, n, nm, far, kind, Ps, G, rfl, _⟩ := h
    rfl
  · obtain ⟨p, c, lp, lg, ls, n, nm, far, kind, Ps, Gs, rfl, pen, hn, hp, hg, hs, np, ng, p31, g31, nf, nk, nn, nfar, nkind, nmP, nmG, q⟩ := h
    have hr1 : Room 1 _ := hr.mono (by decide)
    have nd := sc_sStray.nd
    refine ⟨_, pss_cons (ps_set (i := 5) nd rfl (Or.inl rfl) (pe_ix ix_list (pv 2) (pe_call T.ok hr (by rfl) T.g T.kp T.b .nil pass0 (pa_cons (pv 0) (pa_cons (pe_callB call_len_seq (by rfl) ml PySem.boot_len (pa_cons (pv 2) pa_nil)) pa_nil))) (fun _ _ => rfl)))
      (pss_cons (ps_set (i := 6) nd rfl (Or.inl rfl) (pe_ix ix_list (pv 3) (pe_call T.ok hr (by rfl) T.g T.kp T.b .nil pass0 (pa_cons (pv 0) (pa_cons (pe_callB call_len_seq (by rfl) ml PySem.boot_len (pa_cons (pv 3) pa_nil)) pa_nil))) (fun _ _ => rfl)))
      (pss_cons (ps_asg (pv 4) (pg_tup (by rfl) (pgs_cons (pg_name (i := 7) nd rfl (Or.inl rfl)) (pgs_cons (pg_name (i := 8) nd rfl (Or.inl rfl)) pgs_nil))))
      (pss_cons (ps_set (i := 9) nd rfl (Or.inl rfl) (pe_lst (pa_cons (pe_tup (pa_cons pe_str (pa_cons (pv 1) (pa_cons pe_int (pa_cons (pv 5) (pa_cons (pv 7) pa_nil)))))) (pa_cons (pe_tup (pa_cons pe_str (pa_cons (pv 1) (pa_cons pe_int (pa_cons (pv 7) (pa_cons (pv 5) pa_nil)))))) (pa_cons (pe_tup (pa_cons pe_str (pa_cons (pv 1) (pa_cons pe_int (pa_cons (pv 6) (pa_cons (pv 7) pa_nil)))))) pa_nil)))))
      (pss_cons (ps_set (i := 9) nd rfl (Or.inl rfl) (pe_op op_cat (pv 9) (pe_lst (pa_cons (pe_tup (pa_cons pe_str (pa_cons (pv 1) (pa_cons pe_int (pa_cons (pv 6) (pa_cons (pv 7) (pa_cons (pv 5) (pa_cons pe_int pa_nil)))))))) (pa_cons (pe_tup (pa_cons pe_str (pa_cons (pv 1) (pa_cons pe_int (pa_cons (pv 6) (pa_cons (pv 5) (pa_cons (pv 7) (pa_cons pe_int pa_nil)))))))) pa_nil)))))
      (pss_cons (ps_set (i := 9) nd rfl (Or.inl rfl) (pe_op op_cat (pv 9) (pe_lst (pa_cons (pe_tup (pa_cons pe_str (pa_cons (pv 1) (pa_cons pe_int (pa_cons (pv 6) (pa_cons (pv 5) (pa_cons (pv 7) pa_nil))))))) (pa_cons (pe_tup (pa_cons pe_str (pa_cons (pv 1) (pa_cons pe_int (pa_cons (pv 6) (pa_cons (pv 7) (pa_cons pe_int pa_nil))))))) (pa_cons (pe_tup (pa_cons pe_str (pa_cons (pv 1) (pa_cons pe_int (pa_cons (pv 6) (pa_cons (pv 7) (pa_cons pe_str pa_nil))))))) pa_nil))))))
      (pss_cons (ps_set (i := 9) nd rfl (Or.inl rfl) (pe_op op_cat (pv 9) (pe_lst (pa_cons (pe_tup (pa_cons pe_str (pa_cons (pv 1) (pa_cons pe_int (pa_cons (pv 8) (pa_cons (pv 5) pa_nil)))))) (pa_cons (pe_tup (pa_cons pe_str (pa_cons (pv 1) (pa_cons pe_int (pa_cons (pv 8) (pa_cons (pv 5) (pa_cons pe_int (pa_cons pe_int pa_nil)))))))) pa_nil)))))
      (pss_one (ps_ret (pe_ix ix_list (pv 9) (pe_call T.ok hr (by rfl) T.g T.kp T.b .nil pass0 (pa_cons (pv 0) (pa_cons (pe_callB call_len_seq (by rfl) ml PySem.boot_len (pa_cons (pv 9) pa_nil)) pa_nil))) (fun _ _ => rfl)))))))))), ?_⟩
    have lp0 : 1 ≤ Ps.length := by cases Ps with | nil => exact absurd rfl np | cons a b => simp
    have lg0 : 1 ≤ Gs.length := by cases Gs with | nil => exact absurd rfl ng | cons a b => simp
    refine ⟨_, rfl, _, rfl, _, rfl, lp, _, rfl, .inl (SqL.of hp), p, c, n, ((Ps.map V.str).length : Int), rfl, pen, by omega, by rw [List.length_map]; omega, by rw [List.length_map]; omega, fun r1 H1 a1 b1 pen1 bt1 => ?_⟩
    obtain ⟨o, ho, _, mo⟩ := at_strs (ys := Ps) a1 (by rw [List.length_map] at b1; exact b1)
    refine ⟨lp, _, r1, _, rfl, rfl, SqL.of (pen_keepL pen bt1 hp), ho, ?_⟩
    refine ⟨_, rfl, _, rfl, _, rfl, lg, _, rfl, .inl (SqL.of (pen_keepL pen bt1 hg)), p, c, n + 1, ((Gs.map V.str).length : Int), rfl, pen1, by omega, by rw [List.length_map]; omega, by rw [List.length_map]; omega, fun r2 H2 a2 b2 pen2 bt2 => ?_⟩
    obtain ⟨g, hgg, _, mg'⟩ := at_strs (ys := Gs) a2 (by rw [List.length_map] at b2; exact b2)
    refine ⟨lg, _, r2, _, rfl, rfl, SqL.of (pen_keepL pen1 bt2 (pen_keepL pen bt1 hg)), hgg, ?_⟩
    have hs2 := pen_keep pen1 bt2 (pen_keep pen bt1 hs)
    refine ⟨_, rfl, ls, _, rfl, SqT.of hs2, rfl, _, _, rfl, _, _, rfl, rfl, ?_⟩
    refine ⟨_, rfl, _, rfl, _, rfl, (by show 5 ≤ sizeLine; decide), fun t0 nt0 => ?_⟩
    have s1 := @same_new _ _ (.tup [V.str "swap", .str nm, .int 5, .str o, .str far]) nt0
    have e1 := @upd_same H2 t0 (.tup [V.str "swap", .str nm, .int 5, .str o, .str far])
    generalize upd H2 t0 (.tup [V.str "swap", .str nm, .int 5, .str o, .str far]) = G1 at s1 e1 ⊢
    refine ⟨_, rfl, _, rfl, _, rfl, (by show 5 ≤ sizeLine; decide), fun t1 nt1 => ?_⟩
    have s2 := @same_new _ _ (.tup [V.str "swap", .str nm, .int 5, .str far, .str o]) nt1
    have e2 := @upd_same G1 t1 (.tup [V.str "swap", .str nm, .int 5, .str far, .str o])
    generalize upd G1 t1 (.tup [V.str "swap", .str nm, .int 5, .str far, .str o]) = G2 at s2 e2 ⊢
    refine ⟨_, rfl, _, rfl, _, rfl, (by show 5 ≤ sizeLine; decide), fun t2 nt2 => ?_⟩
    have s3 := @same_new _ _ (.tup [V.str "look", .str nm, .int 0, .str g, .str far]) nt2
    have e3 := @upd_same G2 t2 (.tup [V.str "look", .str nm, .int 0, .str g, .str far])
    generalize upd G2 t2 (.tup [V.str "look", .str nm, .int 0, .str g, .str far]) = G3 at s3 e3 ⊢
    refine ⟨(by show 3 ≤ sizeLine; decide), fun L0 nL0 => ?_⟩
    have s4 := @same_new _ _ (.lst [V.ref t0, .ref t1, .ref t2]) nL0
    have e4 := @upd_same G3 L0 (.lst [V.ref t0, .ref t1, .ref t2])
    generalize upd G3 L0 (.lst [V.ref t0, .ref t1, .ref t2]) = G4 at s4 e4 ⊢
    refine ⟨_, rfl, _, rfl, _, rfl, _, rfl, _, rfl, (by show 7 ≤ sizeLine; decide), fun t3 nt3 => ?_⟩
    have s5 := @same_new _ _ (.tup [V.str "move", .str nm, .int 5, .str g, .str far, .str o, .int 1]) nt3
    have e5 := @upd_same G4 t3 (.tup [V.str "move", .str nm, .int 5, .str g, .str far, .str o, .int 1])
    generalize upd G4 t3 (.tup [V.str "move", .str nm, .int 5, .str g, .str far, .str o, .int 1]) = G5 at s5 e5 ⊢
    refine ⟨_, rfl, _, rfl, _, rfl, _, rfl, (by show 7 ≤ sizeLine; decide), fun t4 nt4 => ?_⟩
    have s6 := @same_new _ _ (.tup [V.str "move", .str nm, .int 9999, .str g, .str o, .str far, .int 1]) nt4
    have e6 := @upd_same G5 t4 (.tup [V.str "move", .str nm, .int 9999, .str g, .str o, .str far, .int 1])
    generalize upd G5 t4 (.tup [V.str "move", .str nm, .int 9999, .str g, .str o, .str far, .int 1]) = G6 at s6 e6 ⊢
    refine ⟨(by show 2 ≤ sizeLine; decide), fun L1 nL1 => ?_⟩
    have s7 := @same_new _ _ (.lst [V.ref t3, .ref t4]) nL1
    have e7 := @upd_same G6 L1 (.lst [V.ref t3, .ref t4])
    generalize upd G6 L1 (.lst [V.ref t3, .ref t4]) = G7 at s7 e7 ⊢
    have a1 := s7 _ _ (s6 _ _ (s5 _ _ (e4)))
    refine ⟨L0, L1, _, _, rfl, rfl, a1, e7, (by show 5 ≤ sizeLine; decide), fun A1 nA1 => ?_⟩
    have s8 := @same_new _ _ (.lst ([V.ref t0, .ref t1, .ref t2] ++ [V.ref t3, .ref t4])) nA1
    have e8 := @upd_same G7 A1 (.lst ([V.ref t0, .ref t1, .ref t2] ++ [V.ref t3, .ref t4]))
    generalize upd G7 A1 (.lst ([V.ref t0, .ref t1, .ref t2] ++ [V.ref t3, .ref t4])) = G8 at s8 e8 ⊢
    refine ⟨_, rfl, _, rfl, _, rfl, _, rfl, _, rfl, (by show 6 ≤ sizeLine; decide), fun t5 nt5 => ?_⟩
    have s9 := @same_new _ _ (.tup [V.str "some", .str nm, .int 5, .str g, .str o, .str far]) nt5
    have e9 := @upd_same G8 t5 (.tup [V.str "some", .str nm, .int 5, .str g, .str o, .str far])
    generalize upd G8 t5 (.tup [V.str "some", .str nm, .int 5, .str g, .str o, .str far]) = G9 at s9 e9 ⊢
    refine ⟨_, rfl, _, rfl, _, rfl, (by show 6 ≤ sizeLine; decide), fun t6 nt6 => ?_⟩
    have s10 := @same_new _ _ (.tup [V.str "go", .str nm, .int 5, .str g, .str far, .int 1]) nt6
    have e10 := @upd_same G9 t6 (.tup [V.str "go", .str nm, .int 5, .str g, .str far, .int 1])
    generalize upd G9 t6 (.tup [V.str "go", .str nm, .int 5, .str g, .str far, .int 1]) = G10 at s10 e10 ⊢
    refine ⟨_, rfl, _, rfl, _, rfl, (by show 6 ≤ sizeLine; decide), fun t7 nt7 => ?_⟩
    have s11 := @same_new _ _ (.tup [V.str "some", .str nm, .int 5, .str g, .str far, .str ""]) nt7
    have e11 := @upd_same G10 t7 (.tup [V.str "some", .str nm, .int 5, .str g, .str far, .str ""])
    generalize upd G10 t7 (.tup [V.str "some", .str nm, .int 5, .str g, .str far, .str ""]) = G11 at s11 e11 ⊢
    refine ⟨(by show 3 ≤ sizeLine; decide), fun L2 nL2 => ?_⟩
    have s12 := @same_new _ _ (.lst [V.ref t5, .ref t6, .ref t7]) nL2
    have e12 := @upd_same G11 L2 (.lst [V.ref t5, .ref t6, .ref t7])
    generalize upd G11 L2 (.lst [V.ref t5, .ref t6, .ref t7]) = G12 at s12 e12 ⊢
    have a2 := s12 _ _ (s11 _ _ (s10 _ _ (s9 _ _ (e8))))
    refine ⟨A1, L2, _, _, rfl, rfl, a2, e12, (by show 8 ≤ sizeLine; decide), fun A2 nA2 => ?_⟩
    have s13 := @same_new _ _ (.lst (([V.ref t0, .ref t1, .ref t2] ++ [V.ref t3, .ref t4]) ++ [V.ref t5, .ref t6, .ref t7])) nA2
    have e13 := @upd_same G12 A2 (.lst (([V.ref t0, .ref t1, .ref t2] ++ [V.ref t3, .ref t4]) ++ [V.ref t5, .ref t6, .ref t7]))
    generalize upd G12 A2 (.lst (([V.ref t0, .ref t1, .ref t2] ++ [V.ref t3, .ref t4]) ++ [V.ref t5, .ref t6, .ref t7])) = G13 at s13 e13 ⊢
    refine ⟨_, rfl, _, rfl, _, rfl, _, rfl, (by show 5 ≤ sizeLine; decide), fun t8 nt8 => ?_⟩
    have s14 := @same_new _ _ (.tup [V.str "look", .str nm, .int 5, .str kind, .str o]) nt8
    have e14 := @upd_same G13 t8 (.tup [V.str "look", .str nm, .int 5, .str kind, .str o])
    generalize upd G13 t8 (.tup [V.str "look", .str nm, .int 5, .str kind, .str o]) = G14 at s14 e14 ⊢
    refine ⟨_, rfl, _, rfl, _, rfl, (by show 7 ≤ sizeLine; decide), fun t9 nt9 => ?_⟩
    have s15 := @same_new _ _ (.tup [V.str "come", .str nm, .int 5, .str kind, .str o, .int 1, .int 1]) nt9
    have e15 := @upd_same G14 t9 (.tup [V.str "come", .str nm, .int 5, .str kind, .str o, .int 1, .int 1])
    generalize upd G14 t9 (.tup [V.str "come", .str nm, .int 5, .str kind, .str o, .int 1, .int 1]) = G15 at s15 e15 ⊢
    refine ⟨(by show 2 ≤ sizeLine; decide), fun L3 nL3 => ?_⟩
    have s16 := @same_new _ _ (.lst [V.ref t8, .ref t9]) nL3
    have e16 := @upd_same G15 L3 (.lst [V.ref t8, .ref t9])
    generalize upd G15 L3 (.lst [V.ref t8, .ref t9]) = G16 at s16 e16 ⊢
    have a3 := s16 _ _ (s15 _ _ (s14 _ _ (e13)))
    refine ⟨A2, L3, _, _, rfl, rfl, a3, e16, (by show 10 ≤ sizeLine; decide), fun A3 nA3 => ?_⟩
    have s17 := @same_new _ _ (.lst ((([V.ref t0, .ref t1, .ref t2] ++ [V.ref t3, .ref t4]) ++ [V.ref t5, .ref t6, .ref t7]) ++ [V.ref t8, .ref t9])) nA3
    have e17 := @upd_same G16 A3 (.lst ((([V.ref t0, .ref t1, .ref t2] ++ [V.ref t3, .ref t4]) ++ [V.ref t5, .ref t6, .ref t7]) ++ [V.ref t8, .ref t9]))
    generalize upd G16 A3 (.lst ((([V.ref t0, .ref t1, .ref t2] ++ [V.ref t3, .ref t4]) ++ [V.ref t5, .ref t6, .ref t7]) ++ [V.ref t8, .ref t9])) = G17 at s17 e17 ⊢
    have sAll : Same H2 G17 := fun b o e => s17 _ _ (s16 _ _ (s15 _ _ (s14 _ _ (s13 _ _ (s12 _ _ (s11 _ _ (s10 _ _ (s9 _ _ (s8 _ _ (s7 _ _ (s6 _ _ (s5 _ _ (s4 _ _ (s3 _ _ (s2 _ _ (s1 _ _ (e)))))))))))))))))
    have f0 : G17 t0 = some (.tup (Ent.swap nm 5 o far).vals) := s17 _ _ (s16 _ _ (s15 _ _ (s14 _ _ (s13 _ _ (s12 _ _ (s11 _ _ (s10 _ _ (s9 _ _ (s8 _ _ (s7 _ _ (s6 _ _ (s5 _ _ (s4 _ _ (s3 _ _ (s2 _ _ (e1))))))))))))))))
    have f1 : G17 t1 = some (.tup (Ent.swap nm 5 far o).vals) := s17 _ _ (s16 _ _ (s15 _ _ (s14 _ _ (s13 _ _ (s12 _ _ (s11 _ _ (s10 _ _ (s9 _ _ (s8 _ _ (s7 _ _ (s6 _ _ (s5 _ _ (s4 _ _ (s3 _ _ (e2)))))))))))))))
    have f2 : G17 t2 = some (.tup (Ent.look nm 0 g far).vals) := s17 _ _ (s16 _ _ (s15 _ _ (s14 _ _ (s13 _ _ (s12 _ _ (s11 _ _ (s10 _ _ (s9 _ _ (s8 _ _ (s7 _ _ (s6 _ _ (s5 _ _ (s4 _ _ (e3))))))))))))))
    have f3 : G17 t3 = some (.tup (Ent.move nm 5 g far o 1).vals) := s17 _ _ (s16 _ _ (s15 _ _ (s14 _ _ (s13 _ _ (s12 _ _ (s11 _ _ (s10 _ _ (s9 _ _ (s8 _ _ (s7 _ _ (s6 _ _ (e5))))))))))))
    have f4 : G17 t4 = some (.tup (Ent.move nm 9999 g o far 1).vals) := s17 _ _ (s16 _ _ (s15 _ _ (s14 _ _ (s13 _ _ (s12 _ _ (s11 _ _ (s10 _ _ (s9 _ _ (s8 _ _ (s7 _ _ (e6)))))))))))
    have f5 : G17 t5 = some (.tup (Ent.some_ nm 5 g o far).vals) := s17 _ _ (s16 _ _ (s15 _ _ (s14 _ _ (s13 _ _ (s12 _ _ (s11 _ _ (s10 _ _ (e9))))))))
    have f6 : G17 t6 = some (.tup (Ent.go nm 5 g far 1).vals) := s17 _ _ (s16 _ _ (s15 _ _ (s14 _ _ (s13 _ _ (s12 _ _ (s11 _ _ (e10)))))))
    have f7 : G17 t7 = some (.tup (Ent.some_ nm 5 g far "").vals) := s17 _ _ (s16 _ _ (s15 _ _ (s14 _ _ (s13 _ _ (s12 _ _ (e11))))))
    have f8 : G17 t8 = some (.tup (Ent.look nm 5 kind o).vals) := s17 _ _ (s16 _ _ (s15 _ _ (e14)))
    have f9 : G17 t9 = some (.tup (Ent.come nm 5 kind o 1 1).vals) := s17 _ _ (s16 _ _ (e15))
    have pn := pen2.same sAll
    refine ⟨_, rfl, _, rfl, _, rfl, A3, _, rfl, .inl (SqL.of e17), p, c, n + 1 + 1, 10, rfl, pn, by omega, by decide, by decide, fun r3 H3 a3 b3 pen3 bt3 => ?_⟩
    obtain ⟨v, hv, mv⟩ := at_ex (xs := (([V.ref t0, .ref t1, .ref t2] ++ [V.ref t3, .ref t4]) ++ [V.ref t5, .ref t6, .ref t7]) ++ [V.ref t8, .ref t9]) a3 b3
    refine ⟨A3, _, r3, v, rfl, rfl, SqL.of (pen_keepL pn bt3 e17), hv, ?_⟩
    have bt := bt1.tr (bt2.tr ((But.of sAll).tr bt3))
    have fin : ∀ (a : Addr) (e : Ent), H3 a = some (.tup e.vals) → (∀ P' G' : List Str, (∀ y, y ∈ P' ↔ y ∈ Ps) → (∀ y, y ∈ G' ↔ y ∈ Gs) → ofB e P' G' = false) → (∀ v ∈ e.vals, PartS v) → Q (.ref a) H3 := fun a e h b s => q a H3 ⟨e, h, b, s⟩ pen3 bt
    have noe : far ≠ "" := name_ne nfar
    have badP : ∀ e : Ent, far ∈ e.places → ∀ P' G' : List Str, (∀ y, y ∈ P' ↔ y ∈ Ps) → (∀ y, y ∈ G' ↔ y ∈ Gs) → ofB e P' G' = false := fun e h P' G' h1 _ => by
      refine Bool.eq_false_iff.mpr fun z => nf ?_
      have := List.all_eq_true.mp (Bool.and_eq_true_iff.mp z).2 far h
      exact (h1 far).mp (of_decide_eq_true this)
    have badG : ∀ e : Ent, e.goodV = .str kind → ∀ P' G' : List Str, (∀ y, y ∈ P' ↔ y ∈ Ps) → (∀ y, y ∈ G' ↔ y ∈ Gs) → ofB e P' G' = false := fun e h P' G' _ h2 => by
      refine Bool.eq_false_iff.mpr fun z => nk ?_
      have := (Bool.and_eq_true_iff.mp z).1
      unfold goodOk at this
      rw [h] at this
      exact (h2 kind).mp (of_decide_eq_true this)
    have sNm : ∀ {y : Str}, nameB y = true → PartS (.str y) := fun {y} h => .inl ⟨y, rfl, by have := name_len h; omega, name_ok h⟩
    have sN := sNm nn
    have sO := sNm (nmP o mo)
    have sG := sNm (nmG g mg')
    have sF := sNm nfar
    have sK := sNm nkind
    have sI : ∀ i : Int, i.natAbs < 10 ^ 12 → PartS (.int i) := fun i h => .inr ⟨i, rfl, h⟩
    have sW : ∀ z : Str, z.length ≤ 60 → PyData.strOk z = true → PartS (.str z) := fun z h ok => .inl ⟨z, rfl, h, ok⟩
    simp only [List.cons_append, List.nil_append, List.mem_cons, List.not_mem_nil, or_false] at mv
    rcases mv with rfl | rfl | rfl | rfl | rfl | rfl | rfl | rfl | rfl | rfl
    · exact fin t0 (Ent.swap nm 5 o far) (pen_keep pn bt3 f0) (badP _ (by simp [Ent.places])) (fun v hv => by
        simp only [Ent.vals, Ent.word, Ent.name, Ent.moment, Ent.rest, List.mem_cons, List.not_mem_nil, or_false] at hv
        rcases hv with rfl | rfl | rfl | rfl | rfl <;> first | exact sN | exact sO | exact sG | exact sF | exact sK | exact sI _ (by decide) | exact sW _ (by decide +kernel) (by decide +kernel))
    · exact fin t1 (Ent.swap nm 5 far o) (pen_keep pn bt3 f1) (badP _ (by simp [Ent.places])) (fun v hv => by
        simp only [Ent.vals, Ent.word, Ent.name, Ent.moment, Ent.rest, List.mem_cons, List.not_mem_nil, or_false] at hv
        rcases hv with rfl | rfl | rfl | rfl | rfl <;> first | exact sN | exact sO | exact sG | exact sF | exact sK | exact sI _ (by decide) | exact sW _ (by decide +kernel) (by decide +kernel))
    · exact fin t2 (Ent.look nm 0 g far) (pen_keep pn bt3 f2) (badP _ (by simp [Ent.places])) (fun v hv => by
        simp only [Ent.vals, Ent.word, Ent.name, Ent.moment, Ent.rest, List.mem_cons, List.not_mem_nil, or_false] at hv
        rcases hv with rfl | rfl | rfl | rfl | rfl <;> first | exact sN | exact sO | exact sG | exact sF | exact sK | exact sI _ (by decide) | exact sW _ (by decide +kernel) (by decide +kernel))
    · exact fin t3 (Ent.move nm 5 g far o 1) (pen_keep pn bt3 f3) (badP _ (by simp [Ent.places])) (fun v hv => by
        simp only [Ent.vals, Ent.word, Ent.name, Ent.moment, Ent.rest, List.mem_cons, List.not_mem_nil, or_false] at hv
        rcases hv with rfl | rfl | rfl | rfl | rfl | rfl | rfl <;> first | exact sN | exact sO | exact sG | exact sF | exact sK | exact sI _ (by decide) | exact sW _ (by decide +kernel) (by decide +kernel))
    · exact fin t4 (Ent.move nm 9999 g o far 1) (pen_keep pn bt3 f4) (badP _ (by simp [Ent.places])) (fun v hv => by
        simp only [Ent.vals, Ent.word, Ent.name, Ent.moment, Ent.rest, List.mem_cons, List.not_mem_nil, or_false] at hv
        rcases hv with rfl | rfl | rfl | rfl | rfl | rfl | rfl <;> first | exact sN | exact sO | exact sG | exact sF | exact sK | exact sI _ (by decide) | exact sW _ (by decide +kernel) (by decide +kernel))
    · exact fin t5 (Ent.some_ nm 5 g o far) (pen_keep pn bt3 f5) (badP _ (by simp [Ent.places, noe])) (fun v hv => by
        simp only [Ent.vals, Ent.word, Ent.name, Ent.moment, Ent.rest, List.mem_cons, List.not_mem_nil, or_false] at hv
        rcases hv with rfl | rfl | rfl | rfl | rfl | rfl <;> first | exact sN | exact sO | exact sG | exact sF | exact sK | exact sI _ (by decide) | exact sW _ (by decide +kernel) (by decide +kernel))
    · exact fin t6 (Ent.go nm 5 g far 1) (pen_keep pn bt3 f6) (badP _ (by simp [Ent.places])) (fun v hv => by
        simp only [Ent.vals, Ent.word, Ent.name, Ent.moment, Ent.rest, List.mem_cons, List.not_mem_nil, or_false] at hv
        rcases hv with rfl | rfl | rfl | rfl | rfl | rfl <;> first | exact sN | exact sO | exact sG | exact sF | exact sK | exact sI _ (by decide) | exact sW _ (by decide +kernel) (by decide +kernel))
    · exact fin t7 (Ent.some_ nm 5 g far "") (pen_keep pn bt3 f7) (badP _ (by simp [Ent.places, noe])) (fun v hv => by
        simp only [Ent.vals, Ent.word, Ent.name, Ent.moment, Ent.rest, List.mem_cons, List.not_mem_nil, or_false] at hv
        rcases hv with rfl | rfl | rfl | rfl | rfl | rfl <;> first | exact sN | exact sO | exact sG | exact sF | exact sK | exact sI _ (by decide) | exact sW _ (by decide +kernel) (by decide +kernel))
    · exact fin t8 (Ent.look nm 5 kind o) (pen_keep pn bt3 f8) (badG _ rfl) (fun v hv => by
        simp only [Ent.vals, Ent.word, Ent.name, Ent.moment, Ent.rest, List.mem_cons, List.not_mem_nil, or_false] at hv
        rcases hv with rfl | rfl | rfl | rfl | rfl <;> first | exact sN | exact sO | exact sG | exact sF | exact sK | exact sI _ (by decide) | exact sW _ (by decide +kernel) (by decide +kernel))
    · exact fin t9 (Ent.come nm 5 kind o 1 1) (pen_keep pn bt3 f9) (badG _ rfl) (fun v hv => by
        simp only [Ent.vals, Ent.word, Ent.name, Ent.moment, Ent.rest, List.mem_cons, List.not_mem_nil, or_false] at hv
        rcases hv with rfl | rfl | rfl | rfl | rfl | rfl | rfl <;> first | exact sN | exact sO | exact sG | exact sF | exact sK | exact sI _ (by decide) | exact sW _ (by decide +kernel) (by decide +kernel))
end
/-! ### an entry with a bool in a number's place -/
theorem op_catW {X : Cx} : OpR X (binaryOp .Add) (fun x y H Q => ∃ (a b : Addr) (xs ys : List V), x = .ref a ∧ y = .ref b ∧ H a = some (.tup xs) ∧ H b = some (.tup ys) ∧ xs.length + ys.length ≤ 30 ∧
    ∀ (t : Addr) (H' : Hp), Same H H' → H' t = some (.tup (xs ++ ys)) → Q (.ref t) H') := by
  rintro pins s σ H x y v u Q I rx ry ⟨a, b, xs, ys, rfl, rfl, ha, hb, hz, q⟩
  refine op_catA pins s σ H _ _ v u Q I rx ry ⟨a, b, xs, ys, rfl, rfl, SqT.of ha, SqT.of hb, Nat.le_of_lt (small1000 (by omega)), fun z => q b H (fun _ _ e => e) ?_, fun _ z => q a H (fun _ _ e => e) ?_, fun _ _ p np => q p _ (same_new np) upd_same⟩
  · rw [hb, z]
    rfl
  · rw [ha, z, List.append_nil]
def dB : V → PyData
  | .str z => .str z
  | .int i => .int i
  | .bl b => .bool b
  | _ => .none
def PartB (v : V) : Prop := PartS v ∨ ∃ b, v = .bl b
theorem lay_B : ∀ {us : List V}, (∀ u ∈ us, PartB u) → PyData.canLayAll0 (us.map dB) = true
  | [], _ => rfl
  | u :: us, h => by
    have ih := lay_B fun x hx => h x (List.mem_cons_of_mem _ hx)
    rw [List.map_cons, PyData.canLayAll0, ih]
    rcases h u List.mem_cons_self with h | ⟨b, rfl⟩
    · rcases h with ⟨z, rfl, _, ok⟩ | ⟨i, rfl, _⟩
      · show ((PyData.str z).canLay0 && true) = true
        rw [PyData.canLay0, ok]
        rfl
      · show ((PyData.int i).canLay0 && true) = true
        simp [PyData.canLay0]
    · show ((PyData.bool b).canLay0 && true) = true
      simp [PyData.canLay0]
theorem deep_B : ∀ {us : List V}, (∀ u ∈ us, PartB u) → PyData.depthAll (us.map dB) = 0
  | [], _ => rfl
  | u :: us, h => by
    have ih := deep_B fun x hx => h x (List.mem_cons_of_mem _ hx)
    rw [List.map_cons, PyData.depthAll, ih]
    rcases h u List.mem_cons_self with h | ⟨b, rfl⟩
    · rcases h with ⟨z, rfl, _, ok⟩ | ⟨i, rfl, _⟩ <;> simp [dB, PyData.depth]
    · simp [dB, PyData.depth]
theorem dp_B {K : PySem.W.Frag} {H : Hp} : ∀ {us : List V}, (∀ u ∈ us, PartB u) → DpAll K H us (us.map dB)
  | [], _ => .nil
  | u :: us, h => by
    refine .cons ?_ (dp_B fun x hx => h x (List.mem_cons_of_mem _ hx))
    rcases h u List.mem_cons_self with h | ⟨b, rfl⟩
    · rcases h with ⟨z, rfl, _, ok⟩ | ⟨i, rfl, _⟩
      · exact .str z
      · exact .int i
    · exact .bl b
/-- a tuple that holds a bool, texts and numbers -/
def TwinAt (H : Hp) (a : Addr) (us : List V) : Prop := H a = some (.tup us) ∧ us.length ≤ 20 ∧ (∀ u ∈ us, PartB u) ∧ ∃ b, V.bl b ∈ us
def TwL (H : Hp) (as : List (Addr × List V)) : Prop := ∀ x ∈ as, TwinAt H x.1 x.2
theorem TwL.dp {K : PySem.W.Frag} {H : Hp} : ∀ {as : List (Addr × List V)}, TwL H as → DpAll K H (as.map fun x => V.ref x.1) (as.map fun x => .tuple (x.2.map dB)) ∧ PyData.canLayAll0 (as.map fun x => PyData.tuple (x.2.map dB)) = true ∧ PyData.depthAll (as.map fun x => PyData.tuple (x.2.map dB)) ≤ 1
  | [], _ => ⟨.nil, rfl, Nat.zero_le _⟩
  | x :: as, h => by
    obtain ⟨h1, _, h2, _⟩ := h x List.mem_cons_self
    obtain ⟨i1, i2, i3⟩ := TwL.dp (K := K) fun y hy => h y (List.mem_cons_of_mem _ hy)
    refine ⟨.cons (.tup (SqT.of h1) (dp_B h2)) i1, ?_, ?_⟩
    · rw [List.map_cons, PyData.canLayAll0, i2, PyData.canLay0, lay_B h2]
      rfl
    · rw [List.map_cons, PyData.depthAll, PyData.depth, deep_B h2]
      exact Nat.max_le.mpr ⟨by decide, i3⟩
theorem eqv_nilL (ds : List PyData) : PyData.eqv (.list ds) (.list []) = decide (ds = []) := by
  cases ds with
  | nil => simp [PyData.eqv, PyData.eqvAll]
  | cons y r => simp [PyData.eqv, PyData.eqvAll]
def spTwin : Sp := fun vs H Q _ => ∃ (p c l : Addr) (n : Nat) (ps : List (Addr × Ent)), vs = [.ref p, .ref l] ∧ PenAt H p c n ∧ n ≤ 90000 ∧ H l = some (.lst (ps.map fun x => V.ref x.1)) ∧ (∀ x ∈ ps, H x.1 = some (.tup x.2.vals) ∧ ∀ v ∈ x.2.vals, PartS v) ∧ ps.length ≤ 31 ∧
  ∀ (v : V) (H' : Hp), (v = .non ∨ ∃ a us, v = .ref a ∧ TwinAt H' a us) → PenAt H' p c (n + 1) → But p H H' → Q v H'
section
variable {P : Program} {w : World} {K : PySem.W.Frag} {mg : Str → Option Value} {base : Heap}
abbrev sTwinN : List Str := ["_law_pen_here", "_law_entries", "_law_some", "_law_entry_here", "_law_at"]
theorem sc_sTwin : FnScope sTwinN ["_law_pen_here", "_law_entries"] (defScope sTwin) := ⟨rfl, rfl, rfl, by decide +kernel, rfl, by decide +kernel, by decide +kernel⟩
set_option maxHeartbeats 4000000 in
theorem ok_twin {f fT : Addr} {fd dT : FuncData} (F : Fun K "_law_twin" "_law_twin" sTwin f fd) (T : TakeT P w K mg base fT dT) (ml : mg "len" = none) (mr : mg "range" = none) (mis : mg "isinstance" = none) (mT_int : mg "int" = none) : FnOk P w K mg base CX0 2 f fd ["_law_pen_here", "_law_entries"] spTwin := by
  refine F.ok sc_sTwin (fun vs H Q E h => ?_) (fun cdv A outer s H vs Q E hr h => ?_)
  · obtain ⟨p, c, l, n, ps, rfl, _⟩ := h
    rfl
  · obtain ⟨p, c, l, n, ps, rfl, pen, hn, hl, hE, l31, q⟩ := h
    have hr1 : Room 1 _ := hr.mono (by decide)
    have nd := sc_sTwin.nd
    refine ⟨_, pss_cons (ps_set (i := 2) nd rfl (Or.inl rfl) (pe_lst pa_nil))
      (pss_cons (ps_for PassesOwn.never rfl (pi_list (pv 1)) (pg_name (i := 3) nd rfl (Or.inl rfl))
        (pss_one (ps_for PassesOwn.never rfl (pi_range2 rfl mr (pa_cons pe_int (pa_cons (pe_callB call_len_seq (by rfl) ml PySem.boot_len (pa_cons (pv 3) pa_nil)) pa_nil))) (pg_name (i := 4) nd rfl (Or.inl rfl))
          (pss_one (ps_if (PW.pt (pw_and (pt_val (pe_callB call_isi (by rfl) mis (by decide +kernel) (pa_cons (pe_ix ix_tup (pv 3) (pv 4) (fun _ _ => rfl)) (pa_cons (pe_bltn (v := .ty "int") (u := .type "int") (by rfl) mT_int (by decide +kernel) rfl) pa_nil)))) (pw_and1 (pt_cmpR op_in_seq (pe_ix ix_tup (pv 3) (pv 4) (fun _ _ => rfl)) (pe_tup (pa_cons pe_int (pa_cons pe_int pa_nil))) (by rfl))))) (pss_one (ps_expr (pe_bm PySem.F.plainAttrs_list PySem.F.slot_list_append PySem.F.type_list_append mt_append (pv 2) (pa_cons (pe_op op_catW (pe_op op_catW (pe_slice sl_S (pv 3) po_none (po_some (pv 4))) (pe_tup (pa_cons (pe_cmpR op_eq (pe_ix ix_tup (pv 3) (pv 4) (fun _ _ => rfl)) pe_int (nomark _)) pa_nil))) (pe_slice sl_S (pv 3) (po_some (pe_op op_add (pv 4) pe_int)) po_none)) pa_nil)))) pss_nil)))))
      (pss_cons (ps_if (pt_cmpR (op_eqD hr.units) (pv 2) (pe_lst pa_nil) (nomark _)) (pss_one (ps_ret pe_non)) pss_nil)
      (pss_one (ps_ret (pe_ix ix_list (pv 2) (pe_call T.ok hr (by rfl) T.g T.kp T.b .nil pass0 (pa_cons (pv 0) (pa_cons (pe_callB call_len_seq (by rfl) ml PySem.boot_len (pa_cons (pv 2) pa_nil)) pa_nil))) (fun _ _ => rfl)))))), ?_⟩
    refine ⟨Nat.zero_le _, fun D nD => ?_⟩
    have sD := @same_new _ _ (.lst []) nD
    have eD := @upd_same H D (.lst [])
    generalize upd H D (.lst []) = H1 at sD eD ⊢
    refine ⟨_, rfl, l, rfl, ⟨_, SqL.of (sD _ _ hl)⟩, for_list (K := K) (a := l) (xs := ps.map fun x => V.ref x.1) (fun i σ H' => ∃ y3 y4 as, σ = [some (.ref p), some (.ref l), some (.ref D), y3, y4] ∧ Same H H' ∧ H' D = some (.lst (List.map (fun x : Addr × List V => V.ref x.1) as)) ∧ TwL H' as ∧ as.length ≤ i * 7) ⟨_, _, [], rfl, sD, eD, (fun x hx => nomatch hx), Nat.zero_le _⟩ (fun i σ H' _ h => ?_) ?_ ?_⟩
    · obtain ⟨_, _, _, _, s, _⟩ := h
      exact SqL.of (s _ _ hl)
    · rintro i x σ H2 hx ⟨y3, y4, as, rfl, s2, hD2, tw2, la⟩
      rw [List.getElem?_map] at hx
      obtain ⟨e, hy, rfl⟩ := Option.map_eq_some_iff.mp hx
      have me := List.mem_of_getElem? hy
      obtain ⟨he, pe⟩ := hE e me
      have l7 := vals_len_e e.2
      have lx : i < 31 := by
        have := (List.getElem?_eq_some_iff.mp hy).1
        omega
      have sq : ∀ {G : Hp}, Same H G → SqT K G e.1 e.2.vals := fun s => SqT.of (s _ _ he)
      have vl : ((e.2.vals.length : Int) - 2).toNat ≤ 5 := by omega
      refine ⟨_, rfl, e.1, _, rfl, .inr (sq s2), 2, (e.2.vals.length : Int), rfl, ⟨by decide, by decide, by omega, by omega⟩, for_range (lo := 2) (n := ((e.2.vals.length : Int) - 2).toNat) (fun j σ H' => ∃ y4 as, σ = [some (.ref p), some (.ref l), some (.ref D), some (.ref e.1), y4] ∧ Same H H' ∧ H' D = some (.lst (List.map (fun x : Addr × List V => V.ref x.1) as)) ∧ TwL H' as ∧ as.length ≤ i * 7 + j) ⟨_, as, rfl, s2, hD2, tw2, la⟩ ?_ ?_⟩
      · rintro j σ H3 hj ⟨z4, bs, rfl, s3, hD3, tw3, lb⟩
        have lk : 2 + j < e.2.vals.length := by omega
        have hk : e.2.vals[2 + j]? = some (e.2.vals[2 + j]) := List.getElem?_eq_getElem lk
        have at2 : atI e.2.vals (2 + (j : Int)) = some (e.2.vals[2 + j]) := by
          have := atI_nat (j := 2 + j) hk
          rw [show ((2 + j : Nat) : Int) = 2 + (j : Int) by omega] at this
          exact this
        have pk := pe _ (List.mem_of_getElem? hk)
        generalize e.2.vals[2 + j] = v at hk at2 pk
        rcases pk with ⟨z, rfl, _, _⟩ | ⟨x, rfl, hx⟩
        · exact ⟨_, rfl, _, rfl, e.1, _, 2 + (j : Int), _, rfl, rfl, sq s3, at2, _, _, _, _, false, rfl, .ty "int", .base (.str z), kit_ty (by decide +kernel), _, rfl, iteF ⟨_, bs, rfl, s3, hD3, tw3, by omega⟩⟩
        refine ⟨_, rfl, _, rfl, e.1, _, 2 + (j : Int), _, rfl, rfl, sq s3, at2, _, _, _, _, true, rfl, .ty "int", .base (.int x), kit_ty (by decide +kernel), _, rfl, iteT ?_⟩
        refine ⟨_, rfl, _, rfl, e.1, _, 2 + (j : Int), _, rfl, rfl, sq s3, at2, (by show 2 ≤ sizeLine; decide), fun tq ntq => ?_⟩
        have s4 := @same_new _ _ (.tup [V.int 0, .int 1]) ntq
        have e4 := @upd_same H3 tq (.tup [V.int 0, .int 1])
        generalize upd H3 tq (.tup [V.int 0, .int 1]) = H4 at s4 e4 ⊢
        have s34 := s3.trans s4
        have tw4 : TwL H4 bs := fun x hx => ⟨s4 _ _ (tw3 x hx).1, (tw3 x hx).2⟩
        refine ⟨tq, _, rfl, .inr (SqT.of e4), rfl, rfl, _, rfl, ite2 (fun _ => ?_) (fun _ => ?_)⟩
        rotate_left
        · exact ⟨_, bs, rfl, s34, s4 _ _ hD3, tw4, by omega⟩
        refine ⟨_, rfl, .inl ⟨rfl, _, SqL.of (s4 _ _ hD3)⟩, ?_⟩
        refine ⟨_, rfl, _, rfl, 2 + (j : Int), rfl, e.1, _, rfl, s34 _ _ he, fun t5 H5 s5 h5 => ?_⟩
        have s35 := s34.trans s5
        refine ⟨_, rfl, _, rfl, e.1, _, 2 + (j : Int), _, rfl, rfl, sq s35, at2, rfl, (by show 1 ≤ sizeLine; decide), fun t6 nt6 => ?_⟩
        have s6 := @same_new _ _ (.tup [V.bl (decide (V.int x = V.int 1))]) nt6
        have h6 := @upd_same H5 t6 (.tup [V.bl (decide (V.int x = V.int 1))])
        generalize upd H5 t6 (.tup [V.bl (decide (V.int x = V.int 1))]) = H6 at s6 h6 ⊢
        have cl : ∀ {lo hi}, (cutV e.2.vals lo hi).length ≤ 7 := fun {lo hi} => Nat.le_trans (cutV_length _ _ _) l7.2
        refine ⟨t5, t6, _, _, rfl, rfl, s6 _ _ h5, h6, (by have := @cl none (some (2 + (j : Int))); simp only [List.length_cons, List.length_nil]; omega), fun t7 H7 s7 h7 => ?_⟩
        refine ⟨_, rfl, _, rfl, 2 + (j : Int), 1, rfl, rfl, _, rfl, e.1, _, rfl, s7 _ _ (s6 _ _ (s35 _ _ he)), fun t8 H8 s8 h8 => ?_⟩
        refine ⟨t7, t8, _, _, rfl, rfl, s8 _ _ h7, h8, (by have := @cl none (some (2 + (j : Int))); have := @cl (some (2 + (j : Int) + 1)) none; rw [List.length_append]; simp only [List.length_cons, List.length_nil]; omega), fun t9 H9 s9 h9 => ?_⟩
        have s49 := s5.trans (s6.trans (s7.trans (s8.trans s9)))
        have hD9 := s49 _ _ (s4 _ _ hD3)
        have s39 := s34.trans s49
        have ne9 : t9 ≠ D := ne_of h9 hD9 (fun z => nomatch z)
        have sF : Same H (upd H9 D (.lst ((List.map (fun x : Addr × List V => V.ref x.1) bs) ++ [V.ref t9]))) := fun b o eb => by
          rw [upd_ne (fun w => by rw [w, nD] at eb; exact nomatch eb)]
          exact s39 _ _ eb
        refine ⟨D, _, _, rfl, rfl, hD9, (by rw [List.length_map]; exact small1000 (by omega)), ⟨_, bs ++ [(t9, cutV e.2.vals none (some (2 + (j : Int))) ++ [V.bl (decide (V.int x = V.int 1))] ++ cutV e.2.vals (some (2 + (j : Int) + 1)) none)], rfl, sF, ?_, fun x hx => ?_, by rw [List.length_append]; simp only [List.length_cons, List.length_nil]; omega⟩⟩
        · rw [upd_same, List.map_append]
          rfl
        · rcases List.mem_append.mp hx with hx | hx
          · have hx9 := s49 _ _ (tw4 x hx).1
            exact ⟨(upd_ne (ne_of hx9 hD9 (fun z => nomatch z))).trans hx9, (tw4 x hx).2⟩
          · rw [List.mem_singleton.mp hx]
            have cm : ∀ {lo hi}, ∀ u ∈ cutV e.2.vals lo hi, PartB u := fun {lo hi} u hu => .inl (pe u (List.mem_of_mem_drop (List.mem_of_mem_take hu)))
            refine ⟨(upd_ne ne9).trans h9, ?_, fun u hu => ?_, ⟨_, List.mem_append_left _ (List.mem_append_right _ (List.mem_singleton.mpr rfl))⟩⟩
            · have := @cl none (some (2 + (j : Int)))
              have := @cl (some (2 + (j : Int) + 1)) none
              rw [List.length_append, List.length_append]
              simp only [List.length_cons, List.length_nil]
              omega
            · rcases List.mem_append.mp hu with hu | hu
              · rcases List.mem_append.mp hu with hu | hu
                · exact cm u hu
                · rw [List.mem_singleton.mp hu]
                  exact .inr ⟨_, rfl⟩
              · exact cm u hu
      · rintro σ H3 ⟨z4, bs, rfl, s3, hD3, tw3, lb⟩
        exact ⟨_, _, bs, rfl, s3, hD3, tw3, by omega⟩
    · rintro σ H2 ⟨y3, y4, as, rfl, s2, hD2, tw2, la⟩
      have la' : as.length ≤ 217 := by
        rw [List.length_map] at la
        omega
      refine ⟨_, rfl, Nat.zero_le _, fun u3 nu3 => ?_⟩
      have s3 := @same_new _ _ (.lst []) nu3
      have e3 := @upd_same H2 u3 (.lst [])
      generalize upd H2 u3 (.lst []) = H3 at s3 e3 ⊢
      have s23 := s2.trans s3
      have hD3 := s3 _ _ hD2
      have tw3 : TwL H3 as := fun x hx => ⟨s3 _ _ (tw2 x hx).1, (tw2 x hx).2⟩
      obtain ⟨d1, d2, d3⟩ := tw3.dp (K := K)
      refine ⟨_, _, .lst (SqL.of hD3) d1, .lst (SqL.of e3) .nil, ?_, by decide +kernel, ?_⟩
      · unfold SeqAt.shaped
        rw [PyData.canLay0, d2, Bool.true_and]
        refine decide_eq_true ?_
        rw [PyData.depth]
        exact Nat.le_trans (Nat.succ_le_succ d3) (by decide)
      rw [eqv_nilL]
      refine ⟨_, rfl, ite2 (fun _ => ?_) (fun ne => ?_)⟩
      · exact q .non H3 (.inl rfl) ((pen.same s23).mono (by omega)) (.of s23)
      · have na : as ≠ [] := fun z => ne (by rw [z]; exact decide_eq_true rfl)
        have l1 : 1 ≤ as.length := by cases as with | nil => exact absurd rfl na | cons a b => simp
        have pn := pen.same s23
        refine ⟨_, rfl, _, rfl, _, rfl, D, _, rfl, .inl (SqL.of hD3), p, c, n, _, rfl, pn, by omega, (by rw [List.length_map]; omega), (by rw [List.length_map]; omega), fun r H4 a4 b4 pen4 bt4 => ?_⟩
        obtain ⟨v, hv, mv⟩ := at_ex (xs := List.map (fun x : Addr × List V => V.ref x.1) as) a4 b4
        refine ⟨D, _, r, v, rfl, rfl, SqL.of (pen_keepL pn bt4 hD3), hv, ?_⟩
        obtain ⟨x, hx, rfl⟩ := List.mem_map.mp mv
        exact q _ H4 (.inr ⟨x.1, x.2, rfl, pen_keep pn bt4 (tw3 x hx).1, (tw3 x hx).2⟩) pen4 ((But.of s23).tr bt4)
end
/-! ### entries that are none, in a list of entries -/
theorem lay_V : ∀ {us : List V}, (∀ u ∈ us, PartS u) → PyData.canLayAll0 (us.map dV) = true ∧ PyData.depthAll (us.map dV) = 0
  | [], _ => ⟨rfl, rfl⟩
  | u :: us, h => by
    obtain ⟨i1, i2⟩ := lay_V fun x hx => h x (List.mem_cons_of_mem _ hx)
    rw [List.map_cons, PyData.canLayAll0, i1, PyData.depthAll, i2]
    rcases h u List.mem_cons_self with ⟨z, rfl, _, ok⟩ | ⟨i, rfl, _⟩
    · exact ⟨by show ((PyData.str z).canLay0 && true) = true
                rw [PyData.canLay0, ok]
                rfl, by show max (PyData.str z).depth 0 = 0
                        simp [PyData.depth]⟩
    · exact ⟨by show ((PyData.int i).canLay0 && true) = true
                simp [PyData.canLay0], by show max (PyData.int i).depth 0 = 0
                                          simp [PyData.depth]⟩
theorem shaped_ent {e : Ent} (h : ∀ v ∈ e.vals, PartS v) : SeqAt.shaped (entD e) = true := by
  obtain ⟨i1, i2⟩ := lay_V h
  unfold SeqAt.shaped entD
  rw [PyData.canLay0, i1, Bool.true_and, PyData.depth, i2]
  decide
theorem part_thg {H : Hp} {K : PySem.W.Frag} {v : V} (h : PartS v) : Thg H v ∧ ShQ K H v 100 1 := by
  rcases h with ⟨z, rfl, h, ok⟩ | ⟨i, rfl, h⟩
  · exact ⟨.str z (by omega), shq_str (by omega) ok⟩
  · exact ⟨.int i, shq_int (Nat.lt_trans h (by decide))⟩
/-- no entry at all: for any places and goods -/
def NoAny (H : Hp) (v : V) : Prop := ∀ P G : List Str, NoE H P G v
theorem no_sc {H : Hp} {v : V} (t : Thg H v) (n : ∀ a, v ≠ .ref a) : NoAny H v := fun P G => .inl ⟨t, fun a xs e => absurd e (n a)⟩
theorem no_lst {H : Hp} {a : Addr} {xs : List V} (h : H a = some (.lst xs)) : NoAny H (.ref a) := fun P G => .inl ⟨.lst h, fun a' xs' e z => by rw [← V.ref.inj e, h] at z; exact nomatch z⟩
theorem no_dct {H : Hp} {a : Addr} {kvs : List (Key × V)} (h : H a = some (.dK kvs)) : NoAny H (.ref a) := fun P G => .inl ⟨.dct h, fun a' xs' e z => by rw [← V.ref.inj e, h] at z; exact nomatch z⟩
theorem no_tup {H : Hp} {a : Addr} {xs : List V} (h : H a = some (.tup xs)) (l : xs.length ≤ 1000) (t : ∀ x ∈ xs, Thg H x) (n : ¬ IsE xs) : NoAny H (.ref a) := fun P G => .inr ⟨a, xs, rfl, h, l, t, fun ⟨e, fi, _, q⟩ => n ⟨e, fi, q⟩⟩
theorem isE_cut {e : Ent} {ps : List V} (l : ps.length ≠ e.sorts.length) : ¬ IsE (.str e.word :: ps) := fun h => l (isE_len h)
/-- one that is none among entries -/
theorem ents_no {H : Hp} {P G : List Str} {R : Addr} {us : List V} {v : V} (hR : LT H R us) (l : us.length ≤ 1000) (hu : ∀ u ∈ us, (∃ x, u = .ref x.1 ∧ OneE H P G x) ∨ NoE H P G u) (mv : v ∈ us) (nv : NoE H P G v) : EntsBad H P G (.ref R) := by
  refine .inr ⟨R, us, rfl, hR, l, hu, fun ts e hg _ => ?_⟩
  rw [e] at mv
  obtain ⟨x, hx, ex⟩ := List.mem_map.mp mv
  obtain ⟨g1, g2, g3, g4⟩ := hg x hx
  rcases nv with ⟨_, n⟩ | ⟨a, xs, ea, h1, _, _, n⟩
  · exact absurd g1 (n _ _ ex.symm)
  · rw [← V.ref.inj (ex.trans ea), g1] at h1
    exact absurd ⟨x.2, g2, g4, (HO.tup.inj (Option.some.inj h1)).symm⟩ n
/-- two unlike entries of one name -/
theorem ents_two {H : Hp} {P G : List Str} {R : Addr} {us : List V} {x y : Addr × Ent} (hR : LT H R us) (l : us.length ≤ 1000) (hu : ∀ u ∈ us, (∃ x, u = .ref x.1 ∧ OneE H P G x) ∨ NoE H P G u) (mx : V.ref x.1 ∈ us) (my : V.ref y.1 ∈ us)
    (hx : H x.1 = some (.tup x.2.vals)) (hy : H y.1 = some (.tup y.2.vals)) (en : x.2.name = y.2.name) (ne : x.2 ≠ y.2) : EntsBad H P G (.ref R) := by
  refine .inr ⟨R, us, rfl, hR, l, hu, fun ts e hg hc => ?_⟩
  rw [e] at mx my
  obtain ⟨x', hx', ex⟩ := List.mem_map.mp mx
  obtain ⟨y', hy', ey⟩ := List.mem_map.mp my
  have same : ∀ {z z' : Addr × Ent}, V.ref z'.1 = V.ref z.1 → H z.1 = some (.tup z.2.vals) → OneE H P G z' → z'.2 = z.2 := fun {z z'} e h o => by
    have h2 := o.1
    rw [V.ref.inj e, h] at h2
    exact (vals_inj (HO.tup.inj (Option.some.inj h2))).symm
  have e1 := same ex hx (hg x' hx')
  have e2 := same ey hy (hg y' hy')
  exact absurd (e1.symm.trans ((hc x' hx' y' hy' (by rw [e1, e2]; exact en)).trans e2)) ne
/-- the entry at another moment -/
def setM5 : Ent → Int → Ent
  | .come n _ g p k r, m => .come n m g p k r
  | .go n _ g p k, m => .go n m g p k
  | .move n _ g o t k, m => .move n m g o t k
  | .some_ n _ g o t, m => .some_ n m g o t
  | .swap n _ o t, m => .swap n m o t
  | .count n _ g p k h, m => .count n m g p k h
  | .look n _ g p, m => .look n m g p
theorem setM5_facts (e : Ent) (m : Int) : (setM5 e m).vals = e.vals.take 2 ++ [.int m] ++ e.vals.drop 3 ∧ (setM5 e m).name = e.name ∧ (setM5 e m).moment = m ∧ (setM5 e m).places = e.places ∧ (setM5 e m).goodV = e.goodV ∧ (setM5 e m).sorts = e.sorts := by
  cases e <;> exact ⟨rfl, rfl, rfl, rfl, rfl, rfl⟩
theorem setM5_fine {e : Ent} {m : Int} (f : e.Fine) (h0 : 0 ≤ m) (h1 : m ≤ 9999) : (setM5 e m).Fine := by
  obtain ⟨_, _, _, hp, _, hs⟩ := setM5_facts e m
  refine ⟨fun i v x hv hx => ?_, by rw [hp]; exact f.apart⟩
  rw [hs] at hx
  have s1 : e.sorts[1]? = some ("moment" : Str) := by cases e <;> rfl
  have m1 : (setM5 e m).parts[1]? = some (.int m) := by cases e <;> rfl
  by_cases i1 : i = 1
  · subst i1
    rw [m1] at hv
    rw [s1] at hx
    cases hv
    cases hx
    exact fit_moment h0 h1
  · refine f.fit i v x ?_ hx
    rw [← hv]
    match i, i1 with
    | 0, _ => cases e <;> rfl
    | i + 2, _ => cases e <;> rfl
/-! ### `_law_no_entries` -/
/-- entries that are some, in a list -/
structure EntL (H : Hp) (l : Addr) (ps : List (Addr × Ent)) (P G : List Str) : Prop where
  h : H l = some (.lst (ps.map fun x => V.ref x.1))
  ne : ps ≠ []
  le : ps.length ≤ 31
  e : ∀ x ∈ ps, H x.1 = some (.tup x.2.vals) ∧ x.2.Fine ∧ ofB x.2 P G = true
def SameN (P P' : List Str) : Prop := ∀ y, y ∈ P' ↔ y ∈ P
/-- what was told stays: tuples, and all that is new -/
def KpO (H3 G1 : Hp) : Prop := ∀ a us, H3 a = some (.tup us) → G1 a = some (.tup us)
def KpF (H H3 G1 : Hp) : Prop := ∀ a o, H a = none → H3 a = some o → G1 a = some o
/-- it holds too where a list that was there before, or the pen, has changed -/
def GdE (K : PySem.W.Frag) (H H' : Hp) (P G : List Str) (v : V) : Prop := ∀ G1 : Hp, KpO H' G1 → KpF H H' G1 → (∀ P' G', SameN P P' → SameN G G' → EntsBad G1 P' G' v) ∧ ShQ K G1 v 70000 4
def spNoEnts (K : PySem.W.Frag) : Sp := fun vs H Q _ => ∃ (p c l sm lp lg ls : Addr) (n : Nat) (ps : List (Addr × Ent)) (P G : List Str) (far kind : Str), vs = [.ref p, .ref l, .ref sm, .ref ls] ∧ PenAt H p c n ∧ n ≤ 80000 ∧ EntL H l ps P G ∧ H sm = some (.tup [.ref lp, .ref lg]) ∧ StrsAt H lp P ∧ StrsAt H lg G ∧ H ls = some (.tup [.str far, .str kind]) ∧
  P ≠ [] ∧ G ≠ [] ∧ P.length ≤ 31 ∧ G.length ≤ 31 ∧ far ∉ P ∧ kind ∉ G ∧ nameB far = true ∧ nameB kind = true ∧ (∀ y ∈ P, nameB y = true) ∧ (∀ y ∈ G, nameB y = true) ∧
  ∀ (v : V) (H' : Hp), GdE K H H' P G v → PenAt H' p c (n + 20) → But p H H' → Q v H'
theorem noSeq_sc {H : Hp} {v : V} (t : Thg H v) (n : ∀ a, v ≠ .ref a) : NoSeq H v := ⟨.inl t, fun a xs e => absurd e (n a), fun a xs e => absurd e (n a)⟩
theorem noSeq_dK {H : Hp} {a : Addr} {kvs : List (Key × V)} (h : H a = some (.dK kvs)) : NoSeq H (.ref a) := ⟨.inl (.dct h), (fun a' xs e z => by rw [← V.ref.inj e, h] at z; exact nomatch z), (fun a' xs e z => by rw [← V.ref.inj e, h] at z; exact nomatch z)⟩
theorem noSeq_dT {H : Hp} {a : Addr} {kvs : List (List Key × V)} (h : H a = some (.dT kvs)) : NoSeq H (.ref a) := ⟨.inr ⟨a, kvs, rfl, h⟩, (fun a' xs e z => by rw [← V.ref.inj e, h] at z; exact nomatch z), (fun a' xs e z => by rw [← V.ref.inj e, h] at z; exact nomatch z)⟩
def keyOf : V → Key
  | .int i => .inl i
  | .str z => .inr z
  | _ => .inl 0
theorem keys_vals {us : List V} (h : ∀ u ∈ us, PartS u) : us = (us.map keyOf).map kV := by
  induction us with
  | nil => rfl
  | cons u us ih =>
    rw [List.map_cons, List.map_cons, ← ih fun x hx => h x (List.mem_cons_of_mem _ hx)]
    rcases h u List.mem_cons_self with ⟨z, rfl, _, _⟩ | ⟨i, rfl, _⟩ <;> rfl
theorem keyD_PartS {k : Key} (h : PartS (kV k)) : (keyD k).showable = true ∧ (keyD k).leavesShort 70 = true ∧ (keyD k).bulk ≤ 100 ∧ (keyD k).depth = 0 := by
  have sh : ∀ z : Str, z.length ≤ 60 → PyData.strOk z = true → (PyData.str z).leavesShort 70 = true := fun z hz ok => by
    obtain ⟨d, q, a, b, c, e⟩ := shq_str (K := []) (H := fun _ => none) (n := 60) (k := 0) hz ok
    cases q
    exact b
  cases k with
  | inl i =>
    rcases h with ⟨z, e, _, _⟩ | ⟨j, e, hj⟩
    · exact nomatch e
    · have e' : i = j := V.int.inj e
      subst e'
      have i1 := int_shown5 (Nat.lt_trans hj (by decide : (10 : Nat) ^ 12 < 10 ^ 60))
      exact ⟨decide_eq_true i1.2, decide_eq_true i1.1, Nat.zero_le _, by simp [keyD, PyData.depth]⟩
  | inr z =>
    rcases h with ⟨z', e, h1, h2⟩ | ⟨j, e, _⟩
    · have e' : z = z' := V.str.inj e
      subst e'
      exact ⟨rfl, sh z h1 h2, by show z.cps.size ≤ 100; exact Nat.le_trans h1 (by decide), by simp [keyD, PyData.depth]⟩
    · exact nomatch e
theorem keysD_all : ∀ {ks : List Key}, (∀ k ∈ ks, PartS (kV k)) → PyData.showableAll (ks.map keyD) = true ∧ PyData.leavesShortAll 70 (ks.map keyD) = true ∧ PyData.bulkAll (ks.map keyD) ≤ ks.length * 101 ∧ PyData.depthAll (ks.map keyD) = 0
  | [], _ => ⟨rfl, rfl, by simp [PyData.bulkAll], rfl⟩
  | k :: ks, h => by
    obtain ⟨a, b, c, d⟩ := keyD_PartS (h k List.mem_cons_self)
    obtain ⟨a2, b2, c2, d2⟩ := keysD_all fun x hx => h x (List.mem_cons_of_mem _ hx)
    rw [List.map_cons]
    refine ⟨by simp [PyData.showableAll, a, a2], by simp [PyData.leavesShortAll, b, b2], ?_, by simp [PyData.depthAll, d, d2]⟩
    simp only [PyData.bulkAll, List.length_cons, Nat.succ_mul]
    omega
theorem shq_dT1 {K : PySem.W.Frag} {H : Hp} {a : Addr} {ks : List Key} {i : Int} (h : H a = some (.dT [(ks, .int i)])) (hk : ∀ k ∈ ks, PartS (kV k)) (lk : ks.length ≤ 8) (hi : i.natAbs < 10 ^ 60) : ShQ K H (.ref a) 1000 2 := by
  obtain ⟨a1, b, c, d⟩ := keysD_all hk
  have i1 := int_shown5 hi
  refine ⟨_, .dtt (D := [(.tuple (ks.map keyD), .int i)]) h (.cons (.int i) .nil) rfl, ?_, ?_, ?_, ?_⟩
  · simp [PyData.showable, PyData.showableKv, a1, i1.2]
  · simp only [PyData.leavesShort, PyData.leavesShortKv, Bool.and_true]
    rw [Bool.and_eq_true]
    exact ⟨b, decide_eq_true i1.1⟩
  · simp only [PyData.bulk, PyData.bulkKv]
    omega
  · simp only [PyData.depth, PyData.depthKv, d]
    omega
theorem part_name {y : Str} (h : nameB y = true) : PartS (.str y) := .inl ⟨y, rfl, Nat.le_trans (name_len h).2 (by decide), name_ok h⟩
theorem wh_part {lo hi : Int} (h0 : 0 ≤ lo) (h1 : hi ≤ 1000000000) {v : V} (h : whB lo hi v = true) : PartS v := by
  cases v with
  | int i =>
    obtain ⟨a, b⟩ := Bool.and_eq_true_iff.mp (show (decide (lo ≤ i) && decide (i ≤ hi)) = true from h)
    have a := of_decide_eq_true a
    have b := of_decide_eq_true b
    exact .inr ⟨i, rfl, by have : i.natAbs ≤ 1000000000 := by omega
                           exact Nat.lt_of_le_of_lt this (by decide)⟩
  | _ => exact nomatch h
theorem fit_partS {v : V} {x : Str} (h : fitB v x = true) (hx : x ∈ sorts6) : PartS v := by
  simp only [sorts6, List.mem_cons, List.not_mem_nil, or_false] at hx
  rcases hx with rfl | rfl | rfl | rfl | rfl | rfl
  · rw [fit_n] at h
    obtain ⟨z, rfl, hz⟩ := nm_str h
    exact part_name hz
  · rw [fit_e] at h
    rcases Bool.or_eq_true_iff.mp h with h | h
    · rw [of_decide_eq_true h]
      exact .inl ⟨"", rfl, by decide +kernel, (by decide +kernel)⟩
    · obtain ⟨z, rfl, hz⟩ := nm_str h
      exact part_name hz
  · rw [fit_mo] at h
    exact wh_part (by decide) (by decide) h
  · rw [fit_ma] at h
    exact wh_part (by decide) (by decide) h
  · rw [fit_co] at h
    exact wh_part (by decide) (by decide) h
  · rw [fit_pr] at h
    exact wh_part (by decide) (by decide) h
theorem fine_parts {e : Ent} (f : e.Fine) : ∀ v ∈ e.vals, PartS v := by
  intro v hv
  rcases List.mem_cons.mp hv with rfl | hv
  · refine .inl ⟨_, rfl, ?_⟩
    have h : ∀ w ∈ words7, w.length ≤ 60 ∧ PyData.strOk w = true := by decide +kernel
    exact h _ e.word_in
  · obtain ⟨i, hi⟩ := List.mem_iff_getElem?.mp hv
    have lt := (List.getElem?_eq_some_iff.mp hi).1
    have l2 : i < e.sorts.length := by rw [← e.len_parts]; exact lt
    have hx := List.getElem?_eq_getElem l2
    exact fit_partS (f.fit i v _ hi hx).2 (e.sorts_in _ (List.mem_of_getElem? hx))
theorem fine_names {e : Ent} (f : e.Fine) : ∀ j : Nat, j = 1 ∨ j = 3 ∨ j = 4 → ∃ y, e.vals[j]? = some (.str y) ∧ nameB y = true := by
  obtain ⟨x0, p0, p1, p2, p3, rest, hv⟩ : ∃ x0 p0 p1 p2 p3 rest, e.vals = x0 :: p0 :: p1 :: p2 :: p3 :: rest := by cases e <;> exact ⟨_, _, _, _, _, _, rfl⟩
  have hE : IsE e.vals := ⟨e, f, rfl⟩
  rw [hv] at hE ⊢
  obtain ⟨h0, _, h2, h3⟩ := isE_heads hE
  intro j hj
  rcases hj with rfl | rfl | rfl
  · obtain ⟨z, rfl, hz⟩ := nm_str h0
    exact ⟨z, rfl, hz⟩
  · obtain ⟨z, rfl, hz⟩ := nm_str h2
    exact ⟨z, rfl, hz⟩
  · obtain ⟨z, rfl, hz⟩ := nm_str h3
    exact ⟨z, rfl, hz⟩
section
variable {P : Program} {w : World} {K : PySem.W.Frag} {mg : Str → Option Value} {base : Heap}
abbrev sNoEntsN : List Str := ["_law_pen_here", "_law_entries", "_law_some", "_law_strange", "_law_way", "_law_places", "_law_goods", "_law_entry_here", "_law_odd"]
theorem sc_sNoEnts : FnScope sNoEntsN ["_law_pen_here", "_law_entries", "_law_some", "_law_strange"] (defScope sNoEnts) := ⟨rfl, rfl, rfl, by decide +kernel, rfl, by decide +kernel, by decide +kernel⟩
set_option maxHeartbeats 4000000 in
theorem ok_noEnts {f fT fP fS fW : Addr} {fd dT dP dS dW : FuncData} (F : Fun K "_law_no_entries" "_law_no_entries" sNoEnts f fd) (T : TakeT P w K mg base fT dT) (PU : DefT P w K mg base "_law_put" 2 fP dP ["_law_pen_here", "_law_things", "_law_thing"] spPut)
    (SR : DefT P w K mg base "_law_stray" 2 fS dS ["_law_pen_here", "_law_name", "_law_places", "_law_goods", "_law_strange"] spStray) (TW : DefT P w K mg base "_law_twin" 2 fW dW ["_law_pen_here", "_law_entries"] spTwin) (ml : mg "len" = none) (mli : mg "list" = none) :
    FnOk P w K mg base CX0 3 f fd ["_law_pen_here", "_law_entries", "_law_some", "_law_strange"] (spNoEnts K) := by
  refine F.ok sc_sNoEnts (fun vs H Q E h => ?_) (fun cdv A outer s H vs Q E hr h => ?_)
  · obtain ⟨p, c, l, sm, lp, lg, ls, n, ps, Ps, Gs, far, kind, rfl, _⟩ := h
    rfl
  · obtain ⟨p, c, l, sm, lp, lg, ls, n, ps, Ps, Gs, far, kind, rfl, pen, hn, en, hsm, hlp, hlg, hls, np, ng, p31, g31, nf, nk, nfar, nkind, nmP, nmG, q⟩ := h
    have hr1 : Room 1 _ := hr.mono (by decide)
    have nd := sc_sNoEnts.nd
    have hr1 : Room 1 _ := hr.mono (by decide)
    refine ⟨_, pss_cons (ps_set (i := 4) nd rfl (Or.inl rfl) (pe_call T.ok hr1 (by rfl) T.g T.kp T.b .nil pass0 (pa_cons (pv 0) (pa_cons pe_int pa_nil))))
      (pss_cons (ps_asg (pv 2) (pg_tup (by rfl) (pgs_cons (pg_name (i := 5) nd rfl (Or.inl rfl)) (pgs_cons (pg_name (i := 6) nd rfl (Or.inl rfl)) pgs_nil))))
      (pss_cons (ps_set (i := 7) nd rfl (Or.inl rfl) (pe_ix ix_list (pv 1) (pe_call T.ok hr1 (by rfl) T.g T.kp T.b .nil pass0 (pa_cons (pv 0) (pa_cons (pe_callB call_len_seq (by rfl) ml PySem.boot_len (pa_cons (pv 1) pa_nil)) pa_nil))) (fun _ _ => rfl)))
      (pss_cons (ps_if (pt_cmpR op_eq (pv 4) pe_int (nomark _)) (pss_one (ps_ret (pe_ix ix_list (pe_lst (pa_cons pe_non (pa_cons pe_bl (pa_cons pe_int (pa_cons pe_str (pa_cons pe_dnewK (pa_cons pe_str (pa_cons (pe_disp1T hr.units (pv 7) pe_int) (pa_cons (pe_ix ix_tup (pv 7) pe_int (fun _ _ => rfl)) pa_nil))))))))) (pe_call T.ok hr1 (by rfl) T.g T.kp T.b .nil pass0 (pa_cons (pv 0) (pa_cons pe_int pa_nil))) (fun _ _ => rfl)))) pss_nil)
      (pss_cons (ps_if (pt_cmpR op_lt (pv 4) pe_int (nomark _)) (pss_one (ps_ret (pe_call PU.ok hr (by rfl) PU.g PU.kp PU.b .nil pass0 (pa_cons (pv 0) (pa_cons (pv 1) (pa_cons (pe_call SR.ok hr (by rfl) SR.g SR.kp SR.b .nil pass0 (pa_cons (pv 0) (pa_cons pe_str (pa_cons (pv 5) (pa_cons (pv 6) (pa_cons (pv 3) pa_nil)))))) pa_nil)))))) pss_nil)
      (pss_cons (ps_if (pt_cmpR op_eq (pv 4) pe_int (nomark _)) (pss_one (ps_ret (pe_call PU.ok hr (by rfl) PU.g PU.kp PU.b .nil pass0 (pa_cons (pv 0) (pa_cons (pv 1) (pa_cons (pe_op op_catW (pe_op op_catW (pe_slice sl_S (pv 7) po_none (po_some pe_int)) (pe_tup (pa_cons (pe_op op_mod (pe_op op_add (pe_ix ix_tup (pv 7) pe_int (fun _ _ => rfl)) pe_int) pe_int) pa_nil))) (pe_slice sl_S (pv 7) (po_some pe_int) po_none)) pa_nil)))))) pss_nil)
      (pss_cons (ps_if (pt_cmpR op_lt (pv 4) pe_int (nomark _)) (pss_one (ps_ret (pe_call PU.ok hr (by rfl) PU.g PU.kp PU.b .nil pass0 (pa_cons (pv 0) (pa_cons (pv 1) (pa_cons (pe_call TW.ok hr (by rfl) TW.g TW.kp TW.b .nil pass0 (pa_cons (pv 0) (pa_cons (pv 1) pa_nil))) pa_nil)))))) pss_nil)
      (pss_cons (ps_set (i := 8) nd rfl (Or.inl rfl) (pe_lst (pa_cons pe_non (pa_cons pe_bl (pa_cons (pe_tup pa_nil) (pa_cons (pe_callTy call_list_of (by rfl) mli (by decide +kernel) (pa_cons (pv 7) pa_nil)) (pa_cons (pe_slice sl_S (pv 7) po_none (po_some (pe_un un_neg pe_int))) (pa_cons (pe_op op_catW (pv 7) (pe_tup (pa_cons pe_int pa_nil))) (pa_cons pe_str (pa_cons pe_dnewK (pa_cons (pe_lst pa_nil) (pa_cons (pe_tup (pa_cons (pv 7) pa_nil)) (pa_cons pe_int pa_nil)))))))))))))
      (pss_one (ps_ret (pe_call PU.ok hr (by rfl) PU.g PU.kp PU.b .nil pass0 (pa_cons (pv 0) (pa_cons (pv 1) (pa_cons (pe_ix ix_list (pv 8) (pe_call T.ok hr1 (by rfl) T.g T.kp T.b .nil pass0 (pa_cons (pv 0) (pa_cons (pe_callB call_len_seq (by rfl) ml PySem.boot_len (pa_cons (pv 8) pa_nil)) pa_nil))) (fun _ _ => rfl)) pa_nil))))))))))))), ?_⟩
    have parts : ∀ x ∈ ps, ∀ v ∈ x.2.vals, PartS v := fun x hx => fine_parts (en.e x hx).2.1
    have fin : ∀ (H2 H3 : Hp) (R : Addr) (i k : Nat) (v : V), But p H H2 → But p H2 H3 → PenAt H3 p c k → k ≤ n + 20 → H R = none → LT H3 R ((ps.map fun x => V.ref x.1).take i ++ [v] ++ (ps.map fun x => V.ref x.1).drop i) →
        (∀ G1, KpO H3 G1 → KpF H H3 G1 → LT G1 R ((ps.map fun x => V.ref x.1).take i ++ [v] ++ (ps.map fun x => V.ref x.1).drop i) → (∀ P' G', SameN Ps P' → SameN Gs G' → EntsBad G1 P' G' (.ref R) ∨ NoE G1 P' G' v) ∧ ShQ K G1 v 2100 3) → Q (.ref R) H3 := fun H2 H3 R i k v bt2 bt3 pk hk fR hR nsv => by
      refine q _ H3 (fun G1 kO kF => ?_) (pk.mono hk) (bt2.tr bt3)
      have hG : LT G1 R ((ps.map fun x => V.ref x.1).take i ++ [v] ++ (ps.map fun x => V.ref x.1).drop i) := hR.imp (fun h => kF _ _ fR h) fun h => kF _ _ fR h
      obtain ⟨nv, sv⟩ := nsv G1 kO kF hG
      have e3 : ∀ x ∈ ps, G1 x.1 = some (.tup x.2.vals) := fun x hx => kO _ _ (pen_keep pen (bt2.tr bt3) (en.e x hx).1)
      have mem : ∀ u ∈ (ps.map fun x => V.ref x.1).take i ++ [v] ++ (ps.map fun x => V.ref x.1).drop i, (∃ x ∈ ps, u = .ref x.1) ∨ u = v := fun u hu => by
        rcases List.mem_append.mp hu with hu | hu
        · rcases List.mem_append.mp hu with hu | hu
          · obtain ⟨x, hx, rfl⟩ := List.mem_map.mp (List.mem_of_mem_take hu)
            exact .inl ⟨x, hx, rfl⟩
          · exact .inr (List.mem_singleton.mp hu)
        · obtain ⟨x, hx, rfl⟩ := List.mem_map.mp (List.mem_of_mem_drop hu)
          exact .inl ⟨x, hx, rfl⟩
      have len : ((ps.map fun x => V.ref x.1).take i ++ [v] ++ (ps.map fun x => V.ref x.1).drop i).length ≤ 32 := by
        have := en.le
        rw [List.length_append, List.length_append, List.length_take, List.length_drop, List.length_map]
        simp only [List.length_cons, List.length_nil]
        omega
      refine ⟨fun P' G' h1 h2 => ?_, ?_⟩
      · rcases nv P' G' h1 h2 with b | no
        · exact b
        · refine ents_no hG (by omega) (fun u hu => ?_) (List.mem_append_left _ (List.mem_append_right _ (List.mem_singleton.mpr rfl))) no
          rcases mem u hu with ⟨x, hx, rfl⟩ | rfl
          · exact .inl ⟨x, rfl, e3 x hx, (en.e x hx).2.1, shaped_ent (parts x hx), by rw [← (en.e x hx).2.2]; exact ofB_congr (fun y => h1 y) (fun y => h2 y)⟩
          · exact .inr no
      · refine shq_LT (n := 2100) (k := 3) hG (fun u hu => ?_) (by omega)
        rcases mem u hu with ⟨x, hx, rfl⟩ | rfl
        · have l7 := vals_len_e x.2
          exact (shq_tup (n := 100) (k := 1) (m := 2100) (SqT.of (e3 x hx)) (fun u hu => (part_thg (K := K) (H := G1) (parts x hx u hu)).2) (by omega)).mono (Nat.le_refl _) (by decide)
        · exact sv
    refine ⟨_, rfl, p, c, n, 8, rfl, pen, by omega, by decide, by decide, fun r1 H1 a1 b1 pen1 bt1 => ?_⟩
    refine ⟨_, rfl, sm, _, rfl, SqT.of (pen_keep pen bt1 hsm), rfl, _, _, rfl, _, _, rfl, rfl, ?_⟩
    have hl1 := pen_keepL pen bt1 en.h
    have l1 : 1 ≤ ps.length := by
      cases hps : ps with
      | nil => exact absurd hps en.ne
      | cons a b => simp
    have l31 := en.le
    refine ⟨_, rfl, _, rfl, _, rfl, l, _, rfl, .inl (SqL.of hl1), p, c, n + 1, ((ps.map fun x => V.ref x.1).length : Int), rfl, pen1, by omega, by rw [List.length_map]; omega, by rw [List.length_map]; omega, fun r2 H2 a2 b2 pen2 bt2 => ?_⟩
    obtain ⟨v0, hv0, mv0⟩ := at_ex (xs := ps.map fun x => V.ref x.1) a2 b2
    obtain ⟨e, me, rfl⟩ := List.mem_map.mp mv0
    have hl2 := pen_keepL pen1 bt2 hl1
    have bt12 := bt1.tr bt2
    refine ⟨l, _, r2, _, rfl, rfl, SqL.of hl2, hv0, ?_⟩
    have he2 := pen_keep pen bt12 (en.e e me).1
    have pe := parts e me
    have l7 := vals_len_e e.2
    have fname : PartS (.str e.2.name) := pe _ (by show V.str e.2.name ∈ V.str e.2.word :: V.str e.2.name :: _; exact List.mem_cons_of_mem _ List.mem_cons_self)
    -- no list of things
    refine ⟨_, rfl, rfl, _, rfl, ite2 (fun _ => ?_) (fun _ => ?_)⟩
    · refine fun u3 nu3 => ?_
      have s3 := @same_new _ _ (.dK []) nu3
      have e3 := @upd_same H2 u3 (.dK [])
      generalize upd H2 u3 (.dK []) = G3 at s3 e3 ⊢
      refine fun u4 nu4 => ?_
      have nb4 : e.1 ≠ u4 := ne_of_none (s3 _ _ he2) nu4
      refine ⟨_, rfl, e.1, e.2.vals.map keyOf, rfl, nb4, ?_, upd_same, ?_⟩
      · rw [← keys_vals pe]
        exact (upd_ne nb4).trans (s3 _ _ he2)
      have s4 : Same G3 (upd (upd G3 u4 (.dT [])) u4 (.dT [(e.2.vals.map keyOf, V.int 1)])) := fun b o h => by
        have ne : b ≠ u4 := ne_of_none h nu4
        rw [upd_ne ne, upd_ne ne]
        exact h
      have e4 := @upd_same (upd G3 u4 (.dT [])) u4 (.dT [(e.2.vals.map keyOf, V.int 1)])
      generalize upd (upd G3 u4 (.dT [])) u4 (.dT [(e.2.vals.map keyOf, V.int 1)]) = G4 at s4 e4 ⊢
      refine ⟨_, rfl, e.1, _, 1, _, rfl, rfl, SqT.of (s4 _ _ (s3 _ _ he2)), at1 e.2, (by show 8 ≤ sizeLine; decide), fun L nL => ?_⟩
      have s5 := @same_new _ _ (.lst [V.non, .bl true, .int 7, .str "", .ref u3, .str "look", .ref u4, .str e.2.name]) nL
      have e5 := @upd_same G4 L (.lst [V.non, .bl true, .int 7, .str "", .ref u3, .str "look", .ref u4, .str e.2.name])
      generalize upd G4 L (.lst [V.non, .bl true, .int 7, .str "", .ref u3, .str "look", .ref u4, .str e.2.name]) = G5 at s5 e5 ⊢
      have s25 := s3.trans (s4.trans s5)
      have pn := pen2.same s25
      refine ⟨_, rfl, p, c, n + 1 + 1, 8, rfl, pn, by omega, by decide, by decide, fun r H6 a6 b6 pen6 bt6 => ?_⟩
      obtain ⟨v, hv, mv⟩ := at_ex (xs := [V.non, .bl true, .int 7, .str "", .ref u3, .str "look", .ref u4, .str e.2.name]) a6 b6
      have k3 := new_keep pen2 s25 bt6 nu3 (s5 _ _ (s4 _ _ e3))
      have k4 := new_keep pen2 s25 bt6 (s3.free nu4) (s5 _ _ e4)
      refine ⟨L, _, r, v, rfl, rfl, SqL.of (pen_keepL pn bt6 e5), hv, ?_⟩
      have btQ := bt12.tr ((But.of s25).tr bt6)
      have out : ∀ v, (∀ G1, KpF H H6 G1 → NoSeq G1 v ∧ ShQ K G1 v 1000 2) → Q v H6 := fun v ns => q v H6 (fun G1 _ kF => ⟨fun _ _ _ _ => .inl (ns G1 kF).1, (ns G1 kF).2.mono (by decide) (by decide)⟩) (pen6.mono (by omega)) btQ
      simp only [List.mem_cons, List.not_mem_nil, or_false] at mv
      rcases mv with rfl | rfl | rfl | rfl | rfl | rfl | rfl | rfl
      · exact out _ fun G1 _ => ⟨noSeq_sc .non fun a => nofun, shq_non⟩
      · exact out _ fun G1 _ => ⟨noSeq_sc (.bl _) fun a => nofun, (shq_bl _)⟩
      · exact out _ fun G1 _ => ⟨noSeq_sc (.int _) fun a => nofun, (shq_int (by decide))⟩
      · exact out _ fun G1 _ => ⟨noSeq_sc (.str _ (by decide +kernel)) fun a => nofun, (shq_str (by decide +kernel) (by decide +kernel))⟩
      · exact out _ fun G1 kF => have k := kF _ _ (bt12.free nu3 pen2.there) k3; ⟨noSeq_dK k, shq_d0 (k := 1) k⟩
      · exact out _ fun G1 _ => ⟨noSeq_sc (.str _ (by decide +kernel)) fun a => nofun, (shq_str (by decide +kernel) (by decide +kernel))⟩
      · refine out _ fun G1 kF => have k4' := kF _ _ (bt12.free (s3.free nu4) pen2.there) k4; ⟨noSeq_dT k4', shq_dT1 k4' (fun k hk => ?_) (by rw [List.length_map]; omega) (by decide)⟩
        obtain ⟨u, hu, rfl⟩ := List.mem_map.mp hk
        have pu := pe u hu
        rcases pu with ⟨z, rfl, h1, h2⟩ | ⟨i, rfl, h1⟩
        · exact .inl ⟨z, rfl, h1, h2⟩
        · exact .inr ⟨i, rfl, h1⟩
      · exact out _ fun G1 _ => ⟨noSeq_sc (part_thg (K := K) fname).1 fun a => nofun, (part_thg (K := K) fname).2.mono (by decide) (by decide)⟩
    -- an entry of what isn't there
    refine ⟨_, rfl, r1, 3, rfl, rfl, _, rfl, ite2 (fun _ => ?_) (fun _ => ?_)⟩
    · refine ⟨_, rfl, _, rfl, _, rfl, _, rfl, _, rfl, _, rfl, p, c, lp, lg, ls, n + 1 + 1, "newnames", far, kind, Ps, Gs, rfl, pen2, by omega, pen_keepL pen bt12 hlp, pen_keepL pen bt12 hlg, pen_keep pen bt12 hls, np, ng, p31, g31, nf, nk, (by decide +kernel), nfar, nkind, nmP, nmG, fun a H3 st pen3 bt3 => ?_⟩
      obtain ⟨e0, h0, nb, pp⟩ := st
      refine ⟨p, c, l, _, _, .ref a, rfl, pen3, by omega, pen_keepL pen2 bt3 hl2, by rw [List.length_map]; omega, fun R i H4 fR hi hR pen4 bt4 => ?_⟩
      have h4 := pen_keep pen3 bt4 h0
      have l0 := vals_len_e e0
      have gR : H R = none := (bt12.tr bt3).free fR pen3.there
      refine fin H3 H4 R i _ _ (bt12.tr bt3) bt4 pen4 (by omega) gR hR fun G1 kO _ _ => ?_
      have g4 := kO _ _ h4
      exact ⟨fun P' G' h1 h2 => .inr (.inr ⟨a, e0.vals, rfl, g4, by omega, fun x hx => (part_thg (K := K) (pp x hx)).1, fun ⟨e', fi, o, q'⟩ => by
        rw [← vals_inj q', nb P' G' h1 h2] at o
        exact nomatch o⟩), (shq_tup (n := 100) (k := 1) (m := 2100) (SqT.of g4) (fun u hu => (part_thg (K := K) (H := G1) (pp u hu)).2) (by omega)).mono (Nat.le_refl _) (by decide)⟩
    -- another moment
    refine ⟨_, rfl, rfl, _, rfl, ite2 (fun _ => ?_) (fun _ => ?_)⟩
    · refine ⟨_, rfl, _, rfl, _, rfl, 2, rfl, e.1, _, rfl, he2, fun t3 H3 s3 h3 => ?_⟩
      refine ⟨_, rfl, e.1, _, 2, _, rfl, rfl, SqT.of (s3 _ _ he2), at2 e.2, _, 1, rfl, rfl, _, 10000, rfl, rfl, (by show (0 : Int) < 10000; decide), (by show 1 ≤ sizeLine; decide), fun t4 nt4 => ?_⟩
      have s4 := @same_new _ _ (.tup [V.int ((e.2.moment + 1) % 10000)]) nt4
      have e4 := @upd_same H3 t4 (.tup [V.int ((e.2.moment + 1) % 10000)])
      generalize upd H3 t4 (.tup [V.int ((e.2.moment + 1) % 10000)]) = H4 at s4 e4 ⊢
      have cl : ∀ {lo hi}, (cutV e.2.vals lo hi).length ≤ 7 := fun {lo hi} => Nat.le_trans (cutV_length _ _ _) l7.2
      refine ⟨t3, t4, _, _, rfl, rfl, s4 _ _ h3, e4, (by have := @cl none (some 2); simp only [List.length_cons, List.length_nil]; omega), fun t5 H5 s5 h5 => ?_⟩
      refine ⟨_, rfl, 3, rfl, e.1, _, rfl, s5 _ _ (s4 _ _ (s3 _ _ he2)), fun t6 H6 s6 h6 => ?_⟩
      refine ⟨t5, t6, _, _, rfl, rfl, s6 _ _ h5, h6, (by have := @cl none (some 2); have := @cl (some 3) none; rw [List.length_append]; simp only [List.length_cons, List.length_nil]; omega), fun t7 H7 s7 h7 => ?_⟩
      have s27 := s3.trans (s4.trans (s5.trans (s6.trans s7)))
      obtain ⟨f1, f2, f3, f4, f5, f6⟩ := setM5_facts e.2 ((e.2.moment + 1) % 10000)
      have h7' : H7 t7 = some (.tup (setM5 e.2 ((e.2.moment + 1) % 10000)).vals) := by
        rw [h7, f1]
        have c1 : cutV e.2.vals none (some (2 : Int)) = e.2.vals.take 2 := cut_head (k := 2)
        have c2 : cutV e.2.vals (some (3 : Int)) none = e.2.vals.drop 3 := cut_tail (k := 3)
        rw [c1, c2]
      have mm : 0 ≤ e.2.moment ∧ e.2.moment ≤ 9999 := by
        have s1 : e.2.sorts[1]? = some ("moment" : Str) := by cases e.2 <;> rfl
        have m1 : e.2.parts[1]? = some (.int e.2.moment) := by cases e.2 <;> rfl
        have := ((en.e e me).2.1.fit 1 _ _ m1 s1).2
        rw [fit_mo] at this
        obtain ⟨x, y⟩ := Bool.and_eq_true_iff.mp (show (decide (0 ≤ e.2.moment) && decide (e.2.moment ≤ 9999)) = true from this)
        exact ⟨of_decide_eq_true x, of_decide_eq_true y⟩
      have fineM := setM5_fine (m := (e.2.moment + 1) % 10000) (en.e e me).2.1 (Int.emod_nonneg _ (by decide)) (by have := Int.emod_lt_of_pos (e.2.moment + 1) (show (0 : Int) < 10000 by decide); omega)
      have partM := fine_parts fineM
      have pn := pen2.same s27
      refine ⟨p, c, l, _, _, .ref t7, rfl, pn, by omega, s27 _ _ hl2, by rw [List.length_map]; omega, fun R i H8 fR hi hR pen8 bt8 => ?_⟩
      have h8 := pen_keep pn bt8 h7'
      have l0 := vals_len_e (setM5 e.2 ((e.2.moment + 1) % 10000))
      have btA := bt12.tr (But.of s27)
      have e8 : ∀ x ∈ ps, H8 x.1 = some (.tup x.2.vals) := fun x hx => pen_keep pen (btA.tr bt8) (en.e x hx).1
      have inR : ∀ x ∈ ps, V.ref x.1 ∈ (ps.map fun x => V.ref x.1).take i ++ [V.ref t7] ++ (ps.map fun x => V.ref x.1).drop i := fun x hx => by
        have : V.ref x.1 ∈ (ps.map fun x => V.ref x.1).take i ++ (ps.map fun x => V.ref x.1).drop i := by
          rw [List.take_append_drop]
          exact List.mem_map.mpr ⟨x, hx, rfl⟩
        rcases List.mem_append.mp this with h | h
        · exact List.mem_append_left _ (List.mem_append_left _ h)
        · exact List.mem_append_right _ h
      have gR : H R = none := btA.free fR pn.there
      refine fin H7 H8 R i _ _ btA bt8 pen8 (by omega) gR hR fun G1 kO _ hG => ?_
      have g8 := kO _ _ h8
      have ge : ∀ x ∈ ps, G1 x.1 = some (.tup x.2.vals) := fun x hx => kO _ _ (e8 x hx)
      refine ⟨fun P' G' h1 h2 => .inl ?_, (shq_tup (n := 100) (k := 1) (m := 2100) (SqT.of g8) (fun u hu => (part_thg (K := K) (H := G1) (partM u hu)).2) (by omega)).mono (Nat.le_refl _) (by decide)⟩
      refine ents_two (x := e) (y := (t7, setM5 e.2 ((e.2.moment + 1) % 10000))) hG ?_ (fun u hu => .inl ?_) (inR e me) (List.mem_append_left _ (List.mem_append_right _ (List.mem_singleton.mpr rfl))) (ge e me) g8 f2.symm (fun z => ?_)
      · rw [List.length_append, List.length_append, List.length_take, List.length_drop, List.length_map]
        simp only [List.length_cons, List.length_nil]
        omega
      · have old : ∀ x ∈ ps, OneE G1 P' G' x := fun x hx => ⟨ge x hx, (en.e x hx).2.1, shaped_ent (parts x hx), by rw [← (en.e x hx).2.2]; exact ofB_congr (fun y => h1 y) (fun y => h2 y)⟩
        rcases List.mem_append.mp hu with hu | hu
        · rcases List.mem_append.mp hu with hu | hu
          · obtain ⟨x, hx, rfl⟩ := List.mem_map.mp (List.mem_of_mem_take hu)
            exact ⟨x, rfl, old x hx⟩
          · rw [List.mem_singleton.mp hu]
            refine ⟨(t7, setM5 e.2 ((e.2.moment + 1) % 10000)), rfl, g8, fineM, shaped_ent partM, ?_⟩
            have o := (old e me).2.2.2
            unfold ofB goodOk at o ⊢
            rw [f4, f5]
            exact o
        · obtain ⟨x, hx, rfl⟩ := List.mem_map.mp (List.mem_of_mem_drop hu)
          exact ⟨x, rfl, old x hx⟩
      · have z' : e.2.moment = (e.2.moment + 1) % 10000 := by
          have := congrArg Ent.moment z
          rw [f3] at this
          exact this
        omega
    -- a bool for a number
    refine ⟨_, rfl, r1, 6, rfl, rfl, _, rfl, ite2 (fun _ => ?_) (fun _ => ?_)⟩
    · refine ⟨_, rfl, _, rfl, _, rfl, _, rfl, p, c, l, n + 1 + 1, ps, rfl, pen2, by omega, hl2, fun x hx => ⟨pen_keep pen bt12 (en.e x hx).1, parts x hx⟩, l31, fun v H3 tw pen3 bt3 => ?_⟩
      refine ⟨p, c, l, _, _, v, rfl, pen3, by omega, pen_keepL pen2 bt3 hl2, by rw [List.length_map]; omega, fun R i H4 fR hi hR pen4 bt4 => ?_⟩
      have gR : H R = none := (bt12.tr bt3).free fR pen3.there
      rcases tw with rfl | ⟨a, us, rfl, h0, lu, pu, b, mb⟩
      · exact fin H3 H4 R i _ _ (bt12.tr bt3) bt4 pen4 (by omega) gR hR fun G1 _ _ _ => ⟨fun P' G' _ _ => .inr (no_sc .non (fun a => nofun) P' G'), shq_non⟩
      · have h4 := pen_keep pen3 bt4 h0
        refine fin H3 H4 R i _ _ (bt12.tr bt3) bt4 pen4 (by omega) gR hR fun G1 kO _ _ => ?_
        have g4 := kO _ _ h4
        have pB : ∀ u ∈ us, Thg G1 u ∧ ShQ K G1 u 100 1 := fun u hu => by
          rcases pu u hu with h | ⟨b, rfl⟩
          · exact part_thg h
          · exact ⟨.bl b, shq_bl b⟩
        exact ⟨fun P' G' _ _ => .inr (no_tup g4 (by omega) (fun x hx => (pB x hx).1) (fun ⟨e', _, q'⟩ => by
          rw [q'] at mb
          rcases vals_sn e' _ mb with ⟨i, h⟩ | ⟨z, h⟩ <;> exact nomatch h) P' G'), (shq_tup (n := 100) (k := 1) (m := 2100) (SqT.of g4) (fun u hu => (pB u hu).2) (by omega)).mono (Nat.le_refl _) (by decide)⟩
    -- one that is none
    refine ⟨(by show 0 ≤ sizeLine; decide), fun u3 nu3 => ?_⟩
    have s3 := @same_new _ _ (.tup []) nu3
    have e3 := @upd_same H2 u3 (.tup [])
    generalize upd H2 u3 (.tup []) = G3 at s3 e3 ⊢
    refine ⟨_, rfl, e.1, _, rfl, .inr (SqT.of (s3 _ _ he2)), fun u4 nu4 => ?_⟩
    have s4 := @same_new _ _ (.lst e.2.vals) nu4
    have e4 := @upd_same G3 u4 (.lst e.2.vals)
    generalize upd G3 u4 (.lst e.2.vals) = G4 at s4 e4 ⊢
    refine ⟨_, rfl, 1, rfl, _, rfl, e.1, _, rfl, s4 _ _ (s3 _ _ he2), fun u5 G5 s5 e5 => ?_⟩
    refine ⟨_, rfl, (by show 1 ≤ sizeLine; decide), fun t6 nt6 => ?_⟩
    have s6 := @same_new _ _ (.tup [V.int 1]) nt6
    have e6 := @upd_same G5 t6 (.tup [V.int 1])
    generalize upd G5 t6 (.tup [V.int 1]) = G6 at s6 e6 ⊢
    refine ⟨e.1, t6, _, _, rfl, rfl, s6 _ _ (s5 _ _ (s4 _ _ (s3 _ _ he2))), e6, (by simp only [List.length_cons, List.length_nil]; omega), fun u6 G7 s7 e7 => ?_⟩
    refine fun u7 nu7 => ?_
    have s8 := @same_new _ _ (.dK []) nu7
    have e8 := @upd_same G7 u7 (.dK [])
    generalize upd G7 u7 (.dK []) = G8 at s8 e8 ⊢
    refine ⟨(by show 0 ≤ sizeLine; decide), fun u8 nu8 => ?_⟩
    have s9 := @same_new _ _ (.lst []) nu8
    have e9 := @upd_same G8 u8 (.lst [])
    generalize upd G8 u8 (.lst []) = G9 at s9 e9 ⊢
    refine ⟨_, rfl, (by show 1 ≤ sizeLine; decide), fun u9 nu9 => ?_⟩
    have s10 := @same_new _ _ (.tup [V.ref e.1]) nu9
    have e10 := @upd_same G9 u9 (.tup [V.ref e.1])
    generalize upd G9 u9 (.tup [V.ref e.1]) = G10 at s10 e10 ⊢
    refine ⟨(by show 11 ≤ sizeLine; decide), fun L nL => ?_⟩
    have s11 := @same_new _ _ (.lst [V.non, .bl true, .ref u3, .ref u4, .ref u5, .ref u6, .str "look", .ref u7, .ref u8, .ref u9, .int 0]) nL
    have e11 := @upd_same G10 L (.lst [V.non, .bl true, .ref u3, .ref u4, .ref u5, .ref u6, .str "look", .ref u7, .ref u8, .ref u9, .int 0])
    generalize upd G10 L (.lst [V.non, .bl true, .ref u3, .ref u4, .ref u5, .ref u6, .str "look", .ref u7, .ref u8, .ref u9, .int 0]) = G11 at s11 e11 ⊢
    have s9b := s10.trans s11
    have s8b := s9.trans s9b
    have s7b := s8.trans s8b
    have s6b := s6.trans (s7.trans s7b)
    have s2b := s3.trans (s4.trans (s5.trans s6b))
    have pn := pen2.same s2b
    refine ⟨_, rfl, _, rfl, _, rfl, _, rfl, _, rfl, L, _, rfl, .inl (SqL.of e11), p, c, n + 1 + 1, 11, rfl, pn, by omega, by decide, by decide, fun r H3 a3 b3 pen3 bt3 => ?_⟩
    obtain ⟨v, hv, mv⟩ := at_ex (xs := [V.non, .bl true, .ref u3, .ref u4, .ref u5, .ref u6, .str "look", .ref u7, .ref u8, .ref u9, .int 0]) a3 b3
    refine ⟨L, _, r, v, rfl, rfl, SqL.of (pen_keepL pn bt3 e11), hv, ?_⟩
    refine ⟨p, c, l, _, _, v, rfl, pen3, by omega, pen_keepL pn bt3 (s2b _ _ hl2), by rw [List.length_map]; omega, fun R i H4 fR hi hR pen4 bt4 => ?_⟩
    have btA := bt12.tr ((But.of s2b).tr bt3)
    have bt34 := bt3.tr bt4
    have kT : ∀ {a : Addr} {xs : List V}, G11 a = some (.tup xs) → H4 a = some (.tup xs) := fun h => pen_keep pn bt34 h
    have kL : ∀ {a : Addr} {xs : List V}, G11 a = some (.lst xs) → H4 a = some (.lst xs) := fun h => pen_keepL pn bt34 h
    have gR : H R = none := btA.free fR pen3.there
    have f4 : H u4 = none := bt12.free (s3.free nu4) pen2.there
    have f8 : H u8 = none := bt12.free (s3.free (s4.free (s5.free (s6.free (s7.free (s8.free nu8)))))) pen2.there
    have f7 : H2 u7 = none := s3.free (s4.free (s5.free (s6.free (s7.free nu7))))
    refine fin H3 H4 R i _ v btA bt4 pen4 (by omega) gR hR fun G1 kO kF _ => ?_
    have q3 := kO _ _ (kT (s4.trans (s5.trans s6b) _ _ e3))
    have q4 := kF _ _ f4 (kL (s5.trans s6b _ _ e4))
    have q5 := kO _ _ (kT (s6b _ _ e5))
    have q6 := kO _ _ (kT (s7b _ _ e7))
    have q8 := kF _ _ f8 (kL (s9b _ _ e9))
    have q9 := kO _ _ (kT (s11 _ _ e10))
    have qe := kO _ _ (kT (s2b _ _ he2))
    have q7 := kF _ _ (bt12.free f7 pen2.there) (new_keep pen2 s2b bt34 f7 (s8b _ _ e8))
    have each : ∀ u ∈ e.2.vals, Thg G1 u ∧ ShQ K G1 u 100 1 := fun u hu => part_thg (pe u hu)
    have tupQ : ∀ {a : Addr} {xs : List V}, G1 a = some (.tup xs) → (∀ x ∈ xs, ShQ K G1 x 100 1) → xs.length ≤ 20 → ShQ K G1 (.ref a) 2100 3 := fun h t l => (shq_tup (n := 100) (k := 1) (m := 2100) (SqT.of h) t (by omega)).mono (Nat.le_refl _) (by decide)
    have out : NoAny G1 v → ShQ K G1 v 2100 3 → (∀ P' G', SameN Ps P' → SameN Gs G' → EntsBad G1 P' G' (.ref R) ∨ NoE G1 P' G' v) ∧ ShQ K G1 v 2100 3 := fun nv sv => ⟨fun P' G' _ _ => .inr (nv P' G'), sv⟩
    have vals_eq : e.2.vals = .str e.2.word :: e.2.parts := rfl
    have lp := e.2.len_parts
    simp only [List.mem_cons, List.not_mem_nil, or_false] at mv
    rcases mv with rfl | rfl | rfl | rfl | rfl | rfl | rfl | rfl | rfl | rfl | rfl
    · exact out (no_sc .non fun a => nofun) shq_non
    · exact out (no_sc (.bl _) fun a => nofun) (shq_bl _)
    · exact out (no_tup q3 (by decide) (fun x hx => nomatch hx) fun h => absurd (isE_five h) (by decide)) (tupQ q3 (fun x hx => nomatch hx) (by decide))
    · exact out (no_lst q4) ((shq_lst (n := 100) (k := 1) (m := 2100) (SqL.of q4) (fun u hu => (each u hu).2) (by omega)).mono (Nat.le_refl _) (by decide))
    · have c5 : cutV e.2.vals none (some (-1)) = .str e.2.word :: e.2.parts.take (e.2.parts.length - 1) := by
        have pl : 4 ≤ e.2.parts.length := by
          have : e.2.vals.length = e.2.parts.length + 1 := by rw [vals_eq, List.length_cons]
          omega
        unfold cutV
        have h1 : HT.sIx e.2.vals.length e.2.vals.length (some (-1)) = e.2.parts.length := by
          rw [vals_eq, List.length_cons]
          unfold HT.sIx
          simp
          omega
        rw [h1]
        show (e.2.vals.drop 0).take (e.2.parts.length - 0) = _
        rw [List.drop_zero, Nat.sub_zero, vals_eq]
        obtain ⟨m, hm⟩ : ∃ m, e.2.parts.length = m + 1 := ⟨e.2.parts.length - 1, by omega⟩
        rw [hm, List.take_succ_cons, Nat.add_sub_cancel]
      have mem5 : ∀ u ∈ cutV e.2.vals none (some (-1)), Thg G1 u ∧ ShQ K G1 u 100 1 := fun u hu => each u (List.mem_of_mem_drop (List.mem_of_mem_take hu))
      have l5 : (cutV e.2.vals none (some (-1))).length ≤ 7 := Nat.le_trans (cutV_length _ _ _) l7.2
      refine out (no_tup q5 (by omega) (fun x hx => (mem5 x hx).1) ?_) (tupQ q5 (fun x hx => (mem5 x hx).2) (by omega))
      rw [c5]
      refine isE_cut ?_
      rw [List.length_take, ← lp]
      have : e.2.vals.length = e.2.parts.length + 1 := by rw [vals_eq, List.length_cons]
      omega
    · have mem6 : ∀ u ∈ e.2.vals ++ [V.int 1], Thg G1 u ∧ ShQ K G1 u 100 1 := fun u hu => by
        rcases List.mem_append.mp hu with hu | hu
        · exact each u hu
        · rw [List.mem_singleton.mp hu]
          exact ⟨.int 1, shq_int (by decide)⟩
      have l6 : (e.2.vals ++ [V.int 1]).length ≤ 8 := by
        rw [List.length_append]
        simp only [List.length_cons, List.length_nil]
        omega
      refine out (no_tup q6 (by omega) (fun x hx => (mem6 x hx).1) ?_) (tupQ q6 (fun x hx => (mem6 x hx).2) (by omega))
      rw [vals_eq, List.cons_append]
      refine isE_cut ?_
      rw [List.length_append, lp]
      simp only [List.length_cons, List.length_nil]
      omega
    · exact out (no_sc (.str _ (by decide +kernel)) fun a => nofun) (shq_str (by decide +kernel) (by decide +kernel))
    · exact out (no_dct q7) (shq_d0 (k := 2) q7)
    · exact out (no_lst q8) ((shq_lst (n := 100) (k := 1) (m := 2100) (SqL.of q8) (fun u hu => nomatch hu) (by decide)).mono (Nat.le_refl _) (by decide))
    · refine out (no_tup q9 (Nat.le_of_ble_eq_true rfl) (fun x hx => ?_) fun h => absurd (isE_five h) (by simp)) (shq_tup (n := 2000) (k := 2) (m := 2100) (SqT.of q9) (fun u hu => ?_) (Nat.le_of_ble_eq_true rfl))
      · rw [List.mem_singleton.mp hx]
        exact .tup qe
      · rw [List.mem_singleton.mp hu]
        exact shq_tup (n := 100) (k := 1) (m := 2000) (SqT.of qe) (fun u hu => (each u hu).2) (by omega)
    · exact out (no_sc (.int _) fun a => nofun) (shq_int (by decide))
end
/-! ### `_law_spoilt` -/
def BadPart (H : Hp) (w : Nat) (xs ys : List Str) (v : V) : Prop := (w = 0 ∧ NamesBad H v 6) ∨ (w = 1 ∧ NamesBad H v 3) ∨ (w = 2 ∧ ∀ P' G', SameN xs P' → SameN ys G' → EntsBad H P' G' v)
/-- what is handed, and what is strange to it -/
structure Handed (H : Hp) (h l1 l2 l3 al m1 m2 ls : Addr) (xs ys AP AG : List Str) (ps : List (Addr × Ent)) (far kind : Str) : Prop where
  hh : H h = some (.lst [V.ref l1, .ref l2, .ref l3])
  h1 : StrsAt H l1 xs
  h2 : StrsAt H l2 ys
  h3 : EntL H l3 ps xs ys
  ha : H al = some (.lst [V.ref m1, .ref m2])
  a1 : StrsAt H m1 AP
  a2 : StrsAt H m2 AG
  s : H ls = some (.tup [.str far, .str kind])
  x0 : xs ≠ []
  y0 : ys ≠ []
  x6 : xs.length ≤ 6
  y3 : ys.length ≤ 3
  p7 : AP.length = 7
  g4 : AG.length = 4
  ndP : AP.Nodup
  ndG : AG.Nodup
  nmP : ∀ y ∈ AP, nameB y = true
  nmG : ∀ y ∈ AG, nameB y = true
  nmx : ∀ y ∈ xs, nameB y = true
  nmy : ∀ y ∈ ys, nameB y = true
  nf : far ∉ xs
  nk : kind ∉ ys
  nfar : nameB far = true
  nkind : nameB kind = true
theorem Handed.on {H H' : Hp} {h l1 l2 l3 al m1 m2 ls : Addr} {xs ys AP AG : List Str} {ps : List (Addr × Ent)} {far kind : Str} (i : Handed H h l1 l2 l3 al m1 m2 ls xs ys AP AG ps far kind)
    (kL : ∀ a us, H a = some (.lst us) → H' a = some (.lst us)) (kT : ∀ a us, H a = some (.tup us) → H' a = some (.tup us)) : Handed H' h l1 l2 l3 al m1 m2 ls xs ys AP AG ps far kind :=
  ⟨kL _ _ i.hh, kL _ _ i.h1, kL _ _ i.h2, ⟨kL _ _ i.h3.h, i.h3.ne, i.h3.le, fun x hx => ⟨kT _ _ (i.h3.e x hx).1, (i.h3.e x hx).2⟩⟩, kL _ _ i.ha, kL _ _ i.a1, kL _ _ i.a2, kT _ _ i.s, i.x0, i.y0, i.x6, i.y3, i.p7, i.g4, i.ndP, i.ndG, i.nmP, i.nmG, i.nmx, i.nmy, i.nf, i.nk, i.nfar, i.nkind⟩
/-- it holds too where the told list, or the pen, has changed -/
def GdP (K : PySem.W.Frag) (H H' : Hp) (r m1 m2 : Addr) (AP AG : List Str) (w : Nat) (xs ys : List Str) (v : V) : Prop := ∀ G : Hp, (∀ a us, H' a = some (.tup us) → G a = some (.tup us)) → StrsAt G m1 AP → StrsAt G m2 AG → (∀ a o, H a = none → a ≠ r → H' a = some o → G a = some o) → BadPart G w xs ys v ∧ ShQ K G v 70000 4
def spSpoilt (K : PySem.W.Frag) : Sp := fun vs H Q _ => ∃ (p c h l1 l2 l3 al m1 m2 ls : Addr) (n : Nat) (xs ys AP AG : List Str) (ps : List (Addr × Ent)) (far kind : Str) (w : Nat), vs = [.ref p, .ref h, .ref al, .int (w : Int), .ref ls] ∧ PenAt H p c n ∧ n ≤ 70000 ∧ w ≤ 2 ∧
  Handed H h l1 l2 l3 al m1 m2 ls xs ys AP AG ps far kind ∧ ∀ (r : Addr) (v : V) (H' : Hp), H r = none → H' r = some (.lst ([V.ref l1, .ref l2, .ref l3].set w v)) → GdP K H H' r m1 m2 AP AG w xs ys v → PenAt H' p c (n + 20) → But p H H' → Q (.ref r) H'
section
variable {P : Program} {w : World} {K : PySem.W.Frag} {mg : Str → Option Value} {base : Heap}
abbrev sSpoiltN : List Str := ["_law_pen_here", "_law_handed", "_law_all_names", "_law_which", "_law_strange", "_law_places", "_law_goods", "_law_entries", "_law_parts"]
theorem sc_sSpoilt : FnScope sSpoiltN ["_law_pen_here", "_law_handed", "_law_all_names", "_law_which", "_law_strange"] (defScope sSpoilt) := ⟨rfl, rfl, rfl, by decide +kernel, rfl, by decide +kernel, by decide +kernel⟩
set_option maxHeartbeats 2000000 in
theorem ok_spoilt {f fN fE : Addr} {fd dN dE : FuncData} (F : Fun K "_law_spoilt" "_law_spoilt" sSpoilt f fd) (NN : DefT P w K mg base "_law_no_names" 3 fN dN ["_law_pen_here", "_law_names_here", "_law_more"] (spNoNames K)) (NE : DefT P w K mg base "_law_no_entries" 3 fE dE ["_law_pen_here", "_law_entries", "_law_some", "_law_strange"] (spNoEnts K)) (mli : mg "list" = none) :
    FnOk P w K mg base CX0 4 f fd ["_law_pen_here", "_law_handed", "_law_all_names", "_law_which", "_law_strange"] (spSpoilt K) := by
  refine F.ok sc_sSpoilt (fun vs H Q E h => ?_) (fun cdv A outer s H vs Q E hr h => ?_)
  · obtain ⟨p, c, h, l1, l2, l3, al, m1, m2, ls, n, xs, ys, AP, AG, ps, far, kind, wh, rfl, _⟩ := h
    rfl
  · obtain ⟨p, c, h, l1, l2, l3, al, m1, m2, ls, n, xs, ys, AP, AG, ps, far, kind, wh, rfl, pen, hn, w2, i, q⟩ := h
    have hr3 : Room 3 _ := hr.mono (by decide)
    have nd := sc_sSpoilt.nd
    refine ⟨_, pss_cons (ps_asg (pv 1) (pg_lst (by rfl) (pgs_cons (pg_name (i := 5) nd rfl (Or.inl rfl)) (pgs_cons (pg_name (i := 6) nd rfl (Or.inl rfl)) (pgs_cons (pg_name (i := 7) nd rfl (Or.inl rfl)) pgs_nil)))))
      (pss_cons (ps_set (i := 8) nd rfl (Or.inl rfl) (pe_callTy call_list_of (by rfl) mli (by decide +kernel) (pa_cons (pv 1) pa_nil)))
      (pss_cons (ps_if (pt_cmpR op_lt (pv 3) pe_int (nomark _)) (pss_one (ps_asg (pe_call NN.ok hr (by rfl) NN.g NN.kp NN.b .nil pass0 (pa_cons (pv 0) (pa_cons (pe_ix ix_list (pv 1) (pv 3) (fun _ _ => rfl)) (pa_cons (pe_ix ix_list (pv 2) (pv 3) (fun _ _ => rfl)) pa_nil)))) (pg_sub (pv 8) (pv 3) set_list))) (pss_one (ps_asg (pe_call NE.ok hr (by rfl) NE.g NE.kp NE.b .nil pass0 (pa_cons (pv 0) (pa_cons (pv 7) (pa_cons (pe_tup (pa_cons (pv 5) (pa_cons (pv 6) pa_nil))) (pa_cons (pv 4) pa_nil))))) (pg_sub (pv 8) pe_int set_list))))
      (pss_one (ps_ret (pv 8))))), ?_⟩
    refine ⟨_, rfl, h, _, rfl, SqL.of i.hh, rfl, _, _, rfl, _, _, rfl, _, _, rfl, rfl, ?_⟩
    refine ⟨_, rfl, h, _, rfl, .inl (SqL.of i.hh), fun r nr => ?_⟩
    have s1 := @same_new _ _ (.lst [V.ref l1, .ref l2, .ref l3]) nr
    have e1 := @upd_same H r (.lst [V.ref l1, .ref l2, .ref l3])
    generalize upd H r (.lst [V.ref l1, .ref l2, .ref l3]) = H1 at s1 e1 ⊢
    have pen1 := pen.same s1
    have i1 := i.on (fun a us e => s1 _ _ e) fun a us e => s1 _ _ e
    have nrp : r ≠ p := fun z => pen.there (z ▸ nr)
    have nrc : r ≠ c := fun z => pen.cells (z ▸ nr)
    have w3 : wh = 0 ∨ wh = 1 ∨ wh = 2 := by omega
    rcases w3 with rfl | rfl | rfl
    · refine ⟨_, rfl, _, 2, rfl, rfl, true, rfl, iteT ?_⟩
      refine ⟨_, rfl, _, rfl, _, rfl, h, _, 0, _, rfl, rfl, SqL.of i1.hh, atI_nat (j := 0) rfl, _, rfl, _, rfl, al, _, 0, _, rfl, rfl, SqL.of i1.ha, atI_nat (j := 0) rfl, p, c, l1, m1, n, xs, AP, 6, rfl, pen1, by omega, i1.h1, i1.a1, i.x0, by have := i.x6; omega, i.nmx, i.ndP, by rw [i.p7]; decide, i.nmP, by rw [i.p7]; decide, by decide, fun v H2 gd pen2 bt2 => ?_⟩
      have hr2 := pen_keepL pen1 bt2 e1
      refine ⟨_, rfl, _, rfl, r, _, 0, 0, rfl, rfl, hr2, rfl, ?_⟩
      refine ⟨_, rfl, q r v _ nr upd_same (fun G kT k1 k2 kN => ?_) ((pen2.mono (by omega)).upd nrp nrc) (((But.of s1).tr bt2).to nr pen.there)⟩
      have x := gd G (fun a o f h => kN a o (s1.free f) (fr_ne f e1) ((upd_ne (fr_ne f e1)).trans h)) fun us h => by
        have e : H1 m1 = some (.lst (AP.map V.str)) := i1.a1
        rw [e] at h
        rw [← h]
        exact k1
      exact ⟨.inl ⟨rfl, x.1⟩, x.2.mono (by decide) (by decide)⟩
    · refine ⟨_, rfl, _, 2, rfl, rfl, true, rfl, iteT ?_⟩
      refine ⟨_, rfl, _, rfl, _, rfl, h, _, 1, _, rfl, rfl, SqL.of i1.hh, atI_nat (j := 1) rfl, _, rfl, _, rfl, al, _, 1, _, rfl, rfl, SqL.of i1.ha, atI_nat (j := 1) rfl, p, c, l2, m2, n, ys, AG, 3, rfl, pen1, by omega, i1.h2, i1.a2, i.y0, by have := i.y3; omega, i.nmy, i.ndG, by rw [i.g4]; decide, i.nmG, by rw [i.g4]; decide, by decide, fun v H2 gd pen2 bt2 => ?_⟩
      have hr2 := pen_keepL pen1 bt2 e1
      refine ⟨_, rfl, _, rfl, r, _, 1, 1, rfl, rfl, hr2, rfl, ?_⟩
      refine ⟨_, rfl, q r v _ nr upd_same (fun G kT k1 k2 kN => ?_) ((pen2.mono (by omega)).upd nrp nrc) (((But.of s1).tr bt2).to nr pen.there)⟩
      have x := gd G (fun a o f h => kN a o (s1.free f) (fr_ne f e1) ((upd_ne (fr_ne f e1)).trans h)) fun us h => by
        have e : H1 m2 = some (.lst (AG.map V.str)) := i1.a2
        rw [e] at h
        rw [← h]
        exact k2
      exact ⟨.inr (.inl ⟨rfl, x.1⟩), x.2.mono (by decide) (by decide)⟩
    · refine ⟨_, rfl, _, 2, rfl, rfl, false, rfl, iteF ?_⟩
      refine ⟨_, rfl, _, rfl, _, rfl, _, rfl, (by show 2 ≤ sizeLine; decide), fun sm nsm => ?_⟩
      have s2 := @same_new _ _ (.tup [V.ref l1, .ref l2]) nsm
      have e2 := @upd_same H1 sm (.tup [V.ref l1, .ref l2])
      generalize upd H1 sm (.tup [V.ref l1, .ref l2]) = H2 at s2 e2 ⊢
      have i2 := i1.on (fun a us e => s2 _ _ e) fun a us e => s2 _ _ e
      have pen2 := pen1.same s2
      refine ⟨_, rfl, p, c, l3, sm, l1, l2, ls, n, ps, xs, ys, far, kind, rfl, pen2, by omega, i2.h3, e2, i2.h1, i2.h2, i2.s, i.x0, i.y0, by have := i.x6; omega, by have := i.y3; omega, i.nf, i.nk, i.nfar, i.nkind, i.nmx, i.nmy, fun v H3 gd pen3 bt3 => ?_⟩
      have hr2 := s2 _ _ e1
      have hr3' := pen_keepL pen2 bt3 hr2
      refine ⟨_, rfl, r, _, 2, 2, rfl, rfl, hr3', rfl, ?_⟩
      refine ⟨_, rfl, q r v _ nr upd_same (fun G kT k1 k2 kN => ?_) (pen3.upd nrp nrc) (((But.of (s1.trans s2)).tr bt3).to nr pen.there)⟩
      have x := gd G (fun a us h => kT a us ((upd_ne fun z => by rw [z, hr3'] at h; exact nomatch h).trans h)) fun a o f h => kN a o ((s1.trans s2).free f) (fr_ne f hr2) ((upd_ne (fr_ne f hr2)).trans h)
      exact ⟨.inr (.inr ⟨rfl, x.1⟩), x.2⟩
end
/-! ### the law -/
structure DefG (P : Program) (w : World) (K : PySem.W.Frag) (mg : Str → Option Value) (base : Heap) (x : Str) (k : Nat) (f : Addr) (fd : FuncData) (ps : List Str) (sp : Sp) : Prop where
  ok : FnG P w K mg base k f fd ps sp
  g : mg x = some (.ref f)
  kp : PySem.W.keepIn K (.ref f) = true
  b : Binds K fd ps []
theorem tabs_but {H H' : Hp} {Ts : List Addr} {p c : Addr} {n : Nat} (t : TabsG Ts H) (pen : PenAt H p c n) (b : But p H H') : TabsG Ts H' := fun T hT => by
  obtain ⟨ps, e, ok⟩ := t T hT
  obtain ⟨kvs, ns', a', x', g1, _⟩ := pen.ex
  exact ⟨ps, b T _ e (ne_of e g1 (by intro z; cases z)), ok⟩
theorem tabs_upL {H : Hp} {Ts : List Addr} {l : Addr} {xs : List V} {o : HO} (t : TabsG Ts H) (e : H l = some (.lst xs)) : TabsG Ts (upd H l o) := fun T hT => by
  obtain ⟨ps, e1, ok⟩ := t T hT
  exact ⟨ps, (upd_ne (ne_of e1 e (by intro z; cases z))).trans e1, ok⟩
theorem PenAt.tb {Ts : List Addr} {H H' : Hp} {p c : Addr} {n : Nat} (pen : PenAt H p c n) (b : TB1 Ts H H') : PenAt H' p c n := by
  obtain ⟨kvs, ns, a, x, g1, g2, g3, g4, g5, g6, g7⟩ := pen.ex
  exact ⟨kvs, ns, a, x, b.2 _ _ g1 fun _ z => (nomatch z), g2, g3, g4, g5, b.2 _ _ g6 fun _ z => (nomatch z), g7⟩
theorem of_from {e : Ent} {P G HL : List Str} (h : e.From P G HL) : ofB e P G = true := by
  unfold ofB goodOk
  cases e with
  | come n m g p k r => simp [Ent.goodV, Ent.places, h.1, h.2.1]
  | go n m g p k => simp [Ent.goodV, Ent.places, h.1, h.2.1]
  | move n m g o t k => simp [Ent.goodV, Ent.places, h.1, h.2.1, h.2.2.1]
  | some_ n m g o t =>
    by_cases z : t = ""
    · simp [Ent.goodV, Ent.places, h.1, h.2.1, z]
    · simp [Ent.goodV, Ent.places, h.1, h.2.1, z, ((h.2.2).resolve_left z).1]
  | swap n m o t => simp [Ent.goodV, Ent.places, h.1, h.2.1]
  | count n m g p k hd => simp [Ent.goodV, Ent.places, h.1, h.2.1]
  | look n m g p => simp [Ent.goodV, Ent.places, h.1, h.2]
theorem name_tells {pr : List (Addr × Ent)} (nd : (pr.map fun x => x.2.name).Nodup) {x y : Addr × Ent} (hx : x ∈ pr) (hy : y ∈ pr) (e : x.2.name = y.2.name) : x = y := by
  obtain ⟨i, hi⟩ := List.mem_iff_getElem?.mp hx
  obtain ⟨j, hj⟩ := List.mem_iff_getElem?.mp hy
  have : i = j := (List.getElem?_inj (by rw [List.length_map]; exact (List.getElem?_eq_some_iff.mp hi).1) nd).mp (by rw [List.getElem?_map, List.getElem?_map, hi, hj]; exact congrArg some e)
  rw [this, hj] at hi
  exact (Option.some.inj hi).symm
/-- too many entries of unlike names -/
theorem ents_many {H : Hp} {P G : List Str} {R : Addr} {us : List V} {ps : List (Addr × Ent)} (hR : LT H R us) (hu : us.length ≤ 1000) (ek : ∀ x ∈ ps, OneE H P G x) (nd : (ps.map fun x => x.2.name).Nodup) (l : 30 < ps.length)
    (m : ∀ u ∈ us, ∃ x ∈ ps, u = V.ref x.1) (c : ∀ x ∈ ps, V.ref x.1 ∈ us) : EntsBad H P G (.ref R) := by
  refine .inr ⟨R, us, rfl, hR, hu, fun u mu => .inl ?_, fun ts e hg _ => ?_⟩
  · obtain ⟨x, hx, rfl⟩ := m u mu
    exact ⟨x, rfl, ek x hx⟩
  · have sameE : ∀ {x y : Addr × Ent}, V.ref x.1 = V.ref y.1 → OneE H P G x → OneE H P G y → x = y := fun {x y} h ox oy => by
      obtain ⟨a, ea⟩ := x
      obtain ⟨b, eb⟩ := y
      obtain rfl : a = b := V.ref.inj h
      have h1 : H a = some (.tup ea.vals) := ox.1
      have h2 : H a = some (.tup eb.vals) := oy.1
      rw [h1] at h2
      rw [vals_inj (HO.tup.inj (Option.some.inj h2))]
    have p : (onceN ts).Perm ps := by
      refine onceN_perm nd (fun x hx => ?_) fun x hx => ?_
      · obtain ⟨y, hy, z⟩ := m (.ref x.1) (by rw [e]; exact List.mem_map.mpr ⟨x, hx, rfl⟩)
        rw [sameE z (hg x hx) (ek y hy)]
        exact hy
      · have := c x hx
        rw [e] at this
        obtain ⟨y, hy, z⟩ := List.mem_map.mp this
        rw [← sameE z (hg y hy) (ek x hx)]
        exact hy
    rw [p.length_eq]
    exact l
theorem not_in_take {ys : List Str} {j k : Nat} {y : Str} (nd : ys.Nodup) (h : ys[j]? = some y) (le : k ≤ j) : y ∉ ys.take k := fun m => by
  obtain ⟨i, hi⟩ := List.mem_iff_getElem?.mp m
  have li := (List.getElem?_eq_some_iff.mp hi).1
  rw [List.length_take] at li
  rw [List.getElem?_take_of_lt (by omega)] at hi
  have : i = j := (List.getElem?_inj (by omega) nd).mp (hi.trans h.symm)
  omega
/-- a part that is handed, good or bad -/
structure Laid (H : Hp) (p c : Addr) (n : Nat) (Ts : List Addr) (hd l1 l2 l3 al m1 m2 ls : Addr) (xs ys AP AG : List Str) (ps : List (Addr × Ent)) (far kind : Str) : Prop where
  pen : PenAt H p c n
  tg : TabsG Ts H
  hd : Handed H hd l1 l2 l3 al m1 m2 ls xs ys AP AG ps far kind
theorem Laid.same {H H' : Hp} {p c : Addr} {n : Nat} {Ts : List Addr} {hd l1 l2 l3 al m1 m2 ls : Addr} {xs ys AP AG : List Str} {ps : List (Addr × Ent)} {far kind : Str} (i : Laid H p c n Ts hd l1 l2 l3 al m1 m2 ls xs ys AP AG ps far kind) (s : Same H H') : Laid H' p c n Ts hd l1 l2 l3 al m1 m2 ls xs ys AP AG ps far kind :=
  ⟨i.pen.same s, tabs_sm s i.tg, i.hd.on (fun _ _ e => s _ _ e) fun _ _ e => s _ _ e⟩
theorem Laid.but {H H' : Hp} {p c : Addr} {n m : Nat} {Ts : List Addr} {hd l1 l2 l3 al m1 m2 ls : Addr} {xs ys AP AG : List Str} {ps : List (Addr × Ent)} {far kind : Str} (i : Laid H p c n Ts hd l1 l2 l3 al m1 m2 ls xs ys AP AG ps far kind) (pn : PenAt H' p c m) (b : But p H H') : Laid H' p c m Ts hd l1 l2 l3 al m1 m2 ls xs ys AP AG ps far kind :=
  ⟨pn, tabs_but i.tg i.pen b, i.hd.on (fun _ _ e => pen_keepL i.pen b e) fun _ _ e => pen_keep i.pen b e⟩
theorem Laid.tbl {H H' : Hp} {p c : Addr} {n : Nat} {Ts : List Addr} {hd l1 l2 l3 al m1 m2 ls : Addr} {xs ys AP AG : List Str} {ps : List (Addr × Ent)} {far kind : Str} (i : Laid H p c n Ts hd l1 l2 l3 al m1 m2 ls xs ys AP AG ps far kind) (b : TB1 Ts H H') : Laid H' p c n Ts hd l1 l2 l3 al m1 m2 ls xs ys AP AG ps far kind :=
  ⟨i.pen.tb b, b.1, i.hd.on (fun _ _ e => b.2 _ _ e fun _ z => nomatch z) fun _ _ e => b.2 _ _ e fun _ z => nomatch z⟩
theorem Laid.mono {H : Hp} {p c : Addr} {n m : Nat} {Ts : List Addr} {hd l1 l2 l3 al m1 m2 ls : Addr} {xs ys AP AG : List Str} {ps : List (Addr × Ent)} {far kind : Str} (i : Laid H p c n Ts hd l1 l2 l3 al m1 m2 ls xs ys AP AG ps far kind) (h : n ≤ m) : Laid H p c m Ts hd l1 l2 l3 al m1 m2 ls xs ys AP AG ps far kind := ⟨i.pen.mono h, i.tg, i.hd⟩
section
variable {H : Hp} {hd l1 l2 l3 al m1 m2 ls : Addr} {xs ys AP AG : List Str} {ps : List (Addr × Ent)} {far kind : Str}
theorem onceR_le (xs : List Str) : (onceR xs).length ≤ xs.length := (onceR_nodup xs).length_le_of_subset fun _ h => (onceR_mem xs _).mp h
theorem onceR_pos {xs : List Str} (h : xs ≠ []) : 1 ≤ (onceR xs).length := by
  cases xs with
  | nil => exact absurd rfl h
  | cons a b =>
    have := (onceR_mem (a :: b) a).mpr List.mem_cons_self
    cases e : onceR (a :: b) with
    | nil => rw [e] at this; exact nomatch this
    | cons x r => simp
theorem names_ok {l : Addr} {zs : List Str} {most : Nat} (h : LT H l (zs.map V.str)) (n : ∀ y ∈ zs, nameB y = true) (z : zs ≠ []) (le : zs.length ≤ most) (m : most ≤ 31) : NamesOk H (.ref l) most zs :=
  ⟨l, rfl, h, n, by omega, onceR_pos z, by have := onceR_le zs; omega⟩
/-- the handed list with one part spoilt -/
theorem bad_one {w : Nat} {v : V} (i : Handed H hd l1 l2 l3 al m1 m2 ls xs ys AP AG ps far kind) (b : BadPart H w xs ys v) (w2 : w ≤ 2) : ∃ v1 v2 v3, [V.ref l1, .ref l2, .ref l3].set w v = [v1, v2, v3] ∧ HouseBad H v1 v2 v3 := by
  have k1 := names_ok (most := 6) (H := H) (.inl i.h1) i.nmx i.x0 i.x6 (by decide)
  have k2 := names_ok (most := 3) (H := H) (.inl i.h2) i.nmy i.y0 i.y3 (by decide)
  rcases b with ⟨rfl, b⟩ | ⟨rfl, b⟩ | ⟨rfl, b⟩
  · exact ⟨_, _, _, rfl, .inl b⟩
  · exact ⟨_, _, _, rfl, .inr ⟨xs, k1, .inl b⟩⟩
  · exact ⟨_, _, _, rfl, .inr ⟨xs, k1, .inr ⟨ys, k2, fun P G p1 p2 => b P G (fun y => p1.mem_iff.trans (onceR_mem xs y)) fun y => p2.mem_iff.trans (onceR_mem ys y)⟩⟩⟩
/-- two parts spoilt -/
theorem bad_two {w : Nat} {v v' : V} (i : Handed H hd l1 l2 l3 al m1 m2 ls xs ys AP AG ps far kind) (b : BadPart H w xs ys v) (b' : BadPart H ((w + 1) % 3) xs ys v') (w2 : w ≤ 2) : ∃ v1 v2 v3, ([V.ref l1, .ref l2, .ref l3].set w v).set ((w + 1) % 3) v' = [v1, v2, v3] ∧ HouseBad H v1 v2 v3 := by
  have k1 := names_ok (most := 6) (H := H) (.inl i.h1) i.nmx i.x0 i.x6 (by decide)
  rcases b with ⟨rfl, b⟩ | ⟨rfl, b⟩ | ⟨rfl, b⟩
  · exact ⟨_, _, _, rfl, .inl b⟩
  · exact ⟨_, _, _, rfl, .inr ⟨xs, k1, .inl b⟩⟩
  · rcases b' with ⟨_, b'⟩ | ⟨e, _⟩ | ⟨e, _⟩
    · exact ⟨_, _, _, rfl, .inl b'⟩
    · exact nomatch e
    · exact nomatch e
theorem shq_ent {K : PySem.W.Frag} {a : Addr} {e : Ent} (h : H a = some (.tup e.vals)) (f : e.Fine) : ShQ K H (.ref a) 2100 3 := by
  have l7 := vals_len_e e
  exact (shq_tup (n := 100) (k := 1) (m := 2100) (SqT.of h) (fun u hu => (part_thg (K := K) (H := H) (fine_parts f u hu)).2) (by omega)).mono (Nat.le_refl _) (by decide)
theorem shq_names {K : PySem.W.Frag} {l : Addr} {zs : List Str} (h : LT H l (zs.map V.str)) (n : ∀ y ∈ zs, nameB y = true) (le : zs.length ≤ 31) : ShQ K H (.ref l) 6000 4 := shq_LT (n := 100) (k := 3) h (fun v hv => by
  obtain ⟨y, hy, rfl⟩ := List.mem_map.mp hv
  exact shq_name (n y hy)) (by rw [List.length_map]; omega)
theorem shq_ents {K : PySem.W.Frag} {l : Addr} {us : List V} {ps : List (Addr × Ent)} (h : LT H l us) (m : ∀ u ∈ us, ∃ x ∈ ps, u = V.ref x.1) (e : ∀ x ∈ ps, H x.1 = some (.tup x.2.vals) ∧ x.2.Fine) (le : us.length ≤ 62) : ShQ K H (.ref l) 131000 4 := shq_LT (n := 2100) (k := 3) h (fun u hu => by
  obtain ⟨x, hx, rfl⟩ := m u hu
  exact shq_ent (e x hx).1 (e x hx).2) (by omega)
theorem shq_three {K : PySem.W.Frag} {R : Addr} {v1 v2 v3 : V} (h : H R = some (.lst [v1, v2, v3])) (s1 : ShQ K H v1 6000 4) (s2 : ShQ K H v2 6000 4) (s3 : ShQ K H v3 131000 4) : ShQ K H (.ref R) 230000 20 := by
  obtain ⟨d1, q1, a1, b1, c1, e1⟩ := s1
  obtain ⟨d2, q2, a2, b2, c2, e2⟩ := s2
  obtain ⟨d3, q3, a3, b3, c3, e3⟩ := s3
  refine ⟨.list [d1, d2, d3], .lst (SqL.of h) (.cons q1 (.cons q2 (.cons q3 .nil))), ?_, ?_, ?_, ?_⟩
  · simp [PyData.showable, PyData.showableAll, a1, a2, a3]
  · simp [PyData.leavesShort, PyData.leavesShortAll, b1, b2, b3]
  · simp only [PyData.bulk, PyData.bulkAll]
    omega
  · simp only [PyData.depth, PyData.depthAll]
    omega
theorem house_many {q1 q2 R : Addr} {us : List V} {pr : List (Addr × Ent)} (h1 : LT H q1 (xs.map V.str)) (h2 : LT H q2 (ys.map V.str)) (nx : ∀ y ∈ xs, nameB y = true) (ny : ∀ y ∈ ys, nameB y = true) (x0 : xs ≠ []) (y0 : ys ≠ []) (x6 : xs.length ≤ 6) (y3 : ys.length ≤ 3)
    (hR : LT H R us) (hu : us.length ≤ 1000) (e : ∀ x ∈ pr, H x.1 = some (.tup x.2.vals) ∧ x.2.Fine ∧ ofB x.2 xs ys = true) (nd : (pr.map fun x => x.2.name).Nodup) (l : 30 < pr.length) (m : ∀ u ∈ us, ∃ x ∈ pr, u = V.ref x.1) (c : ∀ x ∈ pr, V.ref x.1 ∈ us) : HouseBad H (.ref q1) (.ref q2) (.ref R) := by
  refine .inr ⟨xs, names_ok (most := 6) h1 nx x0 x6 (by decide), .inr ⟨ys, names_ok (most := 3) h2 ny y0 y3 (by decide), fun P G p1 p2 => ents_many hR hu (fun x hx => ?_) nd l m c⟩⟩
  obtain ⟨e1, e2, e3⟩ := e x hx
  refine ⟨e1, e2, shaped_ent (fine_parts e2), ?_⟩
  rw [← e3]
  exact ofB_congr (fun y => p1.mem_iff.trans (onceR_mem xs y)) fun y => p2.mem_iff.trans (onceR_mem ys y)
theorem Handed.parts {K : PySem.W.Frag} (i : Handed H hd l1 l2 l3 al m1 m2 ls xs ys AP AG ps far kind) : ∀ v ∈ [V.ref l1, .ref l2, .ref l3], ShQ K H v 70000 4 := fun v hv => by
  simp only [List.mem_cons, List.not_mem_nil, or_false] at hv
  rcases hv with rfl | rfl | rfl
  · exact (shq_names (.inl i.h1) i.nmx (by have := i.x6; omega)).mono (by decide) (by decide)
  · exact (shq_names (.inl i.h2) i.nmy (by have := i.y3; omega)).mono (by decide) (by decide)
  · refine shq_LT (n := 2100) (k := 3) (.inl i.h3.h) (fun u hu => ?_) (by rw [List.length_map]; have := i.h3.le; omega)
    obtain ⟨x, hx, rfl⟩ := List.mem_map.mp hu
    exact shq_ent (i.h3.e x hx).1 (i.h3.e x hx).2.1
end
def spLaw (K : PySem.W.Frag) (Ts : List Addr) : Sp := fun vs H Q _ => ∃ (a : Addr) (ns : List Int), vs = [.ref a] ∧ SqL K H a (ns.map V.int) ∧ TabsG Ts H ∧ ∀ H', Q (.bl true) H'
section
variable {P : Program} {w : World} {K : PySem.W.Frag} {mg : Str → Option Value} {base : Heap}
abbrev sLawN : List Str := ["_law_script", "_law_pen_here", "_law_places", "_law_goods", "_law_hands", "_law_names_here", "_law_all_names", "_law_strange", "_law_some", "_law_moments_here", "_law_entries", "_law_k", "_law_many_here", "_law_handed", "_law_turn", "_law_which", "_law_parts", "_law_other"]
theorem sc_sLaw : FnScope sLawN ["_law_script"] (defScope sLaw) := ⟨rfl, rfl, rfl, by decide +kernel, rfl, by decide +kernel, by decide +kernel⟩
set_option maxHeartbeats 4000000 in
theorem ok_law {f : Addr} {fd : FuncData} (F : Fun K "law" "law" sLaw f fd) {Ts : List Addr}
    {fP fT fW fM fE fR fS fH : Addr} {dP dT dW dM dE dR dS dH : FuncData}
    (GP : DefT P w K mg base "_law_pen" 1 fP dP ["_law_script"] (spPen K)) (T : TakeT P w K mg base fT dT)
    (W : DefT P w K mg base "_law_words" 3 fW dW ["_law_pen_here", "_law_places", "_law_goods", "_law_entries"] spWords)
    (M : DefT P w K mg base "_law_moments" 2 fM dM ["_law_pen_here", "_law_many_here"] spMoments)
    (EN : DefT P w K mg base "_law_entry" 4 fE dE ["_law_pen_here", "_law_name", "_law_moment", "_law_places", "_law_goods", "_law_hands"] spEntry)
    (RF : DefG P w K mg base "_law_is_refused" 9 fR dR ["_law_handed"] (spRefused K Ts))
    (SP : DefT P w K mg base "_law_spoilt" 4 fS dS ["_law_pen_here", "_law_handed", "_law_all_names", "_law_which", "_law_strange"] (spSpoilt K))
    (HF : DefT P w K mg base "house_of" 7 fH dH ["places", "goods", "entries"] (spHouseOf Ts))
    (mr : mg "range" = none) (mt : mg "tuple" = none) (ml : mg "len" = none) : FnG P w K mg base 10 f fd ["_law_script"] (spLaw K Ts) := by
  refine Fun.okG F sc_sLaw (fun vs H Q E h => ?_) (fun cdv A outer s H vs Q E hG hr h => ?_)
  · obtain ⟨a, ns, rfl, _⟩ := h
    rfl
  · obtain ⟨a, ns, rfl, hS, tg0, q⟩ := h
    have nd := sc_sLaw.nd
    have hr1 : Room 1 _ := hr.mono (by decide)
    have hr2 : Room 2 _ := hr.mono (by decide)
    have hr3 : Room 3 _ := hr.mono (by decide)
    have hr4 : Room 4 _ := hr.mono (by decide)
    have hr7 : Room 7 _ := hr.mono (by decide)
    refine ⟨_, pss_cons (ps_set (i := 1) nd rfl (Or.inr rfl) (pe_call GP.ok hr1 (by rfl) GP.g GP.kp GP.b .nil pass0 (pa_cons (pv 0) pa_nil)))
      (pss_cons (ps_asg (pe_call W.ok hr3 (by rfl) W.g W.kp W.b .nil pass0 (pa_cons (pv 1) (pa_cons pe_int (pa_cons pe_int (pa_cons pe_int pa_nil))))) (pg_tup (by rfl) (pgs_cons (pg_name (i := 2) nd rfl (Or.inl rfl)) (pgs_cons (pg_name (i := 3) nd rfl (Or.inl rfl)) (pgs_cons (pg_name (i := 4) nd rfl (Or.inr rfl)) (pgs_cons (pg_name (i := 5) nd rfl (Or.inr rfl)) pgs_nil))))))
      (pss_cons (ps_set (i := 6) nd rfl (Or.inl rfl) (pe_lst (pa_cons (pv 2) (pa_cons (pv 3) pa_nil))))
      (pss_cons (ps_set (i := 7) nd rfl (Or.inl rfl) (pe_tup (pa_cons (pe_ix ix_list (pv 2) pe_int (fun _ _ => rfl)) (pa_cons (pe_ix ix_list (pv 3) pe_int (fun _ _ => rfl)) pa_nil))))
      (pss_cons (ps_set (i := 8) nd rfl (Or.inr rfl) (pe_tup (pa_cons (pe_slice sl_list (pv 2) po_none (po_some (pe_op op_add pe_int (pe_call T.ok hr1 (by rfl) T.g T.kp T.b .nil pass0 (pa_cons (pv 1) (pa_cons pe_int pa_nil)))))) (pa_cons (pe_slice sl_list (pv 3) po_none (po_some (pe_op op_add pe_int (pe_call T.ok hr1 (by rfl) T.g T.kp T.b .nil pass0 (pa_cons (pv 1) (pa_cons pe_int pa_nil)))))) pa_nil))))
      (pss_cons (ps_set (i := 9) nd rfl (Or.inr rfl) (pe_call M.ok hr2 (by rfl) M.g M.kp M.b .nil pass0 (pa_cons (pv 1) (pa_cons pe_int pa_nil))))
      (pss_cons (ps_setLc (i := 10) (own := [("_law_k", 11)]) (g := gName 11) (tt := tYes) (te := tCall spEntry [] E0 (tCons (tVar 1) (tCons (tOp (rIxL K) (tVar 5) (tVar 11)) (tCons (tOp (rIxL K) (tVar 9) (tVar 11)) (tCons (tOp (rIxT K) (tVar 8) (tC (V.int 0))) (tCons (tOp (rIxT K) (tVar 8) (tC (V.int 1))) (tCons (tVar 4) tNil))))))) rfl nd rfl rfl (sw_true rfl rfl rfl (by decide +kernel)) (pi_range1 rfl mr (pa_cons pe_int pa_nil)) (blkOk_by (N := sLawN) (sc := defScope sLaw) (by decide +kernel)) (fun _ _ _ _ _ => (pg_name (i := 11) nd rfl (Or.inl rfl))) (fun _ _ _ _ _ => pts_nil) (fun _ _ _ _ _ => (pe_call EN.ok hr4 (by rfl) EN.g EN.kp EN.b .nil pass0 (pa_cons (pv 1) (pa_cons (pe_ix ix_list (pv 5) (pv 11) (fun _ _ => rfl)) (pa_cons (pe_ix ix_list (pv 9) (pv 11) (fun _ _ => rfl)) (pa_cons (pe_ix ix_tup (pv 8) pe_int (fun _ _ => rfl)) (pa_cons (pe_ix ix_tup (pv 8) pe_int (fun _ _ => rfl)) (pa_cons (pv 4) pa_nil)))))))))
      (pss_cons (ps_set (i := 12) nd rfl (Or.inl rfl) (pe_ix ix_list (pe_lst (pa_cons pe_int (pa_cons (pe_op op_add pe_int (pe_call T.ok hr1 (by rfl) T.g T.kp T.b .nil pass0 (pa_cons (pv 1) (pa_cons pe_int pa_nil)))) pa_nil))) (pe_call T.ok hr1 (by rfl) T.g T.kp T.b .nil pass0 (pa_cons (pv 1) (pa_cons pe_int pa_nil))) (fun _ _ => rfl)))
      (pss_cons (ps_set (i := 13) nd rfl (Or.inl rfl) (pe_lst (pa_cons (pe_ix ix_tup (pv 8) pe_int (fun _ _ => rfl)) (pa_cons (pe_ix ix_tup (pv 8) pe_int (fun _ _ => rfl)) (pa_cons (pe_slice sl_list (pv 10) po_none (po_some (pv 12))) pa_nil)))))
      (pss_cons (ps_if (PW.pt (pw_or (pt_not (pt_val (pe_callG RF.ok hG hr (by rfl) RF.g RF.kp RF.b (pa_cons (pe_lst (pa_cons (pe_ix ix_tup (pv 8) pe_int (fun _ _ => rfl)) (pa_cons (pe_ix ix_tup (pv 8) pe_int (fun _ _ => rfl)) (pa_cons (pv 10) pa_nil)))) pa_nil)))) (pw_or1 (pt_not (pt_val (pe_callG RF.ok hG hr (by rfl) RF.g RF.kp RF.b (pa_cons (pe_lst (pa_cons (pe_ix ix_tup (pv 8) pe_int (fun _ _ => rfl)) (pa_cons (pe_callTy call_tuple_of (by rfl) mt (by decide +kernel) (pa_cons (pe_ix ix_tup (pv 8) pe_int (fun _ _ => rfl)) pa_nil)) (pa_cons (pe_op op_rep (pv 10) pe_int) pa_nil)))) pa_nil))))))) (pss_one (ps_ret pe_bl)) pss_nil)
      (pss_cons (ps_for PassesOwn.never rfl (pi_range1 rfl mr (pa_cons pe_int pa_nil)) (pg_name (i := 14) nd rfl (Or.inl rfl))
        (pss_cons (ps_set (i := 15) nd rfl (Or.inl rfl) (pe_call T.ok hr1 (by rfl) T.g T.kp T.b .nil pass0 (pa_cons (pv 1) (pa_cons pe_int pa_nil))))
        (pss_cons (ps_set (i := 16) nd rfl (Or.inl rfl) (pe_call SP.ok hr4 (by rfl) SP.g SP.kp SP.b .nil pass0 (pa_cons (pv 1) (pa_cons (pv 13) (pa_cons (pv 6) (pa_cons (pv 15) (pa_cons (pv 7) pa_nil)))))))
        (C8.pss_cut (ps_if (pt_cmpR op_eq (pe_call T.ok hr1 (by rfl) T.g T.kp T.b .nil pass0 (pa_cons (pv 1) (pa_cons pe_int pa_nil))) pe_int (nomark _)) (pss_cons (ps_set (i := 17) nd rfl (Or.inl rfl) (pe_op op_mod (pe_op op_add (pv 15) pe_int) pe_int))
          (pss_one (ps_asg (pe_ix ix_list (pe_call SP.ok hr4 (by rfl) SP.g SP.kp SP.b .nil pass0 (pa_cons (pv 1) (pa_cons (pv 13) (pa_cons (pv 6) (pa_cons (pv 17) (pa_cons (pv 7) pa_nil)))))) (pv 17) (fun _ _ => rfl)) (pg_sub (pv 16) (pv 17) set_list)))) pss_nil)
        (pss_cons (ps_if (pt_not (pt_val (pe_callG RF.ok hG hr (by rfl) RF.g RF.kp RF.b (pa_cons (pv 16) pa_nil)))) (pss_one (ps_ret pe_bl)) pss_nil)
        (pss_one (ps_if (pt_cmpR op_ne (pe_callB call_len_seq (by rfl) ml PySem.boot_len (pa_cons (pe_ix ix_tup (pe_call HF.ok hr7 (by rfl) HF.g HF.kp HF.b .nil pass0 (pa_cons (pe_ix ix_list (pv 13) pe_int (fun _ _ => rfl)) (pa_cons (pe_ix ix_list (pv 13) pe_int (fun _ _ => rfl)) (pa_cons (pe_ix ix_list (pv 13) pe_int (fun _ _ => rfl)) pa_nil)))) pe_int (fun _ _ => rfl)) pa_nil)) (pv 12) (nomark _)) (pss_one (ps_ret pe_bl)) pss_nil)))))))
      (pss_one (ps_ret pe_bl)))))))))))), ?_⟩
    refine ⟨_, rfl, a, ns, rfl, hS, fun p c H1 np nc pen1 sm1 => ?_⟩
    refine ⟨_, rfl, p, c, 0, 7, 4, 31, rfl, pen1, by omega, by omega, by omega, by omega, fun tp l1 l2 l3 l4 PL GL HL EL H2 ntp ht h1 h2 h3 h4 n1 n2 n3 n4 pen2 bt2 => ?_⟩
    refine ⟨tp, _, rfl, SqT.of ht, rfl, _, _, rfl, _, _, rfl, _, _, rfl, _, _, rfl, rfl, ?_⟩
    have tg2 := tabs_but (tabs_sm sm1 tg0) pen1 bt2
    have z1 : PL.length = 7 := n1.len
    have z2 : GL.length = 4 := n2.len
    have z3 : HL.length = 3 := n3.len
    have z4 : EL.length = 31 := n4.len
    refine ⟨_, rfl, _, rfl, (by show 2 ≤ sizeLine; decide), fun A nA => ?_⟩
    have sA := @same_new _ _ (.lst [V.ref l1, .ref l2]) nA
    have eA := @upd_same H2 A (.lst [V.ref l1, .ref l2])
    generalize upd H2 A (.lst [V.ref l1, .ref l2]) = H3 at sA eA ⊢
    obtain ⟨far, hf1, hf2⟩ : ∃ far, PL[6]? = some far ∧ far ∈ PL := ⟨PL[6], List.getElem?_eq_getElem (by omega), List.getElem_mem (by omega)⟩
    obtain ⟨kind, hk1, hk2⟩ : ∃ kind, GL[3]? = some kind ∧ kind ∈ GL := ⟨GL[3], List.getElem?_eq_getElem (by omega), List.getElem_mem (by omega)⟩
    have nP := n1.nodup (by omega)
    have nG := n2.nodup (by omega)
    have mP := n1.names (by omega)
    have mG := n2.names (by omega)
    have mH := n3.names (by omega)
    have nE := n4.nodup (by omega)
    have mE := n4.names (by omega)
    refine ⟨_, rfl, l1, _, 6, _, rfl, rfl, SqL.of (sA _ _ h1), atI_nat (j := 6) (by rw [List.getElem?_map, hf1]; rfl), _, rfl, l2, _, 3, _, rfl, rfl, SqL.of (sA _ _ h2), atI_nat (j := 3) (by rw [List.getElem?_map, hk1]; rfl), (by show 2 ≤ sizeLine; decide), fun ls nls => ?_⟩
    have sS := @same_new _ _ (.tup [V.str far, .str kind]) nls
    have eS := @upd_same H3 ls (.tup [V.str far, .str kind])
    generalize upd H3 ls (.tup [V.str far, .str kind]) = H4 at sS eS ⊢
    have s24 := sA.trans sS
    have pen4 := pen2.same s24
    refine ⟨_, rfl, _, rfl, p, c, _, 6, rfl, pen4, by omega, by decide, by decide, fun r1 H5 a1 b1 pen5 bt5 => ?_⟩
    obtain ⟨u1, rfl⟩ : ∃ u : Nat, r1 = u := ⟨r1.toNat, (Int.toNat_of_nonneg a1).symm⟩
    have k1 := pen_strs pen4 bt5 (s24 _ _ h1)
    have k2 := pen_strs pen4 bt5 (s24 _ _ h2)
    have cut1 : ∀ {ys : List Str} {k : Nat}, cutV (ys.map V.str) none (some (1 + (k : Int))) = (ys.take (1 + k)).map V.str := fun {ys k} => by
      rw [show (1 + (k : Int)) = ((1 + k : Nat) : Int) by omega, cut_take, List.map_take]
    refine ⟨1, _, rfl, rfl, _, rfl, l1, _, rfl, SqL.of k1, fun q1 nq1 => ?_⟩
    rw [cut1]
    have s6 := @same_new _ _ (.lst ((PL.take (1 + u1)).map V.str)) nq1
    have e6 := @upd_same H5 q1 (.lst ((PL.take (1 + u1)).map V.str))
    generalize upd H5 q1 (.lst ((PL.take (1 + u1)).map V.str)) = H6 at s6 e6 ⊢
    have pen6 := pen5.same s6
    refine ⟨_, rfl, _, rfl, p, c, _, 3, rfl, pen6, by omega, by decide, by decide, fun r2 H7 a2 b2 pen7 bt7 => ?_⟩
    obtain ⟨u2, rfl⟩ : ∃ u : Nat, r2 = u := ⟨r2.toNat, (Int.toNat_of_nonneg a2).symm⟩
    have k2' := pen_strs pen6 bt7 (s6 _ _ k2)
    refine ⟨1, _, rfl, rfl, _, rfl, l2, _, rfl, SqL.of k2', fun q2 nq2 => ?_⟩
    rw [cut1]
    have s8 := @same_new _ _ (.lst ((GL.take (1 + u2)).map V.str)) nq2
    have e8 := @upd_same H7 q2 (.lst ((GL.take (1 + u2)).map V.str))
    generalize upd H7 q2 (.lst ((GL.take (1 + u2)).map V.str)) = H8 at s8 e8 ⊢
    refine ⟨(by show 2 ≤ sizeLine; decide), fun S nS => ?_⟩
    have s9 := @same_new _ _ (.tup [V.ref q1, .ref q2]) nS
    have e9 := @upd_same H8 S (.tup [V.ref q1, .ref q2])
    generalize upd H8 S (.tup [V.ref q1, .ref q2]) = H9 at s9 e9 ⊢
    have s79 := s8.trans s9
    have pen9 := pen7.same s79
    refine ⟨_, rfl, p, c, _, 31, rfl, pen9, by omega, by omega, fun l5 mos H10 nl5 h5 lm bm pen10 bt10 => ?_⟩
    have bt59 : But p H5 H9 := (But.of s6).tr (bt7.tr (.of s79))
    have bt5X := bt59.tr bt10
    have y3 := pen_strs pen5 bt5X (pen_strs pen4 bt5 (s24 _ _ h3))
    have y4 := pen_strs pen5 bt5X (pen_strs pen4 bt5 (s24 _ _ h4))
    have w1 : StrsAt H10 q1 (PL.take (1 + u1)) := pen_keepL pen6 (bt7.tr ((But.of s79).tr bt10)) e6
    have w2 : StrsAt H10 q2 (GL.take (1 + u2)) := pen_keepL pen9 bt10 (s9 _ _ e8)
    have wS := pen_keep pen9 bt10 e9
    have m1' := pen_strs pen5 bt5X k1
    have m2' := pen_strs pen5 bt5X k2
    have wA := pen_keepL pen5 bt5X (pen_keepL pen4 bt5 (sS _ _ eA))
    have wls := pen_keep pen5 bt5X (pen_keep pen4 bt5 eS)
    have tg10 := tabs_but (tabs_sm s79 (tabs_but (tabs_sm s6 (tabs_but (tabs_sm s24 tg2) pen4 bt5)) pen6 bt7)) pen9 bt10
    have x1 : (PL.take (1 + u1)).length = 1 + u1 := by rw [List.length_take]; omega
    have x2 : (GL.take (1 + u2)).length = 1 + u2 := by rw [List.length_take]; omega
    have nx : ∀ y ∈ PL.take (1 + u1), nameB y = true := fun y hy => mP y (List.mem_of_mem_take hy)
    have ny : ∀ y ∈ GL.take (1 + u2), nameB y = true := fun y hy => mG y (List.mem_of_mem_take hy)
    have dx : (PL.take (1 + u1)).Nodup := (List.take_sublist _ _).nodup nP
    have nfx : far ∉ PL.take (1 + u1) := not_in_take nP hf1 (by omega)
    have nkx : kind ∉ GL.take (1 + u2) := not_in_take nG hk1 (by omega)
    generalize PL.take (1 + u1) = xs at x1 nx dx nfx w1 ⊢
    generalize GL.take (1 + u2) = ys at x2 ny nkx w2 ⊢
    clear sA sS s24 s6 s8 s9 s79 eA eS e6 e8 e9 h1 h2 h3 h4 k1 k2 k2' pen2 pen4 pen5 pen6 pen7 bt2 bt5 bt7 tg2
    have np5 : ∀ {H' : Hp} {n : Nat} {l : Addr} {zs : List V}, PenAt H' p c n → H' l = some (.lst zs) → l ≠ p := fun pen h => by
      obtain ⟨kvs, ns', a', x', g1, _⟩ := pen.ex
      exact ne_of h g1 (by intro z; cases z)
    refine ⟨31, rfl, by decide, by decide, fun D nD => ?_⟩
    have sD := @same_new _ _ (.lst []) nD
    have nDp : D ≠ p := fun z => pen10.there (z ▸ nD)
    have nDc : D ≠ c := fun z => pen10.cells (z ▸ nD)
    refine lc_range (lo := 0) (n := 31) (fun i H' => PenAt H' p c (160 + 30 * i) ∧ TabsG Ts H' ∧ (StrsAt H' q1 xs ∧ StrsAt H' q2 ys ∧ StrsAt H' l3 HL ∧ StrsAt H' l4 EL ∧ H' l5 = some (.lst (mos.map V.int)) ∧ StrsAt H' l1 PL ∧ StrsAt H' l2 GL ∧ H' A = some (.lst [V.ref l1, .ref l2])) ∧ (H' S = some (.tup [V.ref q1, .ref q2]) ∧ H' ls = some (.tup [V.str far, .str kind])) ∧
        ∃ pr : List (Addr × Ent), (pr.length = i ∧ pr.map (fun x => x.2.name) = EL.take i) ∧ H' D = some (.lst (pr.map fun x => V.ref x.1)) ∧ ∀ x ∈ pr, H' x.1 = some (.tup x.2.vals) ∧ x.2.Fine ∧ ofB x.2 xs ys = true)
      ⟨(pen10.same sD).mono (by omega), tabs_sm sD tg10, ⟨sD _ _ w1, sD _ _ w2, sD _ _ y3, sD _ _ y4, sD _ _ h5, sD _ _ m1', sD _ _ m2', sD _ _ wA⟩, ⟨sD _ _ wS, sD _ _ wls⟩, [], ⟨rfl, rfl⟩, upd_same, fun y hy => nomatch hy⟩ ?_ ?_
    · rintro i G1 hi ⟨pn, tg, ⟨g1, g2, g3, g4, g5, g6, g7, g8⟩, ⟨gS, gls⟩, pr, ⟨gl, gm⟩, gD, gE⟩
      have lj : i < EL.length := by omega
      obtain ⟨nme, hnj, hn3⟩ : ∃ nme, EL[i]? = some nme ∧ nme ∈ EL := ⟨EL[i], List.getElem?_eq_getElem lj, List.getElem_mem lj⟩
      have hn1 : atI (EL.map V.str) (0 + (i : Int)) = some (.str nme) := by
        rw [Int.zero_add]
        exact atI_nat (by rw [List.getElem?_map, hnj]; rfl)
      obtain ⟨mo, hm1, hm2⟩ := at_ints (ns := mos) (r := 0 + (i : Int)) (by omega) (by omega)
      refine ⟨rfl, yesT ?_⟩
      refine ⟨_, rfl, _, rfl, _, rfl, l4, _, _, _, rfl, rfl, SqL.of g4, hn1, _, rfl, _, rfl, l5, _, _, _, rfl, rfl, SqL.of g5, hm1, _, rfl, S, _, 0, _, rfl, rfl, SqT.of gS, atI_nat (j := 0) rfl, _, rfl, S, _, 1, _, rfl, rfl, SqT.of gS, atI_nat (j := 1) rfl, _, rfl, p, c, _, nme, mo, q1, q2, l3, xs, ys, HL, rfl, pn, by omega, g1, g2, g3,
        (fun z => by subst z; simp at x1; omega), (fun z => by subst z; simp at x2; omega), (fun z => by subst z; simp at z3), by omega, by omega, by omega, fun te e G2 nte hte en em ef pn2 btA => ?_⟩
      have gD2 := btA D _ gD nDp
      have neD : ∀ {b : Addr} {o : HO}, G1 b = some o → (∀ zs, o ≠ .lst (zs : List V)) → b ≠ D := fun {b o} h n z => n _ (by rw [z, gD] at h; exact (Option.some.inj h).symm)
      have nLD : ∀ {b : Addr} {o : HO}, H10 b = some o → b ≠ D := fun h => ne_of_none h nD
      have ups : ∀ {b : Addr} {zs : List V} {o : HO}, G1 b = some (.lst zs) → b ≠ D → (upd G2 D o) b = some (.lst zs) := fun h n => (upd_ne n).trans (btA _ _ h (np5 pn h))
      have upt : ∀ {b : Addr} {zs : List V} {o : HO}, G1 b = some (.tup zs) → (upd G2 D o) b = some (.tup zs) := fun h => (upd_ne (neD h fun zs z => nomatch z)).trans (pen_keep pn btA h)
      have fine := (fine_of ef dx nx ny mH (en ▸ mE nme hn3) (em ▸ (bm mo hm2).1) (em ▸ (bm mo hm2).2)).1
      refine ⟨_, gD2, (by rw [List.length_map]; exact small1000 (by omega)), (pn2.mono (by omega)).upd nDp nDc, tabs_upL (tabs_but tg pn btA) gD2, ⟨ups g1 (nLD w1), ups g2 (nLD w2), ups g3 (nLD y3), ups g4 (nLD y4), ups g5 (nLD h5), ups g6 (nLD m1'), ups g7 (nLD m2'), ups g8 (nLD wA)⟩, ⟨upt gS, upt gls⟩,
        pr ++ [(te, e)], ⟨by simp [gl], by rw [List.map_append, gm, take_sn hnj]; exact congrArg (fun z => EL.take i ++ [z]) en⟩, ?_, ?_⟩
      · rw [upd_same, List.map_append]
        rfl
      · intro x hx
        rcases List.mem_append.mp hx with h | h
        · exact ⟨upt (gE x h).1, (gE x h).2⟩
        · rw [List.mem_singleton.mp h]
          refine ⟨(upd_ne fun z => ?_).trans hte, fine, of_from ef⟩
          have z' : te = D := z
          rw [z', gD] at nte
          exact nomatch nte
    · rintro G1 ⟨pn, tg, ⟨g1, g2, g3, g4, g5, g6, g7, g8⟩, ⟨gS, gls⟩, pr, ⟨gl, gm⟩, gD, gE⟩
      show gName 10 (V.ref D) [some (.ref a), some (.ref p), some (.ref l1), some (.ref l2), some (.ref l3), some (.ref l4), some (.ref A), some (.ref ls), some (.ref S), some (.ref l5), none, none, none, none, none, none, none, none] G1 _
      have x0 : xs ≠ [] := fun z => by rw [z] at x1; simp at x1; omega
      have ndr : (pr.map fun x => x.2.name).Nodup := by rw [gm]; exact (List.take_sublist _ _).nodup nE
      refine ⟨_, rfl, p, c, _, 30, rfl, pn, by omega, by decide, by decide, fun r3 G2 a3 b3 pn2 bt2 => ?_⟩
      refine ⟨1, r3, rfl, rfl, (by show 2 ≤ sizeLine; decide), fun l nl => ?_⟩
      have sl := @same_new _ _ (.lst [V.int 30, .int (1 + r3)]) nl
      have el := @upd_same G2 l (.lst [V.int 30, .int (1 + r3)])
      generalize upd G2 l (.lst [V.int 30, .int (1 + r3)]) = G3 at sl el ⊢
      have pn3 := pn2.same sl
      refine ⟨_, rfl, p, c, _, 2, rfl, pn3, by omega, by decide, by decide, fun r4 G4 a4 b4 pn4 bt4 => ?_⟩
      obtain ⟨mo, hm1, hm2⟩ := at_ints (ns := [30, 1 + r3]) (r := r4) a4 (by show r4 < 2; omega)
      refine ⟨l, _, _, _, rfl, rfl, SqL.of (pen_keepL pn3 bt4 el), hm1, ?_⟩
      have hmo : 1 ≤ mo ∧ mo ≤ 30 := by
        simp only [List.mem_cons, List.not_mem_nil, or_false] at hm2
        rcases hm2 with rfl | rfl <;> omega
      obtain ⟨m, rfl⟩ : ∃ m : Nat, mo = m := ⟨mo.toNat, (Int.toNat_of_nonneg (by omega)).symm⟩
      have btB : But p G1 G4 := bt2.tr ((But.of sl).tr bt4)
      have g1' := pen_strs pn btB g1
      have g2' := pen_strs pn btB g2
      have gS' := pen_keep pn btB gS
      have gls' := pen_keep pn btB gls
      have gA' := pen_keepL pn btB g8
      have g6' := pen_strs pn btB g6
      have g7' := pen_strs pn btB g7
      have gD' := pen_keepL pn btB gD
      have gE' : ∀ x ∈ pr, G4 x.1 = some (.tup x.2.vals) := fun x hx => pen_keep pn btB (gE x hx).1
      have tg4 := tabs_but (tabs_sm sl (tabs_but tg pn bt2)) pn3 bt4
      have y0 : ys ≠ [] := fun z => by rw [z] at x2; simp at x2; omega
      refine ⟨_, rfl, S, _, 0, _, rfl, rfl, SqT.of gS', atI_nat (j := 0) rfl, _, rfl, S, _, 1, _, rfl, rfl, SqT.of gS', atI_nat (j := 1) rfl, _, rfl, _, rfl, (m : Int), rfl, D, _, rfl, SqL.of gD', fun L3 nL3 => ?_⟩
      rw [cut_take, ← List.map_take]
      have s5 := @same_new _ _ (.lst ((pr.take m).map fun x => V.ref x.1)) nL3
      have e5 := @upd_same G4 L3 (.lst ((pr.take m).map fun x => V.ref x.1))
      generalize upd G4 L3 (.lst ((pr.take m).map fun x => V.ref x.1)) = G5 at s5 e5 ⊢
      refine ⟨(by show 3 ≤ sizeLine; decide), fun hd nhd => ?_⟩
      have s6 := @same_new _ _ (.lst [V.ref q1, .ref q2, .ref L3]) nhd
      have e6 := @upd_same G5 hd (.lst [V.ref q1, .ref q2, .ref L3])
      generalize upd G5 hd (.lst [V.ref q1, .ref q2, .ref L3]) = G6 at s6 e6 ⊢
      have s46 := s5.trans s6
      have hnd : Handed G6 hd q1 q2 L3 A l1 l2 ls xs ys PL GL (pr.take m) far kind := ⟨e6, s46 _ _ g1', s46 _ _ g2', ⟨s6 _ _ e5, fun z => by
          have := congrArg List.length z
          rw [List.length_take] at this
          simp only [List.length_nil] at this
          omega, by rw [List.length_take]; omega, fun x hx => have hx' := List.mem_of_mem_take hx; ⟨s46 _ _ (gE' x hx'), (gE x hx').2⟩⟩, s46 _ _ gA', s46 _ _ g6', s46 _ _ g7', s46 _ _ gls', x0, y0, by omega, by omega, z1, z2, nP, nG, mP, mG, nx, ny, nfx, nkx, mP far hf2, mG kind hk2⟩
      have la : Laid G6 p c 1200 Ts hd q1 q2 L3 A l1 l2 ls xs ys PL GL (pr.take m) far kind := ⟨(pn4.same s46).mono (by omega), tabs_sm s46 tg4, hnd⟩
      have hD6 := s46 _ _ gD'
      have hS6 := s46 _ _ gS'
      have hE6 : ∀ x ∈ pr, G6 x.1 = some (.tup x.2.vals) ∧ x.2.Fine ∧ ofB x.2 xs ys = true := fun x hx => ⟨s46 _ _ (gE' x hx), (gE x hx).2⟩
      clear s5 s6 s46 e5 e6 hnd sl el gE' gD' g1' g2' gS' gls' gA' g6' g7' btB g1 g2 g3 g4 g5 g6 g7 g8 gS gls gD pn pn2 pn3 pn4 bt2 bt4 tg tg4 nl nL3 nhd
      have mem : ∀ u ∈ pr.map fun x => V.ref x.1, ∃ x ∈ pr, u = V.ref x.1 := fun u hu => by
        obtain ⟨x, hx, rfl⟩ := List.mem_map.mp hu
        exact ⟨x, hx, rfl⟩
      have mem2 : ∀ x ∈ pr, V.ref x.1 ∈ pr.map fun x => V.ref x.1 := fun x hx => List.mem_map.mpr ⟨x, hx, rfl⟩
      refine ⟨_, rfl, S, _, 0, _, rfl, rfl, SqT.of hS6, atI_nat (j := 0) rfl, _, rfl, S, _, 1, _, rfl, rfl, SqT.of hS6, atI_nat (j := 1) rfl, _, rfl, (by show 3 ≤ sizeLine; decide), fun R1 nR1 => ?_⟩
      have s7 := @same_new _ _ (.lst [V.ref q1, .ref q2, .ref D]) nR1
      have e7 := @upd_same G6 R1 (.lst [V.ref q1, .ref q2, .ref D])
      generalize upd G6 R1 (.lst [V.ref q1, .ref q2, .ref D]) = G7 at s7 e7 ⊢
      have la7 := la.same s7
      have eE7 : ∀ x ∈ pr, G7 x.1 = some (.tup x.2.vals) ∧ x.2.Fine ∧ ofB x.2 xs ys = true := fun x hx => ⟨s7 _ _ (hE6 x hx).1, (hE6 x hx).2⟩
      refine ⟨R1, _, _, _, rfl, e7, house_many (.inl la7.hd.h1) (.inl la7.hd.h2) nx ny x0 y0 (by omega) (by omega) (.inl (s7 _ _ hD6)) (by rw [List.length_map]; omega) eE7 ndr (by omega) mem mem2,
        shq_three e7 (shq_names (.inl la7.hd.h1) nx (by omega)) (shq_names (.inl la7.hd.h2) ny (by omega)) (shq_ents (.inl (s7 _ _ hD6)) mem (fun x hx => ⟨(eE7 x hx).1, (eE7 x hx).2.1⟩) (by rw [List.length_map]; omega)), la7.tg, fun G8 tb8 => ?_⟩
      have la8 := la7.tbl tb8
      have hD8 := tb8.2 _ _ (s7 _ _ hD6) fun _ z => nomatch z
      have hS8 := tb8.2 _ _ (s7 _ _ hS6) fun _ z => nomatch z
      have hE8 : ∀ x ∈ pr, G8 x.1 = some (.tup x.2.vals) ∧ x.2.Fine ∧ ofB x.2 xs ys = true := fun x hx => ⟨tb8.2 _ _ (eE7 x hx).1 (fun _ z => nomatch z), (eE7 x hx).2⟩
      refine ⟨true, rfl, iteF ?_⟩
      clear la7 eE7 s7 e7
      refine ⟨_, rfl, S, _, 0, _, rfl, rfl, SqT.of hS8, atI_nat (j := 0) rfl, _, rfl, S, _, 1, _, rfl, rfl, SqT.of hS8, atI_nat (j := 1) rfl, q2, _, rfl, .inl ⟨SqL.of la8.hd.h2, fun t nt => ?_⟩⟩
      have s9 := @same_new _ _ (.tup (ys.map V.str)) nt
      have e9 := @upd_same G8 t (.tup (ys.map V.str))
      generalize upd G8 t (.tup (ys.map V.str)) = G9 at s9 e9 ⊢
      have hsz2 : (pr.map fun x => V.ref x.1).length * (2 : Int).toNat ≤ sizeLine := by
        rw [List.length_map]
        exact Nat.le_trans (show pr.length * 2 ≤ 1000 by omega) (by decide)
      refine ⟨_, rfl, D, 2, _, rfl, rfl, s9 _ _ hD8, by decide, by decide, hsz2, fun R2 nR2 => ?_⟩
      rw [show (List.replicate (2 : Int).toNat (pr.map fun x => V.ref x.1)).flatten = (pr.map fun x => V.ref x.1) ++ (pr.map fun x => V.ref x.1) by simp]
      have s10 := @same_new _ _ (.lst ((pr.map fun x => V.ref x.1) ++ (pr.map fun x => V.ref x.1))) nR2
      have e10 := @upd_same G9 R2 (.lst ((pr.map fun x => V.ref x.1) ++ (pr.map fun x => V.ref x.1)))
      generalize upd G9 R2 (.lst ((pr.map fun x => V.ref x.1) ++ (pr.map fun x => V.ref x.1))) = G10 at s10 e10 ⊢
      refine ⟨(by show 3 ≤ sizeLine; decide), fun R3 nR3 => ?_⟩
      have s11 := @same_new _ _ (.lst [V.ref q1, .ref t, .ref R2]) nR3
      have e11 := @upd_same G10 R3 (.lst [V.ref q1, .ref t, .ref R2])
      generalize upd G10 R3 (.lst [V.ref q1, .ref t, .ref R2]) = G11 at s11 e11 ⊢
      have s811 := s9.trans (s10.trans s11)
      have la11 := la8.same s811
      have et := s11 _ _ (s10 _ _ e9)
      have eR := s11 _ _ e10
      have eE11 : ∀ x ∈ pr, G11 x.1 = some (.tup x.2.vals) ∧ x.2.Fine ∧ ofB x.2 xs ys = true := fun x hx => ⟨s811 _ _ (hE8 x hx).1, (hE8 x hx).2⟩
      have memT : ∀ u ∈ (pr.map fun x => V.ref x.1) ++ (pr.map fun x => V.ref x.1), ∃ x ∈ pr, u = V.ref x.1 := fun u hu => (List.mem_append.mp hu).elim (mem u) (mem u)
      refine ⟨R3, _, _, _, rfl, e11, house_many (.inl la11.hd.h1) (.inr et) nx ny x0 y0 (by omega) (by omega) (.inl eR) (by rw [List.length_append, List.length_map]; omega) eE11 ndr (by omega) memT fun x hx => List.mem_append_left _ (mem2 x hx),
        shq_three e11 (shq_names (.inl la11.hd.h1) nx (by omega)) (shq_names (.inr et) ny (by omega)) (shq_ents (.inl eR) memT (fun x hx => ⟨(eE11 x hx).1, (eE11 x hx).2.1⟩) (by rw [List.length_append, List.length_map]; omega)), la11.tg, fun G12 tb12 => ?_⟩
      have la12 := la11.tbl tb12
      have szm : (pr.take m).length = m := by rw [List.length_take]; omega
      have ndm : ((pr.take m).map fun x => x.2.name).Nodup := by rw [List.map_take]; exact (List.take_sublist _ _).nodup ndr
      refine ⟨true, rfl, iteF ?_⟩
      clear e9 e10 e11 s9 s10 s11 s811 la11 et eR eE11 la8 hD8 hS8 hE8 la hD6 hS6 hE6 tb8 tb12 memT mem mem2
      refine ⟨10, rfl, by decide, by decide, for_range (lo := 0) (n := 10) (fun j σ H' => ∃ y14 y15 y16 y17, σ = [some (.ref a), some (.ref p), some (.ref l1), some (.ref l2), some (.ref l3), some (.ref l4), some (.ref A), some (.ref ls), some (.ref S), some (.ref l5), some (.ref D), none, some (.int (m : Int)), some (.ref hd), y14, y15, y16, y17] ∧
        Laid H' p c (1200 + 100 * j) Ts hd q1 q2 L3 A l1 l2 ls xs ys PL GL (pr.take m) far kind) ⟨_, _, _, _, rfl, la12⟩ ?_ ?_⟩
      · rintro j σ Ha hj ⟨y14, y15, y16, y17, rfl, la⟩
        refine ⟨_, rfl, p, c, _, 3, rfl, la.pen, by omega, by decide, by decide, fun rr Hb aa bb pnb btb => ?_⟩
        obtain ⟨wh, rfl⟩ : ∃ u : Nat, rr = u := ⟨rr.toNat, (Int.toNat_of_nonneg aa).symm⟩
        have lb := la.but pnb btb
        refine ⟨_, rfl, _, rfl, _, rfl, _, rfl, _, rfl, p, c, hd, q1, q2, L3, A, l1, l2, ls, _, xs, ys, PL, GL, pr.take m, far, kind, wh, rfl, lb.pen, by omega, by omega, lb.hd, fun r v1 Hc nr ec gd pnc btc => ?_⟩
        have lc := lb.but pnc btc
        have np : r ≠ p := fun z => lb.pen.there (z ▸ nr)
        have nc : r ≠ c := fun z => lb.pen.cells (z ▸ nr)
        refine ⟨fun σ H' => ∃ y17 w1 w2 w3, σ = [some (.ref a), some (.ref p), some (.ref l1), some (.ref l2), some (.ref l3), some (.ref l4), some (.ref A), some (.ref ls), some (.ref S), some (.ref l5), some (.ref D), none, some (.int (m : Int)), some (.ref hd), some (.int (0 + (j : Int))), some (.int (wh : Int)), some (.ref r), y17] ∧
          Laid H' p c (1200 + 100 * j + 60) Ts hd q1 q2 L3 A l1 l2 ls xs ys PL GL (pr.take m) far kind ∧ H' r = some (.lst [w1, w2, w3]) ∧ HouseBad H' w1 w2 w3 ∧ ShQ K H' (.ref r) 230000 20, ?_, ?_⟩
        · refine ⟨_, rfl, p, c, _, 3, rfl, lc.pen, by omega, by decide, by decide, fun rr2 Hd aa2 bb2 pnd btd => ⟨rfl, _, rfl, ite2 (fun _ => ?_) (fun _ => ?_)⟩⟩
          · have ld := lc.but pnd btd
            have hrd := pen_keepL lc.pen btd ec
            refine ⟨_, rfl, _, 1, rfl, rfl, _, 3, rfl, rfl, (by show (0 : Int) < 3; decide), ?_⟩
            obtain ⟨w', hw'⟩ : ∃ w', w' = (wh + 1) % 3 := ⟨_, rfl⟩
            have ew : ((wh : Int) + 1) % 3 = (w' : Int) := by omega
            have w3' : w' < 3 := by omega
            show gName 17 (V.int (((wh : Int) + 1) % 3)) _ _ _
            rw [ew]
            refine ⟨_, rfl, _, rfl, _, rfl, _, rfl, _, rfl, p, c, hd, q1, q2, L3, A, l1, l2, ls, _, xs, ys, PL, GL, pr.take m, far, kind, w', rfl, ld.pen, by omega, by omega, ld.hd, fun r2 v2 He nr2 ee gd2 pne bte => ?_⟩
            have hre := pen_keepL ld.pen bte hrd
            have ix3 : ixN 3 (w' : Int) = some w' := by
              have : w' = 0 ∨ w' = 1 ∨ w' = 2 := by omega
              rcases this with e | e | e <;> rw [e] <;> rfl
            refine ⟨_, rfl, r2, _, (w' : Int), v2, rfl, rfl, SqL.of ee, atI_nat (by rw [List.getElem?_set_self (by exact w3')]), _, rfl, _, rfl, r, _, _, w', rfl, rfl, hre, by rw [List.length_set]; exact ix3, ?_⟩
            have le := ld.but pne bte
            have hrG : ∀ {o : HO}, (upd He r o) r = some o := upd_same
            generalize hG : upd He r (.lst (([V.ref q1, .ref q2, .ref L3].set wh v1).set w' v2)) = G
            have gr : G r = some (.lst (([V.ref q1, .ref q2, .ref L3].set wh v1).set w' v2)) := by rw [← hG]; exact upd_same
            have gn : ∀ {b : Addr} {o : HO}, He b = some o → b ≠ r → G b = some o := fun h n => by rw [← hG]; exact (upd_ne n).trans h
            have btce : But p Hc He := btd.tr bte
            have old : ∀ {b : Addr} {o : HO}, Hb b = some o → b ≠ r := fun h => ne_of_none h nr
            have hdG : Handed G hd q1 q2 L3 A l1 l2 ls xs ys PL GL (pr.take m) far kind := lb.hd.on (fun b us h => gn (pen_keepL lb.pen (btc.tr btce) h) (old h)) fun b us h => gn (pen_keep lb.pen (btc.tr btce) h) (old h)
            have tupG : ∀ {b : Addr} {us : List V}, He b = some (.tup us) → G b = some (.tup us) := fun h => gn h fun z => by
              rw [z, hre] at h
              exact nomatch h
            have x1 := gd G (fun b us h => tupG (pen_keep lc.pen btce h)) hdG.a1 hdG.a2 fun b o f n h => gn (btce _ _ h fun z => lb.pen.there (z ▸ f)) n
            have x2 := gd2 G (fun b us h => tupG h) hdG.a1 hdG.a2 fun b o f n h => gn h fun z => by
              rw [z, hrd] at f
              exact nomatch f
            obtain ⟨w1, w2, w3, e3, bad⟩ := bad_two hdG x1.1 (hw' ▸ x2.1) (by omega)
            refine ⟨_, w1, w2, w3, rfl, ⟨?_, ?_, hdG⟩, ?_, bad, ?_⟩
            · rw [← hG]
              exact (le.pen.mono (by omega)).upd np nc
            · rw [← hG]
              exact tabs_upL le.tg hre
            · rw [gr, ← e3, hw']
            · refine (shq_lst (n := 70000) (k := 4) (m := 230000) (SqL.of gr) (fun u hu => ?_) (by rw [List.length_set, List.length_set]; simp only [List.length_cons, List.length_nil]; omega)).mono (Nat.le_refl _) (by decide)
              rcases List.mem_or_eq_of_mem_set hu with hu | rfl
              · rcases List.mem_or_eq_of_mem_set hu with hu | rfl
                · exact hdG.parts u hu
                · exact x1.2
              · exact x2.2
          · have ld := lc.but pnd btd
            have hrd := pen_keepL lc.pen btd ec
            have x1 := gd Hd (fun b us h => pen_keep lc.pen btd h) ld.hd.a1 ld.hd.a2 fun b o f n h => btd _ _ h fun z => lb.pen.there (z ▸ f)
            obtain ⟨w1, w2, w3, e3, bad⟩ := bad_one ld.hd x1.1 (by omega)
            refine ⟨_, w1, w2, w3, rfl, ld.mono (by omega), by rw [hrd, ← e3], bad, (shq_lst (n := 70000) (k := 4) (m := 230000) (SqL.of hrd) (fun u hu => ?_) (by rw [List.length_set]; simp only [List.length_cons, List.length_nil]; omega)).mono (Nat.le_refl _) (by decide)⟩
            rcases List.mem_or_eq_of_mem_set hu with hu | rfl
            · exact ld.hd.parts u hu
            · exact x1.2
        · rintro σ He ⟨y17, w1, w2, w3, rfl, le, hr3, bad, sh⟩
          refine ⟨_, rfl, r, w1, w2, w3, rfl, hr3, bad, sh, le.tg, fun Hf tbf => ⟨true, rfl, iteF ?_⟩⟩
          have lf := le.tbl tbf
          have hd' := lf.hd
          refine ⟨_, rfl, hd, _, 0, _, rfl, rfl, SqL.of hd'.hh, atI_nat (j := 0) rfl, _, rfl, hd, _, 1, _, rfl, rfl, SqL.of hd'.hh, atI_nat (j := 1) rfl, _, rfl, hd, _, 2, _, rfl, rfl, SqL.of hd'.hh, atI_nat (j := 2) rfl, q1, q2, L3, xs, ys, pr.take m, rfl, .inl hd'.h1, .inl hd'.h2, .inl hd'.h3.h, nx, by omega, onceR_pos x0, ?_, ny, by omega, onceR_pos y0, ?_, fun x hx => ?_, fun x hx y hy e => name_tells ndm hx hy e, by omega, ?_, lf.tg, fun h Ps Gs Hg pm1 so1 pm2 so2 tbg hh => ?_⟩
          · have := onceR_le xs
            omega
          · have := onceR_le ys
            omega
          · obtain ⟨g1, g2, g3⟩ := hd'.h3.e x hx
            exact ⟨g1, g2, shaped_ent (fine_parts g2), g3⟩
          · have := (onceN_perm ndm (fun x hx => hx) fun x hx => hx).length_eq
            omega
          · obtain ⟨hp, hg, he, u0, u1', u2', u3⟩ := hh
            refine ⟨h, _, 2, _, rfl, rfl, SqT.of u0, atI_nat (j := 2) rfl, he, _, rfl, .inr (SqT.of u3), _, rfl, rfl, _, rfl, ?_⟩
            have lz : ((sortE (onceN (pr.take m))).map fun x => V.ref x.1).length = m := by
              rw [List.length_map, (sortE_p _).length_eq, (onceN_perm ndm (fun x hx => hx) fun x hx => hx).length_eq, szm]
            rw [lz, decide_eq_true rfl]
            exact iteF ⟨_, _, _, _, rfl, (lf.tbl tbg).mono (by omega)⟩
      · rintro σ Ha _
        exact q Ha
end
theorem tab_is {K : PySem.W.Frag} {x : Str} {f c T : Addr} {oc occ : Value} {od odc : Option Addr} {sl slc : Array (Option Value)} {fd : FuncData} {vs : Array Value}
    (a : PySem.W.nsIn K mainGlobals x = some (some (.ref f))) (l : K.lookup f = some ⟨oc, od, .func fd, sl⟩) (hc : fd.code = .ref c) (lc : K.lookup c = some ⟨occ, odc, .fields vs, slc⟩) (hv : (vs[11]? : Option Value) = some (.ref T)) :
    PySem.W.tabIn K x = some (c, T) := by
  unfold PySem.W.tabIn
  simp only [a, l, hc, lc, hv]
set_option maxHeartbeats 4000000 in
theorem all_mk {l : PySem.W.OpenLaw} {q : Program} {loose : List Str} {XP : (Str → Option Value) → Heap → Prop} {w : World} {s0 : Shared} {K : PySem.W.Frag} {h : Heap} {mg mb : Str → Option Value} {fa cE cH cxCl cxCd cxNd cxNe cxNf cxNg cxNgd cxNm cxNn cxNp cxNr cxNt cxNth cxNti cxTm cxTw f1 f2 f3 f4 f5 f6 f7 f8 f9 f10 f11 f12 f13 f14 f15 f16 f17 f18 f19 f20 f22 f23 f24 f25 f26 f27 f28 f29 c1 T1 c3 T3 c5 T5 c10 T10 aFo aBo aRa aFo1 aFo2 aFo3 aFo4 aFo5 aFo6 aFo7 aBo1 aBo2 aBo3 aBo4 : Addr} {dr1 : PySem.DefRec} {dr3 : PySem.DefRec} {dr5 : PySem.DefRec} {dr10 : PySem.DefRec}
    (G : PySem.W.Ground q loose [] XP w s0 mg mb h) (X : K.In h) (hfa : mg "law" = some (.ref fa))
    {od1 an1 odc1 od2 an2 od3 an3 odc3 od4 an4 od5 an5 odc5 od6 an6 od7 an7 od8 an8 od9 an9 od10 an10 odc10 od11 an11 od12 an12 od13 an13 od14 an14 od15 an15 od16 an16 od17 an17 od18 an18 od19 an19 od20 an20 od22 an22 od23 an23 od24 an24 od25 an25 od26 an26 od27 an27 od28 an28 od29 an29 odFo1 odFo2 odFo3 odFo4 odFo5 odFo6 odFo7 odBo1 odBo2 odBo3 odBo4 : Option Addr} {sl1 slc1 sl2 sl3 slc3 sl4 sl5 slc5 sl6 sl7 sl8 sl9 sl10 slc10 sl11 sl12 sl13 sl14 sl15 sl16 sl17 sl18 sl19 sl20 sl22 sl23 sl24 sl25 sl26 sl27 sl28 sl29 slFo1 slFo2 slFo3 slFo4 slFo5 slFo6 slFo7 slBo1 slBo2 slBo3 slBo4 : Array (Option Value)} {oc1 kV1 dc1 pm1 ct1 occ1 oc2 kV2 dc2 pm2 ct2 cd2 oc3 kV3 dc3 pm3 ct3 occ3 oc4 kV4 dc4 pm4 ct4 cd4 oc5 kV5 dc5 pm5 ct5 occ5 oc6 kV6 dc6 pm6 ct6 cd6 oc7 kV7 dc7 pm7 ct7 cd7 oc8 kV8 dc8 pm8 ct8 cd8 oc9 kV9 dc9 pm9 ct9 cd9 oc10 kV10 dc10 pm10 ct10 occ10 oc11 kV11 dc11 pm11 ct11 cd11 oc12 kV12 dc12 pm12 ct12 cd12 oc13 kV13 dc13 pm13 ct13 cd13 oc14 kV14 dc14 pm14 ct14 cd14 oc15 kV15 dc15 pm15 ct15 cd15 oc16 kV16 dc16 pm16 ct16 cd16 oc17 kV17 dc17 pm17 ct17 cd17 oc18 kV18 dc18 pm18 ct18 cd18 oc19 kV19 dc19 pm19 ct19 cd19 oc20 kV20 dc20 pm20 ct20 cd20 oc22 kV22 dc22 pm22 ct22 cd22 oc23 kV23 dc23 pm23 ct23 cd23 oc24 kV24 dc24 pm24 ct24 cd24 oc25 kV25 dc25 pm25 ct25 cd25 oc26 kV26 dc26 pm26 ct26 cd26 oc27 kV27 dc27 pm27 ct27 cd27 oc28 kV28 dc28 pm28 ct28 cd28 oc29 kV29 dc29 pm29 ct29 cd29 : Value}
    {nFo nFo1 nFo2 nFo3 nFo4 nFo5 nFo6 nFo7 nBo nBo1 nBo2 nBo3 nBo4 nRa : Nat}
    {itFo1 itFo2 itFo3 itFo4 itFo5 itFo6 itFo7 itBo1 itBo2 itBo3 itBo4 vsc1 vsc3 vsc5 vsc10 : Array Value}
    {esFo esBo esRa : Array DictEntry}
    {tRa1 tRa2 tRa3 tRa4 tRa5 tRa6 tRa7 tL tN tMP tMG tME : Tok}
    (a1 : PySem.W.nsIn K mainGlobals "is_name" = some (some (.ref f1)))
    (l1 : K.lookup f1 = some ⟨oc1, od1, .func (PySem.W.fnOf "is_name" "is_name" (defArgs sName) (defBody sName) (defScope sName) .none kV1 dc1 pm1 an1 (.ref c1) ct1), sl1⟩)
    (c_1 : PySem.W.codeIn K (.ref c1) "is_name" = true)
    (k1 : PySem.W.keepIn K (.ref f1) = true)
    (lc1 : K.lookup c1 = some ⟨occ1, odc1, .fields vsc1, slc1⟩)
    (hv1 : (vsc1[11]? : Option Value) = some (.ref T1))
    (nT1 : K.lookup T1 = none)
    (r1 : (PyProof.Rows.recsOf q).find? (fun e => e.name == ("is_name" : Str)) = some dr1)
    (a2 : PySem.W.nsIn K mainGlobals "is_whole" = some (some (.ref f2)))
    (l2 : K.lookup f2 = some ⟨oc2, od2, .func (PySem.W.fnOf "is_whole" "is_whole" (defArgs sWhole) (defBody sWhole) (defScope sWhole) .none kV2 dc2 pm2 an2 cd2 ct2), sl2⟩)
    (c_2 : PySem.W.codeIn K cd2 "is_whole" = true)
    (k2 : PySem.W.keepIn K (.ref f2) = true)
    (a3 : PySem.W.nsIn K mainGlobals "is_entry" = some (some (.ref f3)))
    (l3 : K.lookup f3 = some ⟨oc3, od3, .func (PySem.W.fnOf "is_entry" "is_entry" (defArgs sIsEntry) (defBody sIsEntry) (defScope sIsEntry) .none kV3 dc3 pm3 an3 (.ref c3) ct3), sl3⟩)
    (c_3 : PySem.W.codeIn K (.ref c3) "is_entry" = true)
    (k3 : PySem.W.keepIn K (.ref f3) = true)
    (lc3 : K.lookup c3 = some ⟨occ3, odc3, .fields vsc3, slc3⟩)
    (hv3 : (vsc3[11]? : Option Value) = some (.ref T3))
    (nT3 : K.lookup T3 = none)
    (r3 : (PyProof.Rows.recsOf q).find? (fun e => e.name == ("is_entry" : Str)) = some dr3)
    (a4 : PySem.W.nsIn K mainGlobals "fits" = some (some (.ref f4)))
    (l4 : K.lookup f4 = some ⟨oc4, od4, .func (PySem.W.fnOf "fits" "fits" (defArgs sFits) (defBody sFits) (defScope sFits) .none kV4 dc4 pm4 an4 cd4 ct4), sl4⟩)
    (c_4 : PySem.W.codeIn K cd4 "fits" = true)
    (k4 : PySem.W.keepIn K (.ref f4) = true)
    (a5 : PySem.W.nsIn K mainGlobals "is_entry_of" = some (some (.ref f5)))
    (l5 : K.lookup f5 = some ⟨oc5, od5, .func (PySem.W.fnOf "is_entry_of" "is_entry_of" (defArgs sIsEntryOf) (defBody sIsEntryOf) (defScope sIsEntryOf) .none kV5 dc5 pm5 an5 (.ref c5) ct5), sl5⟩)
    (c_5 : PySem.W.codeIn K (.ref c5) "is_entry_of" = true)
    (k5 : PySem.W.keepIn K (.ref f5) = true)
    (lc5 : K.lookup c5 = some ⟨occ5, odc5, .fields vsc5, slc5⟩)
    (hv5 : (vsc5[11]? : Option Value) = some (.ref T5))
    (nT5 : K.lookup T5 = none)
    (r5 : (PyProof.Rows.recsOf q).find? (fun e => e.name == ("is_entry_of" : Str)) = some dr5)
    (a6 : PySem.W.nsIn K mainGlobals "good_of" = some (some (.ref f6)))
    (l6 : K.lookup f6 = some ⟨oc6, od6, .func (PySem.W.fnOf "good_of" "good_of" (defArgs sGood) (defBody sGood) (defScope sGood) .none kV6 dc6 pm6 an6 cd6 ct6), sl6⟩)
    (c_6 : PySem.W.codeIn K cd6 "good_of" = true)
    (k6 : PySem.W.keepIn K (.ref f6) = true)
    (a7 : PySem.W.nsIn K mainGlobals "places_of" = some (some (.ref f7)))
    (l7 : K.lookup f7 = some ⟨oc7, od7, .func (PySem.W.fnOf "places_of" "places_of" (defArgs sPlacesOf) (defBody sPlacesOf) (defScope sPlacesOf) .none kV7 dc7 pm7 an7 cd7 ct7), sl7⟩)
    (c_7 : PySem.W.codeIn K cd7 "places_of" = true)
    (k7 : PySem.W.keepIn K (.ref f7) = true)
    (a8 : PySem.W.nsIn K mainGlobals "order_of" = some (some (.ref f8)))
    (l8 : K.lookup f8 = some ⟨oc8, od8, .func (PySem.W.fnOf "order_of" "order_of" (defArgs sOrd) (defBody sOrd) (defScope sOrd) .none kV8 dc8 pm8 an8 cd8 ct8), sl8⟩)
    (c_8 : PySem.W.codeIn K cd8 "order_of" = true)
    (k8 : PySem.W.keepIn K (.ref f8) = true)
    (a9 : PySem.W.nsIn K mainGlobals "house_of" = some (some (.ref f9)))
    (l9 : K.lookup f9 = some ⟨oc9, od9, .func (PySem.W.fnOf "house_of" "house_of" (defArgs sHouseOf) (defBody sHouseOf) (defScope sHouseOf) .none kV9 dc9 pm9 an9 cd9 ct9), sl9⟩)
    (c_9 : PySem.W.codeIn K cd9 "house_of" = true)
    (k9 : PySem.W.keepIn K (.ref f9) = true)
    (a10 : PySem.W.nsIn K mainGlobals "rising_names" = some (some (.ref f10)))
    (l10 : K.lookup f10 = some ⟨oc10, od10, .func (PySem.W.fnOf "rising_names" "rising_names" (defArgs sRising) (defBody sRising) (defScope sRising) .none kV10 dc10 pm10 an10 (.ref c10) ct10), sl10⟩)
    (c_10 : PySem.W.codeIn K (.ref c10) "rising_names" = true)
    (k10 : PySem.W.keepIn K (.ref f10) = true)
    (lc10 : K.lookup c10 = some ⟨occ10, odc10, .fields vsc10, slc10⟩)
    (hv10 : (vsc10[11]? : Option Value) = some (.ref T10))
    (nT10 : K.lookup T10 = none)
    (r10 : (PyProof.Rows.recsOf q).find? (fun e => e.name == ("rising_names" : Str)) = some dr10)
    (a11 : PySem.W.nsIn K mainGlobals "own_entries" = some (some (.ref f11)))
    (l11 : K.lookup f11 = some ⟨oc11, od11, .func (PySem.W.fnOf "own_entries" "own_entries" (defArgs sOwnEnts) (defBody sOwnEnts) (defScope sOwnEnts) .none kV11 dc11 pm11 an11 cd11 ct11), sl11⟩)
    (c_11 : PySem.W.codeIn K cd11 "own_entries" = true)
    (k11 : PySem.W.keepIn K (.ref f11) = true)
    (a12 : PySem.W.nsIn K mainGlobals "in_order" = some (some (.ref f12)))
    (l12 : K.lookup f12 = some ⟨oc12, od12, .func (PySem.W.fnOf "in_order" "in_order" (defArgs sInOrder) (defBody sInOrder) (defScope sInOrder) .none kV12 dc12 pm12 an12 cd12 ct12), sl12⟩)
    (c_12 : PySem.W.codeIn K cd12 "in_order" = true)
    (k12 : PySem.W.keepIn K (.ref f12) = true)
    (a13 : PySem.W.nsIn K mainGlobals "_law_pen" = some (some (.ref f13)))
    (l13 : K.lookup f13 = some ⟨oc13, od13, .func (PySem.W.fnOf "_law_pen" "_law_pen" (defArgs sPen) (defBody sPen) (defScope sPen) .none kV13 dc13 pm13 an13 cd13 ct13), sl13⟩)
    (c_13 : PySem.W.codeIn K cd13 "_law_pen" = true)
    (k13 : PySem.W.keepIn K (.ref f13) = true)
    (a14 : PySem.W.nsIn K mainGlobals "_law_take" = some (some (.ref f14)))
    (l14 : K.lookup f14 = some ⟨oc14, od14, .func (PySem.W.fnOf "_law_take" "_law_take" (defArgs sTake) (defBody sTake) (defScope sTake) .none kV14 dc14 pm14 an14 cd14 ct14), sl14⟩)
    (c_14 : PySem.W.codeIn K cd14 "_law_take" = true)
    (k14 : PySem.W.keepIn K (.ref f14) = true)
    (a15 : PySem.W.nsIn K mainGlobals "_law_names" = some (some (.ref f15)))
    (l15 : K.lookup f15 = some ⟨oc15, od15, .func (PySem.W.fnOf "_law_names" "_law_names" (defArgs sNames) (defBody sNames) (defScope sNames) .none kV15 dc15 pm15 an15 cd15 ct15), sl15⟩)
    (c_15 : PySem.W.codeIn K cd15 "_law_names" = true)
    (k15 : PySem.W.keepIn K (.ref f15) = true)
    (a16 : PySem.W.nsIn K mainGlobals "_law_words" = some (some (.ref f16)))
    (l16 : K.lookup f16 = some ⟨oc16, od16, .func (PySem.W.fnOf "_law_words" "_law_words" (defArgs sWords) (defBody sWords) (defScope sWords) .none kV16 dc16 pm16 an16 cd16 ct16), sl16⟩)
    (c_16 : PySem.W.codeIn K cd16 "_law_words" = true)
    (k16 : PySem.W.keepIn K (.ref f16) = true)
    (a17 : PySem.W.nsIn K mainGlobals "_law_moments" = some (some (.ref f17)))
    (l17 : K.lookup f17 = some ⟨oc17, od17, .func (PySem.W.fnOf "_law_moments" "_law_moments" (defArgs sMoments) (defBody sMoments) (defScope sMoments) .none kV17 dc17 pm17 an17 cd17 ct17), sl17⟩)
    (c_17 : PySem.W.codeIn K cd17 "_law_moments" = true)
    (k17 : PySem.W.keepIn K (.ref f17) = true)
    (a18 : PySem.W.nsIn K mainGlobals "_law_many" = some (some (.ref f18)))
    (l18 : K.lookup f18 = some ⟨oc18, od18, .func (PySem.W.fnOf "_law_many" "_law_many" (defArgs sMany) (defBody sMany) (defScope sMany) .none kV18 dc18 pm18 an18 cd18 ct18), sl18⟩)
    (c_18 : PySem.W.codeIn K cd18 "_law_many" = true)
    (k18 : PySem.W.keepIn K (.ref f18) = true)
    (a19 : PySem.W.nsIn K mainGlobals "_law_entry_of" = some (some (.ref f19)))
    (l19 : K.lookup f19 = some ⟨oc19, od19, .func (PySem.W.fnOf "_law_entry_of" "_law_entry_of" (defArgs sEntryOf) (defBody sEntryOf) (defScope sEntryOf) .none kV19 dc19 pm19 an19 cd19 ct19), sl19⟩)
    (c_19 : PySem.W.codeIn K cd19 "_law_entry_of" = true)
    (k19 : PySem.W.keepIn K (.ref f19) = true)
    (a20 : PySem.W.nsIn K mainGlobals "_law_entry" = some (some (.ref f20)))
    (l20 : K.lookup f20 = some ⟨oc20, od20, .func (PySem.W.fnOf "_law_entry" "_law_entry" (defArgs sEntry) (defBody sEntry) (defScope sEntry) .none kV20 dc20 pm20 an20 cd20 ct20), sl20⟩)
    (c_20 : PySem.W.codeIn K cd20 "_law_entry" = true)
    (k20 : PySem.W.keepIn K (.ref f20) = true)
    (a22 : PySem.W.nsIn K mainGlobals "_law_is_refused" = some (some (.ref f22)))
    (l22 : K.lookup f22 = some ⟨oc22, od22, .func (PySem.W.fnOf "_law_is_refused" "_law_is_refused" (defArgs sRefused) (defBody sRefused) (defScope sRefused) .none kV22 dc22 pm22 an22 cd22 ct22), sl22⟩)
    (c_22 : PySem.W.codeIn K cd22 "_law_is_refused" = true)
    (k22 : PySem.W.keepIn K (.ref f22) = true)
    (a23 : PySem.W.nsIn K mainGlobals "_law_put" = some (some (.ref f23)))
    (l23 : K.lookup f23 = some ⟨oc23, od23, .func (PySem.W.fnOf "_law_put" "_law_put" (defArgs sPut) (defBody sPut) (defScope sPut) .none kV23 dc23 pm23 an23 cd23 ct23), sl23⟩)
    (c_23 : PySem.W.codeIn K cd23 "_law_put" = true)
    (k23 : PySem.W.keepIn K (.ref f23) = true)
    (a24 : PySem.W.nsIn K mainGlobals "_law_no_names" = some (some (.ref f24)))
    (l24 : K.lookup f24 = some ⟨oc24, od24, .func (PySem.W.fnOf "_law_no_names" "_law_no_names" (defArgs sNoNames) (defBody sNoNames) (defScope sNoNames) .none kV24 dc24 pm24 an24 cd24 ct24), sl24⟩)
    (c_24 : PySem.W.codeIn K cd24 "_law_no_names" = true)
    (k24 : PySem.W.keepIn K (.ref f24) = true)
    (a25 : PySem.W.nsIn K mainGlobals "_law_stray" = some (some (.ref f25)))
    (l25 : K.lookup f25 = some ⟨oc25, od25, .func (PySem.W.fnOf "_law_stray" "_law_stray" (defArgs sStray) (defBody sStray) (defScope sStray) .none kV25 dc25 pm25 an25 cd25 ct25), sl25⟩)
    (c_25 : PySem.W.codeIn K cd25 "_law_stray" = true)
    (k25 : PySem.W.keepIn K (.ref f25) = true)
    (a26 : PySem.W.nsIn K mainGlobals "_law_twin" = some (some (.ref f26)))
    (l26 : K.lookup f26 = some ⟨oc26, od26, .func (PySem.W.fnOf "_law_twin" "_law_twin" (defArgs sTwin) (defBody sTwin) (defScope sTwin) .none kV26 dc26 pm26 an26 cd26 ct26), sl26⟩)
    (c_26 : PySem.W.codeIn K cd26 "_law_twin" = true)
    (k26 : PySem.W.keepIn K (.ref f26) = true)
    (a27 : PySem.W.nsIn K mainGlobals "_law_no_entries" = some (some (.ref f27)))
    (l27 : K.lookup f27 = some ⟨oc27, od27, .func (PySem.W.fnOf "_law_no_entries" "_law_no_entries" (defArgs sNoEnts) (defBody sNoEnts) (defScope sNoEnts) .none kV27 dc27 pm27 an27 cd27 ct27), sl27⟩)
    (c_27 : PySem.W.codeIn K cd27 "_law_no_entries" = true)
    (k27 : PySem.W.keepIn K (.ref f27) = true)
    (a28 : PySem.W.nsIn K mainGlobals "_law_spoilt" = some (some (.ref f28)))
    (l28 : K.lookup f28 = some ⟨oc28, od28, .func (PySem.W.fnOf "_law_spoilt" "_law_spoilt" (defArgs sSpoilt) (defBody sSpoilt) (defScope sSpoilt) .none kV28 dc28 pm28 an28 cd28 ct28), sl28⟩)
    (c_28 : PySem.W.codeIn K cd28 "_law_spoilt" = true)
    (k28 : PySem.W.keepIn K (.ref f28) = true)
    (a29 : PySem.W.nsIn K mainGlobals "law" = some (some (.ref f29)))
    (l29 : K.lookup f29 = some ⟨oc29, od29, .func (PySem.W.fnOf "law" "law" (defArgs sLaw) (defBody sLaw) (defScope sLaw) .none kV29 dc29 pm29 an29 cd29 ct29), sl29⟩)
    (c_29 : PySem.W.codeIn K cd29 "law" = true)
    (k29 : PySem.W.keepIn K (.ref f29) = true)
    (ne13 : T1 ≠ T3)
    (ne15 : T1 ≠ T5)
    (ne35 : T3 ≠ T5)
    (ne110 : T1 ≠ T10)
    (ne310 : T3 ≠ T10)
    (ne510 : T5 ≠ T10)
    (AFo : PySem.W.nsIn K mainGlobals "FORMS" = some (some (.ref aFo)))
    (LFo : K.lookup aFo = some ⟨.type "dict", none, .dict esFo nFo, #[]⟩)
    (litFo : PySem.W.KeysLit w.params esFo.toList)
    (lowFo : (aFo == sysModules) = false)
    (gFo1 : PySem.W.nsIn K aFo "come" = some (some (.ref aFo1)))
    (LFo1 : K.lookup aFo1 = some ⟨.type "tuple", odFo1, .seq itFo1 nFo1, slFo1⟩)
    (zFo1 : itFo1.size ≤ sizeLine)
    (vFo1 : Vals ([.str "name", .str "moment", .str "name", .str "name", .str "many", .str "price"] : List V) itFo1.toList)
    (gFo2 : PySem.W.nsIn K aFo "go" = some (some (.ref aFo2)))
    (LFo2 : K.lookup aFo2 = some ⟨.type "tuple", odFo2, .seq itFo2 nFo2, slFo2⟩)
    (zFo2 : itFo2.size ≤ sizeLine)
    (vFo2 : Vals ([.str "name", .str "moment", .str "name", .str "name", .str "many"] : List V) itFo2.toList)
    (gFo3 : PySem.W.nsIn K aFo "move" = some (some (.ref aFo3)))
    (LFo3 : K.lookup aFo3 = some ⟨.type "tuple", odFo3, .seq itFo3 nFo3, slFo3⟩)
    (zFo3 : itFo3.size ≤ sizeLine)
    (vFo3 : Vals ([.str "name", .str "moment", .str "name", .str "name", .str "name", .str "many"] : List V) itFo3.toList)
    (gFo4 : PySem.W.nsIn K aFo "some" = some (some (.ref aFo4)))
    (LFo4 : K.lookup aFo4 = some ⟨.type "tuple", odFo4, .seq itFo4 nFo4, slFo4⟩)
    (zFo4 : itFo4.size ≤ sizeLine)
    (vFo4 : Vals ([.str "name", .str "moment", .str "name", .str "name", .str "end"] : List V) itFo4.toList)
    (gFo5 : PySem.W.nsIn K aFo "swap" = some (some (.ref aFo5)))
    (LFo5 : K.lookup aFo5 = some ⟨.type "tuple", odFo5, .seq itFo5 nFo5, slFo5⟩)
    (zFo5 : itFo5.size ≤ sizeLine)
    (vFo5 : Vals ([.str "name", .str "moment", .str "name", .str "name"] : List V) itFo5.toList)
    (gFo6 : PySem.W.nsIn K aFo "count" = some (some (.ref aFo6)))
    (LFo6 : K.lookup aFo6 = some ⟨.type "tuple", odFo6, .seq itFo6 nFo6, slFo6⟩)
    (zFo6 : itFo6.size ≤ sizeLine)
    (vFo6 : Vals ([.str "name", .str "moment", .str "name", .str "name", .str "counted", .str "name"] : List V) itFo6.toList)
    (gFo7 : PySem.W.nsIn K aFo "look" = some (some (.ref aFo7)))
    (LFo7 : K.lookup aFo7 = some ⟨.type "tuple", odFo7, .seq itFo7 nFo7, slFo7⟩)
    (zFo7 : itFo7.size ≤ sizeLine)
    (vFo7 : Vals ([.str "name", .str "moment", .str "name", .str "name"] : List V) itFo7.toList)
    (ABo : PySem.W.nsIn K mainGlobals "BOUNDS" = some (some (.ref aBo)))
    (LBo : K.lookup aBo = some ⟨.type "dict", none, .dict esBo nBo, #[]⟩)
    (litBo : PySem.W.KeysLit w.params esBo.toList)
    (lowBo : (aBo == sysModules) = false)
    (gBo1 : PySem.W.nsIn K aBo "moment" = some (some (.ref aBo1)))
    (LBo1 : K.lookup aBo1 = some ⟨.type "tuple", odBo1, .seq itBo1 nBo1, slBo1⟩)
    (zBo1 : itBo1.size ≤ sizeLine)
    (vBo1 : Vals ([.int 0, .int 9999] : List V) itBo1.toList)
    (gBo2 : PySem.W.nsIn K aBo "many" = some (some (.ref aBo2)))
    (LBo2 : K.lookup aBo2 = some ⟨.type "tuple", odBo2, .seq itBo2 nBo2, slBo2⟩)
    (zBo2 : itBo2.size ≤ sizeLine)
    (vBo2 : Vals ([.int 1, .int 1000000000] : List V) itBo2.toList)
    (gBo3 : PySem.W.nsIn K aBo "counted" = some (some (.ref aBo3)))
    (LBo3 : K.lookup aBo3 = some ⟨.type "tuple", odBo3, .seq itBo3 nBo3, slBo3⟩)
    (zBo3 : itBo3.size ≤ sizeLine)
    (vBo3 : Vals ([.int 0, .int 1000000000] : List V) itBo3.toList)
    (gBo4 : PySem.W.nsIn K aBo "price" = some (some (.ref aBo4)))
    (LBo4 : K.lookup aBo4 = some ⟨.type "tuple", odBo4, .seq itBo4 nBo4, slBo4⟩)
    (zBo4 : itBo4.size ≤ sizeLine)
    (vBo4 : Vals ([.int 0, .int 1000000000] : List V) itBo4.toList)
    (ARa : PySem.W.nsIn K mainGlobals "RANKS" = some (some (.ref aRa)))
    (LRa : K.lookup aRa = some ⟨.type "dict", none, .dict esRa nRa, #[]⟩)
    (litRa : PySem.W.KeysLit w.params esRa.toList)
    (lowRa : (aRa == sysModules) = false)
    (gRa1 : PySem.W.nsIn K aRa "come" = some (some (.int 1 tRa1)))
    (gRa2 : PySem.W.nsIn K aRa "go" = some (some (.int 1 tRa2)))
    (gRa3 : PySem.W.nsIn K aRa "move" = some (some (.int 1 tRa3)))
    (gRa4 : PySem.W.nsIn K aRa "some" = some (some (.int 1 tRa4)))
    (gRa5 : PySem.W.nsIn K aRa "swap" = some (some (.int 0 tRa5)))
    (gRa6 : PySem.W.nsIn K aRa "count" = some (some (.int 2 tRa6)))
    (gRa7 : PySem.W.nsIn K aRa "look" = some (some (.int 2 tRa7)))
    (zL : PySem.W.nsIn K mainGlobals "LETTERS" = some (some (.str abc tL)))
    (zN : PySem.W.nsIn K mainGlobals "LONGEST_NAME" = some (some (.int 8 tN)))
    (zMP : PySem.W.nsIn K mainGlobals "MOST_PLACES" = some (some (.int 6 tMP)))
    (zMG : PySem.W.nsIn K mainGlobals "MOST_GOODS" = some (some (.int 3 tMG)))
    (zME : PySem.W.nsIn K mainGlobals "MOST_ENTRIES" = some (some (.int 30 tME)))
    (xFo : (esFo.toList.all fun e => match e.key with | .str s _ => words7.any fun y => s == y | _ => false) = true)
    (HE : PySem.W.nsIn K mainGlobals "CountError" = some (some (.ref cE)))
    (HH : PySem.W.nsIn K mainGlobals "NoHouse" = some (some (.ref cH)))
    (HCl : PySem.W.nsIn K mainGlobals "Clash" = some (some (.ref cxCl)))
    (HCd : PySem.W.nsIn K mainGlobals "Closed" = some (some (.ref cxCd)))
    (HNd : PySem.W.nsIn K mainGlobals "NoDay" = some (some (.ref cxNd)))
    (HNe : PySem.W.nsIn K mainGlobals "NoEntry" = some (some (.ref cxNe)))
    (HNf : PySem.W.nsIn K mainGlobals "NoFilling" = some (some (.ref cxNf)))
    (HNg : PySem.W.nsIn K mainGlobals "NoGo" = some (some (.ref cxNg)))
    (HNgd : PySem.W.nsIn K mainGlobals "NoGood" = some (some (.ref cxNgd)))
    (HNm : PySem.W.nsIn K mainGlobals "NoMove" = some (some (.ref cxNm)))
    (HNn : PySem.W.nsIn K mainGlobals "NoName" = some (some (.ref cxNn)))
    (HNp : PySem.W.nsIn K mainGlobals "NoPlace" = some (some (.ref cxNp)))
    (HNr : PySem.W.nsIn K mainGlobals "NoRow" = some (some (.ref cxNr)))
    (HNt : PySem.W.nsIn K mainGlobals "NoText" = some (some (.ref cxNt)))
    (HNth : PySem.W.nsIn K mainGlobals "NoThen" = some (some (.ref cxNth)))
    (HNti : PySem.W.nsIn K mainGlobals "NoTie" = some (some (.ref cxNti)))
    (HTm : PySem.W.nsIn K mainGlobals "TooMany" = some (some (.ref cxTm)))
    (HTw : PySem.W.nsIn K mainGlobals "Twice" = some (some (.ref cxTw)))
    (e6 : PySem.W.specialIn K (.builtin "object.__class__") "__get__" = some (some (.builtin "getset_descriptor.__get__")))
    (e7 : PySem.W.takesIn K (.builtin "object.__class__") = some true)
    (exH : PySem.W.excIn K cH [.type "ValueError", .type "Exception", .type "BaseException", .type "object"] "ValueError.__new__" = true)
    (kpH : PySem.W.keepIn K (.ref cH) = true)
    (sbH : PySem.W.subIn K (.ref cH) (.type "BaseException") = some true)
    (tyH : PySem.W.typeIn K (.ref cH) = some (.type "type"))
    (e1H : PySem.W.findIn K (.ref cH) "__getattribute__" = some (some (.builtin "BaseException.__getattribute__")))
    (e2H : PySem.W.findIn K (.ref cH) "__getattr__" = some none)
    (e4H : PySem.W.hasDictIn K cH = true)
    (e5H : PySem.W.findIn K (.ref cH) "__class__" = some (some (.builtin "object.__class__")))
    (e8H : PySem.W.mroIn K cH (.type "object") = some true)
    (cmH : PySem.W.exmOne K (.ref cH) (.ref cE) = some true)
    (t1H : PySem.W.kitAny K (.ref cH) [.ref cxCl, .ref cxCd, .ref cxNd, .ref cxNe, .ref cxNf, .ref cxNg, .ref cxNgd, .ref cxNm, .ref cxNn, .ref cxNp, .ref cxNr] = some false)
    (t2H : PySem.W.kitAny K (.ref cH) [.ref cxNt, .ref cxNth, .ref cxNti, .ref cxTm, .ref cxTw] = some false)
    (hH : PySem.W.kitOne K (.ref cH) (.ref cH) = some true)
    (vH : PySem.W.kitOne K (.ref cH) (.type "ValueError") = some true)
    (y_abs : PySem.W.nsIn K mainGlobals "abs" = some none)
    (y_all : PySem.W.nsIn K mainGlobals "all" = some none)
    (y_bool : PySem.W.nsIn K mainGlobals "bool" = some none)
    (y_int : PySem.W.nsIn K mainGlobals "int" = some none)
    (y_isinstance : PySem.W.nsIn K mainGlobals "isinstance" = some none)
    (y_len : PySem.W.nsIn K mainGlobals "len" = some none)
    (y_list : PySem.W.nsIn K mainGlobals "list" = some none)
    (y_range : PySem.W.nsIn K mainGlobals "range" = some none)
    (y_repr : PySem.W.nsIn K mainGlobals "repr" = some none)
    (y_set : PySem.W.nsIn K mainGlobals "set" = some none)
    (y_sorted : PySem.W.nsIn K mainGlobals "sorted" = some none)
    (y_str : PySem.W.nsIn K mainGlobals "str" = some none)
    (y_tuple : PySem.W.nsIn K mainGlobals "tuple" = some none)
    (y_zip : PySem.W.nsIn K mainGlobals "zip" = some none)
    (y_ValueError : PySem.W.nsIn K mainGlobals "ValueError" = some none) :
    LawG l w K 10 63 "_law_script" mg fa h := by
  have Gg := G.T.g
  have e := hfa.symm.trans (PySem.W.mg_of X Gg a29)
  cases e
  have n_abs := PySem.W.mg_none_of X Gg y_abs
  have n_all := PySem.W.mg_none_of X Gg y_all
  have n_bool := PySem.W.mg_none_of X Gg y_bool
  have n_int := PySem.W.mg_none_of X Gg y_int
  have n_isinstance := PySem.W.mg_none_of X Gg y_isinstance
  have n_len := PySem.W.mg_none_of X Gg y_len
  have n_list := PySem.W.mg_none_of X Gg y_list
  have n_range := PySem.W.mg_none_of X Gg y_range
  have n_repr := PySem.W.mg_none_of X Gg y_repr
  have n_set := PySem.W.mg_none_of X Gg y_set
  have n_sorted := PySem.W.mg_none_of X Gg y_sorted
  have n_str := PySem.W.mg_none_of X Gg y_str
  have n_tuple := PySem.W.mg_none_of X Gg y_tuple
  have n_zip := PySem.W.mg_none_of X Gg y_zip
  have n_ValueError := PySem.W.mg_none_of X Gg y_ValueError
  have m_L := PySem.W.mg_of X Gg zL
  have m_N := PySem.W.mg_of X Gg zN
  have m_MP := PySem.W.mg_of X Gg zMP
  have m_MG := PySem.W.mg_of X Gg zMG
  have m_ME := PySem.W.mg_of X Gg zME
  have m_Fo := PySem.W.mg_of X Gg AFo
  have m_Bo := PySem.W.mg_of X Gg ABo
  have m_Ra := PySem.W.mg_of X Gg ARa
  have F1 := fun_mk (st := sName) l1 c_1 k1
  have b1 := F1.binds (ps := ["thing"]) fun _ _ _ _ _ _ us hl => match us, hl with | [_], _ => rfl
  have g1 := PySem.W.mg_of X Gg a1
  have F2 := fun_mk (st := sWhole) l2 c_2 k2
  have b2 := F2.binds (ps := ["thing"]) fun _ _ _ _ _ _ us hl => match us, hl with | [_], _ => rfl
  have g2 := PySem.W.mg_of X Gg a2
  have F3 := fun_mk (st := sIsEntry) l3 c_3 k3
  have b3 := F3.binds (ps := ["thing"]) fun _ _ _ _ _ _ us hl => match us, hl with | [_], _ => rfl
  have g3 := PySem.W.mg_of X Gg a3
  have F4 := fun_mk (st := sFits) l4 c_4 k4
  have b4 := F4.binds (ps := ["part", "sort"]) fun _ _ _ _ _ _ us hl => match us, hl with | [_, _], _ => rfl
  have g4 := PySem.W.mg_of X Gg a4
  have F5 := fun_mk (st := sIsEntryOf) l5 c_5 k5
  have b5 := F5.binds (ps := ["thing", "places", "goods"]) fun _ _ _ _ _ _ us hl => match us, hl with | [_, _, _], _ => rfl
  have g5 := PySem.W.mg_of X Gg a5
  have F6 := fun_mk (st := sGood) l6 c_6 k6
  have b6 := F6.binds (ps := ["entry"]) fun _ _ _ _ _ _ us hl => match us, hl with | [_], _ => rfl
  have g6 := PySem.W.mg_of X Gg a6
  have F7 := fun_mk (st := sPlacesOf) l7 c_7 k7
  have b7 := F7.binds (ps := ["entry"]) fun _ _ _ _ _ _ us hl => match us, hl with | [_], _ => rfl
  have g7 := PySem.W.mg_of X Gg a7
  have F8 := fun_mk (st := sOrd) l8 c_8 k8
  have b8 := F8.binds (ps := ["entry"]) fun _ _ _ _ _ _ us hl => match us, hl with | [_], _ => rfl
  have g8 := PySem.W.mg_of X Gg a8
  have F9 := fun_mk (st := sHouseOf) l9 c_9 k9
  have b9 := F9.binds (ps := ["places", "goods", "entries"]) fun _ _ _ _ _ _ us hl => match us, hl with | [_, _, _], _ => rfl
  have g9 := PySem.W.mg_of X Gg a9
  have F10 := fun_mk (st := sRising) l10 c_10 k10
  have b10 := F10.binds (ps := ["things", "most"]) fun _ _ _ _ _ _ us hl => match us, hl with | [_, _], _ => rfl
  have g10 := PySem.W.mg_of X Gg a10
  have F11 := fun_mk (st := sOwnEnts) l11 c_11 k11
  have b11 := F11.binds (ps := ["things", "places", "goods"]) fun _ _ _ _ _ _ us hl => match us, hl with | [_, _, _], _ => rfl
  have g11 := PySem.W.mg_of X Gg a11
  have F12 := fun_mk (st := sInOrder) l12 c_12 k12
  have b12 := F12.binds (ps := ["entries"]) fun _ _ _ _ _ _ us hl => match us, hl with | [_], _ => rfl
  have g12 := PySem.W.mg_of X Gg a12
  have F13 := fun_mk (st := sPen) l13 c_13 k13
  have b13 := F13.binds (ps := ["_law_script"]) fun _ _ _ _ _ _ us hl => match us, hl with | [_], _ => rfl
  have g13 := PySem.W.mg_of X Gg a13
  have F14 := fun_mk (st := sTake) l14 c_14 k14
  have b14 := F14.binds (ps := ["_law_pen_here", "_law_many_here"]) fun _ _ _ _ _ _ us hl => match us, hl with | [_, _], _ => rfl
  have g14 := PySem.W.mg_of X Gg a14
  have F15 := fun_mk (st := sNames) l15 c_15 k15
  have b15 := F15.binds (ps := ["_law_pen_here", "_law_many_here"]) fun _ _ _ _ _ _ us hl => match us, hl with | [_, _], _ => rfl
  have g15 := PySem.W.mg_of X Gg a15
  have F16 := fun_mk (st := sWords) l16 c_16 k16
  have b16 := F16.binds (ps := ["_law_pen_here", "_law_places", "_law_goods", "_law_entries"]) fun _ _ _ _ _ _ us hl => match us, hl with | [_, _, _, _], _ => rfl
  have g16 := PySem.W.mg_of X Gg a16
  have F17 := fun_mk (st := sMoments) l17 c_17 k17
  have b17 := F17.binds (ps := ["_law_pen_here", "_law_many_here"]) fun _ _ _ _ _ _ us hl => match us, hl with | [_, _], _ => rfl
  have g17 := PySem.W.mg_of X Gg a17
  have F18 := fun_mk (st := sMany) l18 c_18 k18
  have b18 := F18.binds (ps := ["_law_pen_here"]) fun _ _ _ _ _ _ us hl => match us, hl with | [_], _ => rfl
  have g18 := PySem.W.mg_of X Gg a18
  have F19 := fun_mk (st := sEntryOf) l19 c_19 k19
  have b19 := F19.binds (ps := ["_law_pen_here", "_law_word", "_law_name", "_law_moment", "_law_places", "_law_goods", "_law_hands"]) fun _ _ _ _ _ _ us hl => match us, hl with | [_, _, _, _, _, _, _], _ => rfl
  have g19 := PySem.W.mg_of X Gg a19
  have F20 := fun_mk (st := sEntry) l20 c_20 k20
  have b20 := F20.binds (ps := ["_law_pen_here", "_law_name", "_law_moment", "_law_places", "_law_goods", "_law_hands"]) fun _ _ _ _ _ _ us hl => match us, hl with | [_, _, _, _, _, _], _ => rfl
  have g20 := PySem.W.mg_of X Gg a20
  have F22 := fun_mk (st := sRefused) l22 c_22 k22
  have b22 := F22.binds (ps := ["_law_handed"]) fun _ _ _ _ _ _ us hl => match us, hl with | [_], _ => rfl
  have g22 := PySem.W.mg_of X Gg a22
  have F23 := fun_mk (st := sPut) l23 c_23 k23
  have b23 := F23.binds (ps := ["_law_pen_here", "_law_things", "_law_thing"]) fun _ _ _ _ _ _ us hl => match us, hl with | [_, _, _], _ => rfl
  have g23 := PySem.W.mg_of X Gg a23
  have F24 := fun_mk (st := sNoNames) l24 c_24 k24
  have b24 := F24.binds (ps := ["_law_pen_here", "_law_names_here", "_law_more"]) fun _ _ _ _ _ _ us hl => match us, hl with | [_, _, _], _ => rfl
  have g24 := PySem.W.mg_of X Gg a24
  have F25 := fun_mk (st := sStray) l25 c_25 k25
  have b25 := F25.binds (ps := ["_law_pen_here", "_law_name", "_law_places", "_law_goods", "_law_strange"]) fun _ _ _ _ _ _ us hl => match us, hl with | [_, _, _, _, _], _ => rfl
  have g25 := PySem.W.mg_of X Gg a25
  have F26 := fun_mk (st := sTwin) l26 c_26 k26
  have b26 := F26.binds (ps := ["_law_pen_here", "_law_entries"]) fun _ _ _ _ _ _ us hl => match us, hl with | [_, _], _ => rfl
  have g26 := PySem.W.mg_of X Gg a26
  have F27 := fun_mk (st := sNoEnts) l27 c_27 k27
  have b27 := F27.binds (ps := ["_law_pen_here", "_law_entries", "_law_some", "_law_strange"]) fun _ _ _ _ _ _ us hl => match us, hl with | [_, _, _, _], _ => rfl
  have g27 := PySem.W.mg_of X Gg a27
  have F28 := fun_mk (st := sSpoilt) l28 c_28 k28
  have b28 := F28.binds (ps := ["_law_pen_here", "_law_handed", "_law_all_names", "_law_which", "_law_strange"]) fun _ _ _ _ _ _ us hl => match us, hl with | [_, _, _, _, _], _ => rfl
  have g28 := PySem.W.mg_of X Gg a28
  have F29 := fun_mk (st := sLaw) l29 c_29 k29
  have t1 := tab_is a1 l1 rfl lc1 hv1
  obtain ⟨hd1, tb1⟩ := PySem.W.tab_of G.T X r1 t1
  have t3 := tab_is a3 l3 rfl lc3 hv3
  obtain ⟨hd3, tb3⟩ := PySem.W.tab_of G.T X r3 t3
  have t5 := tab_is a5 l5 rfl lc5 hv5
  obtain ⟨hd5, tb5⟩ := PySem.W.tab_of G.T X r5 t5
  have t10 := tab_is a10 l10 rfl lc10 hv10
  obtain ⟨hd10, tb10⟩ := PySem.W.tab_of G.T X r10 t10
  have DF : KDict K w aFo esFo nFo := ⟨LFo, litFo, lowFo⟩
  have hF : ∀ e : Ent, ∃ aS, KDct K w aFo e.word (.ref aS) ∧ ∀ H, SqT K H aS (e.sorts.map V.str) := fun e => by
    cases e
    · exact ⟨_, ⟨esFo, nFo, _, LFo, litFo, gFo1, rfl⟩, fun H => .inr ⟨_, _, _, LFo1, rfl, rfl, zFo1, vFo1⟩⟩
    · exact ⟨_, ⟨esFo, nFo, _, LFo, litFo, gFo2, rfl⟩, fun H => .inr ⟨_, _, _, LFo2, rfl, rfl, zFo2, vFo2⟩⟩
    · exact ⟨_, ⟨esFo, nFo, _, LFo, litFo, gFo3, rfl⟩, fun H => .inr ⟨_, _, _, LFo3, rfl, rfl, zFo3, vFo3⟩⟩
    · exact ⟨_, ⟨esFo, nFo, _, LFo, litFo, gFo4, rfl⟩, fun H => .inr ⟨_, _, _, LFo4, rfl, rfl, zFo4, vFo4⟩⟩
    · exact ⟨_, ⟨esFo, nFo, _, LFo, litFo, gFo5, rfl⟩, fun H => .inr ⟨_, _, _, LFo5, rfl, rfl, zFo5, vFo5⟩⟩
    · exact ⟨_, ⟨esFo, nFo, _, LFo, litFo, gFo6, rfl⟩, fun H => .inr ⟨_, _, _, LFo6, rfl, rfl, zFo6, vFo6⟩⟩
    · exact ⟨_, ⟨esFo, nFo, _, LFo, litFo, gFo7, rfl⟩, fun H => .inr ⟨_, _, _, LFo7, rfl, rfl, zFo7, vFo7⟩⟩
  have hB : ∀ x ∈ sorts4, ∃ aT, KDct K w aBo x (.ref aT) ∧ ∀ H, SqT K H aT [.int (bnd x).1, .int (bnd x).2] := fun x hx => by
    simp only [sorts4, List.mem_cons, List.not_mem_nil, or_false] at hx
    rcases hx with rfl | rfl | rfl | rfl
    · exact ⟨_, ⟨esBo, nBo, _, LBo, litBo, gBo1, rfl⟩, fun H => .inr ⟨_, _, _, LBo1, rfl, rfl, zBo1, vBo1⟩⟩
    · exact ⟨_, ⟨esBo, nBo, _, LBo, litBo, gBo2, rfl⟩, fun H => .inr ⟨_, _, _, LBo2, rfl, rfl, zBo2, vBo2⟩⟩
    · exact ⟨_, ⟨esBo, nBo, _, LBo, litBo, gBo3, rfl⟩, fun H => .inr ⟨_, _, _, LBo3, rfl, rfl, zBo3, vBo3⟩⟩
    · exact ⟨_, ⟨esBo, nBo, _, LBo, litBo, gBo4, rfl⟩, fun H => .inr ⟨_, _, _, LBo4, rfl, rfl, zBo4, vBo4⟩⟩
  have hR : ∀ e : Ent, KDct K w aRa e.word (.int e.rank) := fun e => by
    cases e
    · exact ⟨esRa, nRa, _, LRa, litRa, gRa1, ⟨_, rfl⟩⟩
    · exact ⟨esRa, nRa, _, LRa, litRa, gRa2, ⟨_, rfl⟩⟩
    · exact ⟨esRa, nRa, _, LRa, litRa, gRa3, ⟨_, rfl⟩⟩
    · exact ⟨esRa, nRa, _, LRa, litRa, gRa4, ⟨_, rfl⟩⟩
    · exact ⟨esRa, nRa, _, LRa, litRa, gRa5, ⟨_, rfl⟩⟩
    · exact ⟨esRa, nRa, _, LRa, litRa, gRa6, ⟨_, rfl⟩⟩
    · exact ⟨esRa, nRa, _, LRa, litRa, gRa7, ⟨_, rfl⟩⟩
  refine ⟨PySem.W.fnOf "law" "law" (defArgs sLaw) (defBody sLaw) (defScope sLaw) .none kV29 dc29 pm29 an29 cd29 ct29, [(c1, T1), (c3, T3), (c5, T5), (c10, T10)], spLaw K [T1, T3, T5, T10], ⟨fun p hp => ?_, fun p hp => ?_, fun p hp => ?_⟩, fun s v => .of_eq rfl, fun H a ns hlen hT hS => ?_, fun base _ _ TB => ?_⟩
  · simp only [List.mem_cons, List.not_mem_nil, or_false] at hp
    rcases hp with rfl | rfl | rfl | rfl
    · exact tb1
    · exact tb3
    · exact tb5
    · exact tb10
  · simp only [List.mem_cons, List.not_mem_nil, or_false] at hp
    rcases hp with rfl | rfl | rfl | rfl
    · exact nT1
    · exact nT3
    · exact nT5
    · exact nT10
  · simp only [List.mem_cons, List.not_mem_nil, or_false] at hp
    rcases hp with rfl | rfl | rfl | rfl
    · exact hd1
    · exact hd3
    · exact hd5
    · exact hd10
  · refine ⟨a, ns, rfl, hS, fun T hT' => ?_, fun _ => rfl⟩
    simp only [List.mem_cons, List.not_mem_nil, or_false] at hT'
    rcases hT' with rfl | rfl | rfl | rfl
    · exact ⟨#[], hT (c1, _) (by simp), trivial⟩
    · exact ⟨#[], hT (c3, _) (by simp), trivial⟩
    · exact ⟨#[], hT (c5, _) (by simp), trivial⟩
    · exact ⟨#[], hT (c10, _) (by simp), trivial⟩
  · have B1 := TB (c1, T1) (by simp)
    have B3 := TB (c3, T3) (by simp)
    have B5 := TB (c5, T5) (by simp)
    have B10 := TB (c10, T10) (by simp)
    have NH : Err K mg "NoHouse" cH := ⟨PySem.W.mg_of X Gg HH, exH, kpH, sbH, tyH⟩
    have CG : ClsG mg ⟨cxCl, cxCd, cxNd, cxNe, cxNf, cxNg, cxNgd, cxNm, cxNn, cxNp, cxNr, cxNt, cxNth, cxNti, cxTm, cxTw⟩ cE cH := ⟨PySem.W.mg_of X Gg HE, PySem.W.mg_of X Gg HH, PySem.W.mg_of X Gg HCl, PySem.W.mg_of X Gg HCd, PySem.W.mg_of X Gg HNd, PySem.W.mg_of X Gg HNe, PySem.W.mg_of X Gg HNf, PySem.W.mg_of X Gg HNg, PySem.W.mg_of X Gg HNgd, PySem.W.mg_of X Gg HNm, PySem.W.mg_of X Gg HNn, PySem.W.mg_of X Gg HNp, PySem.W.mg_of X Gg HNr, PySem.W.mg_of X Gg HNt, PySem.W.mg_of X Gg HNth, PySem.W.mg_of X Gg HNti, PySem.W.mg_of X Gg HTm, PySem.W.mg_of X Gg HTw⟩
    have IH : IsH K ⟨cxCl, cxCd, cxNd, cxNe, cxNf, cxNg, cxNgd, cxNm, cxNn, cxNp, cxNr, cxNt, cxNth, cxNti, cxTm, cxTw⟩ cE cH := ⟨⟨e1H, e2H, sbH, e4H, e5H, e6, e7, e8H⟩, cmH, t1H, t2H, hH, vH⟩
    have TT : TakeT l.prog w K mg base f14 _ := ⟨ok_take F14 n_len n_abs, g14, k14, b14⟩
    have NA : DefT l.prog w K mg base "_law_names" 2 f15 _ _ (spNames) := ⟨ok_names F15 TT n_len n_range, g15, k15, b15⟩
    have MY : DefT l.prog w K mg base "_law_many" 2 f18 _ _ (spMany) := ⟨ok_many F18 TT, g18, k18, b18⟩
    have EO : DefT l.prog w K mg base "_law_entry_of" 3 f19 _ _ (spEntryOf) := ⟨ok_entryOf F19 TT MY n_len, g19, k19, b19⟩
    have EN : DefT l.prog w K mg base "_law_entry" 4 f20 _ _ (spEntry) := ⟨ok_entry F20 TT EO, g20, k20, b20⟩
    have GP : DefT l.prog w K mg base "_law_pen" 1 f13 _ _ (spPen K) := ⟨ok_pen F13 n_list, g13, k13, b13⟩
    have WO : DefT l.prog w K mg base "_law_words" 3 f16 _ _ (spWords) := ⟨ok_words F16 TT NA, g16, k16, b16⟩
    have MO : DefT l.prog w K mg base "_law_moments" 2 f17 _ _ (spMoments) := ⟨ok_moments F17 TT n_len n_range n_int, g17, k17, b17⟩
    have NM : DefT l.prog w K mg base "is_name" 1 f1 _ _ (spName K T1) := ⟨ok_name l1 c_1 ⟨B1.code, B1.bm, B1.gP⟩ n_isinstance n_str n_len n_all ⟨_, m_L⟩ ⟨_, m_N⟩, g1, k1, b1⟩
    have WH : DefT l.prog w K mg base "is_whole" 1 f2 _ _ (spWhole) := ⟨ok_whole F2 n_isinstance n_int n_bool, g2, k2, b2⟩
    have WHA : DefT l.prog w K mg base "is_whole" 1 f2 _ _ (spWholeA) := ⟨ok_wholeA F2 n_isinstance n_int n_bool, g2, k2, b2⟩
    have FI : DefT l.prog w K mg base "fits" 2 f4 _ _ (spFits T1) := ⟨ok_fits F4 NM WH m_Bo hB, g4, k4, b4⟩
    have FIA : DefT l.prog w K mg base "fits" 2 f4 _ _ (spFitsA T1) := ⟨ok_fitsA F4 NM WHA m_Bo hB, g4, k4, b4⟩
    have PO : DefT l.prog w K mg base "places_of" 1 f7 _ _ (spPlaces) := ⟨ok_placesOf F7, g7, k7, b7⟩
    have GO : DefT l.prog w K mg base "good_of" 1 f6 _ _ (spGood) := ⟨ok_good F6, g6, k6, b6⟩
    have IE : DefT l.prog w K mg base "is_entry" 4 f3 _ _ (spIsEntry T1 T3) := ⟨ok_isEntry l3 c_3 ⟨B3.code, B3.bm, B3.gP⟩ ne13 FI PO n_isinstance n_tuple n_len n_str n_all n_zip n_set m_Fo DF hF, g3, k3, b3⟩
    have IEA : DefT l.prog w K mg base "is_entry" 4 f3 _ _ (spIsEntryA T1 T3) := ⟨ok_isEntryA l3 c_3 ⟨B3.code, B3.bm, B3.gP⟩ ne13 FIA PO n_isinstance n_tuple n_len n_str n_all n_zip n_set m_Fo DF hF (forms_only LFo xFo), g3, k3, b3⟩
    have IO : DefT l.prog w K mg base "is_entry_of" 5 f5 _ _ (spIsEntryOf [T1, T3, T5, T10]) := ⟨ok_isEntryOf l5 c_5 ⟨B5.code, B5.bm, B5.gP⟩ (by simp) (by simp) (by simp) IE GO PO n_all, g5, k5, b5⟩
    have IO1 : DefT l.prog w K mg base "is_entry_of" 5 f5 _ _ (spNoE1 [T1, T3, T5, T10]) := ⟨ok_noEntry1 l5 c_5 ⟨B5.code, B5.bm, B5.gP⟩ (by simp) (by simp) (by simp) IEA GO PO n_all, g5, k5, b5⟩
    have ION : DefT l.prog w K mg base "is_entry_of" 5 f5 _ _ (spNoEntryOf [T1, T3, T5, T10]) := ⟨(FnOk.or IO.ok IO1.ok).imp fun _ _ _ _ h => noE_split h, g5, k5, b5⟩
    have IOB : DefT l.prog w K mg base "is_entry_of" 5 f5 _ _ (fun vs H Q E => spIsEntryOf [T1, T3, T5, T10] vs H Q E ∨ spNoEntryOf [T1, T3, T5, T10] vs H Q E) := ⟨FnOk.or IO.ok ION.ok, g5, k5, b5⟩
    have RN : DefT l.prog w K mg base "rising_names" 3 f10 _ _ (spRising [T1, T3, T5, T10]) := ⟨ok_rising l10 c_10 ⟨B10.code, B10.bm, B10.gP⟩ (by simp) (by simp) NM n_isinstance n_list n_tuple n_len n_all n_sorted n_set, g10, k10, b10⟩
    have RNX : DefX l.prog w K mg base "rising_names" 3 f10 _ _ (fun vs H Q E => spRising [T1, T3, T5, T10] vs H Q E ∨ spNoRising cH [T1, T3, T5, T10] vs H Q E) := ⟨FnOk.or (FnOk.lift RN.ok) (ok_noRising l10 c_10 ⟨B10.code, B10.bm, B10.gP⟩ (by simp) (by simp) NM NH n_isinstance n_list n_tuple n_len n_all n_sorted n_set), g10, k10, b10⟩
    have OR : DefT l.prog w K mg base "order_of" 1 f8 _ _ (spOrd) := ⟨ok_ord F8 m_Ra hR, g8, k8, b8⟩
    have IN : DefT l.prog w K mg base "in_order" 4 f12 _ _ (spInOrder) := ⟨ok_inOrder F12 OR n_sorted n_tuple, g12, k12, b12⟩
    have OE : DefT l.prog w K mg base "own_entries" 6 f11 _ _ (spOwnEnts [T1, T3, T5, T10]) := ⟨ok_ownEnts F11 IO IN n_isinstance n_list n_tuple n_len ⟨_, m_ME⟩, g11, k11, b11⟩
    have OEX : DefX l.prog w K mg base "own_entries" 6 f11 _ _ (spNoOwn cH [T1, T3, T5, T10]) := ⟨ok_noOwn F11 IOB IN NH n_isinstance n_list n_tuple n_len ⟨_, m_ME⟩, g11, k11, b11⟩
    have HO : DefT l.prog w K mg base "house_of" 7 f9 _ _ (spHouseOf [T1, T3, T5, T10]) := ⟨ok_houseOf F9 RN OE ⟨_, m_MP⟩ ⟨_, m_MG⟩, g9, k9, b9⟩
    have HX : DefX l.prog w K mg base "house_of" 7 f9 _ _ (spNoHouse cH [T1, T3, T5, T10]) := ⟨ok_noHouse F9 RNX OEX ⟨_, m_MP⟩ ⟨_, m_MG⟩, g9, k9, b9⟩
    have RF : DefG l.prog w K mg base "_law_is_refused" 9 f22 _ _ (spRefused K [T1, T3, T5, T10]) := ⟨ok_refused F22 HX CG IH n_isinstance n_repr n_ValueError, g22, k22, b22⟩
    have PU : DefT l.prog w K mg base "_law_put" 2 f23 _ _ (spPut) := ⟨ok_put F23 TT n_len n_tuple, g23, k23, b23⟩
    have NN : DefT l.prog w K mg base "_law_no_names" 3 f24 _ _ (spNoNames K) := ⟨ok_noNames F24 TT PU n_len n_tuple, g24, k24, b24⟩
    have SR : DefT l.prog w K mg base "_law_stray" 2 f25 _ _ (spStray) := ⟨ok_stray F25 TT n_len, g25, k25, b25⟩
    have TW : DefT l.prog w K mg base "_law_twin" 2 f26 _ _ (spTwin) := ⟨ok_twin F26 TT n_len n_range n_isinstance n_int, g26, k26, b26⟩
    have NE : DefT l.prog w K mg base "_law_no_entries" 3 f27 _ _ (spNoEnts K) := ⟨ok_noEnts F27 TT PU SR TW n_len n_list, g27, k27, b27⟩
    have SP : DefT l.prog w K mg base "_law_spoilt" 4 f28 _ _ (spSpoilt K) := ⟨ok_spoilt F28 NN NE n_list, g28, k28, b28⟩
    exact ok_law F29 GP TT WO MO EN RF SP HO n_range n_tuple n_len
end Shelf
open PySem PySem.W PyProof.Rows
set_option maxHeartbeats 0 in
theorem PySem.Challenge.cw_shelfcounts_k05_what_makes_no_house_holds : PySem.Challenge.rw_shelfcounts_k05_what_makes_no_house.Holds := by
  w_on; o_law; k_head; (case hw => w_witness2)
  k_fill
  refine Shelf.end_G (l := PySem.Challenge.rw_shelfcounts_k05_what_makes_no_house) (n := 63) (k := 10) (x := "_law_script") rfl (by decide) rfl ⟨rfl, by decide, by decide⟩ (fun w h Y => PySem.W.kIn_of Y) ?F
  case F =>
    intro w s0 mg mb fa h G KX hmg
    refine' Shelf.all_mk G KX hmg ?a1 ?l1 ?c_1 ?k1 ?lc1 ?hv1 ?nT1 ?r1 ?a2 ?l2 ?c_2 ?k2 ?a3 ?l3 ?c_3 ?k3 ?lc3 ?hv3 ?nT3 ?r3 ?a4 ?l4 ?c_4 ?k4 ?a5 ?l5 ?c_5 ?k5 ?lc5 ?hv5 ?nT5 ?r5 ?a6 ?l6 ?c_6 ?k6 ?a7 ?l7 ?c_7 ?k7 ?a8 ?l8 ?c_8 ?k8 ?a9 ?l9 ?c_9 ?k9 ?a10 ?l10 ?c_10 ?k10 ?lc10 ?hv10 ?nT10 ?r10 ?a11 ?l11 ?c_11 ?k11 ?a12 ?l12 ?c_12 ?k12 ?a13 ?l13 ?c_13 ?k13 ?a14 ?l14 ?c_14 ?k14 ?a15 ?l15 ?c_15 ?k15 ?a16 ?l16 ?c_16 ?k16 ?a17 ?l17 ?c_17 ?k17 ?a18 ?l18 ?c_18 ?k18 ?a19 ?l19 ?c_19 ?k19 ?a20 ?l20 ?c_20 ?k20 ?a22 ?l22 ?c_22 ?k22 ?a23 ?l23 ?c_23 ?k23 ?a24 ?l24 ?c_24 ?k24 ?a25 ?l25 ?c_25 ?k25 ?a26 ?l26 ?c_26 ?k26 ?a27 ?l27 ?c_27 ?k27 ?a28 ?l28 ?c_28 ?k28 ?a29 ?l29 ?c_29 ?k29 ?ne13 ?ne15 ?ne35 ?ne110 ?ne310 ?ne510 ?AFo ?LFo ?litFo ?lowFo ?gFo1 ?LFo1 ?zFo1 ?vFo1 ?gFo2 ?LFo2 ?zFo2 ?vFo2 ?gFo3 ?LFo3 ?zFo3 ?vFo3 ?gFo4 ?LFo4 ?zFo4 ?vFo4 ?gFo5 ?LFo5 ?zFo5 ?vFo5 ?gFo6 ?LFo6 ?zFo6 ?vFo6 ?gFo7 ?LFo7 ?zFo7 ?vFo7 ?ABo ?LBo ?litBo ?lowBo ?gBo1 ?LBo1 ?zBo1 ?vBo1 ?gBo2 ?LBo2 ?zBo2 ?vBo2 ?gBo3 ?LBo3 ?zBo3 ?vBo3 ?gBo4 ?LBo4 ?zBo4 ?vBo4 ?ARa ?LRa ?litRa ?lowRa ?gRa1 ?gRa2 ?gRa3 ?gRa4 ?gRa5 ?gRa6 ?gRa7 ?zL ?zN ?zMP ?zMG ?zME ?xFo ?HE ?HH ?HCl ?HCd ?HNd ?HNe ?HNf ?HNg ?HNgd ?HNm ?HNn ?HNp ?HNr ?HNt ?HNth ?HNti ?HTm ?HTw ?e6 ?e7 ?exH ?kpH ?sbH ?tyH ?e1H ?e2H ?e4H ?e5H ?e8H ?cmH ?t1H ?t2H ?hH ?vH ?y_abs ?y_all ?y_bool ?y_int ?y_isinstance ?y_len ?y_list ?y_range ?y_repr ?y_set ?y_sorted ?y_str ?y_tuple ?y_zip ?y_ValueError
    (case a1 => k_is); (case l1 => k_is); (case c_1 => k_is); (case k1 => k_is); (case lc1 => k_is); (case hv1 => rfl)
    (case nT1 => kernel_rfl); (case r1 => rfl); (case a2 => k_is); (case l2 => k_is); (case c_2 => k_is); (case k2 => k_is)
    (case a3 => k_is); (case l3 => k_is); (case c_3 => k_is); (case k3 => k_is); (case lc3 => k_is); (case hv3 => rfl)
    (case nT3 => kernel_rfl); (case r3 => rfl); (case a4 => k_is); (case l4 => k_is); (case c_4 => k_is); (case k4 => k_is)
    (case a5 => k_is); (case l5 => k_is); (case c_5 => k_is); (case k5 => k_is); (case lc5 => k_is); (case hv5 => rfl)
    (case nT5 => kernel_rfl); (case r5 => rfl); (case a6 => k_is); (case l6 => k_is); (case c_6 => k_is); (case k6 => k_is)
    (case a7 => k_is); (case l7 => k_is); (case c_7 => k_is); (case k7 => k_is); (case a8 => k_is); (case l8 => k_is)
    (case c_8 => k_is); (case k8 => k_is); (case a9 => k_is); (case l9 => k_is); (case c_9 => k_is); (case k9 => k_is)
    (case a10 => k_is); (case l10 => k_is); (case c_10 => k_is); (case k10 => k_is); (case lc10 => k_is); (case hv10 => rfl)
    (case nT10 => kernel_rfl); (case r10 => rfl); (case a11 => k_is); (case l11 => k_is); (case c_11 => k_is); (case k11 => k_is)
    (case a12 => k_is); (case l12 => k_is); (case c_12 => k_is); (case k12 => k_is); (case a13 => k_is); (case l13 => k_is)
    (case c_13 => k_is); (case k13 => k_is); (case a14 => k_is); (case l14 => k_is); (case c_14 => k_is); (case k14 => k_is)
    (case a15 => k_is); (case l15 => k_is); (case c_15 => k_is); (case k15 => k_is); (case a16 => k_is); (case l16 => k_is)
    (case c_16 => k_is); (case k16 => k_is); (case a17 => k_is); (case l17 => k_is); (case c_17 => k_is); (case k17 => k_is)
    (case a18 => k_is); (case l18 => k_is); (case c_18 => k_is); (case k18 => k_is); (case a19 => k_is); (case l19 => k_is)
    (case c_19 => k_is); (case k19 => k_is); (case a20 => k_is); (case l20 => k_is); (case c_20 => k_is); (case k20 => k_is)
    (case a22 => k_is); (case l22 => k_is); (case c_22 => k_is); (case k22 => k_is); (case a23 => k_is); (case l23 => k_is)
    (case c_23 => k_is); (case k23 => k_is); (case a24 => k_is); (case l24 => k_is); (case c_24 => k_is); (case k24 => k_is)
    (case a25 => k_is); (case l25 => k_is); (case c_25 => k_is); (case k25 => k_is); (case a26 => k_is); (case l26 => k_is)
    (case c_26 => k_is); (case k26 => k_is); (case a27 => k_is); (case l27 => k_is); (case c_27 => k_is); (case k27 => k_is)
    (case a28 => k_is); (case l28 => k_is); (case c_28 => k_is); (case k28 => k_is); (case a29 => k_is); (case l29 => k_is)
    (case c_29 => k_is); (case k29 => k_is); (case ne13 => decide); (case ne15 => decide); (case ne35 => decide); (case ne110 => decide)
    (case ne310 => decide); (case ne510 => decide); (case AFo => k_is); (case LFo => k_is); (case litFo => repeat' (first | exact True.intro | refine ⟨⟨_, _, rfl, rfl⟩, ?_⟩)); (case lowFo => rfl)
    (case gFo1 => k_is); (case LFo1 => k_is); (case zFo1 => decide); (case vFo1 => repeat' (first | exact .nil | refine .cons ⟨_, rfl⟩ ?_)); (case gFo2 => k_is); (case LFo2 => k_is)
    (case zFo2 => decide); (case vFo2 => repeat' (first | exact .nil | refine .cons ⟨_, rfl⟩ ?_)); (case gFo3 => k_is); (case LFo3 => k_is); (case zFo3 => decide); (case vFo3 => repeat' (first | exact .nil | refine .cons ⟨_, rfl⟩ ?_))
    (case gFo4 => k_is); (case LFo4 => k_is); (case zFo4 => decide); (case vFo4 => repeat' (first | exact .nil | refine .cons ⟨_, rfl⟩ ?_)); (case gFo5 => k_is); (case LFo5 => k_is)
    (case zFo5 => decide); (case vFo5 => repeat' (first | exact .nil | refine .cons ⟨_, rfl⟩ ?_)); (case gFo6 => k_is); (case LFo6 => k_is); (case zFo6 => decide); (case vFo6 => repeat' (first | exact .nil | refine .cons ⟨_, rfl⟩ ?_))
    (case gFo7 => k_is); (case LFo7 => k_is); (case zFo7 => decide); (case vFo7 => repeat' (first | exact .nil | refine .cons ⟨_, rfl⟩ ?_)); (case ABo => k_is); (case LBo => k_is)
    (case litBo => repeat' (first | exact True.intro | refine ⟨⟨_, _, rfl, rfl⟩, ?_⟩)); (case lowBo => rfl); (case gBo1 => k_is); (case LBo1 => k_is); (case zBo1 => decide); (case vBo1 => repeat' (first | exact .nil | refine .cons ⟨_, rfl⟩ ?_))
    (case gBo2 => k_is); (case LBo2 => k_is); (case zBo2 => decide); (case vBo2 => repeat' (first | exact .nil | refine .cons ⟨_, rfl⟩ ?_)); (case gBo3 => k_is); (case LBo3 => k_is)
    (case zBo3 => decide); (case vBo3 => repeat' (first | exact .nil | refine .cons ⟨_, rfl⟩ ?_)); (case gBo4 => k_is); (case LBo4 => k_is); (case zBo4 => decide); (case vBo4 => repeat' (first | exact .nil | refine .cons ⟨_, rfl⟩ ?_))
    (case ARa => k_is); (case LRa => k_is); (case litRa => repeat' (first | exact True.intro | refine ⟨⟨_, _, rfl, rfl⟩, ?_⟩)); (case lowRa => rfl); (case gRa1 => k_is); (case gRa2 => k_is)
    (case gRa3 => k_is); (case gRa4 => k_is); (case gRa5 => k_is); (case gRa6 => k_is); (case gRa7 => k_is); (case zL => k_is)
    (case zN => k_is); (case zMP => k_is); (case zMG => k_is); (case zME => k_is); (case xFo => rfl); (case HE => k_is)
    (case HH => k_is); (case HCl => k_is); (case HCd => k_is); (case HNd => k_is); (case HNe => k_is); (case HNf => k_is)
    (case HNg => k_is); (case HNgd => k_is); (case HNm => k_is); (case HNn => k_is); (case HNp => k_is); (case HNr => k_is)
    (case HNt => k_is); (case HNth => k_is); (case HNti => k_is); (case HTm => k_is); (case HTw => k_is); (case e6 => k_is)
    (case e7 => k_is); (case exH => k_exc); (case kpH => k_is); (case sbH => k_is); (case tyH => k_is); (case e1H => k_is)
    (case e2H => k_is); (case e4H => k_is); (case e5H => k_is); (case e8H => k_is); (case cmH => kernel_rfl); (case t1H => kernel_rfl)
    (case t2H => kernel_rfl); (case hH => kernel_rfl); (case vH => kernel_rfl); (case y_abs => k_is); (case y_all => k_is); (case y_bool => k_is)
    (case y_int => k_is); (case y_isinstance => k_is); (case y_len => k_is); (case y_list => k_is); (case y_range => k_is); (case y_repr => k_is)
    (case y_set => k_is); (case y_sorted => k_is); (case y_str => k_is); (case y_tuple => k_is); (case y_zip => k_is); (case y_ValueError => k_is)

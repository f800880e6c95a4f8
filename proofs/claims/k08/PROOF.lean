import PyProof.Rows.All
import Wide.All
import OpenK.AllK
import Wide.FinOn
import HandS.ForMost
import HandS.AnyAll
import HandS.IsInst
import HandS.Style
import HandS.EndTab
import HandS.Codes
import HandS.GenOver
import HandS.Strs
import HandS.Zip
import HandS.Walk
import HandS.More
import KE.KEqSeq
import HandS.SortKw
import HandS.Keys
import HandS.ExcValue
import HandS.TupAny
import HandS.DictComp
import KE.SortKeyHeap
import KE.KRevSl
import PyProof.DictUpdate
import PyProof.DictDisplay
import PyProof.DictValues
import PySem.Challenge.RW_shelfcounts_k08_tracks_there_and_back
set_option Elab.async false
set_option linter.all false
set_option maxRecDepth 100000
namespace Shelf
open PySem PySem.Spec PyProof.Rows L2
def topS (i : Nat) : Stmt := PySem.Challenge.pw_shelfcounts_k08_tracks_there_and_back.main.body.getD i (.Pass ⟨0, 0, 0, 0⟩)
abbrev sPen : Stmt := topS 9
abbrev sTake : Stmt := topS 10
abbrev sNames : Stmt := topS 11
abbrev sWords : Stmt := topS 12
abbrev sMoments : Stmt := topS 13
abbrev sMany : Stmt := topS 16
abbrev sEntryOf : Stmt := topS 17
abbrev sEntry : Stmt := topS 18
abbrev sPlacesOf : Stmt := topS 1
abbrev sPlaceOf : Stmt := topS 3
abbrev sTrackAt : Stmt := topS 4
abbrev sBehind : Stmt := topS 5
abbrev sFirst : Stmt := topS 6
abbrev sExch : Stmt := topS 7
abbrev sOwn : Stmt := topS 14
abbrev sHouse : Stmt := topS 15
abbrev sHere : Stmt := topS 19
abbrev sLaw : Stmt := topS 20
/-! ### the pen: what a script is drawn from -/
theorem same_new {H : Hp} {p : Addr} {o : HO} (h : H p = none) : Same H (upd H p o) := fun b x e => (upd_ne (ne_of_none e h)).trans e
/-- all but the object at p is as it was -/
def But (p : Addr) (H H' : Hp) : Prop := ∀ b o, H b = some o → b ≠ p → H' b = some o
theorem But.refl (p : Addr) (H : Hp) : But p H H := fun _ _ e _ => e
theorem But.of {p : Addr} {H H' : Hp} (h : Same H H') : But p H H' := fun b o e _ => h b o e
theorem But.tr {p : Addr} {H H1 H2 : Hp} (a : But p H H1) (b : But p H1 H2) : But p H H2 := fun c o e n => b c o (a c o e n) n
theorem But.to {p : Addr} {H H1 : Hp} (a : But p H H1) {l : Addr} {o : HO} (h : H l = none) (n : H p ≠ none) : But p H (upd H1 l o) := fun c u e nc => (upd_ne (ne_of_none e h)).trans (a c u e nc)
theorem dget_s {H : Hp} {p : Addr} {kvs : List (Key × V)} {x : Str} {v : V} (h : H p = some (.dK kvs)) (e : valV kvs (Sum.inr x) = some v) : DGet H p (.str x) (some v) := .inl ⟨kvs, Sum.inr x, .inl h, rfl, e.symm⟩
theorem dput_s {H : Hp} {p : Addr} {kvs : List (Key × V)} {x : Str} {v : V} (h : H p = some (.dK kvs)) (hl : kvs.length < sizeLine) : DPut H p (.str x) v (upd H p (.dK (putK kvs (Sum.inr x) v))) := .inl ⟨kvs, Sum.inr x, h, rfl, hl, rfl⟩
theorem put_len {kvs : List (Key × V)} {k : Key} {v u : V} (e : valV kvs k = some u) : (putK kvs k v).length = kvs.length := by
  have h := valV_any k kvs
  rw [e] at h
  have h' : (kvs.any fun kv => decide (kv.1 = k)) = true := h
  unfold putK
  rw [if_pos h', List.length_map]
abbrev kCells : Key := Sum.inr "cells"
abbrev kAt : Key := Sum.inr "at"
abbrev kLeft : Key := Sum.inr "left"
theorem nCA : ¬ kCells = kAt := by decide +kernel
theorem nCL : ¬ kCells = kLeft := by decide +kernel
theorem nAL : ¬ kAt = kLeft := by decide +kernel
theorem nLA : ¬ kLeft = kAt := by decide +kernel
/-- a pen stands at p, its cells at c; at most n have been drawn -/
structure PenAt (H : Hp) (p c : Addr) (n : Nat) : Prop where
  ex : ∃ (kvs : List (Key × V)) (ns : List Int) (a l : Int), H p = some (.dK kvs) ∧ kvs.length ≤ 3 ∧ valV kvs kCells = some (.ref c) ∧ valV kvs kAt = some (.int a) ∧ valV kvs kLeft = some (.int l) ∧ H c = some (.lst (ns.map V.int)) ∧ 0 ≤ a ∧ a ≤ n ∧ 0 ≤ l
theorem PenAt.same {H H' : Hp} {p c : Addr} {n : Nat} (P : PenAt H p c n) (h : Same H H') : PenAt H' p c n := by
  obtain ⟨kvs, ns, a, l, h1, h2, h3, h4, h5, h6, h7⟩ := P.ex
  exact ⟨kvs, ns, a, l, h _ _ h1, h2, h3, h4, h5, h _ _ h6, h7⟩
theorem PenAt.there {H : Hp} {p c : Addr} {n : Nat} (P : PenAt H p c n) : H p ≠ none := by
  obtain ⟨kvs, ns, a, l, h1, _⟩ := P.ex
  rw [h1]
  exact fun z => nomatch z
theorem PenAt.cells {H : Hp} {p c : Addr} {n : Nat} (P : PenAt H p c n) : H c ≠ none := by
  obtain ⟨kvs, ns, a, l, _, _, _, _, _, h1, _⟩ := P.ex
  rw [h1]
  exact fun z => nomatch z
theorem PenAt.upd {H : Hp} {p c l : Addr} {n : Nat} {o : HO} (P : PenAt H p c n) (h1 : l ≠ p) (h2 : l ≠ c) : PenAt (L2.upd H l o) p c n := by
  obtain ⟨kvs, ns, a, x, g1, g2, g3, g4, g5, g6, g7⟩ := P.ex
  exact ⟨kvs, ns, a, x, (upd_ne h1.symm).trans g1, g2, g3, g4, g5, (upd_ne h2.symm).trans g6, g7⟩
theorem PenAt.mono {H : Hp} {p c : Addr} {n m : Nat} (P : PenAt H p c n) (h : n ≤ m) : PenAt H p c m := by
  obtain ⟨kvs, ns, a, l, g1, g2, g3, g4, g5, g6, g7, g8, g9⟩ := P.ex
  exact ⟨kvs, ns, a, l, g1, g2, g3, g4, g5, g6, g7, by omega, g9⟩
theorem dp_ints {K : PySem.W.Frag} {H : Hp} : ∀ ns : List Int, DpAll K H (ns.map V.int) (ns.map PyData.int)
  | [] => .nil
  | n :: r => .cons (.int n) (dp_ints r)
/-- what a draw promises: a number below many, the pen drawn once more, nothing else touched -/
def spTake : Sp := fun vs H Q _ => ∃ (p c : Addr) (n : Nat) (m : Int), vs = [.ref p, .int m] ∧ PenAt H p c n ∧ n ≤ 100000 ∧ 1 ≤ m ∧ m ≤ 1000000000 ∧
  ∀ (r : Int) (H' : Hp), 0 ≤ r → r < m → PenAt H' p c (n + 1) → But p H H' → Q (.int r) H'
def spPen (K : PySem.W.Frag) : Sp := fun vs H Q _ => ∃ (a : Addr) (ns : List Int), vs = [.ref a] ∧ SqL K H a (ns.map V.int) ∧
  ∀ (p c : Addr) (H' : Hp), H p = none → H c = none → PenAt H' p c 0 → Same H H' → Q (.ref p) H'
theorem mem_cut {α : Type} {xs : List α} {lo hi : Nat} : ∀ x ∈ (xs.drop lo).take hi, x ∈ xs := fun x h => List.mem_of_mem_drop (List.mem_of_mem_take h)
theorem cut_ints (ns : List Int) (lo hi : Option Int) : ∃ ms : List Int, cutV (ns.map V.int) lo hi = ms.map V.int := by
  unfold cutV
  rw [← List.map_drop, ← List.map_take]
  exact ⟨_, rfl⟩
section
variable {P : Program} {w : World} {K : PySem.W.Frag} {mg : Str → Option Value} {base : Heap}
theorem scPen : FnScope ["_law_script"] ["_law_script"] (defScope sPen) := ⟨rfl, rfl, rfl, by decide +kernel, rfl, by decide +kernel, by decide +kernel⟩
theorem scTake : FnScope ["_law_pen_here", "_law_many_here", "_law_found", "_law_at", "_law_cells", "_law_cell", "_law_one", "_law_two"] ["_law_pen_here", "_law_many_here"] (defScope sTake) := ⟨rfl, rfl, rfl, by decide +kernel, rfl, by decide +kernel, by decide +kernel⟩
theorem ok_pen {f : Addr} {fd : FuncData} (F : Fun K "_law_pen" "_law_pen" sPen f fd) (ml : mg "list" = none) : FnOk P w K mg base CX0 1 f fd ["_law_script"] (spPen K) := by
  refine F.ok scPen (fun vs H Q E h => ?_) (fun cdv A outer s H vs Q E hr h => ?_)
  · obtain ⟨a, ns, rfl, _⟩ := h
    rfl
  · obtain ⟨a, ns, rfl, hS, q⟩ := h
    refine ⟨_, pss_one (ps_ret (pe_disp (pps_cons pe_str (pe_callTy call_list_of (by rfl) ml (by decide +kernel) (pa_cons (pe_slice sl_list (pv 0) po_none (po_some pe_int)) pa_nil))
      (pps_cons pe_str pe_int (pps_cons pe_str pe_int pps_nil))) (by rfl) (by rfl) (fun z => by cases z) (by decide))), ?_⟩
    refine fun p np => ?_
    have s1 : Same H (upd H p (.dK [])) := same_new np
    refine ⟨.ref a, rfl, 63, rfl, a, ns.map V.int, rfl, s1.seq hS, fun t nt => ?_⟩
    obtain ⟨ms, em⟩ := cut_ints ns none (some 63)
    have s2 : Same (upd H p (.dK [])) (upd (upd H p (.dK [])) t (.lst (cutV (ns.map V.int) none (some 63)))) := same_new nt
    refine ⟨t, _, rfl, .inl (SqL.of upd_same), fun c nc => ?_⟩
    have s3 := @same_new _ _ (.lst (cutV (ns.map V.int) none (some 63))) nc
    have hp := s3 _ _ (s2 _ _ upd_same)
    refine ⟨hp, [(kCells, .ref c), (kAt, .int 0), (kLeft, .int 0)], rfl, (by show 3 ≤ 15; decide), ?_⟩
    have s4 := s1.trans (s2.trans s3)
    have npc : p ≠ c := ne_of_none (s2 _ _ upd_same) nc
    refine q p c _ np (s1.free (s2.free nc)) ⟨_, ms, 0, 0, upd_same, (by exact Nat.le_refl 3), ?_, ?_, ?_, ?_, Int.le_refl _, Int.le_refl _, Int.le_refl _⟩ fun b o e => (upd_ne (ne_of_none e np)).trans (s4 b o e)
    · rfl
    · rfl
    · rfl
    · rw [upd_ne npc.symm, upd_same, em]
theorem ok_take {f : Addr} {fd : FuncData} (F : Fun K "_law_take" "_law_take" sTake f fd) (mlen : mg "len" = none) (mabs : mg "abs" = none) : FnOk P w K mg base CX0 1 f fd ["_law_pen_here", "_law_many_here"] spTake := by
  refine F.ok scTake (fun vs H Q E h => ?_) (fun cdv A outer s H vs Q E hr h => ?_)
  · obtain ⟨p, c, n, m, rfl, _⟩ := h
    rfl
  · obtain ⟨p, c, n, m, rfl, pen, hn, m1, m2, q⟩ := h
    have hu := hu_of hr
    have nd := scTake.nd
    refine ⟨_, pss_cons (ps_if (pt_cmpR op_gt (pe_dget hu (pv 0) pe_str (fun _ _ => rfl)) pe_int (nomark _))
        (pss_cons (ps_set (i := 2) nd rfl (Or.inl rfl) (pe_op op_mod (pe_dget hu (pv 0) pe_str (fun _ _ => rfl)) (pv 1)))
        (pss_cons (ps_dput hu (pv 0) pe_str (pe_op op_fdiv (pe_dget hu (pv 0) pe_str (fun _ _ => rfl)) (pv 1)) rfl)
        (pss_one (ps_ret (pv 2))))) pss_nil)
      (pss_cons (ps_set (i := 3) nd rfl (Or.inl rfl) (pe_dget hu (pv 0) pe_str (fun _ _ => rfl)))
      (pss_cons (ps_dput hu (pv 0) pe_str (pe_op op_add (pv 3) pe_int) rfl)
      (pss_cons (ps_set (i := 4) nd rfl (Or.inl rfl) (pe_dget hu (pv 0) pe_str (fun _ _ => rfl)))
      (pss_cons (ps_set (i := 5) nd rfl (Or.inl rfl) (pe_op op_add (pe_op op_add (pe_op op_mul (pe_op op_mul pe_int (pv 3)) (pv 3)) (pe_op op_mul pe_int (pv 3))) pe_int))
      (C8.pss_cut (ps_if (pt_cmpR (op_neD hr.units) (pv 4) (pe_lst pa_nil) (nomark _))
        (pss_one (ps_set (i := 5) nd rfl (Or.inl rfl) (pe_ix ix_list (pv 4) (pe_op op_mod (pv 3) (pe_callB call_len_seq (by rfl) mlen PySem.boot_len (pa_cons (pv 4) pa_nil))) (fun _ _ => rfl)))) pss_nil)
      (C8.pss_cut (ps_if (PW.pt (pw_and (pt_cmpR op_lt (pv 3) (pe_callB call_len_seq (by rfl) mlen PySem.boot_len (pa_cons (pv 4) pa_nil)) (nomark _))
          (pw_and1 (pt_cmpR op_ge (pe_callB call_abs (by rfl) mabs (by decide +kernel) (pa_cons (pv 5) pa_nil)) (pe_op op_pow pe_int pe_int) (nomark _)))))
        (pss_cons (ps_dput hu (pv 0) pe_str (pe_op op_fdiv (pe_callB call_abs (by rfl) mabs (by decide +kernel) (pa_cons (pv 5) pa_nil)) (pv 1)) rfl)
        (pss_one (ps_ret (pe_op op_mod (pe_callB call_abs (by rfl) mabs (by decide +kernel) (pa_cons (pv 5) pa_nil)) (pv 1))))) pss_nil)
      (pss_cons (ps_set (i := 6) nd rfl (Or.inl rfl) (pe_op op_mod (pe_op op_pow (pe_op op_add (pe_op op_add (pe_op op_mod (pv 5) pe_int) (pe_op op_mul pe_int (pv 3))) pe_int) pe_int) pe_int))
      (pss_cons (ps_set (i := 7) nd rfl (Or.inl rfl) (pe_op op_mod (pe_op op_pow (pe_op op_add (pe_op op_add (pv 6) (pe_op op_mul (pe_op op_mul pe_int (pv 3)) (pv 3))) pe_int) pe_int) pe_int))
      (pss_one (ps_ret (pe_op op_mod (pe_op op_fdiv (pe_op op_mod (pe_op op_mul (pv 7) (pe_op op_add (pe_op op_mod (pv 6) pe_int) pe_int)) pe_int) pe_int) (pv 1)))))))))))), ?_⟩
    obtain ⟨kvs, ns, a, l, g1, g2, g3, g4, g5, g6, g7, g8, g9⟩ := pen.ex
    have hsz : kvs.length < sizeLine := small1000 (by omega)
    have npc : p ≠ c := ne_of g1 g6 (by intro z; cases z)
    -- the left
    refine ⟨_, rfl, p, _, rfl, dget_s g1 g5, l, 0, rfl, rfl, _, rfl, ite2 (fun e => ?_) (fun e => ?_)⟩
    · have e' : 0 < l := of_decide_eq_true e
      refine ⟨_, rfl, p, _, rfl, dget_s g1 g5, _, rfl, l, m, rfl, rfl, (by show (0 : Int) < m; omega), ?_⟩
      refine ⟨_, rfl, p, _, rfl, dget_s g1 g5, _, rfl, l, m, rfl, rfl, ⟨by omega, by omega⟩, _, rfl, p, _, rfl, dput_s g1 hsz, _, rfl, ?_⟩
      refine q _ _ (Int.emod_nonneg _ (by omega)) (Int.emod_lt_of_pos _ (by omega)) ⟨_, ns, a, l / m, upd_same, (by rw [put_len g5]; exact g2), ?_, ?_, ?_, ?_, g7, by omega, Int.ediv_nonneg (by omega) (by omega)⟩ fun b o z nb => (upd_ne nb).trans z
      · rw [valV_put, if_neg nCL]; exact g3
      · rw [valV_put, if_neg nAL]; exact g4
      · rw [valV_put, if_pos rfl]
      · rw [upd_ne npc.symm]; exact g6
    · -- a new cell
      refine ⟨_, rfl, p, _, rfl, dget_s g1 g4, ?_⟩
      refine ⟨_, rfl, a, 1, rfl, rfl, _, rfl, p, _, rfl, dput_s g1 hsz, ?_⟩
      have k1 : (upd H p (.dK (putK kvs kAt (.int (a + 1))))) p = some (.dK (putK kvs kAt (.int (a + 1)))) := upd_same
      have v3 : valV (putK kvs kAt (.int (a + 1))) kCells = some (.ref c) := by rw [valV_put, if_neg nCA]; exact g3
      have v4 : valV (putK kvs kAt (.int (a + 1))) kAt = some (.int (a + 1)) := by rw [valV_put, if_pos rfl]
      have v5 : valV (putK kvs kAt (.int (a + 1))) kLeft = some (.int l) := by rw [valV_put, if_neg nLA]; exact g5
      have k2 : (putK kvs kAt (.int (a + 1))).length ≤ 3 := by rw [put_len g4]; exact g2
      have k6 : (upd H p (.dK (putK kvs kAt (.int (a + 1))))) c = some (.lst (ns.map V.int)) := by rw [upd_ne npc.symm]; exact g6
      generalize putK kvs kAt (.int (a + 1)) = kw at k1 k2 k6 v3 v4 v5
      refine ⟨_, rfl, p, _, rfl, dget_s k1 v3, ?_⟩
      refine ⟨_, rfl, 70207, a, rfl, rfl, .inl ⟨by decide, by decide⟩, _, rfl, _, a, rfl, rfl, .inr ⟨by omega, by omega⟩, _, rfl, 131, a, rfl, rfl, .inl ⟨by decide, by decide⟩, _, _, rfl, rfl, _, 29, rfl, rfl, ?_⟩
      refine ⟨fun σ' H' => ∃ x : Int, σ' = [some (.ref p), some (.int m), none, some (.int a), some (.ref c), some (.int x), none, none] ∧ Same (upd H p (.dK kw)) H', ?_, ?_⟩
      · refine ⟨_, rfl, Nat.zero_le _, fun t nt => ?_⟩
        have s1 := @same_new _ _ (.lst []) nt
        refine ⟨.list (ns.map PyData.int), .list [], .lst (SqL.of (s1 _ _ k6)) (dp_ints ns), .lst (SqL.of upd_same) .nil, PySem.W.ke_shaped_ints ns, PySem.W.ke_shaped_ints [], _, rfl, ?_⟩
        cases e2 : (!PyData.eqv (.list (ns.map PyData.int)) (.list [])) with
        | false => exact iteF ⟨_, rfl, s1⟩
        | true =>
          refine iteT ?_
          have hne : ns ≠ [] := fun z => by
            subst z
            rw [show PyData.eqv (.list (([] : List Int).map PyData.int)) (.list []) = true from rfl] at e2
            cases e2
          have hlen : 0 < ns.length := List.length_pos_iff.mpr hne
          have hlt : (a % (ns.length : Int)).toNat < ns.length := by
            have h1 := Int.emod_nonneg a (show (ns.length : Int) ≠ 0 by omega)
            have h2 := Int.emod_lt_of_pos a (show (0 : Int) < ns.length by omega)
            omega
          refine ⟨_, rfl, _, rfl, _, rfl, c, _, rfl, .inl (SqL.of (s1 _ _ k6)), a, _, rfl, rfl, ?_, c, _, _, .int ns[(a % (ns.length : Int)).toNat], rfl, rfl, SqL.of (s1 _ _ k6), ?_, _, rfl, s1⟩
          · show (0 : Int) < ((ns.map V.int).length : Int)
            rw [List.length_map]; omega
          · rw [List.length_map]
            refine at_of (j := (a % (ns.length : Int)).toNat) (Int.toNat_of_nonneg (Int.emod_nonneg a (show (ns.length : Int) ≠ 0 by omega))).symm ?_
            rw [List.getElem?_map, List.getElem?_eq_getElem hlt]
            rfl
      · rintro σ' H2 ⟨x, rfl, s1⟩
        have j1 := s1 _ _ k1
        have j6 := s1 _ _ k6
        have bt : But p H H2 := fun b o z nb => s1 _ _ ((upd_ne nb).trans z)
        have absn : (0 : Int) ≤ if x < 0 then -x else x := by split <;> omega
        have fin : ∀ r : Int, 0 ≤ r → r < m → Q (.int r) H2 := fun r r1 r2 => q r H2 r1 r2 ⟨kw, ns, a + 1, l, j1, k2, v3, v4, v5, j6, by omega, by omega, g9⟩ bt
        have a2 : 0 ≤ 1213 * a * a ∧ 1213 * a * a ≤ 121300000 * 100000 := ⟨Int.mul_nonneg (by omega) g7, Int.mul_le_mul (by omega) (by omega) g7 (by decide)⟩
        refine ⟨fun σ' H' => σ' = [some (.ref p), some (.int m), none, some (.int a), some (.ref c), some (.int x), none, none] ∧ H' = H2, ?_, ?_⟩
        · refine ⟨_, rfl, _, rfl, c, _, rfl, .inl (SqL.of j6), a, _, rfl, rfl, _, rfl, ?_⟩
          refine ite2 (fun _ => ?_) (fun _ => ?_)
          · refine ⟨_, rfl, x, rfl, 10, 18, rfl, rfl, ⟨by decide, by decide, by decide⟩, _, _, rfl, rfl, _, rfl, ite2 (fun _ => ?_) (fun _ => ⟨rfl, rfl⟩)⟩
            refine ⟨_, rfl, x, rfl, _, rfl, _, m, rfl, rfl, ⟨by omega, by omega⟩, _, rfl, p, _, rfl, dput_s j1 (small1000 (by omega)), ?_⟩
            refine ⟨_, rfl, x, rfl, _, rfl, _, m, rfl, rfl, (by show (0 : Int) < m; omega), ?_⟩
            refine q _ _ (Int.emod_nonneg _ (by omega)) (Int.emod_lt_of_pos _ (by omega)) ⟨_, ns, a + 1, (if x < 0 then -x else x) / m, upd_same, (by rw [put_len v5]; exact k2), ?_, ?_, ?_, ?_, by omega, by omega, Int.ediv_nonneg absn (by omega)⟩ fun b o z nb => (upd_ne nb).trans (bt b o z nb)
            · rw [valV_put, if_neg nCL]; exact v3
            · rw [valV_put, if_neg nAL]; exact v4
            · rw [valV_put, if_pos rfl]
            · rw [upd_ne npc.symm]; exact j6
          · exact iteF ⟨rfl, rfl⟩
        · rintro σ' H' ⟨rfl, rfl⟩
          have b1 := Int.emod_nonneg x (show (2147483587 : Int) ≠ 0 by decide)
          have b2 := Int.emod_lt_of_pos x (show (0 : Int) < 2147483587 by decide)
          refine ⟨_, rfl, x, _, rfl, rfl, (by show (0 : Int) < 2147483587; decide), _, rfl, 45007, a, rfl, rfl, .inl ⟨by decide, by decide⟩, _, _, rfl, rfl, _, 11, rfl, rfl, _, 3, rfl, rfl, ⟨by decide, by decide, ?_⟩, _, 2147483629, rfl, rfl, (by show (0 : Int) < 2147483629; decide), ?_⟩
          · generalize x % 2147483587 = y at b1 b2
            show (y + 45007 * a + 11).natAbs < 2 ^ 64
            omega
          · generalize (x % 2147483587 + 45007 * a + 11) ^ (3 : Int).toNat = z
            have d1 := Int.emod_nonneg z (show (2147483629 : Int) ≠ 0 by decide)
            have d2 := Int.emod_lt_of_pos z (show (0 : Int) < 2147483629 by decide)
            obtain ⟨o, ho⟩ : ∃ o, z % 2147483629 = o := ⟨_, rfl⟩
            rw [ho] at d1 d2
            show tSeq _ _ _ [some (.ref p), some (.int m), none, some (.int a), some (.ref c), some (.int x), some (.int (z % 2147483629)), none] _
            rw [ho]
            have f1 := Int.emod_nonneg o (show (64007 : Int) ≠ 0 by decide)
            have f2 := Int.emod_lt_of_pos o (show (0 : Int) < 64007 by decide)
            refine ⟨_, rfl, _, rfl, 1213, a, rfl, rfl, .inl ⟨by decide, by decide⟩, _, rfl, _, a, rfl, rfl, .inr ⟨by omega, by omega⟩, o, _, rfl, rfl, _, 3, rfl, rfl, _, 5, rfl, rfl, ⟨by decide, by decide, ?_⟩, _, 2147483543, rfl, rfl, (by show (0 : Int) < 2147483543; decide), ?_⟩
            · show (o + 1213 * a * a + 3).natAbs < 2 ^ 64
              omega
            · refine ⟨_, rfl, _, rfl, o, 64007, rfl, rfl, (by show (0 : Int) < 64007; decide), _, 1, rfl, rfl, _, _, rfl, rfl, .inr ⟨by omega, by omega⟩, _, 2147483579, rfl, rfl, (by show (0 : Int) < 2147483579; decide), _, 64, rfl, rfl, ⟨by decide, by decide⟩, _, rfl, _, m, rfl, rfl, (by show (0 : Int) < m; omega), ?_⟩
              exact fin _ (Int.emod_nonneg _ (by omega)) (Int.emod_lt_of_pos _ (by omega))
end
/-! ### texts as lists of signs -/
abbrev sc (l : List Nat) : Str := ⟨l.toArray⟩
theorem sc_list (z : Str) : sc z.cps.toList = z := rfl
theorem sc_len (l : List Nat) : (sc l).length = l.length := by
  show l.toArray.size = l.length
  simp
theorem sc_app (a b : List Nat) : (sc a ++ sc b : Str) = sc (a ++ b) := by
  have h : TL.tl (sc a ++ sc b) = TL.tl (sc (a ++ b)) := by
    rw [TL.tl_append]
  have h2 := congrArg sc h
  exact h2
theorem sc_take (l : List Nat) {k : Nat} (hk : k ≤ l.length) : cutS (sc l) none (some (k : Int)) = sc (l.take k) := by
  unfold cutS
  rw [HT.sIx_none, HT.sIx_nat, sc_len, Nat.min_eq_left hk]
  show sc ((l.toArray.toList.drop 0).take (k - 0)) = sc (l.take k)
  simp
theorem sc_drop (l : List Nat) {k : Nat} (hk : k ≤ l.length) : cutS (sc l) (some (k : Int)) none = sc (l.drop k) := by
  unfold cutS
  rw [HT.sIx_none, HT.sIx_nat, sc_len, Nat.min_eq_left hk]
  show sc ((l.toArray.toList.drop k).take (l.length - k)) = sc (l.drop k)
  rw [List.take_of_length_le (by simp)]
theorem sc_join (ls : List (List Nat)) : Txt.join "" (ls.map sc) = sc ls.flatten := by
  have h : ∀ l : List (List Nat), TL.joinL [] l = l.flatten := by
    intro l
    induction l with
    | nil => rfl
    | cons p r ih =>
      cases r with
      | nil => show p = [p].flatten; simp
      | cons q r => show p ++ ([] ++ TL.joinL [] (q :: r)) = _; rw [List.nil_append, ih]; rfl
  have e := TL.tl_join "" (ls.map sc)
  rw [show TL.tl ("" : Str) = [] from rfl, h, List.map_map] at e
  rw [TL.join_eq]
  have e2 : ls.map (TL.tl ∘ sc) = ls := by
    have : (TL.tl ∘ sc) = id := funext fun l => by show l.toArray.toList = l; simp
    rw [this, List.map_id]
  rw [e2] at e
  exact congrArg sc e
abbrev abc : Str := "abcdefghijklmnopqrstuvwxyz"
def Lc (i : Nat) : Nat := abc.cps.toList.getD i 0
theorem abc_len : abc.cps.toList.length = 26 := by decide +kernel
theorem at_abc {r : Int} (h0 : 0 ≤ r) (h1 : r < 26) : atI abc.cps.toList r = some (Lc r.toNat) := by
  have h : r.toNat < abc.cps.toList.length := by rw [abc_len]; omega
  have e : ((r.toNat : Nat) : Int) = r := by omega
  have q := atI_nat (List.getElem?_eq_getElem h)
  rw [e] at q
  rw [q, Lc, List.getD_eq_getElem?_getD, List.getElem?_eq_getElem h]
  rfl
theorem Lc_in {i : Nat} (h : i < 26) : Lc i ∈ abc.cps.toList := by
  rw [Lc, List.getD_eq_getElem?_getD, List.getElem?_eq_getElem (by rw [abc_len]; exact h)]
  exact List.getElem_mem _
/-! ### the names that a law draws -/
def nmPair (t k : Nat) : List Nat := [Lc ((t + 7 * k) % 26), Lc ((t + k / 26) % 26)]
def bij (t : Nat) : Nat → List Nat
  | 0 => []
  | r + 1 => bij t (r / 2) ++ [Lc ((t + 9 * ((r + 1) % 2)) % 26)]
def nm (way t : Nat) (B : List Nat) (sp k : Nat) : List Nat := if way = 1 then bij t (k + 1) else B.take sp ++ nmPair t k ++ B.drop sp
def nmStr (way t : Nat) (B : List Nat) (sp k : Nat) : Str := sc (nm way t B sp k)
structure NmOk (way t : Nat) (B : List Nat) (sp : Nat) : Prop where
  t26 : t < 26
  b6 : B.length ≤ 6
  bl : ∀ c ∈ B, c ∈ abc.cps.toList
  s : sp ≤ B.length
/-- a list of names at l -/
def NmAt (H : Hp) (l : Addr) (m : Nat) : Prop := ∃ way t B sp, NmOk way t B sp ∧ H l = some (.lst ((List.range m).map fun k => V.str (nmStr way t B sp k)))
theorem bij_len (t : Nat) : ∀ r, (bij t r).length = if r = 0 then 0 else (bij t ((r - 1) / 2)).length + 1
  | 0 => by rw [bij]; rfl
  | r + 1 => by rw [bij, List.length_append, if_neg (by omega)]; rfl
theorem bij_le (t : Nat) : ∀ r, (bij t r).length ≤ r
  | 0 => by rw [bij]; exact Nat.le_refl _
  | r + 1 => by
    rw [bij, List.length_append]
    have := bij_le t (r / 2)
    show _ + 1 ≤ _
    omega
theorem flat_one : ∀ B : List Nat, (B.map fun c => [c]).flatten = B
  | [] => rfl
  | b :: r => by rw [List.map_cons, List.flatten_cons, flat_one r]; rfl
theorem sum_one : ∀ B : List Nat, (((B.map fun c => [c]).map sc).map (·.length)).sum = B.length
  | [] => rfl
  | b :: r => by
    rw [List.map_cons, List.map_cons, List.map_cons, List.sum_cons, sum_one r, List.length_cons, sc_len]
    exact Nat.add_comm _ _
def restOf (σ : L2.St) (_ : Hp) : Nat := match σ[10]? with
  | some (some (V.int r)) => r.toNat
  | _ => 0
/-- what _law_names promises -/
def spNames : Sp := fun vs H Q _ => ∃ (p c : Addr) (n : Nat) (m : Int), vs = [.ref p, .int m] ∧ PenAt H p c n ∧ n ≤ 50000 ∧ 0 ≤ m ∧ m ≤ 31 ∧
  ∀ (l : Addr) (H' : Hp), H l = none → NmAt H' l m.toNat → PenAt H' p c (n + 10) → But p H H' → Q (.ref l) H'
theorem yesT {σ : L2.St} {H : Hp} {A B : Hp → Prop} (h : A H) : tYes σ H fun b H3 => if b = true then A H3 else B H3 := iteT (A := A H) (B := B H) h
theorem small_sz {n : Nat} (h : n ≤ 1000) : n ≤ sizeLine := Nat.le_of_lt (small1000 h)
theorem at_ex {α : Type} {xs : List α} {r : Int} (h0 : 0 ≤ r) (h1 : r < (xs.length : Int)) : ∃ v, atI xs r = some v ∧ v ∈ xs := by
  have h : r.toNat < xs.length := by omega
  have e : ((r.toNat : Nat) : Int) = r := by omega
  have q := atI_nat (List.getElem?_eq_getElem h)
  rw [e] at q
  exact ⟨_, q, List.getElem_mem h⟩
/-- the def _law_take, as its callers need it -/
structure TakeT (P : Program) (w : World) (K : PySem.W.Frag) (mg : Str → Option Value) (base : Heap) (f : Addr) (fd : FuncData) : Prop where
  ok : FnOk P w K mg base CX0 1 f fd ["_law_pen_here", "_law_many_here"] spTake
  g : mg "_law_take" = some (.ref f)
  kp : PySem.W.keepIn K (.ref f) = true
  b : Binds K fd ["_law_pen_here", "_law_many_here"] []
/-- any def, as its callers need it -/
structure DefT (P : Program) (w : World) (K : PySem.W.Frag) (mg : Str → Option Value) (base : Heap) (x : Str) (k : Nat) (f : Addr) (fd : FuncData) (ps : List Str) (sp : Sp) : Prop where
  ok : FnOk P w K mg base CX0 k f fd ps sp
  g : mg x = some (.ref f)
  kp : PySem.W.keepIn K (.ref f) = true
  b : Binds K fd ps []
abbrev namesN : List Str := ["_law_pen_here", "_law_many_here", "_law_letters", "_law_way", "_law_turn", "_law_k", "_law_base", "_law_spot", "_law_found", "_law_word", "_law_rest"]
section
variable {P : Program} {w : World} {K : PySem.W.Frag} {mg : Str → Option Value} {base : Heap}
theorem scNames : FnScope namesN ["_law_pen_here", "_law_many_here"] (defScope sNames) := ⟨rfl, rfl, rfl, by decide +kernel, rfl, by decide +kernel, by decide +kernel⟩
set_option maxHeartbeats 4000000 in
theorem ok_names {f fT : Addr} {fd fdT : FuncData} (F : Fun K "_law_names" "_law_names" sNames f fd) (T : TakeT P w K mg base fT fdT) (ml : mg "len" = none) (mr : mg "range" = none) :
    FnOk P w K mg base CX0 2 f fd ["_law_pen_here", "_law_many_here"] spNames := by
  refine F.ok scNames (fun vs H Q E h => ?_) (fun cdv A outer s H vs Q E hr h => ?_)
  · obtain ⟨p, c, n, m, rfl, _⟩ := h
    rfl
  · obtain ⟨p, c, n, m, rfl, pen, hn, m0, m31, q⟩ := h
    have nd := scNames.nd
    refine ⟨_, pss_cons (ps_set (i := 2) nd rfl (Or.inr rfl) pe_str)
      (pss_cons (ps_set (i := 3) nd rfl (Or.inl rfl) (pe_call T.ok hr (by rfl) T.g T.kp T.b .nil pass0 (pa_cons (pv 0) (pa_cons pe_int pa_nil))))
      (pss_cons (ps_set (i := 4) nd rfl (Or.inl rfl) (pe_call T.ok hr (by rfl) T.g T.kp T.b .nil pass0 (pa_cons (pv 0) (pa_cons pe_int pa_nil))))
      (pss_cons (ps_set (i := 6) nd rfl (Or.inl rfl) (pe_join pe_str (pe_lc (own := [("_law_k", 5)]) (g := gName 5) (tt := tYes) rfl nd
          (pi_range1 rfl mr (pa_cons (pe_ix ix_list (pe_lst (pa_cons (pe_call T.ok hr (by rfl) T.g T.kp T.b .nil pass0 (pa_cons (pv 0) (pa_cons pe_int pa_nil))) (pa_cons pe_int (pa_cons pe_int pa_nil)))) (pv 3) (fun _ _ => rfl)) pa_nil))
          (blkOk_by (N := namesN) (sc := defScope sNames) (by decide +kernel))
          (fun _ _ _ _ _ => pg_name (i := 5) nd rfl (Or.inl rfl)) (fun _ _ _ _ _ => pts_nil)
          (fun _ _ _ _ _ => pe_ix ix_str (pv 2) (pe_call T.ok hr (by rfl) T.g T.kp T.b .nil pass0 (pa_cons (pv 0) (pa_cons pe_int pa_nil))) (fun _ _ => rfl)))))
      (pss_cons (ps_set (i := 7) nd rfl (Or.inl rfl) (pe_call T.ok hr (by rfl) T.g T.kp T.b .nil pass0 (pa_cons (pv 0) (pa_cons (pe_op op_add (pe_callB call_len_str (by rfl) ml PySem.boot_len (pa_cons (pv 6) pa_nil)) pe_int) pa_nil))))
      (pss_cons (ps_set (i := 8) nd rfl (Or.inl rfl) (pe_lst pa_nil))
      (pss_cons (ps_for PassesOwn.never rfl (pi_range1 rfl mr (pa_cons (pv 1) pa_nil)) (pg_name (i := 5) nd rfl (Or.inl rfl))
        (pss_cons (ps_set (i := 9) nd rfl (Or.inl rfl) (pe_op op_add_str (pe_ix ix_str (pv 2) (pe_op op_mod (pe_op op_add (pv 4) (pe_op op_mul pe_int (pv 5))) pe_int) (fun _ _ => rfl)) (pe_ix ix_str (pv 2) (pe_op op_mod (pe_op op_add (pv 4) (pe_op op_fdiv (pv 5) pe_int)) pe_int) (fun _ _ => rfl))))
        (pss_cons (ps_set (i := 9) nd rfl (Or.inl rfl) (pe_op op_add_str (pe_op op_add_str (pe_slice sl_str (pv 6) po_none (po_some (pv 7))) (pv 9)) (pe_slice sl_str (pv 6) (po_some (pv 7)) po_none)))
        (C8.pss_cut (ps_if (pt_cmpR op_eq (pv 3) pe_int (nomark _))
            (pss_cons (ps_set (i := 9) nd rfl (Or.inl rfl) pe_str)
            (pss_cons (ps_set (i := 10) nd rfl (Or.inl rfl) (pe_op op_add (pv 5) pe_int))
            (pss_one (ps_while PassesOwn.never (pt_cmpR op_gt (pv 10) pe_int (nomark _))
              (pss_cons (ps_set (i := 9) nd rfl (Or.inl rfl) (pe_op op_add_str (pe_ix ix_str (pv 2) (pe_op op_mod (pe_op op_add (pv 4) (pe_op op_mul pe_int (pe_op op_mod (pv 10) pe_int))) pe_int) (fun _ _ => rfl)) (pv 9)))
              (pss_one (ps_set (i := 10) nd rfl (Or.inl rfl) (pe_op op_fdiv (pe_op op_sub (pv 10) pe_int) pe_int)))))))) pss_nil)
        (pss_one (ps_expr (pe_bm PySem.F.plainAttrs_list PySem.F.slot_list_append PySem.F.type_list_append mt_append (pv 8) (pa_cons (pv 9) pa_nil))))))))
      (pss_one (ps_ret (pv 8))))))))), ?_⟩
    -- way, turn
    refine ⟨_, rfl, p, c, n, 3, rfl, pen, by omega, by decide, by decide, fun r1 H1 a1 b1 pen1 bt1 => ?_⟩
    refine ⟨_, rfl, p, c, n + 1, 26, rfl, pen1, by omega, by decide, by decide, fun r2 H2 a2 b2 pen2 bt2 => ?_⟩
    -- the base's size
    refine ⟨⟨_, rfl⟩, _, rfl, p, c, n + 2, 7, rfl, pen2, by omega, by decide, by decide, fun r3 H3 a3 b3 pen3 bt3 => ?_⟩
    refine ⟨(by show 3 ≤ sizeLine; decide), fun l nl => ?_⟩
    have s4 := @same_new _ _ (.lst [V.int r3, .int 0, .int 6]) nl
    obtain ⟨kk, hkk, k0, k6⟩ : ∃ kk : Int, atI [V.int r3, .int 0, .int 6] r1 = some (.int kk) ∧ 0 ≤ kk ∧ kk ≤ 6 := by
      have w3 : r1 = 0 ∨ r1 = 1 ∨ r1 = 2 := by omega
      rcases w3 with rfl | rfl | rfl
      · exact ⟨r3, atI_nat (j := 0) rfl, a3, by omega⟩
      · exact ⟨0, atI_nat (j := 1) rfl, by decide, by decide⟩
      · exact ⟨6, atI_nat (j := 2) rfl, by decide, by decide⟩
    have pen4 := pen3.same s4
    have bt4 : But p H (upd H3 l (.lst [V.int r3, .int 0, .int 6])) := (bt1.tr (bt2.tr bt3)).tr (.of s4)
    refine ⟨_, rfl, l, _, r1, _, rfl, rfl, SqL.of upd_same, hkk, kk, rfl, by omega, by omega, fun D nD => ?_⟩
    generalize upd H3 l (.lst [V.int r3, .int 0, .int 6]) = H4 at pen4 bt4 nD
    have nDp : D ≠ p := fun z => pen4.there (z ▸ nD)
    have nDc : D ≠ c := fun z => pen4.cells (z ▸ nD)
    refine lc_range (lo := 0) (n := kk.toNat) (fun j H' => PenAt H' p c (n + 3 + j) ∧ But p H H' ∧ ∃ B : List Nat, H' D = some (.lst (((B.map fun c => [c]).map sc).map V.str)) ∧ B.length = j ∧ ∀ c ∈ B, c ∈ abc.cps.toList)
      ⟨pen4.same (same_new nD), bt4.tr (.of (same_new nD)), [], upd_same, rfl, fun y hy => nomatch hy⟩ ?_ ?_
    · rintro j H6 hj ⟨pen6, bt6, B, hD6, ly, one⟩
      refine ⟨rfl, yesT ?_⟩
      refine ⟨_, rfl, _, rfl, p, c, _, 26, rfl, pen6, by omega, by decide, by decide, fun r H7 a7 b7 pen7 bt7 => ?_⟩
      have hD7 := bt7 D _ hD6 nDp
      have hDn : H D = none := by
        cases e : H D with
        | none => rfl
        | some o => rw [bt4 D o e nDp] at nD; cases nD
      refine ⟨abc, r, _, rfl, rfl, (by decide +kernel), at_abc a7 b7, _, hD7, (by simp only [List.length_map]; exact small1000 (by omega)), pen7.upd nDp nDc, fun b o e nb => (upd_ne (ne_of_none e hDn)).trans ((bt6.tr bt7) b o e nb), B ++ [Lc r.toNat], ?_, by simp [ly], ?_⟩
      · rw [upd_same, List.map_append, List.map_append, List.map_append]
        rfl
      · intro y hy
        rcases List.mem_append.mp hy with h | h
        · exact one y h
        · rw [List.mem_singleton.mp h]
          exact Lc_in (by omega)
    · rintro H6 ⟨pen6, bt6, B, hD6, ly, one⟩
      have bl : B.length ≤ 6 := by omega
      have ej : Txt.join "" ((B.map fun c => [c]).map sc) = sc B := by rw [sc_join, flat_one]
      refine ⟨"", D, (B.map fun c => [c]).map sc, rfl, rfl, .inl (SqL.of hD6), (by rw [sum_one]; simp only [List.length_map]; show B.length + B.length * 0 ≤ 16777216; omega), ?_⟩
      rw [ej]
      -- the spot
      refine ⟨_, rfl, _, rfl, sc B, rfl, (by rw [sc_len]; exact small_sz (by omega)), _, 1, rfl, rfl, p, c, n + 9, (B.length : Int) + 1, (by rw [sc_len]; rfl), pen6.mono (by omega), by omega, by omega, by omega, fun r4 H7 a4 b4 pen7 bt7 => ?_⟩
      refine ⟨Nat.zero_le _, fun Fd nFd => ?_⟩
      have nFp : Fd ≠ p := fun z => pen7.there (z ▸ nFd)
      have nFc : Fd ≠ c := fun z => pen7.cells (z ▸ nFd)
      have bt8 := bt6.tr bt7
      have hFn : H Fd = none := by
        cases e : H Fd with
        | none => rfl
        | some o => rw [bt8 Fd o e nFp] at nFd; cases nFd
      have nmok : NmOk r1.toNat r2.toNat B r4.toNat := ⟨by omega, bl, one, by omega⟩
      refine ⟨_, rfl, m, rfl, by omega, by omega, for_range (lo := 0) (n := m.toNat) (fun j σ H' => ∃ y5 y9 y10, σ = [some (.ref p), some (.int m), some (.str abc), some (.int r1), some (.int r2), y5, some (.str (sc B)), some (.int r4), some (.ref Fd), y9, y10] ∧
        PenAt H' p c (n + 10) ∧ But p H H' ∧ H' Fd = some (.lst ((List.range j).map fun k => V.str (nmStr r1.toNat r2.toNat B r4.toNat k)))) ⟨_, _, _, rfl, pen7.same (same_new nFd), bt8.tr (.of (same_new nFd)), upd_same⟩ ?_ ?_⟩
      · rintro j σ H9 hj ⟨y5, y9, y10, rfl, pen9, bt9, hF9⟩
        have i1 : 0 ≤ (r2 + 7 * (0 + (j : Int))) % 26 := Int.emod_nonneg _ (by decide)
        have i2 : (r2 + 7 * (0 + (j : Int))) % 26 < 26 := Int.emod_lt_of_pos _ (by decide)
        have i3 : 0 ≤ (r2 + (0 + (j : Int)) / 26) % 26 := Int.emod_nonneg _ (by decide)
        have i4 : (r2 + (0 + (j : Int)) / 26) % 26 < 26 := Int.emod_lt_of_pos _ (by decide)
        refine ⟨_, rfl, _, rfl, _, rfl, 7, 0 + (j : Int), rfl, rfl, .inl ⟨by decide, by decide⟩, r2, _, rfl, rfl, _, 26, rfl, rfl, (by show (0 : Int) < 26; decide), abc, _, _, rfl, rfl, (by decide +kernel), at_abc i1 i2, ?_⟩
        refine ⟨_, rfl, _, rfl, _, rfl, 0 + (j : Int), 26, rfl, rfl, ⟨by decide, by decide⟩, r2, _, rfl, rfl, _, 26, rfl, rfl, (by show (0 : Int) < 26; decide), abc, _, _, rfl, rfl, (by decide +kernel), at_abc i3 i4, _, _, rfl, rfl, (by show 1 + 1 ≤ sizeLine; decide), ?_⟩
        have q1 : ((r2 + 7 * (0 + (j : Int))) % 26).toNat = (r2.toNat + 7 * j) % 26 := by omega
        have q2 : ((r2 + (0 + (j : Int)) / 26) % 26).toNat = (r2.toNat + j / 26) % 26 := by
          have h : (0 + (j : Int)) / 26 = ((j / 26 : Nat) : Int) := by omega
          rw [h]
          generalize j / 26 = u
          omega
        have wd : ((⟨#[Lc ((r2 + 7 * (0 + (j : Int))) % 26).toNat]⟩ : Str) ++ ⟨#[Lc ((r2 + (0 + (j : Int)) / 26) % 26).toNat]⟩ : Str) = sc (nmPair r2.toNat j) := by
          rw [q1, q2]
          exact sc_app [_] [_]
        have e4 : ((r4.toNat : Nat) : Int) = r4 := by omega
        have c1 : cutS (sc B) none (some r4) = sc (B.take r4.toNat) := by rw [← e4]; exact sc_take B (by omega)
        have c2 : cutS (sc B) (some r4) none = sc (B.drop r4.toNat) := by rw [← e4]; exact sc_drop B (by omega)
        have szB : (sc B).length ≤ sizeLine := by rw [sc_len]; exact small_sz (by omega)
        refine ⟨_, rfl, _, rfl, r4, rfl, sc B, rfl, szB, _, rfl, _, _, rfl, rfl, ?_, _, rfl, _, rfl, r4, rfl, sc B, rfl, szB, _, _, rfl, rfl, ?_, ?_⟩
        · rw [wd, c1, sc_len, sc_len]
          refine small_sz ?_
          rw [List.length_take]
          show _ + 2 ≤ _
          omega
        · rw [wd, c1, c2, sc_app, sc_len, sc_len, List.length_append, List.length_take, List.length_drop]
          refine small_sz ?_
          show _ + 2 + _ ≤ _
          omega
        rw [wd, c1, c2, sc_app, sc_app]
        refine ⟨fun σ' H' => ∃ y10, σ' = [some (.ref p), some (.int m), some (.str abc), some (.int r1), some (.int r2), some (.int (0 + (j : Int))), some (.str (sc B)), some (.int r4), some (.ref Fd), some (.str (nmStr r1.toNat r2.toNat B r4.toNat j)), y10] ∧ H' = H9, ?_, ?_⟩
        · refine ⟨_, rfl, rfl, _, rfl, ite2 (fun e => ?_) (fun e => ?_)⟩
          · have e1 : r1 = 1 := V.int.inj (of_decide_eq_true e)
            subst e1
            refine ⟨_, rfl, _, 1, rfl, rfl, ?_⟩
            have el : (bij r2.toNat (j + 1)).length ≤ 100 := Nat.le_trans (bij_le _ _) (by omega)
            refine while_by (fun σ' H' => ∃ (L : List Nat) (r : Int), σ' = [some (.ref p), some (.int m), some (.str abc), some (.int 1), some (.int r2), some (.int (0 + (j : Int))), some (.str (sc B)), some (.int r4), some (.ref Fd), some (.str (sc L)), some (.int r)] ∧ H' = H9 ∧ 0 ≤ r ∧ bij r2.toNat (j + 1) = bij r2.toNat r.toNat ++ L)
              restOf ⟨[], _, rfl, rfl, by omega, ?_⟩ ?_ ?_
            · rw [List.append_nil, show (0 + (j : Int) + 1).toNat = j + 1 by omega]
            · rintro σ' H' ⟨L, r, rfl, rfl, r0, hb⟩
              have lL : L.length ≤ 100 := by
                have := congrArg List.length hb
                rw [List.length_append] at this
                omega
              refine ⟨_, rfl, r, 0, rfl, rfl, _, rfl, ite2 (fun er => ?_) (fun er => ?_)⟩
              · have er' : 0 < r := of_decide_eq_true er
                have d1 : 0 ≤ (r2 + 9 * (r % 2)) % 26 := Int.emod_nonneg _ (by decide)
                have d2 : (r2 + 9 * (r % 2)) % 26 < 26 := Int.emod_lt_of_pos _ (by decide)
                refine ⟨_, rfl, _, rfl, _, rfl, r, 2, rfl, rfl, (by show (0 : Int) < 2; decide), 9, _, rfl, rfl, .inl ⟨by decide, by decide⟩, r2, _, rfl, rfl, _, 26, rfl, rfl, (by show (0 : Int) < 26; decide), abc, _, _, rfl, rfl, (by decide +kernel), at_abc d1 d2, _, rfl, _, sc L, rfl, rfl, ?_, ?_⟩
                · show 1 + (sc L).length ≤ sizeLine
                  rw [sc_len]
                  exact small_sz (by omega)
                · refine ⟨_, rfl, r, 1, rfl, rfl, r - 1, 2, rfl, rfl, ⟨by decide, by decide⟩, ⟨Lc ((r2 + 9 * (r % 2)) % 26).toNat :: L, (r - 1) / 2, ?_, rfl, by omega, ?_⟩, ?_⟩
                  · rw [show ((⟨#[Lc ((r2 + 9 * (r % 2)) % 26).toNat]⟩ : Str) ++ sc L : Str) = sc (Lc ((r2 + 9 * (r % 2)) % 26).toNat :: L) from sc_app [_] L]
                    rfl
                  · rw [hb]
                    obtain ⟨u, rfl⟩ : ∃ u : Nat, r = ((u + 1 : Nat) : Int) := ⟨(r - 1).toNat, by omega⟩
                    rw [Int.toNat_natCast, bij, List.append_assoc, show ((((u + 1 : Nat) : Int) - 1) / 2).toNat = u / 2 by omega, show ((r2 + 9 * ((((u + 1 : Nat) : Int)) % 2)) % 26).toNat = (r2.toNat + 9 * ((u + 1) % 2)) % 26 by omega]
                    rfl
                  · show ((r - 1) / 2).toNat < r.toNat
                    omega
              · have er' : ¬ 0 < r := fun h => er (decide_eq_true h)
                have : r = 0 := by omega
                subst this
                refine ⟨some (.int 0), ?_, rfl⟩
                rw [show nmStr (1 : Int).toNat r2.toNat B r4.toNat j = sc L by
                  show sc (if 1 = 1 then bij r2.toNat (j + 1) else _) = sc L
                  rw [if_pos rfl, hb, show (0 : Int).toNat = 0 from rfl, bij, List.nil_append]]
            · rintro σ' H' Q1 Q2 hq ⟨v, hv, i, k, x1, x2, b, x3, x4⟩
              exact ⟨v, hv, i, k, x1, x2, b, x3, hq _ _ x4⟩
          · have e1 : ¬ r1 = 1 := fun h => e (decide_eq_true (congrArg V.int h))
            refine ⟨y10, ?_, rfl⟩
            rw [show nmStr r1.toNat r2.toNat B r4.toNat j = sc (B.take r4.toNat ++ nmPair r2.toNat j ++ B.drop r4.toNat) by
              show sc (if r1.toNat = 1 then _ else _) = _
              rw [if_neg (by omega)]]
            rfl
        · rintro σ' H' ⟨z10, rfl, rfl⟩
          refine ⟨_, rfl, .inl ⟨rfl, _, SqL.of hF9⟩, _, rfl, Fd, _, _, rfl, rfl, hF9, (by simp only [List.length_map, List.length_range]; exact small1000 (by omega)), ⟨_, _, _, rfl, pen9.upd nFp nFc, fun b o e nb => (upd_ne (ne_of_none e hFn)).trans (bt9 b o e nb), ?_⟩⟩
          rw [upd_same, List.range_succ, List.map_append]
          rfl
      · rintro σ H9 ⟨y5, y9, y10, rfl, pen9, bt9, hF9⟩
        exact ⟨_, rfl, q Fd H9 hFn ⟨_, _, _, _, nmok, hF9⟩ pen9 bt9⟩
end
/-! ### entries -/
inductive Ent where
  | come (nm : Str) (mo : Int) (g pl : Str) (many price : Int)
  | go (nm : Str) (mo : Int) (g pl : Str) (many : Int)
  | move (nm : Str) (mo : Int) (g one other : Str) (many : Int)
  | some_ (nm : Str) (mo : Int) (g one other : Str)
  | swap (nm : Str) (mo : Int) (one other : Str)
  | count (nm : Str) (mo : Int) (g pl : Str) (many : Int) (hand : Str)
  | look (nm : Str) (mo : Int) (g pl : Str)
namespace Ent
def word : Ent → Str
  | come .. => "come" | go .. => "go" | move .. => "move" | some_ .. => "some" | swap .. => "swap" | count .. => "count" | look .. => "look"
def name : Ent → Str
  | come n .. => n | go n .. => n | move n .. => n | some_ n .. => n | swap n .. => n | count n .. => n | look n .. => n
def moment : Ent → Int
  | come _ m .. => m | go _ m .. => m | move _ m .. => m | some_ _ m .. => m | swap _ m .. => m | count _ m .. => m | look _ m .. => m
def rest : Ent → List V
  | come _ _ g p m r => [.str g, .str p, .int m, .int r]
  | go _ _ g p m => [.str g, .str p, .int m]
  | move _ _ g o t m => [.str g, .str o, .str t, .int m]
  | some_ _ _ g o t => [.str g, .str o, .str t]
  | swap _ _ o t => [.str o, .str t]
  | count _ _ g p m h => [.str g, .str p, .int m, .str h]
  | look _ _ g p => [.str g, .str p]
def vals (e : Ent) : List V := .str e.word :: .str e.name :: .int e.moment :: e.rest
/-- its parts are drawn from these places, goods and hands -/
def From (PL GL HL : List Str) : Ent → Prop
  | come _ _ g p m r => g ∈ GL ∧ p ∈ PL ∧ 1 ≤ m ∧ m ≤ 1000000000 ∧ 0 ≤ r ∧ r ≤ 1000000000
  | go _ _ g p m => g ∈ GL ∧ p ∈ PL ∧ 1 ≤ m ∧ m ≤ 1000000000
  | move _ _ g o t m => g ∈ GL ∧ o ∈ PL ∧ t ∈ PL ∧ (PL.Nodup → o ≠ t) ∧ 1 ≤ m ∧ m ≤ 1000000000
  | some_ _ _ g o t => g ∈ GL ∧ o ∈ PL ∧ (t = "" ∨ (t ∈ PL ∧ (PL.Nodup → o ≠ t)))
  | swap _ _ o t => o ∈ PL ∧ t ∈ PL ∧ (PL.Nodup → o ≠ t)
  | count _ _ g p m h => g ∈ GL ∧ p ∈ PL ∧ 0 ≤ m ∧ m ≤ 1000000000 ∧ h ∈ HL
  | look _ _ g p => g ∈ GL ∧ p ∈ PL
end Ent
def words7 : List Str := ["come", "go", "move", "some", "swap", "count", "look"]
abbrev words10 : List Str := ["come", "go", "move", "some", "swap", "count", "look", "count", "swap", "move"]
theorem Ent.word_in (e : Ent) : e.word ∈ words7 := by
  cases e <;> simp [Ent.word, words7]
abbrev StrsAt (H : Hp) (l : Addr) (ys : List Str) : Prop := H l = some (.lst (ys.map V.str))
def spMany : Sp := fun vs H Q _ => ∃ (p c : Addr) (n : Nat), vs = [.ref p] ∧ PenAt H p c n ∧ n ≤ 90000 ∧
  ∀ (r : Int) (H' : Hp), 1 ≤ r → r ≤ 1000000000 → PenAt H' p c (n + 4) → But p H H' → Q (.int r) H'
def spEntryOf : Sp := fun vs H Q _ => ∃ (p c : Addr) (n : Nat) (wd nme : Str) (mo : Int) (a1 a2 a3 : Addr) (PL GL HL : List Str), vs = [.ref p, .str wd, .str nme, .int mo, .ref a1, .ref a2, .ref a3] ∧ PenAt H p c n ∧ n ≤ 80000 ∧ wd ∈ words7 ∧
  StrsAt H a1 PL ∧ StrsAt H a2 GL ∧ StrsAt H a3 HL ∧ PL ≠ [] ∧ GL ≠ [] ∧ HL ≠ [] ∧ PL.length ≤ 100 ∧ GL.length ≤ 100 ∧ HL.length ≤ 100 ∧
  ∀ (tp : Addr) (e : Ent) (H' : Hp), H tp = none → H' tp = some (.tup e.vals) → e.name = nme → e.moment = mo → e.From PL GL HL → PenAt H' p c (n + 20) → But p H H' → Q (.ref tp) H'
def spEntry : Sp := fun vs H Q _ => ∃ (p c : Addr) (n : Nat) (nme : Str) (mo : Int) (a1 a2 a3 : Addr) (PL GL HL : List Str), vs = [.ref p, .str nme, .int mo, .ref a1, .ref a2, .ref a3] ∧ PenAt H p c n ∧ n ≤ 70000 ∧
  StrsAt H a1 PL ∧ StrsAt H a2 GL ∧ StrsAt H a3 HL ∧ PL ≠ [] ∧ GL ≠ [] ∧ HL ≠ [] ∧ PL.length ≤ 100 ∧ GL.length ≤ 100 ∧ HL.length ≤ 100 ∧
  ∀ (tp : Addr) (e : Ent) (H' : Hp), H tp = none → H' tp = some (.tup e.vals) → e.name = nme → e.moment = mo → e.From PL GL HL → PenAt H' p c (n + 30) → But p H H' → Q (.ref tp) H'
theorem pen_strs {H H' : Hp} {p c l : Addr} {n : Nat} {ys : List Str} (pen : PenAt H p c n) (b : But p H H') (h : StrsAt H l ys) : StrsAt H' l ys := by
  obtain ⟨kvs, ns, a, x, g1, _⟩ := pen.ex
  exact b l _ h (ne_of h g1 (by intro z; cases z))
theorem pen_free {H H' : Hp} {p c l : Addr} {n : Nat} (pen : PenAt H p c n) (b : But p H H') (h : H' l = none) (pen' : PenAt H' p c n) : H l = none := by
  cases e : H l with
  | none => rfl
  | some o =>
    have nl : l ≠ p := fun z => pen'.there (z ▸ h)
    rw [b l o e nl] at h
    cases h
theorem But.free {H H' : Hp} {p l : Addr} (b : But p H H') (h : H' l = none) (hp : H' p ≠ none) : H l = none := by
  cases e : H l with
  | none => rfl
  | some o =>
    have nl : l ≠ p := fun z => hp (z ▸ h)
    rw [b l o e nl] at h
    cases h
theorem at_strs {ys : List Str} {r : Int} (h0 : 0 ≤ r) (h1 : r < (ys.length : Int)) : ∃ y, atI (ys.map V.str) r = some (.str y) ∧ ys[r.toNat]? = some y ∧ y ∈ ys := by
  have h : r.toNat < ys.length := by omega
  have e : ((r.toNat : Nat) : Int) = r := by omega
  have q := atI_nat (xs := ys.map V.str) (j := r.toNat) (v := .str ys[r.toNat]) (by rw [List.getElem?_map, List.getElem?_eq_getElem h]; rfl)
  rw [e] at q
  exact ⟨_, q, List.getElem?_eq_getElem h, List.getElem_mem h⟩
section
variable {P : Program} {w : World} {K : PySem.W.Frag} {mg : Str → Option Value} {base : Heap}
theorem scMany : FnScope ["_law_pen_here", "_law_way"] ["_law_pen_here"] (defScope sMany) := ⟨rfl, rfl, rfl, by decide +kernel, rfl, by decide +kernel, by decide +kernel⟩
theorem ok_many {f fT : Addr} {fd fdT : FuncData} (F : Fun K "_law_many" "_law_many" sMany f fd) (T : TakeT P w K mg base fT fdT) : FnOk P w K mg base CX0 2 f fd ["_law_pen_here"] spMany := by
  refine F.ok scMany (fun vs H Q E h => ?_) (fun cdv A outer s H vs Q E hr h => ?_)
  · obtain ⟨p, c, n, rfl, _⟩ := h
    rfl
  · obtain ⟨p, c, n, rfl, pen, hn, q⟩ := h
    have nd := scMany.nd
    refine ⟨_, pss_cons (ps_set (i := 1) nd rfl (Or.inl rfl) (pe_call T.ok hr (by rfl) T.g T.kp T.b .nil pass0 (pa_cons (pv 0) (pa_cons pe_int pa_nil))))
      (pss_one (ps_ret (pe_ix ix_list (pe_lst (pa_cons pe_int (pa_cons (pe_op op_add pe_int (pe_call T.ok hr (by rfl) T.g T.kp T.b .nil pass0 (pa_cons (pv 0) (pa_cons pe_int pa_nil))))
        (pa_cons (pe_op op_sub (pe_op op_pow pe_int pe_int) (pe_call T.ok hr (by rfl) T.g T.kp T.b .nil pass0 (pa_cons (pv 0) (pa_cons pe_int pa_nil))))
        (pa_cons (pe_op op_add pe_int (pe_call T.ok hr (by rfl) T.g T.kp T.b .nil pass0 (pa_cons (pv 0) (pa_cons (pe_op op_pow pe_int pe_int) pa_nil)))) pa_nil))))) (pv 1) (fun _ _ => rfl)))), ?_⟩
    refine ⟨_, rfl, p, c, n, 4, rfl, pen, by omega, by decide, by decide, fun r1 H1 a1 b1 pen1 bt1 => ?_⟩
    refine ⟨_, rfl, p, c, n + 1, 9, rfl, pen1, by omega, by decide, by decide, fun r2 H2 a2 b2 pen2 bt2 => ?_⟩
    refine ⟨1, r2, rfl, rfl, 10, 9, rfl, rfl, ⟨by decide, by decide, by decide⟩, _, rfl, p, c, n + 2, 3, rfl, pen2, by omega, by decide, by decide, fun r3 H3 a3 b3 pen3 bt3 => ?_⟩
    refine ⟨_, r3, rfl, rfl, _, rfl, 10, 9, rfl, rfl, ⟨by decide, by decide, by decide⟩, p, c, n + 3, 10 ^ (9 : Int).toNat, rfl, pen3, by omega, by decide, by decide, fun r4 H4 a4 b4 pen4 bt4 => ?_⟩
    have b4' : r4 < 1000000000 := b4
    refine ⟨1, r4, rfl, rfl, (by show 4 ≤ sizeLine; decide), fun l nl => ?_⟩
    have fin : ∀ r : Int, 1 ≤ r → r ≤ 1000000000 → Q (.int r) (upd H4 l (.lst [.int 1, .int (1 + r2), .int (10 ^ (9 : Int).toNat - r3), .int (1 + r4)])) := fun r h1 h2 => q r _ h1 h2 (pen4.same (same_new nl)) ((bt1.tr (bt2.tr (bt3.tr bt4))).tr (.of (same_new nl)))
    have w4 : r1 = 0 ∨ r1 = 1 ∨ r1 = 2 ∨ r1 = 3 := by omega
    rcases w4 with rfl | rfl | rfl | rfl
    · exact ⟨_, rfl, l, _, 0, _, rfl, rfl, SqL.of upd_same, atI_nat (j := 0) rfl, fin _ (by decide) (by decide)⟩
    · exact ⟨_, rfl, l, _, 1, _, rfl, rfl, SqL.of upd_same, atI_nat (j := 1) rfl, fin _ (by omega) (by omega)⟩
    · exact ⟨_, rfl, l, _, 2, _, rfl, rfl, SqL.of upd_same, atI_nat (j := 2) rfl, fin _ (by show (1 : Int) ≤ 1000000000 - r3; omega) (by show (1000000000 : Int) - r3 ≤ 1000000000; omega)⟩
    · exact ⟨_, rfl, l, _, 3, _, rfl, rfl, SqL.of upd_same, atI_nat (j := 3) rfl, fin _ (by omega) (by omega)⟩
abbrev entN : List Str := ["_law_pen_here", "_law_word", "_law_name", "_law_moment", "_law_places", "_law_goods", "_law_hands", "_law_at", "_law_one", "_law_good", "_law_other"]
theorem scEntryOf : FnScope entN ["_law_pen_here", "_law_word", "_law_name", "_law_moment", "_law_places", "_law_goods", "_law_hands"] (defScope sEntryOf) := ⟨rfl, rfl, rfl, by decide +kernel, rfl, by decide +kernel, by decide +kernel⟩
set_option maxHeartbeats 4000000 in
theorem ok_entryOf {f fT fM : Addr} {fd fdT fdM : FuncData} (F : Fun K "_law_entry_of" "_law_entry_of" sEntryOf f fd) (T : TakeT P w K mg base fT fdT) (M : DefT P w K mg base "_law_many" 2 fM fdM ["_law_pen_here"] spMany) (ml : mg "len" = none) :
    FnOk P w K mg base CX0 3 f fd ["_law_pen_here", "_law_word", "_law_name", "_law_moment", "_law_places", "_law_goods", "_law_hands"] spEntryOf := by
  refine F.ok scEntryOf (fun vs H Q E h => ?_) (fun cdv A outer s H vs Q E hr h => ?_)
  · obtain ⟨p, c, n, wd, nme, mo, a1, a2, a3, PL, GL, HL, rfl, _⟩ := h
    rfl
  · obtain ⟨p, c, n, wd, nme, mo, a1, a2, a3, PL, GL, HL, rfl, pen, hn, hw, h1, h2, h3, ne1, ne2, ne3, lp, lg, lh, q⟩ := h
    have nd := scEntryOf.nd
    have hr1 : Room 1 _ := hr.mono (by decide)
    refine ⟨_, pss_cons (ps_set (i := 7) nd rfl (Or.inl rfl) (pe_call T.ok hr1 (by rfl) T.g T.kp T.b .nil pass0 (pa_cons (pv 0) (pa_cons (pe_callB call_len_seq (by rfl) ml PySem.boot_len (pa_cons (pv 4) pa_nil)) pa_nil))))
      (pss_cons (ps_set (i := 8) nd rfl (Or.inl rfl) (pe_ix ix_list (pv 4) (pv 7) (fun _ _ => rfl)))
      (pss_cons (ps_set (i := 9) nd rfl (Or.inl rfl) (pe_ix ix_list (pv 5) (pe_call T.ok hr1 (by rfl) T.g T.kp T.b .nil pass0 (pa_cons (pv 0) (pa_cons (pe_callB call_len_seq (by rfl) ml PySem.boot_len (pa_cons (pv 5) pa_nil)) pa_nil))) (fun _ _ => rfl)))
      (pss_cons (ps_set (i := 10) nd rfl (Or.inl rfl) pe_str)
      (C8.pss_cut (ps_if (pt_cmpR op_gt (pe_callB call_len_seq (by rfl) ml PySem.boot_len (pa_cons (pv 4) pa_nil)) pe_int (nomark _))
        (pss_one (ps_set (i := 10) nd rfl (Or.inl rfl) (pe_ix ix_list (pv 4) (pe_op op_mod (pe_op op_add (pe_op op_add (pv 7) pe_int) (pe_call T.ok hr1 (by rfl) T.g T.kp T.b .nil pass0 (pa_cons (pv 0) (pa_cons (pe_op op_sub (pe_callB call_len_seq (by rfl) ml PySem.boot_len (pa_cons (pv 4) pa_nil)) pe_int) pa_nil)))) (pe_callB call_len_seq (by rfl) ml PySem.boot_len (pa_cons (pv 4) pa_nil))) (fun _ _ => rfl)))) pss_nil)
      (pss_cons (ps_if (pt_cmpR op_eq (pv 1) pe_str (nomark _)) (pss_one (ps_ret (pe_tup (pa_cons (pv 1) (pa_cons (pv 2) (pa_cons (pv 3) (pa_cons (pv 9) (pa_cons (pv 8) (pa_cons (pe_call M.ok hr (by rfl) M.g M.kp M.b .nil pass0 (pa_cons (pv 0) pa_nil)) (pa_cons (pe_op op_sub (pe_call M.ok hr (by rfl) M.g M.kp M.b .nil pass0 (pa_cons (pv 0) pa_nil)) (pe_call T.ok hr1 (by rfl) T.g T.kp T.b .nil pass0 (pa_cons (pv 0) (pa_cons pe_int pa_nil)))) pa_nil)))))))))) pss_nil)
      (pss_cons (ps_if (pt_cmpR op_eq (pv 1) pe_str (nomark _)) (pss_one (ps_ret (pe_tup (pa_cons (pv 1) (pa_cons (pv 2) (pa_cons (pv 3) (pa_cons (pv 9) (pa_cons (pv 8) (pa_cons (pe_call M.ok hr (by rfl) M.g M.kp M.b .nil pass0 (pa_cons (pv 0) pa_nil)) pa_nil))))))))) pss_nil)
      (C8.pss_cut (ps_if (PW.pt (pw_and (pt_cmpR op_eq (pv 1) pe_str (nomark _)) (pw_and1 (pt_cmpR op_ne (pv 10) pe_str (nomark _))))) (pss_one (ps_ret (pe_tup (pa_cons (pv 1) (pa_cons (pv 2) (pa_cons (pv 3) (pa_cons (pv 9) (pa_cons (pv 8) (pa_cons (pv 10) (pa_cons (pe_call M.ok hr (by rfl) M.g M.kp M.b .nil pass0 (pa_cons (pv 0) pa_nil)) pa_nil)))))))))) pss_nil)
      (pss_cons (ps_if (pt_cmpR op_eq (pv 1) pe_str (nomark _)) (pss_one (ps_ret (pe_tup (pa_cons (pv 1) (pa_cons (pv 2) (pa_cons (pv 3) (pa_cons (pv 9) (pa_cons (pv 8) (pa_cons (pe_ix ix_list (pe_lst (pa_cons (pv 10) (pa_cons (pv 10) (pa_cons pe_str pa_nil)))) (pe_call T.ok hr1 (by rfl) T.g T.kp T.b .nil pass0 (pa_cons (pv 0) (pa_cons pe_int pa_nil))) (fun _ _ => rfl)) pa_nil))))))))) pss_nil)
      (C8.pss_cut (ps_if (PW.pt (pw_and (pt_cmpR op_eq (pv 1) pe_str (nomark _)) (pw_and1 (pt_cmpR op_ne (pv 10) pe_str (nomark _))))) (pss_one (ps_ret (pe_tup (pa_cons (pv 1) (pa_cons (pv 2) (pa_cons (pv 3) (pa_cons (pv 8) (pa_cons (pv 10) pa_nil)))))))) pss_nil)
      (pss_cons (ps_if (pt_cmpR op_eq (pv 1) pe_str (nomark _)) (pss_one (ps_ret (pe_tup (pa_cons (pv 1) (pa_cons (pv 2) (pa_cons (pv 3) (pa_cons (pv 9) (pa_cons (pv 8) (pa_cons (pe_op op_sub (pe_call M.ok hr (by rfl) M.g M.kp M.b .nil pass0 (pa_cons (pv 0) pa_nil)) (pe_call T.ok hr1 (by rfl) T.g T.kp T.b .nil pass0 (pa_cons (pv 0) (pa_cons pe_int pa_nil)))) (pa_cons (pe_ix ix_list (pv 6) (pe_call T.ok hr1 (by rfl) T.g T.kp T.b .nil pass0 (pa_cons (pv 0) (pa_cons (pe_callB call_len_seq (by rfl) ml PySem.boot_len (pa_cons (pv 6) pa_nil)) pa_nil))) (fun _ _ => rfl)) pa_nil)))))))))) pss_nil)
      (pss_one (ps_ret (pe_tup (pa_cons pe_str (pa_cons (pv 2) (pa_cons (pv 3) (pa_cons (pv 9) (pa_cons (pv 8) pa_nil)))))))))))))))))), ?_⟩
    have p1 : 0 < PL.length := List.length_pos_iff.mpr ne1
    have g1 : 0 < GL.length := List.length_pos_iff.mpr ne2
    have k1 : 0 < HL.length := List.length_pos_iff.mpr ne3
    have lmap : ∀ ys : List Str, ((ys.map V.str).length : Int) = (ys.length : Int) := fun ys => by rw [List.length_map]
    -- at, one
    refine ⟨_, rfl, _, rfl, a1, _, rfl, .inl (SqL.of h1), p, c, n, _, rfl, pen, by omega, by rw [lmap]; omega, by rw [lmap]; omega, fun r1 H1 b1 d1 pen1 bt1 => ?_⟩
    rw [lmap] at d1
    have h11 := pen_strs pen bt1 h1
    have h12 := pen_strs pen bt1 h2
    have h13 := pen_strs pen bt1 h3
    obtain ⟨one, ho, ho2, ho3⟩ := at_strs b1 d1
    refine ⟨_, rfl, _, rfl, a1, _, r1, _, rfl, rfl, SqL.of h11, ho, ?_⟩
    refine ⟨_, rfl, _, rfl, _, rfl, a2, _, rfl, .inl (SqL.of h12), p, c, n + 1, _, rfl, pen1, by omega, by rw [lmap]; omega, by rw [lmap]; omega, fun r2 H2 b2 d2 pen2 bt2 => ?_⟩
    rw [lmap] at d2
    have h21 := pen_strs pen1 bt2 h11
    have h22 := pen_strs pen1 bt2 h12
    have h23 := pen_strs pen1 bt2 h13
    obtain ⟨good, hg, _, hg3⟩ := at_strs b2 d2
    have bt02 := bt1.tr bt2
    refine ⟨a2, _, r2, _, rfl, rfl, SqL.of h22, hg, ?_⟩
    refine ⟨fun σ' H' => ∃ other : Str, σ' = [some (.ref p), some (.str wd), some (.str nme), some (.int mo), some (.ref a1), some (.ref a2), some (.ref a3), some (.int r1), some (.str one), some (.str good), some (.str other)] ∧ (other = "" ∨ (other ∈ PL ∧ (PL.Nodup → one ≠ other))) ∧
      PenAt H' p c (n + 3) ∧ But p H H' ∧ StrsAt H' a1 PL ∧ StrsAt H' a2 GL ∧ StrsAt H' a3 HL, ?_, ?_⟩
    · refine ⟨_, rfl, a1, _, rfl, .inl (SqL.of h21), _, 1, rfl, rfl, _, rfl, ite2 (fun e => ?_) (fun e => ⟨"", rfl, .inl rfl, pen2.mono (by omega), bt02, h21, h22, h23⟩)⟩
      have e' : 1 < ((PL.map V.str).length : Int) := of_decide_eq_true e
      rw [lmap] at e'
      refine ⟨_, rfl, _, rfl, r1, 1, rfl, rfl, _, rfl, _, rfl, a1, _, rfl, .inl (SqL.of h21), _, 1, rfl, rfl, p, c, n + 2, _, rfl, pen2, by omega, by rw [lmap]; omega, by rw [lmap]; omega, fun r3 H3 b3 d3 pen3 bt3 => ?_⟩
      rw [lmap] at d3
      have h31 := pen_strs pen2 bt3 h21
      have h32 := pen_strs pen2 bt3 h22
      have h33 := pen_strs pen2 bt3 h23
      have x1 : 0 ≤ (r1 + 1 + r3) % (PL.length : Int) := Int.emod_nonneg _ (by omega)
      have x2 : (r1 + 1 + r3) % (PL.length : Int) < (PL.length : Int) := Int.emod_lt_of_pos _ (by omega)
      obtain ⟨other, hp, hp2, hp3⟩ := at_strs x1 x2
      refine ⟨r1 + 1, r3, rfl, rfl, _, rfl, a1, _, rfl, .inl (SqL.of h31), _, (PL.length : Int), rfl, by rw [lmap], (by show (0 : Int) < PL.length; omega), a1, _, _, .str other, rfl, rfl, SqL.of h31, hp, other, rfl, .inr ⟨hp3, fun nod z => ?_⟩, pen3, bt02.tr bt3, h31, h32, h33⟩
      subst z
      have := (List.getElem?_inj (show r1.toNat < PL.length by omega) nod).mp (ho2.trans hp2.symm)
      have x3 : (r1 + 1 + r3) % (PL.length : Int) = r1 + 1 + r3 ∨ (r1 + 1 + r3) % (PL.length : Int) = r1 + 1 + r3 - PL.length := by
        by_cases h : r1 + 1 + r3 < PL.length
        · exact .inl (Int.emod_eq_of_lt (by omega) h)
        · right
          rw [← Int.sub_emod_right]
          exact Int.emod_eq_of_lt (by omega) (by omega)
      omega
    · rintro σ' H3 ⟨other, rfl, oth, pen3, bt3, h31, h32, h33⟩
      have fin : ∀ (tp : Addr) (e : Ent) (H4 : Hp) (k : Nat), H4 tp = none → But p H3 H4 → PenAt H4 p c (n + 3 + k) → k ≤ 17 → e.name = nme → e.moment = mo → e.From PL GL HL → Q (.ref tp) (upd H4 tp (.tup e.vals)) := fun tp e H4 k ntp bt4 pen4 hk e1 e2 e3 =>
        q tp e _ ((bt3.tr bt4).free ntp pen4.there) upd_same e1 e2 e3 ((pen4.mono (by omega)).same (same_new ntp)) ((bt3.tr bt4).tr (.of (same_new ntp)))
      refine ⟨_, rfl, rfl, _, rfl, ite2 (fun e => ?_) (fun e1 => ?_)⟩
      · have e' : wd = "come" := V.str.inj (of_decide_eq_true e)
        subst e'
        refine ⟨_, rfl, _, rfl, _, rfl, _, rfl, _, rfl, _, rfl, p, c, n + 3, rfl, pen3, by omega, fun m1 H4 c1 d1 pen4 bt4 => ?_⟩
        refine ⟨_, rfl, p, c, _, rfl, pen4, by omega, fun m2 H5 c2 d2 pen5 bt5 => ?_⟩
        refine ⟨_, rfl, p, c, _, 2, rfl, pen5, by omega, by decide, by decide, fun r6 H6 c6 d6 pen6 bt6 => ?_⟩
        refine ⟨m2, r6, rfl, rfl, (by show 7 ≤ sizeLine; decide), fun tp ntp => ?_⟩
        exact fin tp (.come nme mo good one m1 (m2 - r6)) H6 9 ntp (bt4.tr (bt5.tr bt6)) pen6 (by decide) rfl rfl ⟨hg3, ho3, c1, d1, by omega, by omega⟩
      refine ⟨_, rfl, rfl, _, rfl, ite2 (fun e => ?_) (fun e2 => ?_)⟩
      · have e' : wd = "go" := V.str.inj (of_decide_eq_true e)
        subst e'
        refine ⟨_, rfl, _, rfl, _, rfl, _, rfl, _, rfl, _, rfl, p, c, n + 3, rfl, pen3, by omega, fun m1 H4 c1 d1 pen4 bt4 => ?_⟩
        refine ⟨(by show 6 ≤ sizeLine; decide), fun tp ntp => ?_⟩
        exact fin tp (.go nme mo good one m1) H4 4 ntp bt4 pen4 (by decide) rfl rfl ⟨hg3, ho3, c1, d1⟩
      have mv : ∀ (A B : Prop), (other ≠ "" → A) → B → (if (!decide (V.str other = V.str "")) = true then A else B) := fun A B hA hB => by
        by_cases z : other = ""
        · subst z
          rw [decide_eq_true rfl]
          exact iteF hB
        · rw [decide_eq_false fun h => z (V.str.inj h)]
          exact iteT (hA z)
      have oin : other ≠ "" → other ∈ PL ∧ (PL.Nodup → one ≠ other) := fun z => oth.resolve_left z
      refine ⟨fun σ' H' => σ' = [some (.ref p), some (.str wd), some (.str nme), some (.int mo), some (.ref a1), some (.ref a2), some (.ref a3), some (.int r1), some (.str one), some (.str good), some (.str other)] ∧ H' = H3, ?_, ?_⟩
      · refine ⟨_, rfl, rfl, _, rfl, ite2 (fun e => ?_) (fun _ => iteF ⟨rfl, rfl⟩)⟩
        have e' : wd = "move" := V.str.inj (of_decide_eq_true e)
        subst e'
        refine ⟨_, rfl, rfl, _, rfl, mv _ _ (fun z => ?_) ⟨rfl, rfl⟩⟩
        refine ⟨_, rfl, _, rfl, _, rfl, _, rfl, _, rfl, _, rfl, _, rfl, p, c, n + 3, rfl, pen3, by omega, fun m1 H4 c1 d1 pen4 bt4 => ?_⟩
        refine ⟨(by show 7 ≤ sizeLine; decide), fun tp ntp => ?_⟩
        exact fin tp (.move nme mo good one other m1) H4 4 ntp bt4 pen4 (by decide) rfl rfl ⟨hg3, ho3, (oin z).1, (oin z).2, c1, d1⟩
      rintro σ' H' ⟨rfl, rfl⟩
      refine ⟨_, rfl, rfl, _, rfl, ite2 (fun e => ?_) (fun e3 => ?_)⟩
      · have e' : wd = "some" := V.str.inj (of_decide_eq_true e)
        subst e'
        refine ⟨_, rfl, _, rfl, _, rfl, _, rfl, _, rfl, _, rfl, _, rfl, (by show 3 ≤ sizeLine; decide), fun l nl => ?_⟩
        have sl := @same_new _ _ (.lst [V.str other, .str other, .str ""]) nl
        have nlp : l ≠ p := fun z => pen3.there (z ▸ nl)
        refine ⟨_, rfl, p, c, n + 3, 3, rfl, pen3.same sl, by omega, by decide, by decide, fun r4 H4 c4 d4 pen4 bt4 => ?_⟩
        have hl := bt4 l _ upd_same nlp
        obtain ⟨to, ht, hto⟩ : ∃ to : Str, atI [V.str other, .str other, .str ""] r4 = some (.str to) ∧ (to = "" ∨ (to ∈ PL ∧ (PL.Nodup → one ≠ to))) := by
          have w3 : r4 = 0 ∨ r4 = 1 ∨ r4 = 2 := by omega
          rcases w3 with rfl | rfl | rfl
          · exact ⟨other, atI_nat (j := 0) rfl, oth⟩
          · exact ⟨other, atI_nat (j := 1) rfl, oth⟩
          · exact ⟨"", atI_nat (j := 2) rfl, .inl rfl⟩
        refine ⟨l, _, r4, _, rfl, rfl, SqL.of hl, ht, (by show 6 ≤ sizeLine; decide), fun tp ntp => ?_⟩
        exact fin tp (.some_ nme mo good one to) H4 1 ntp ((But.of sl).tr bt4) pen4 (by decide) rfl rfl ⟨hg3, ho3, hto⟩
      refine ⟨fun σ' H1 => σ' = [some (.ref p), some (.str wd), some (.str nme), some (.int mo), some (.ref a1), some (.ref a2), some (.ref a3), some (.int r1), some (.str one), some (.str good), some (.str other)] ∧ H1 = H', ?_, ?_⟩
      · refine ⟨_, rfl, rfl, _, rfl, ite2 (fun e => ?_) (fun _ => iteF ⟨rfl, rfl⟩)⟩
        have e' : wd = "swap" := V.str.inj (of_decide_eq_true e)
        subst e'
        refine ⟨_, rfl, rfl, _, rfl, mv _ _ (fun z => ?_) ⟨rfl, rfl⟩⟩
        refine ⟨_, rfl, _, rfl, _, rfl, _, rfl, _, rfl, (by show 5 ≤ sizeLine; decide), fun tp ntp => ?_⟩
        exact fin tp (.swap nme mo one other) H' 0 ntp (.refl _ _) pen3 (by decide) rfl rfl ⟨ho3, (oin z).1, (oin z).2⟩
      rintro σ' H2 ⟨rfl, rfl⟩
      refine ⟨_, rfl, rfl, _, rfl, ite2 (fun e => ?_) (fun e5 => ?_)⟩
      · have e' : wd = "count" := V.str.inj (of_decide_eq_true e)
        subst e'
        refine ⟨_, rfl, _, rfl, _, rfl, _, rfl, _, rfl, _, rfl, p, c, n + 3, rfl, pen3, by omega, fun m1 H4 c1 d1 pen4 bt4 => ?_⟩
        refine ⟨_, rfl, p, c, _, 2, rfl, pen4, by omega, by decide, by decide, fun r5 H5 c5 d5 pen5 bt5 => ?_⟩
        have h43 := pen_strs pen4 bt5 (pen_strs pen3 bt4 h33)
        refine ⟨m1, r5, rfl, rfl, _, rfl, _, rfl, _, rfl, a3, _, rfl, .inl (SqL.of h43), p, c, _, _, rfl, pen5, by omega, by rw [lmap]; omega, by rw [lmap]; omega, fun r6 H6 c6 d6 pen6 bt6 => ?_⟩
        rw [lmap] at d6
        obtain ⟨hand, hh, _, hh3⟩ := at_strs c6 d6
        refine ⟨a3, _, r6, _, rfl, rfl, SqL.of (pen_strs pen5 bt6 h43), hh, (by show 7 ≤ sizeLine; decide), fun tp ntp => ?_⟩
        exact fin tp (.count nme mo good one (m1 - r5) hand) H6 6 ntp (bt4.tr (bt5.tr bt6)) pen6 (by decide) rfl rfl ⟨hg3, ho3, by omega, by omega, hh3⟩
      refine ⟨_, rfl, _, rfl, _, rfl, _, rfl, (by show 5 ≤ sizeLine; decide), fun tp ntp => ?_⟩
      exact fin tp (.look nme mo good one) H2 0 ntp (.refl _ _) pen3 (by decide) rfl rfl ⟨hg3, ho3⟩
abbrev entryN : List Str := ["_law_pen_here", "_law_name", "_law_moment", "_law_places", "_law_goods", "_law_hands", "_law_words_here"]
theorem scEntry : FnScope entryN ["_law_pen_here", "_law_name", "_law_moment", "_law_places", "_law_goods", "_law_hands"] (defScope sEntry) := ⟨rfl, rfl, rfl, by decide +kernel, rfl, by decide +kernel, by decide +kernel⟩
theorem ok_entry {f fT fE : Addr} {fd fdT fdE : FuncData} (F : Fun K "_law_entry" "_law_entry" sEntry f fd) (T : TakeT P w K mg base fT fdT)
    (EO : DefT P w K mg base "_law_entry_of" 3 fE fdE ["_law_pen_here", "_law_word", "_law_name", "_law_moment", "_law_places", "_law_goods", "_law_hands"] spEntryOf) :
    FnOk P w K mg base CX0 4 f fd ["_law_pen_here", "_law_name", "_law_moment", "_law_places", "_law_goods", "_law_hands"] spEntry := by
  refine F.ok scEntry (fun vs H Q E h => ?_) (fun cdv A outer s H vs Q E hr h => ?_)
  · obtain ⟨p, c, n, nme, mo, a1, a2, a3, PL, GL, HL, rfl, _⟩ := h
    rfl
  · obtain ⟨p, c, n, nme, mo, a1, a2, a3, PL, GL, HL, rfl, pen, hn, h1, h2, h3, ne1, ne2, ne3, lp, lg, lh, q⟩ := h
    have nd := scEntry.nd
    have hr1 : Room 1 _ := hr.mono (by decide)
    refine ⟨_, pss_cons (ps_set (i := 6) nd rfl (Or.inl rfl) (pe_lst (pa_cons pe_str (pa_cons pe_str (pa_cons pe_str (pa_cons pe_str (pa_cons pe_str (pa_cons pe_str (pa_cons pe_str (pa_cons pe_str (pa_cons pe_str (pa_cons pe_str pa_nil))))))))))))
      (pss_one (ps_ret (pe_call EO.ok hr (by rfl) EO.g EO.kp EO.b .nil pass0 (pa_cons (pv 0) (pa_cons (pe_ix ix_list (pv 6) (pe_call T.ok hr1 (by rfl) T.g T.kp T.b .nil pass0 (pa_cons (pv 0) (pa_cons pe_int pa_nil))) (fun _ _ => rfl)) (pa_cons (pv 1) (pa_cons (pv 2) (pa_cons (pv 3) (pa_cons (pv 4) (pa_cons (pv 5) pa_nil)))))))))), ?_⟩
    refine ⟨(by show 10 ≤ sizeLine; decide), fun l nl => ?_⟩
    have sl := @same_new _ _ (.lst (words10.map V.str)) nl
    have nlp : l ≠ p := fun z => pen.there (z ▸ nl)
    have pen' := pen.same sl
    refine ⟨_, rfl, _, rfl, _, rfl, p, c, n, 10, rfl, pen', by omega, by decide, by decide, fun r1 H1 b1 d1 pen1 bt1 => ?_⟩
    obtain ⟨wd, hw, _, hw3⟩ := at_strs (ys := words10) b1 d1
    have hl : StrsAt H1 l words10 := bt1 l _ upd_same nlp
    have w7 : wd ∈ words7 := by
      simp only [List.mem_cons, List.not_mem_nil, or_false] at hw3
      rcases hw3 with rfl | rfl | rfl | rfl | rfl | rfl | rfl | rfl | rfl | rfl <;> simp [words7]
    refine ⟨l, _, r1, _, rfl, rfl, SqL.of hl, hw, _, rfl, _, rfl, _, rfl, _, rfl, _, rfl, p, c, n + 1, wd, nme, mo, a1, a2, a3, PL, GL, HL, rfl, pen1, by omega, w7, pen_strs pen' bt1 (sl _ _ h1), pen_strs pen' bt1 (sl _ _ h2), pen_strs pen' bt1 (sl _ _ h3), ne1, ne2, ne3, lp, lg, lh, fun tp e H2 ntp ht en em ef pen2 bt2 => ?_⟩
    exact q tp e H2 (sl.free ((bt1.free ntp pen1.there))) ht en em ef (pen2.mono (by omega)) ((But.of sl).tr (bt1.tr bt2))
end
/-! ### words and moments -/
def NmL (ys : List Str) (m : Nat) : Prop := ∃ way t B sp, NmOk way t B sp ∧ ys = (List.range m).map (nmStr way t B sp)
theorem nmAt_strs {H : Hp} {l : Addr} {m : Nat} (h : NmAt H l m) : ∃ ys, StrsAt H l ys ∧ NmL ys m := by
  obtain ⟨way, t, B, sp, ok, e⟩ := h
  refine ⟨(List.range m).map (nmStr way t B sp), ?_, way, t, B, sp, ok, rfl⟩
  show H l = _
  rw [e, List.map_map]
  rfl
theorem NmL.len {ys : List Str} {m : Nat} (h : NmL ys m) : ys.length = m := by
  obtain ⟨way, t, B, sp, ok, rfl⟩ := h
  simp
theorem NmL.take {ys : List Str} {m k : Nat} (h : NmL ys m) (hk : k ≤ m) : NmL (ys.take k) k := by
  obtain ⟨way, t, B, sp, ok, rfl⟩ := h
  refine ⟨way, t, B, sp, ok, ?_⟩
  rw [← List.map_take, List.take_range, Nat.min_eq_left hk]
theorem cut_take {xs : List V} {k : Nat} : cutV xs none (some (k : Int)) = xs.take k := by
  unfold cutV
  rw [HT.sIx_none, HT.sIx_nat]
  show (xs.drop 0).take (min k xs.length - 0) = xs.take k
  rw [List.drop_zero, Nat.sub_zero]
  by_cases h : k ≤ xs.length
  · rw [Nat.min_eq_left h]
  · rw [Nat.min_eq_right (by omega), List.take_length, List.take_of_length_le (by omega)]
def spWords : Sp := fun vs H Q _ => ∃ (p c : Addr) (n : Nat) (a b e : Nat), vs = [.ref p, .int a, .int b, .int e] ∧ PenAt H p c n ∧ n ≤ 1000 ∧ a ≤ 31 ∧ b ≤ 31 ∧ e ≤ 31 ∧
  ∀ (tp l1 l2 l3 l4 : Addr) (PL GL HL EL : List Str) (H' : Hp), H tp = none → H' tp = some (.tup [.ref l1, .ref l2, .ref l3, .ref l4]) → StrsAt H' l1 PL → StrsAt H' l2 GL → StrsAt H' l3 HL → StrsAt H' l4 EL →
    NmL PL a → NmL GL b → NmL HL 3 → NmL EL e → PenAt H' p c (n + 50) → But p H H' → Q (.ref tp) H'
def spMoments : Sp := fun vs H Q _ => ∃ (p c : Addr) (n : Nat) (m : Nat), vs = [.ref p, .int m] ∧ PenAt H p c n ∧ n ≤ 2000 ∧ m ≤ 31 ∧
  ∀ (l : Addr) (ns : List Int) (H' : Hp), H l = none → H' l = some (.lst (ns.map V.int)) → ns.length = m → (∀ x ∈ ns, 0 ≤ x ∧ x ≤ 9999) → PenAt H' p c (n + 100) → But p H H' → Q (.ref l) H'
section
variable {P : Program} {w : World} {K : PySem.W.Frag} {mg : Str → Option Value} {base : Heap}
abbrev wordsN : List Str := ["_law_pen_here", "_law_places", "_law_goods", "_law_entries", "_law_some", "_law_hands"]
theorem scWords : FnScope wordsN ["_law_pen_here", "_law_places", "_law_goods", "_law_entries"] (defScope sWords) := ⟨rfl, rfl, rfl, by decide +kernel, rfl, by decide +kernel, by decide +kernel⟩
theorem ok_words {f fT fN : Addr} {fd fdT fdN : FuncData} (F : Fun K "_law_words" "_law_words" sWords f fd) (T : TakeT P w K mg base fT fdT) (N : DefT P w K mg base "_law_names" 2 fN fdN ["_law_pen_here", "_law_many_here"] spNames) :
    FnOk P w K mg base CX0 3 f fd ["_law_pen_here", "_law_places", "_law_goods", "_law_entries"] spWords := by
  refine F.ok scWords (fun vs H Q E h => ?_) (fun cdv A outer s H vs Q E hr h => ?_)
  · obtain ⟨p, c, n, a, b, e, rfl, _⟩ := h
    rfl
  · obtain ⟨p, c, n, a, b, e, rfl, pen, hn, ha, hb, he, q⟩ := h
    have nd := scWords.nd
    have hr1 : Room 1 _ := hr.mono (by decide)
    refine ⟨_, pss_cons (ps_if (pt_cmpR op_eq (pe_call T.ok hr1 (by rfl) T.g T.kp T.b .nil pass0 (pa_cons (pv 0) (pa_cons pe_int pa_nil))) pe_int (nomark _))
        (pss_cons (ps_set (i := 4) nd rfl (Or.inl rfl) (pe_call N.ok hr (by rfl) N.g N.kp N.b .nil pass0 (pa_cons (pv 0) (pa_cons pe_int pa_nil))))
        (pss_one (ps_ret (pe_tup (pa_cons (pe_slice sl_list (pv 4) po_none (po_some (pv 1))) (pa_cons (pe_slice sl_list (pv 4) po_none (po_some (pv 2))) (pa_cons (pe_slice sl_list (pv 4) po_none (po_some pe_int)) (pa_cons (pe_slice sl_list (pv 4) po_none (po_some (pv 3))) pa_nil)))))))) pss_nil)
      (pss_cons (ps_set (i := 5) nd rfl (Or.inl rfl) (pe_call N.ok hr (by rfl) N.g N.kp N.b .nil pass0 (pa_cons (pv 0) (pa_cons pe_int pa_nil))))
      (pss_one (ps_ret (pe_tup (pa_cons (pe_call N.ok hr (by rfl) N.g N.kp N.b .nil pass0 (pa_cons (pv 0) (pa_cons (pv 1) pa_nil))) (pa_cons (pe_call N.ok hr (by rfl) N.g N.kp N.b .nil pass0 (pa_cons (pv 0) (pa_cons (pv 2) pa_nil))) (pa_cons (pv 5) (pa_cons (pe_call N.ok hr (by rfl) N.g N.kp N.b .nil pass0 (pa_cons (pv 0) (pa_cons (pv 3) pa_nil))) pa_nil)))))))), ?_⟩
    refine ⟨_, rfl, p, c, n, 4, rfl, pen, by omega, by decide, by decide, fun r1 H1 b1 d1 pen1 bt1 => ⟨rfl, _, rfl, ite2 (fun _ => ?_) (fun _ => ?_)⟩⟩
    · refine ⟨_, rfl, p, c, n + 1, 31, rfl, pen1, by omega, by decide, by decide, fun l H2 nl hl pen2 bt2 => ?_⟩
      obtain ⟨ys, hy, ny⟩ := nmAt_strs hl
      have tk : ∀ k : Nat, cutV (ys.map V.str) none (some (k : Int)) = (ys.take k).map V.str := fun k => by rw [cut_take, List.map_take]
      refine ⟨_, rfl, _, rfl, (a : Int), rfl, l, _, rfl, SqL.of hy, fun l1 n1 => ?_⟩
      have s1 := @same_new _ _ (.lst (cutV (ys.map V.str) none (some (a : Int)))) n1
      refine ⟨_, rfl, _, rfl, (b : Int), rfl, l, _, rfl, SqL.of (s1 _ _ hy), fun l2 n2 => ?_⟩
      have s2 := @same_new _ _ (.lst (cutV (ys.map V.str) none (some (b : Int)))) n2
      refine ⟨_, rfl, 3, rfl, l, _, rfl, SqL.of (s2 _ _ (s1 _ _ hy)), fun l3 n3 => ?_⟩
      have s3 := @same_new _ _ (.lst (cutV (ys.map V.str) none (some (3 : Int)))) n3
      refine ⟨_, rfl, _, rfl, (e : Int), rfl, l, _, rfl, SqL.of (s3 _ _ (s2 _ _ (s1 _ _ hy))), fun l4 n4 => ?_⟩
      have s4 := @same_new _ _ (.lst (cutV (ys.map V.str) none (some (e : Int)))) n4
      refine ⟨(by show 4 ≤ sizeLine; decide), fun tp ntp => ?_⟩
      have s5 := @same_new _ _ (.tup [V.ref l1, .ref l2, .ref l3, .ref l4]) ntp
      have u4 := s4.trans s5
      have u3 := s3.trans u4
      have u2 := s2.trans u3
      have u1 := s1.trans u2
      have bt := (bt1.tr bt2).tr (.of u1)
      have f0 : H tp = none := (bt1.tr bt2).free (s1.free (s2.free (s3.free (s4.free ntp)))) pen2.there
      refine q tp l1 l2 l3 l4 (ys.take a) (ys.take b) (ys.take 3) (ys.take e) _ f0 upd_same ?_ ?_ ?_ ?_ (ny.take ha) (ny.take hb) (ny.take (by decide)) (ny.take he) ((pen2.mono (by omega)).same u1) bt
      · exact u2 _ _ (by rw [upd_same, tk])
      · exact u3 _ _ (by rw [upd_same, tk])
      · exact u4 _ _ (by rw [upd_same]; exact congrArg (fun z => some (HO.lst z)) (tk 3))
      · exact s5 _ _ (by rw [upd_same, tk])
    · refine ⟨_, rfl, p, c, n + 1, 3, rfl, pen1, by omega, by decide, by decide, fun l3 H2 nl3 hl3 pen2 bt2 => ?_⟩
      obtain ⟨ys3, hy3, ny3⟩ := nmAt_strs hl3
      refine ⟨_, rfl, _, rfl, p, c, n + 11, (a : Int), rfl, pen2, by omega, by omega, by omega, fun l1 H3 nl1 hl1 pen3 bt3 => ?_⟩
      obtain ⟨ys1, hy1, ny1⟩ := nmAt_strs hl1
      refine ⟨_, rfl, _, rfl, p, c, n + 21, (b : Int), rfl, pen3, by omega, by omega, by omega, fun l2 H4 nl2 hl2 pen4 bt4 => ?_⟩
      obtain ⟨ys2, hy2, ny2⟩ := nmAt_strs hl2
      refine ⟨_, rfl, _, rfl, _, rfl, p, c, n + 31, (e : Int), rfl, pen4, by omega, by omega, by omega, fun l4 H5 nl4 hl4 pen5 bt5 => ?_⟩
      obtain ⟨ys4, hy4, ny4⟩ := nmAt_strs hl4
      refine ⟨(by show 4 ≤ sizeLine; decide), fun tp ntp => ?_⟩
      have s5 := @same_new _ _ (.tup [V.ref l1, .ref l2, .ref l3, .ref l4]) ntp
      have bt := bt1.tr (bt2.tr (bt3.tr (bt4.tr bt5)))
      exact q tp l1 l2 l3 l4 ys1 ys2 ys3 ys4 _ (bt.free ntp pen5.there) upd_same (s5 _ _ (pen_strs pen4 bt5 (pen_strs pen3 bt4 hy1))) (s5 _ _ (pen_strs pen4 bt5 hy2)) (s5 _ _ (pen_strs pen4 bt5 (pen_strs pen3 bt4 (pen_strs pen2 bt3 hy3)))) (s5 _ _ hy4)
        (by rw [Int.toNat_natCast] at ny1; exact ny1) (by rw [Int.toNat_natCast] at ny2; exact ny2) ny3 (by rw [Int.toNat_natCast] at ny4; exact ny4) ((pen5.mono (by omega)).same s5) (bt.tr (.of s5))
abbrev momN : List Str := ["_law_pen_here", "_law_many_here", "_law_way", "_law_some", "_law_k", "_law_few", "_law_found"]
theorem scMom : FnScope momN ["_law_pen_here", "_law_many_here"] (defScope sMoments) := ⟨rfl, rfl, rfl, by decide +kernel, rfl, by decide +kernel, by decide +kernel⟩
theorem at_ints {ns : List Int} {r : Int} (h0 : 0 ≤ r) (h1 : r < (ns.length : Int)) : ∃ y, atI (ns.map V.int) r = some (.int y) ∧ y ∈ ns := by
  have h : r.toNat < ns.length := by omega
  have e : ((r.toNat : Nat) : Int) = r := by omega
  have q := atI_nat (xs := ns.map V.int) (j := r.toNat) (v := .int ns[r.toNat]) (by rw [List.getElem?_map, List.getElem?_eq_getElem h]; rfl)
  rw [e] at q
  exact ⟨_, q, List.getElem_mem h⟩
set_option maxHeartbeats 4000000 in
theorem ok_moments {f fT : Addr} {fd fdT : FuncData} (F : Fun K "_law_moments" "_law_moments" sMoments f fd) (T : TakeT P w K mg base fT fdT) (ml : mg "len" = none) (mr : mg "range" = none) (mi : mg "int" = none) :
    FnOk P w K mg base CX0 2 f fd ["_law_pen_here", "_law_many_here"] spMoments := by
  refine F.ok scMom (fun vs H Q E h => ?_) (fun cdv A outer s H vs Q E hr h => ?_)
  · obtain ⟨p, c, n, m, rfl, _⟩ := h
    rfl
  · obtain ⟨p, c, n, m, rfl, pen, hn, hm, q⟩ := h
    have nd := scMom.nd
    refine ⟨_, pss_cons (ps_set (i := 2) nd rfl (Or.inl rfl) (pe_call T.ok hr (by rfl) T.g T.kp T.b .nil pass0 (pa_cons (pv 0) (pa_cons pe_int pa_nil))))
      (pss_cons (ps_set (i := 3) nd rfl (Or.inr rfl) (pe_lst (pa_cons pe_int (pa_cons pe_int (pa_cons pe_int (pa_cons pe_int (pa_cons (pe_call T.ok hr (by rfl) T.g T.kp T.b .nil pass0 (pa_cons (pv 0) (pa_cons pe_int pa_nil))) (pa_cons (pe_call T.ok hr (by rfl) T.g T.kp T.b .nil pass0 (pa_cons (pv 0) (pa_cons pe_int pa_nil))) pa_nil))))))))
      (pss_cons (ps_setLc (i := 5) (own := [("_law_k", 4)]) (g := gName 4) (tt := tYes) (te := tOp (rIxL K) (tVar 3) (tCall spTake [] E0 (tCons (tVar 0) (tCons (tC (V.int 6)) tNil)))) rfl nd rfl rfl (sw_true rfl rfl rfl (by decide +kernel))
          (pi_range1 rfl mr (pa_cons (pe_op op_add pe_int (pe_call T.ok hr (by rfl) T.g T.kp T.b .nil pass0 (pa_cons (pv 0) (pa_cons pe_int pa_nil)))) pa_nil))
          (blkOk_by (N := momN) (sc := defScope sMoments) (by decide +kernel))
          (fun _ _ _ _ _ => pg_name (i := 4) nd rfl (Or.inl rfl)) (fun _ _ _ _ _ => pts_nil)
          (fun _ _ _ _ _ => pe_ix ix_list (pv 3) (pe_call T.ok hr (by rfl) T.g T.kp T.b .nil pass0 (pa_cons (pv 0) (pa_cons pe_int pa_nil))) (fun _ _ => rfl)))
      (pss_cons (ps_set (i := 6) nd rfl (Or.inl rfl) (pe_lst pa_nil))
      (pss_cons (ps_for PassesOwn.never rfl (pi_range1 rfl mr (pa_cons (pv 1) pa_nil)) (pg_name (i := 4) nd rfl (Or.inl rfl))
        (pss_one (ps_expr (pe_bm PySem.F.plainAttrs_list PySem.F.slot_list_append PySem.F.type_list_append mt_append (pv 6) (pa_cons (pe_ix ix_list
          (pe_lst (pa_cons (pe_ix ix_list (pv 5) (pe_call T.ok hr (by rfl) T.g T.kp T.b .nil pass0 (pa_cons (pv 0) (pa_cons (pe_callB call_len_seq (by rfl) ml PySem.boot_len (pa_cons (pv 5) pa_nil)) pa_nil))) (fun _ _ => rfl)) (pa_cons (pe_call T.ok hr (by rfl) T.g T.kp T.b .nil pass0 (pa_cons (pv 0) (pa_cons pe_int pa_nil))) pa_nil)))
          (pe_callTy call_int1 (by rfl) mi (by decide +kernel) (pa_cons (pe_cmpR op_eq (pv 2) pe_int (nomark _)) pa_nil)) (fun _ _ => rfl)) pa_nil)))))
      (pss_one (ps_ret (pv 6))))))), ?_⟩
    refine ⟨_, rfl, p, c, n, 4, rfl, pen, by omega, by decide, by decide, fun r1 H1 b1 d1 pen1 bt1 => ?_⟩
    refine ⟨_, rfl, p, c, n + 1, 10000, rfl, pen1, by omega, by decide, by decide, fun r2 H2 b2 d2 pen2 bt2 => ?_⟩
    refine ⟨_, rfl, p, c, n + 2, 10000, rfl, pen2, by omega, by decide, by decide, fun r3 H3 b3 d3 pen3 bt3 => ?_⟩
    refine ⟨(by show 6 ≤ sizeLine; decide), fun S nS => ?_⟩
    have sS := @same_new _ _ (.lst (([0, 99, 100, 9999, r2, r3] : List Int).map V.int)) nS
    have penS := pen3.same sS
    have nSp : S ≠ p := fun z => pen3.there (z ▸ nS)
    have btS : But p H (upd H3 S (.lst (([0, 99, 100, 9999, r2, r3] : List Int).map V.int))) := (bt1.tr (bt2.tr bt3)).tr (.of sS)
    have hS : (upd H3 S (.lst (([0, 99, 100, 9999, r2, r3] : List Int).map V.int))) S = some (.lst (([0, 99, 100, 9999, r2, r3] : List Int).map V.int)) := upd_same
    refine ⟨_, rfl, p, c, n + 3, 4, rfl, penS, by omega, by decide, by decide, fun r4 H4 b4 d4 pen4 bt4 => ?_⟩
    have hS4 := bt4 S _ hS nSp
    refine ⟨1, r4, rfl, rfl, 1 + r4, rfl, by omega, by omega, fun D nD => ?_⟩
    have nDp : D ≠ p := fun z => pen4.there (z ▸ nD)
    have nDc : D ≠ c := fun z => pen4.cells (z ▸ nD)
    have nSD : S ≠ D := ne_of_none hS4 nD
    have hDn : H D = none := (btS.tr bt4).free nD pen4.there
    refine lc_range (lo := 0) (n := (1 + r4).toNat) (fun j H' => PenAt H' p c (n + 4 + j) ∧ But p H H' ∧ H' S = some (.lst (([0, 99, 100, 9999, r2, r3] : List Int).map V.int)) ∧ ∃ fs : List Int, H' D = some (.lst (fs.map V.int)) ∧ fs.length = j ∧ ∀ x ∈ fs, 0 ≤ x ∧ x ≤ 9999)
      ⟨pen4.same (same_new nD), (btS.tr bt4).tr (.of (same_new nD)), (upd_ne nSD).trans hS4, [], upd_same, rfl, fun y hy => nomatch hy⟩ ?_ ?_
    · rintro j H6 hj ⟨pen6, bt6, hS6, fs, hD6, lf, bd⟩
      refine ⟨rfl, yesT ?_⟩
      refine ⟨_, rfl, _, rfl, p, c, _, 6, rfl, pen6, by omega, by decide, by decide, fun r H7 b7 d7 pen7 bt7 => ?_⟩
      obtain ⟨y, hy, my⟩ := at_ints (ns := [0, 99, 100, 9999, r2, r3]) b7 d7
      have hD7 := bt7 D _ hD6 nDp
      have hS7 := bt7 S _ hS6 nSp
      refine ⟨S, _, r, _, rfl, rfl, SqL.of hS7, hy, _, hD7, (by rw [List.length_map]; exact small1000 (by omega)), pen7.upd nDp nDc, fun b o e nb => (upd_ne (ne_of_none e hDn)).trans ((bt6.tr bt7) b o e nb), (upd_ne nSD).trans hS7, fs ++ [y], ?_, by simp [lf], ?_⟩
      · rw [upd_same, List.map_append]
        rfl
      · intro x hx
        rcases List.mem_append.mp hx with h | h
        · exact bd x h
        · rw [List.mem_singleton.mp h]
          simp only [List.mem_cons, List.not_mem_nil, or_false] at my
          rcases my with rfl | rfl | rfl | rfl | rfl | rfl <;> constructor <;> omega
    · rintro H6 ⟨pen6, bt6, hS6, fs, hD6, lf, bd⟩
      refine ⟨Nat.zero_le _, fun Fd nFd => ?_⟩
      have nFp : Fd ≠ p := fun z => pen6.there (z ▸ nFd)
      have nFc : Fd ≠ c := fun z => pen6.cells (z ▸ nFd)
      have nDF : D ≠ Fd := ne_of_none hD6 nFd
      have hFn : H Fd = none := bt6.free nFd pen6.there
      refine ⟨_, rfl, (m : Int), rfl, by omega, by omega, for_range (lo := 0) (n := (m : Int).toNat) (fun j σ H' => ∃ y4, σ = [some (.ref p), some (.int (m : Int)), some (.int r1), some (.ref S), y4, some (.ref D), some (.ref Fd)] ∧ PenAt H' p c (n + 8 + 2 * j) ∧ But p H H' ∧ H' D = some (.lst (fs.map V.int)) ∧
        ∃ ns : List Int, H' Fd = some (.lst (ns.map V.int)) ∧ ns.length = j ∧ ∀ x ∈ ns, 0 ≤ x ∧ x ≤ 9999) ⟨_, rfl, (pen6.mono (by omega)).same (same_new nFd), bt6.tr (.of (same_new nFd)), (upd_ne nDF).trans hD6, [], upd_same, rfl, fun y hy => nomatch hy⟩ ?_ ?_⟩
      · rintro j σ H9 hj ⟨y4, rfl, pen9, bt9, hD9, ns, hF9, ln, bn⟩
        have lfs : ((fs.map V.int).length : Int) = (fs.length : Int) := by rw [List.length_map]
        refine ⟨_, rfl, .inl ⟨rfl, _, SqL.of hF9⟩, _, rfl, _, rfl, _, rfl, D, _, rfl, .inl (SqL.of hD9), p, c, _, _, rfl, pen9, by omega, by rw [lfs]; omega, by rw [lfs]; omega, fun r5 H10 b5 d5 pen10 bt10 => ?_⟩
        rw [lfs] at d5
        obtain ⟨y, hy, my⟩ := at_ints b5 d5
        have hD10 := bt10 D _ hD9 nDp
        refine ⟨D, _, r5, _, rfl, rfl, SqL.of hD10, hy, _, rfl, p, c, _, 10000, rfl, pen10, by omega, by decide, by decide, fun r6 H11 b6 d6 pen11 bt11 => ?_⟩
        refine ⟨(by show 2 ≤ sizeLine; decide), fun L nL => ?_⟩
        have sL := @same_new _ _ (.lst (([y, r6] : List Int).map V.int)) nL
        refine ⟨_, rfl, rfl, .inr ⟨decide (V.int r1 = V.int 0), rfl, ?_⟩⟩
        have z01 : (0 : Int) ≤ (if decide (V.int r1 = V.int 0) = true then 1 else 0) ∧ (if decide (V.int r1 = V.int 0) = true then (1 : Int) else 0) < 2 := by
          cases decide (V.int r1 = V.int 0) <;> decide
        obtain ⟨x, hx, mx⟩ := at_ints (ns := [y, r6]) z01.1 z01.2
        have hF12 := sL _ _ (bt11 Fd _ (bt10 Fd _ hF9 nFp) nFp)
        have bt12 := (bt9.tr (bt10.tr bt11)).tr (.of sL)
        refine ⟨L, _, _, _, rfl, rfl, SqL.of upd_same, hx, Fd, _, _, rfl, rfl, hF12, (by rw [List.length_map]; exact small1000 (by omega)), _, rfl, (((pen11.mono (by omega)).same sL).upd nFp nFc), fun b o e nb => (upd_ne (ne_of_none e hFn)).trans (bt12 b o e nb), (upd_ne nDF).trans (sL _ _ (bt11 D _ hD10 nDp)), ns ++ [x], ?_, by simp [ln], ?_⟩
        · rw [upd_same, List.map_append]
          rfl
        · intro z hz
          rcases List.mem_append.mp hz with h | h
          · exact bn z h
          · rw [List.mem_singleton.mp h]
            have by_ := bd y my
            simp only [List.mem_cons, List.not_mem_nil, or_false] at mx
            rcases mx with rfl | rfl <;> constructor <;> omega
      · rintro σ H9 ⟨y4, rfl, pen9, bt9, hD9, ns, hF9, ln, bn⟩
        exact ⟨_, rfl, q Fd ns H9 hFn hF9 (by omega) bn (pen9.mono (by omega)) bt9⟩
end
/-! ### is_name -/
def signB (c : Nat) : Bool := decide (c ∈ abc.cps.toList)
def nameB (z : Str) : Bool := decide (1 ≤ z.length) && decide (z.length ≤ 8) && z.cps.toList.all signB
theorem nameB_in {z : Str} (h1 : (1 : Int) ≤ (z.length : Int)) (h2 : (z.length : Int) ≤ 8) : nameB z = z.cps.toList.all signB := by
  unfold nameB
  rw [decide_eq_true (show 1 ≤ z.length by omega), decide_eq_true (show z.length ≤ 8 by omega)]
  rfl
theorem nameB_long {z : Str} (h : ¬ (z.length : Int) ≤ 8) : nameB z = false := by
  unfold nameB
  rw [decide_eq_false (show ¬ z.length ≤ 8 by omega), Bool.and_false]
  rfl
theorem nameB_short {z : Str} (h : ¬ (1 : Int) ≤ (z.length : Int)) : nameB z = false := by
  unfold nameB
  rw [decide_eq_false (show ¬ 1 ≤ z.length by omega)]
  rfl
/-! ### the drawn names are names, unlike ones -/
theorem bij_pow (t : Nat) : ∀ (j r : Nat), r + 1 ≤ 2 ^ j → (bij t r).length ≤ j
  | 0, r, h => by
    have : r = 0 := by simp at h; exact h
    subst this
    rw [bij]
    exact Nat.le_refl _
  | j + 1, 0, _ => by
    rw [bij]
    exact Nat.zero_le _
  | j + 1, r + 1, h => by
    rw [bij, List.length_append]
    have h2 : 2 ^ (j + 1) = 2 * 2 ^ j := by rw [Nat.pow_succ]; omega
    have := bij_pow t j (r / 2) (by rw [h2] at h; omega)
    show _ + 1 ≤ _
    omega
theorem bij_in (t : Nat) : ∀ (r : Nat), ∀ c ∈ bij t r, c ∈ abc.cps.toList
  | 0, c, h => by
    rw [bij] at h
    cases h
  | r + 1, c, h => by
    rw [bij] at h
    rcases List.mem_append.mp h with h | h
    · exact bij_in t (r / 2) c h
    · rw [List.mem_singleton.mp h]
      exact Lc_in (Nat.mod_lt _ (by decide))
theorem nm_in {way t : Nat} {B : List Nat} {sp : Nat} (ok : NmOk way t B sp) (k : Nat) : ∀ c ∈ nm way t B sp k, c ∈ abc.cps.toList := by
  intro c h
  unfold nm at h
  split at h
  · exact bij_in _ _ c h
  · rcases List.mem_append.mp h with h | h
    · rcases List.mem_append.mp h with h | h
      · exact ok.bl c (List.mem_of_mem_take h)
      · simp only [nmPair, List.mem_cons, List.not_mem_nil, or_false] at h
        rcases h with rfl | rfl <;> exact Lc_in (Nat.mod_lt _ (by decide))
    · exact ok.bl c (List.mem_of_mem_drop h)
theorem nm_len {way t : Nat} {B : List Nat} {sp : Nat} (ok : NmOk way t B sp) {k : Nat} (hk : k ≤ 30) : 1 ≤ (nm way t B sp k).length ∧ (nm way t B sp k).length ≤ 8 := by
  unfold nm
  split
  · have h := bij_pow t 5 (k + 1) (by show k + 1 + 1 ≤ 32; omega)
    refine ⟨?_, by omega⟩
    rw [bij, List.length_append]
    show 1 ≤ _ + 1
    omega
  · have := ok.b6
    have := ok.s
    rw [List.length_append, List.length_append, List.length_take, List.length_drop]
    show 1 ≤ _ + 2 + _ ∧ _ + 2 + _ ≤ 8
    constructor <;> omega
theorem nm_name {way t : Nat} {B : List Nat} {sp : Nat} (ok : NmOk way t B sp) {k : Nat} (hk : k ≤ 30) : nameB (nmStr way t B sp k) = true := by
  have h := nm_len ok hk
  have e : (nmStr way t B sp k).length = (nm way t B sp k).length := sc_len _
  unfold nameB
  rw [e, decide_eq_true h.1, decide_eq_true h.2]
  show (nmStr way t B sp k).cps.toList.all signB = true
  rw [List.all_eq_true]
  intro c hc
  exact decide_eq_true (nm_in ok k c (by simpa [nmStr] using hc))
theorem Lc_inj : ∀ i < 26, ∀ j < 26, Lc i = Lc j → i = j := by decide +kernel
theorem bij_inj {t : Nat} : ∀ (r q : Nat), bij t r = bij t q → r = q := by
  intro r
  induction r using Nat.strongRecOn with
  | ind r ih =>
    intro q h
    cases r with
    | zero =>
      cases q with
      | zero => rfl
      | succ q =>
        have := congrArg List.length h
        rw [bij, bij, List.length_append] at this
        simp at this
    | succ r =>
      cases q with
      | zero =>
        have := congrArg List.length h
        rw [bij, bij, List.length_append] at this
        simp at this
      | succ q =>
        rw [bij, bij] at h
        have h1 := List.append_inj_left' h rfl
        have h2 := List.append_inj_right' h rfl
        have e := ih (r / 2) (by omega) (q / 2) h1
        have e2 : Lc ((t + 9 * ((r + 1) % 2)) % 26) = Lc ((t + 9 * ((q + 1) % 2)) % 26) := List.head_eq_of_cons_eq h2
        have e3 := Lc_inj _ (Nat.mod_lt _ (by decide)) _ (Nat.mod_lt _ (by decide)) e2
        omega
theorem nm_inj {way t : Nat} {B : List Nat} {sp : Nat} {k j : Nat} (hk : k ≤ 30) (hj : j ≤ 30) (h : nm way t B sp k = nm way t B sp j) : k = j := by
  unfold nm at h
  split at h
  · have := bij_inj _ _ h
    omega
  · have h1 := List.append_inj_left' h rfl
    have h2 := List.append_inj_right h1 rfl
    unfold nmPair at h2
    have a := List.head_eq_of_cons_eq h2
    have b := List.head_eq_of_cons_eq (List.tail_eq_of_cons_eq h2)
    have a' := Lc_inj _ (Nat.mod_lt _ (by decide)) _ (Nat.mod_lt _ (by decide)) a
    have b' := Lc_inj _ (Nat.mod_lt _ (by decide)) _ (Nat.mod_lt _ (by decide)) b
    clear h h1 h2 a b
    have u1 : k / 26 ≤ 1 := by omega
    have u2 : j / 26 ≤ 1 := by omega
    have e1 : k / 26 = j / 26 := by
      generalize k / 26 = u at b' u1
      generalize j / 26 = v at b' u2
      omega
    clear b' u1 u2
    have e2 : (7 * k) % 26 = (7 * j) % 26 := by omega
    have e3 : k % 26 = j % 26 := by
      clear a'
      omega
    omega
theorem NmL.names {ys : List Str} {m : Nat} (h : NmL ys m) (hm : m ≤ 31) : ∀ y ∈ ys, nameB y = true := by
  obtain ⟨way, t, B, sp, ok, rfl⟩ := h
  intro y hy
  obtain ⟨k, hk, rfl⟩ := List.mem_map.mp hy
  exact nm_name ok (by have := List.mem_range.mp hk; omega)
theorem NmL.nodup {ys : List Str} {m : Nat} (h : NmL ys m) (hm : m ≤ 31) : ys.Nodup := by
  obtain ⟨way, t, B, sp, ok, rfl⟩ := h
  rw [List.Nodup, List.pairwise_map]
  refine List.Pairwise.imp_of_mem ?_ (List.nodup_range (n := m))
  intro a b ha hb ne e
  have ha' := List.mem_range.mp ha
  have hb' := List.mem_range.mp hb
  have e2 : nm way t B sp a = nm way t B sp b := by
    have := congrArg (fun z : Str => z.cps.toList) e
    simpa [nmStr] using this
  exact ne (nm_inj (by omega) (by omega) e2)
/-! ### defs that are called while nothing is being shown: the guards are known -/
structure FnG (P : Program) (w : World) (K : PySem.W.Frag) (mg : Str → Option Value) (base : Heap) (k : Nat) (f : Addr) (fd : FuncData) (ps : List Str) (sp : Sp) : Prop where
  many : ∀ vs H Q E, sp vs H Q E → vs.length = ps.length
  goes : ∀ (B : Around) (st : List Env) (s : Shared) (H : Hp) (as : Args) (us : List Value) (vs : List V) (Q : VK) (E : XK), B.guards = some [] → Room k B → Env0 P w K mg base B st s H →
    BindsTo s fd as (ps.zip us) → Vals vs us → sp vs H Q E → codeAny (model P w) B (.call (.ref f) as) (CR CX0 st P w H s Q E) s
section
variable {P : Program} {w : World} {K : PySem.W.Frag} {mg : Str → Option Value} {base : Heap}
theorem FnG.of {k : Nat} {f : Addr} {fd : FuncData} {ps : List Str} {sp : Sp} (F : FnOk P w K mg base CX0 k f fd ps sp) : FnG P w K mg base k f fd ps sp :=
  ⟨F.len, fun B st s H as us vs Q E _ => F.run B st s H as us vs Q E⟩
theorem Fun.okG {x qual : Str} {st : Stmt} {f : Addr} {fd : FuncData} {N ps : List Str} {k : Nat} {sp : Sp} (F : Fun K x qual st f fd) (S : FnScope N ps (defScope st)) (many : ∀ vs H Q E, sp vs H Q E → vs.length = ps.length)
    (body : ∀ (cdv : Value) (B : Around) (fs : List Env) (s : Shared) (H : Hp) (vs : List V) (Q : VK) (E : XK), B.guards = some [] → Room k (B.deeper (envOfC qual (defScope st) s.heap.objs.size f cdv)) → sp vs H Q E →
      ∃ t, PSs (cxOf CX0 P w K mg base N qual (defScope st) f cdv B fs s H E).nox (defBody st) t ∧ t { nx := fun _ H' => Q .non H', rt := Q } (start N vs) H) : FnG P w K mg base (k + 1) f fd ps sp := by
  obtain ⟨oc, od, kV, doc, pm, an, cdv, ct, osl, rfl, lk, hcd⟩ := F.ex
  refine ⟨many, fun B fs s H as us vs Q E hg hr e0 hb r hsp => ?_⟩
  have old : ∀ b o, base.get? b = some o → s.heap.get? b = some o := fun b o e => (e0.bs b o e).1
  have KX := e0.mod.kin.keeps old
  obtain ⟨t, pt, ht⟩ := body cdv B fs s H vs Q E hg (hr.deeper _) hsp
  refine codeAny_call_function hr.depth (KX _ _ lk) rfl S.co S.gen rfl (PySem.W.codeRec_of KX hcd) (hb _ _ _ _ ?_)
  refine wpAny_newFunctionEnv_cells S.kind ?_ ?_
  · rintro ⟨n, v⟩ hy
    have hn := (List.of_mem_zip hy).1
    exact (S.par n hn).imp id fun q => ⟨q, PySem.W.cellsFrom_some _ _ _ (.inl q)⟩
  · rintro env rfl s1 x
    have I := inv_start (CX := CX0) (E := E) S hr.hd e0 (many _ _ _ _ hsp) r x
    refine ⟨(e0.mod.nolimit.keeps old).keeps x.toInCall.keep, codeAny_func (wpAny_mono (pt.nox.run [] s1 _ H _ I ht) ?_ fun e s' hs => hs)⟩
    rintro fl s' hs
    cases fl with
    | ret u =>
      obtain ⟨v, σ', H', J, rv, q⟩ := hs
      exact ⟨v, H', J.os, J.bare, J.base, J.hok, rv, q⟩
    | next =>
      obtain ⟨σ', H', J, q⟩ := hs
      exact ⟨.non, H', J.os, J.bare, J.base, J.hok, rfl, q⟩
    | brk =>
      obtain ⟨_, _, _, q⟩ := hs
      exact False.elim q
    | cont =>
      obtain ⟨_, _, _, q⟩ := hs
      exact False.elim q
end
/-- f(e, ..): a def of this kind -/
theorem pe_callG {X : Cx} {k : Nat} {f : Addr} {fd : FuncData} {ps : List Str} {sp : Sp} {x : Str} {p pos : Pos} {e : Expr} {es : List Expr} {t : TA} (F : FnG X.prog X.w X.K X.mg X.base k f fd ps sp) (hG : X.A.guards = some []) (hr : Room k X.A) (hg : Gl X x) (hm : X.mg x = some (.ref f))
    (hk : PySem.W.keepIn X.K (.ref f) = true) (hb : Binds X.K fd ps []) (ha : PA X (e :: es) t) (hdb : (x == ("__debug__" : Str)) = false := by decide) (he : starEach (e :: es) X.env = (false, eval e X.env) :: starEach es X.env := by rfl)
    (hpl : (backTo pos (starEach es X.env)).any (·.1) = false := by rfl) : PE X (.Call (.Name x p) (e :: es) [] pos) (tCall sp [] E0 t) := by
  refine ⟨fun pins s σ H Q I h => wpAny_Call_Name_kw (ld_glob I hg hm ?_ hdb)⟩
  refine PySem.W.callWith_K (h₀ := X.base) I.ok.mod.kin hk (thn (ha.run pos pins s σ H _ I h) ?_) he hpl
  rintro us s1 ⟨vs, H1, I1, r, q⟩
  rw [List.append_nil] at q
  have hl : us.length = ps.length := r.length.symm.trans (F.many _ _ _ _ q)
  have bd := hb s1 us I1.kIn (by rw [List.append_nil]; exact hl)
  rw [List.append_nil] at bd
  refine ⟨I1.kIn, wpAny_call (codeAny_mono (F.goes X.A X.stack s1 H1 ⟨us, []⟩ us vs Q E0 hG hr I1.env0 bd r q) ?_)⟩
  rintro r2 s2 hq
  cases r2 with
  | error e => exact False.elim hq
  | ok fl =>
    cases fl with
    | ret u => exact I1.after hq
    | next => exact False.elim hq
    | brk => exact False.elim hq
    | cont => exact False.elim hq
/-! ### the top's call of the law, for a law that shows things -/
def topH (K : PySem.W.Frag) (a : Addr) (o : Obj) (xs : List V) (cs : List (Addr × Addr)) : Hp := fun b =>
  if b ∈ cs.map (·.2) then some (.tbl #[]) else if b = a ∧ K.lookup a = none then some (.frz o (.lst xs)) else none
section
variable {P : Program} {w : World} {K : PySem.W.Frag} {mg mb : Str → Option Value} {a : Addr} {o : Obj} {cs : List (Addr × Addr)} {s₁ : Shared} {vs : List Value} {ns : List Int}
theorem topH_tab {xs : List V} {p : Addr × Addr} (hp : p ∈ cs) : topH K a o xs cs p.2 = some (.tbl #[]) := if_pos (List.mem_map.mpr ⟨p, hp, rfl⟩)
theorem topH_cases {xs : List V} {b : Addr} {u : HO} (h : topH K a o xs cs b = some u) : (b ∈ cs.map (·.2) ∧ u = .tbl #[]) ∨ (b = a ∧ K.lookup a = none ∧ u = .frz o (.lst xs)) := by
  unfold topH at h
  split at h
  · rename_i hb
    exact .inl ⟨hb, (Option.some.inj h).symm⟩
  · split at h
    · rename_i hb
      exact .inr ⟨hb.1, hb.2, (Option.some.inj h).symm⟩
    · cases h
theorem top_call {fa : Addr} {k : Nat} {fd : FuncData} {x : Str} {sp : Sp}
    (KX : K.In s₁.heap) (hns : s₁.heap.Ns mainGlobals mg) (hb : s₁.heap.Ns builtinsNs mb) (hbb : ∀ x : Str, x ≠ "__name__" → mb x = bootBuiltins x) (hlim : s₁.heap.NoLimit) (hg : s₁.gens = #[])
    (hT : ∀ p ∈ cs, s₁.heap.get? p.2 = some { cls := .none, data := .fields #[] }) (nT : ∀ p ∈ cs, K.lookup p.2 = none) (C : ∀ p ∈ cs, PySem.W.CodeHd s₁.heap p.1 p.2)
    (hbm : ∃ (bm : Addr) (ob : Obj), mg "__builtins__" = some (.ref bm) ∧ bm ≠ builtinsNs ∧ s₁.heap.get? bm = some ob ∧ ob.cls = .type "module" ∧ ob.dict = some builtinsNs ∧ ob.data = .plain)
    (ha : s₁.heap.get? a = some { cls := .type "list", data := .seq vs.toArray }) (hi : IntsAre vs ns) (hl : ns.length ≤ sizeLine) (hr : Room k callerA)
    (F : ∀ base : Heap, K.In base → base.Ns mainGlobals mg → (∀ p ∈ cs, LamX.TabB base mg p.1 p.2) → FnG P w K mg base k fa fd [x] sp) (hbind : ∀ (s : Shared) (u : Value), BindsTo s fd ⟨[u], []⟩ [(x, u)])
    (hsp : ∀ H : Hp, (∀ p ∈ cs, H p.2 = some (.tbl #[])) → SqL K H a (ns.map V.int) → sp [.ref a] H (fun v _ => v = .bl true) fun _ _ _ => False) :
    codeAny (model P w) callerA (.call (.ref fa) ⟨[.ref a], []⟩) (fun r s' => r = .ok (.ret (.bool true)) ∧ OldK s₁.heap s'.heap ∧ s'.os = s₁.os ∧ AllBare s'.gens) s₁ := by
  have tabAt : ∀ b : Addr, b ∈ cs.map (·.2) → s₁.heap.get? b = some { cls := .none, data := .fields #[] } := fun b hb => by
    obtain ⟨p, hp, rfl⟩ := List.mem_map.mp hb
    exact hT p hp
  have naT : a ∉ cs.map (·.2) := fun z => by
    have q := (tabAt a z).symm.trans ha
    cases q
  have rv := vals_ints hi
  let H : Hp := topH K a { cls := .type "list", data := .seq vs.toArray } (ns.map V.int) cs
  have hH : ∀ p ∈ cs, H p.2 = some (.tbl #[]) := fun p hp => topH_tab hp
  -- what is tracked is a list or a table
  have free : ∀ {b : Addr} {ob : Obj}, s₁.heap.get? b = some ob → (∀ us n, ob.data ≠ .seq us n) → ob.data ≠ .fields #[] → H b = none := fun {b ob} e h1 h2 => by
    cases q : H b with
    | none => rfl
    | some u =>
      rcases topH_cases q with ⟨hb, _⟩ | ⟨rfl, _, _⟩
      · rw [tabAt b hb] at e
        cases e
        exact absurd rfl h2
      · rw [ha] at e
        cases e
        exact absurd rfl (h1 _ _)
  have dic : ∀ {b : Addr} {m : Str → Option Value}, s₁.heap.Ns b m → (hidT s₁.heap H).Ns b m := fun {b m} ⟨ob, es, ep, e, d, r⟩ =>
    ⟨ob, es, ep, hidT_get e (free e (fun us n z => by rw [d] at z; cases z) fun z => by rw [d] at z; cases z), d, r⟩
  have hK : K.In (hidT s₁.heap H) := fun b ob e => hidT_get (KX b ob e) (by
    cases q : H b with
    | none => rfl
    | some u =>
      rcases topH_cases q with ⟨hb, _⟩ | ⟨rfl, n, _⟩
      · obtain ⟨p, hp, rfl⟩ := List.mem_map.mp hb
        rw [nT p hp] at e
        cases e
      · rw [n] at e
        cases e)
  have hok : HOk P w H s₁.heap := fun b u q => by
    rcases topH_cases q with ⟨hb, rfl⟩ | ⟨rfl, _, rfl⟩
    · exact tabAt b hb
    · exact ⟨ha, by rw [List.length_map]; exact hl, vs, _, rv, ha⟩
  have hS : SqL K H a (ns.map V.int) := by
    cases hk : K.lookup a with
    | some ob =>
      have e := (KX a ob hk).symm.trans ha
      cases e
      exact .inr ⟨_, vs.toArray, _, hk, rfl, rfl, rfl, by rw [List.size_toArray, hi.length]; exact hl, by simpa using rv⟩
    | none => exact .inl (.inr ⟨{ cls := .type "list", data := .seq vs.toArray }, (if_neg naT).trans (if_pos ⟨rfl, hk⟩)⟩)
  have hM : L2.Mod K mg (hidT s₁.heap H) := ⟨hK, dic hns, ⟨mb, dic hb, hbb⟩, let ⟨mc, h1, h2⟩ := hlim; ⟨mc, dic h1, h2⟩⟩
  have TB : ∀ p ∈ cs, LamX.TabB (hidT s₁.heap H) mg p.1 p.2 := fun p hp => by
    have hTp := hT p hp
    obtain ⟨og, eg, pg, g1, g2, _⟩ := hns
    refine ⟨?_, ?_, fun z => ?_⟩
    · obtain ⟨ob, us, file, tf, flags, tg, inF, text, tt, e1, r1, r2, r3, r4⟩ := C p hp
      refine ⟨ob, us, file, tf, flags, tg, inF, text, tt, hidT_get e1 (free e1 (fun us n z => ?_) fun z => ?_), r1, r2, r3, r4⟩
      · rw [r2] at z
        cases z
      · rw [r2] at z
        cases z
        simp at r3
    · obtain ⟨bm, ob, b1, b2, b3, b4, b5, b6⟩ := hbm
      refine ⟨bm, ob, b1, b2, fun z => ?_, fun z => ?_, hidT_get b3 (free b3 (fun us n z => by rw [b6] at z; cases z) fun z => by rw [b6] at z; cases z), b4, b5, b6⟩
      · rw [z, g1] at b3
        cases b3
        rw [g2] at b6
        cases b6
      · rw [z, hTp] at b3
        cases b3
        cases b6
    · rw [z, hTp] at g1
      cases g1
      cases g2
  have e0 : Env0 P w K mg (hidT s₁.heap H) callerA [] s₁ H := ⟨rfl, hM, fun b ob e => of_hidT e, Nat.le_of_eq (hidT_size _ _), trivial, (fun b hb => nomatch (show b ∈ ([] : List Addr) from hb)), hok, .of_eq hg⟩
  refine codeAny_mono ((F _ hK (dic hns) TB).goes callerA [] s₁ H ⟨[.ref a], []⟩ [.ref a] [.ref a] _ _ rfl hr e0 (hbind s₁ (.ref a)) (.cons rfl .nil) (hsp H hH hS)) ?_
  rintro r s' h
  cases r with
  | error e => exact False.elim h
  | ok fl =>
    cases fl with
    | next => exact False.elim h
    | brk => exact False.elim h
    | cont => exact False.elim h
    | ret u =>
      obtain ⟨v, H', os, bare, un, hok', r', rfl⟩ := h
      obtain rfl : u = Value.bool true := r'
      have stays : ∀ b ob, b ∉ cs.map (·.2) → s₁.heap.get? b = some ob → s'.heap.get? b = some ob := fun b ob nb e => by
        cases q : H b with
        | none => exact un.keep b ob e q (fun z => nomatch (show b ∈ ([] : List Addr) from z)) (by simp)
        | some u =>
          rcases topH_cases q with ⟨z, _⟩ | ⟨rfl, _, rfl⟩
          · exact absurd z nb
          · rw [ha] at e
            cases e
            exact (hok' _ _ (un.frzs _ _ _ q)).1
      have grown : ∀ b ∈ cs.map (·.2), ∃ p ∈ cs, b = p.2 ∧ ∃ more : Array Value, s'.heap.get? b = some { cls := .none, data := .fields more } := fun b hb => by
        obtain ⟨p, hp, rfl⟩ := List.mem_map.mp hb
        obtain ⟨more, z⟩ := un.tbls p.2 #[] (hH p hp)
        exact ⟨p, hp, rfl, _, hok' p.2 _ z⟩
      refine ⟨rfl, ⟨fun b ob e => ?_, fun b ob e => ?_⟩, os, bare⟩
      · by_cases hb : b ∈ cs.map (·.2)
        · obtain ⟨p, hp, rfl, more, hm⟩ := grown b hb
          rw [hT p hp] at e
          cases e
          exact .inr (.inl ⟨((C p hp).tab (hT p hp)).isCodeTable, rfl, #[], more, rfl, by rw [Array.empty_append]; exact hm⟩)
        · exact .inl (stays b ob hb e)
      · by_cases hb : b ∈ cs.map (·.2)
        · obtain ⟨p, hp, rfl, more, hm⟩ := grown b hb
          exact ⟨_, hm⟩
        · exact ⟨ob, stays b ob hb e⟩
end
/-- what is known of a law that shows things -/
def LawG (l : PySem.W.OpenLaw) (w : World) (K : PySem.W.Frag) (k n : Nat) (x : Str) (mg : Str → Option Value) (fa : Addr) (h : Heap) : Prop :=
  ∃ (fd : FuncData) (cs : List (Addr × Addr)) (sp : Sp), ((∀ p ∈ cs, h.get? p.2 = some { cls := .none, data := .fields #[] }) ∧ (∀ p ∈ cs, K.lookup p.2 = none) ∧ ∀ p ∈ cs, PySem.W.CodeHd h p.1 p.2) ∧ (∀ (s : Shared) (u : Value), BindsTo s fd ⟨[u], []⟩ [(x, u)]) ∧
    (∀ (H : Hp) (a : Addr) (ns : List Int), ns.length ≤ n → (∀ p ∈ cs, H p.2 = some (.tbl #[])) → SqL K H a (ns.map V.int) → sp [.ref a] H (fun v _ => v = .bl true) fun _ _ _ => False) ∧
    ∀ base : Heap, K.In base → base.Ns mainGlobals mg → (∀ p ∈ cs, LamX.TabB base mg p.1 p.2) → FnG l.prog w K mg base k fa fd [x] sp
theorem end_G {l : PySem.W.OpenLaw} {n k : Nat} {q : Program} {loose : List Str} {XP : (Str → Option Value) → Heap → Prop} {YP : World → Heap → Prop} {d : PySem.DefRec} {K : Params → PySem.W.Frag} {x : Str}
    (hn : l.most = some n) (hn2 : n ≤ sizeLine) (hdf : d.params.defaults = []) (hr : Room k callerA)
    (hY : ∀ (w : World) (h : Heap), YP w h → (K w.params).In h)
    (F : ∀ (w : World) (s0 : Shared) (mg mb : Str → Option Value) (fa : Addr) (h : Heap), PySem.W.Ground q loose [] XP w s0 mg mb h → (K w.params).In h → mg d.name = some (.ref fa) → LawG l w (K w.params) k n x mg fa h) :
    PySem.W.WalkO q loose XP YP l.row.toRowW d [] (fun f vs => PySem.call f vs) := by
  refine Att.attach_callB hn hdf fun w s0 s1 mg mb fa o pm cd doc a vs ns G Y ho hd hcd hmg hobj hints hlen hbits hg => ?_
  have KX := hY w _ Y
  obtain ⟨fd, cs, sp, ⟨hT, nT, C⟩, hb, hsp, hF⟩ := F w s0 mg mb fa _ G KX hmg
  exact top_call KX G.T.g G.T.b G.T.builtins G.T.nolimit hg hT nT C G.T.bmain hobj hints (Nat.le_trans hlen hn2) hr hF hb (fun H hH hS => hsp H a ns hlen hH hS)
/-! ### repr of data -/
theorem cr_repr {X : Cx} (hG : X.A.guards = some []) (hu : X.A.units + 64 < cLine) : CallR X (.builtin "repr") (fun vs H Q => ∃ (a : Addr) (d : PyData), vs = [.ref a] ∧ Dp X.K H (.ref a) d ∧ d.showable = true ∧ d.hasDict = false ∧ d.depth ≤ 60 ∧ d.shown.length ≤ sizeLine ∧ Q (.str d.shown) H) := by
  rintro pins s σ H vs us Q I r ⟨a, d, rfl, hd, sh, nd, dp, sz, q⟩
  rw [Vals.ref1 r]
  obtain ⟨as, rd⟩ := Dp.reads I d (.ref a) (.ref a) hd rfl
  exact repr_of_reads' rd sh (PyData.noDict_hsm nd) hG (by omega) (fun _ _ e => e) (fun h' u tk hk => ⟨.str d.shown, H, I.kept hk, ⟨_, rfl⟩, q⟩) sz
/-! ### sorted(xs, key=f), f a def whose answers are data -/
mutual
theorem Dp.on {K : PySem.W.Frag} {H H' : Hp} (s : Same H H') : ∀ {v : V} {d : PyData}, Dp K H v d → Dp K H' v d
  | _, _, .non => .non
  | _, _, .bl b => .bl b
  | _, _, .int i => .int i
  | _, _, .str x => .str x
  | _, _, .lst h r => .lst (h.imp (fun z => z.imp (s _ _) fun ⟨o, e⟩ => ⟨o, s _ _ e⟩) id) (DpAll.on s r)
  | _, _, .tup h r => .tup (h.imp (fun z => z.imp (s _ _) fun ⟨o, e⟩ => ⟨o, s _ _ e⟩) id) (DpAll.on s r)
theorem DpAll.on {K : PySem.W.Frag} {H H' : Hp} (s : Same H H') : ∀ {vs : List V} {ds : List PyData}, DpAll K H vs ds → DpAll K H' vs ds
  | _, _, .nil => .nil
  | _, _, .cons h r => .cons (Dp.on s h) (DpAll.on s r)
end
theorem DpAll.snoc {K : PySem.W.Frag} {H : Hp} {v : V} {d : PyData} : ∀ {vs : List V} {ds : List PyData}, DpAll K H vs ds → Dp K H v d → DpAll K H (vs ++ [v]) (ds ++ [d])
  | _, _, .nil, h => .cons h .nil
  | _, _, .cons a r, h => .cons a (DpAll.snoc r h)
theorem DpAll.len {K : PySem.W.Frag} {H : Hp} : ∀ {vs : List V} {ds : List PyData}, DpAll K H vs ds → vs.length = ds.length
  | _, _, .nil => rfl
  | _, _, .cons _ r => congrArg Nat.succ (DpAll.len r)
theorem vals_snoc {v : V} {u : Value} : ∀ {vs : List V} {us : List Value}, Vals vs us → RelV v u → Vals (vs ++ [v]) (us ++ [u])
  | _, _, .nil, h => .cons h .nil
  | _, _, .cons a r, h => .cons a (vals_snoc r h)
theorem vals_get {vs : List V} {us : List Value} (h : Vals vs us) : ∀ {i : Nat} {u : Value}, us[i]? = some u → ∃ v, vs[i]? = some v ∧ RelV v u := by
  induction h with
  | nil => intro i u e; cases e
  | cons a r ih =>
    intro i u e
    cases i with
    | zero => exact ⟨_, rfl, by rw [← Option.some.inj e]; exact a⟩
    | succ n => exact ih (i := n) e
theorem each_dp {X : Cx} {pins : List (Addr × Obj)} {σ : L2.St} {H : Hp} {s : Shared} (I : Inv X pins σ H s) : ∀ {vs : List V} {ds : List PyData} {us : List Value}, DpAll X.K H vs ds → Vals vs us → PySem.W.EachIs (fun v d => ∃ as, Reads s.heap v d as) us ds
  | _, _, _, .nil, .nil => .nil
  | _, _, _, .cons h r, .cons a t => .cons (Dp.reads I _ _ _ h a) (each_dp I r t)
theorem each_pairs : ∀ {es : List (V × PyData)} {us : List Value}, Vals (es.map (·.1)) us → PySem.W.EachIs (fun v (e : V × PyData) => RelV e.1 v) us es
  | [], _, .nil => .nil
  | _ :: _, _, .cons a t => .cons a (each_pairs t)
theorem pairs_each : ∀ {es : List (V × PyData)} {us : List Value}, PySem.W.EachIs (fun v (e : V × PyData) => RelV e.1 v) us es → Vals (es.map (·.1)) us
  | [], _, .nil => .nil
  | _ :: _, _, .cons a t => .cons a (pairs_each t)
abbrev keyed (es : List (V × PyData)) : List (V × PyData) := es.mergeSort (PySem.W.dataLe false fun e => e.2)
def rSortK (K : PySem.W.Frag) (f : Addr) (sp : Sp) : List V → List V → Hp → VK → Prop := fun vs zs H Q => ∃ (l : Addr) (es : List (V × PyData)), vs = [.ref l] ∧ zs = [.ref f] ∧ SqL K H l (es.map (·.1)) ∧ PySem.W.AllAlike (es.map (·.2)) ∧ PySem.W.Sortable (es.map (·.2)) ∧ (∀ e ∈ es, e.2.depth ≤ 60) ∧
  (∀ e ∈ es, ∀ H1, Same H H1 → ∀ Q1 : VK, (∀ v H2, Same H1 H2 → Dp K H2 v e.2 → Q1 v H2) → sp [e.1] H1 Q1 E0) ∧ ∀ (p : Addr) (H1 : Hp), H p = none → Same H H1 → H1 p = some (.lst ((keyed es).map (·.1))) → Q (.ref p) H1
theorem cr_sortK {X : Cx} {k : Nat} {f : Addr} {fd : FuncData} {p1 : Str} {sp : Sp} (F : FnOk X.prog X.w X.K X.mg X.base CX0 k f fd [p1] sp) (hr : Room (k + 2) X.A) (hb : Binds X.K fd [p1] []) : CallRK X (.builtin "sorted") [Str.ofString "key"] (rSortK X.K f sp) := by
  rintro pins s σ H vs zs us ws Q I r rz ⟨l, es, rfl, rfl, hs, al, so, dp, key, q⟩
  obtain rfl := Vals.ref1 r
  obtain rfl := Vals.ref1 rz
  obtain ⟨its, rv, hl, hz⟩ := I.list hs
  have hlen : its.length = es.length := by rw [← rv.length, List.length_map]
  have hZ : its.length ≤ sizeLine := by rw [← rv.length]; exact hz
  have rB : Room k X.A.in1.in1 := hr.in1.in1
  have uB : X.A.in1.in1.units + 64 < cLine := rB.units
  refine PySem.W.sorted_of_sort (vs := its) hl.isList hZ (PyProof.Rows.ksk_s1 _ _) (fun _ => PyProof.Rows.ksk_l1 _ _) fun E' => ?_
  show wpAny _ X.A.in1.in1 (Builtin.«list.sort» ⟨[.ref (s.heap.objs.size + 1)], [(Str.ofString "key", .ref f)]⟩) _ _ _
  rw [PyProof.Rows.ksk_t1]
  generalize ha : s.heap.objs.size + 1 = a
  have ho : (PySem.W.copyHeap s.heap its).get? a = some (seqObj "list" its.toArray 0) := by rw [← ha]; exact PySem.W.copyHeap_at s.heap its
  obtain ⟨e1, ho1⟩ : ∃ e1, ((PySem.W.copyHeap s.heap its).update a (Obj.mapSeq fun _ => (#[] : Array Value))).get? a = some (seqObj "list" #[] e1) := ⟨_, get?_update_seq ho fun _ => #[]⟩
  have hsz0 : a < (PySem.W.copyHeap s.heap its).objs.size := Heap.lt_size ho
  unfold PyProof.Rows.ksk_tree
  refine wpAny_bind (listItems_at ho rfl ?_)
  refine wpAny_bind (listUpdate_at ho rfl ?_ (by rw [List.size_toArray]; exact hZ) (Nat.zero_le _))
  refine wpAny_bind (seqEpoch_at ho1 rfl ?_)
  refine wpAny_bind (wpAny_newTuple ?_ hZ)
  refine wpAny_bind (wpAny_newList ?_ (Nat.zero_le _))
  refine wpAny_holding ?_
  generalize hk : (((PySem.W.copyHeap s.heap its).update a (Obj.mapSeq fun _ => (#[] : Array Value))).push (seqObj "tuple" its.toArray 0)).objs.size = kS
  generalize hg : (((PySem.W.copyHeap s.heap its).update a (Obj.mapSeq fun _ => (#[] : Array Value))).push (seqObj "tuple" its.toArray 0)).push (seqObj "list" #[] 0) = g
  have size_g : s.heap.objs.size < kS := by
    rw [← hk, size_push', Heap.size_update]
    omega
  have hka : kS ≠ a := by
    rw [← hk, size_push', Heap.size_update]
    omega
  have old : ∀ b o, s.heap.get? b = some o → g.get? b = some o := fun b o e => by
    rw [← hg]
    refine Heap.get?_push_of_some _ (Heap.get?_push_of_some _ ((Heap.get?_update_ne _ _ _ _ (Nat.ne_of_lt ?_)).trans (PySem.W.copyHeap_old e)))
    exact Nat.lt_of_lt_of_le (Heap.lt_size e) (by omega)
  have ga : g.get? a = some (seqObj "list" #[] e1) := by
    rw [← hg]
    exact Heap.get?_push_of_some _ (Heap.get?_push_of_some _ ho1)
  have gk : g.get? kS = some (seqObj "list" #[] 0) := by
    rw [← hg, ← hk]
    exact Heap.get?_push_size _ rfl
  have fa : ∀ {H1 : Hp}, H1 a = none → FpOk X pins H1 a := fun n => I.fpOk (by omega) n
  have fk : ∀ {H1 : Hp}, H1 kS = none → FpOk X pins H1 kS := fun n => I.fpOk (by omega) n
  -- the two lists of the sort are held as pins
  have pin : ∀ {H1 : Hp} {s1 : Shared} {kA : Array Value} {n : Nat}, Inv X pins σ H1 s1 → H1 a = none → H1 kS = none → s1.heap.get? a = some (seqObj "list" #[] e1) → s1.heap.get? kS = some (seqObj "list" kA n) → Inv X (pins ++ [(a, seqObj "list" #[] e1), (kS, seqObj "list" kA n)]) σ H1 s1 := fun {H1 s1 kA n} J na nk ea ek => by
    refine J.pins_of fun p hp => ?_
    rcases List.mem_append.mp hp with h | h
    · exact J.pin p (List.mem_append_right _ h)
    · rcases List.mem_cons.mp h with rfl | h
      · exact ⟨ea, na, (fa na).2.1, (fa na).2.2.1, fun v z => by cases z⟩
      · rw [List.mem_singleton.mp h]
        exact ⟨ek, nk, (fk nk).2.1, (fk nk).2.2.1, fun v z => by cases z⟩
  have I0 : Inv X pins σ H { s with heap := g } := I.kept (t' := s.toks) old
  have na0 : H a = none := I.hok.fresh (by omega)
  have nk0 : H kS = none := I.hok.fresh (by omega)
  unfold PyProof.Rows.ksk_rest
  refine wpAny_bind (wpAny_rule ?_)
  first
    | rw [List.forIn_toArray]
    | (rw [← Array.forIn_toList]; simp only [List.toList_toArray])
  refine wpAny_bind (PyProof.Rows.ksk_fold (fun i s' => ∃ H1 kA n kv, Same H H1 ∧ Inv X (pins ++ [(a, seqObj "list" #[] e1), (kS, seqObj "list" kA n)]) σ H1 s' ∧ Vals kv kA.toList ∧ DpAll X.K H1 kv ((es.take i).map (·.2))) its 0 _
    ⟨H, #[], 0, [], fun _ _ e => e, pin I0 na0 nk0 ga gk, .nil, .nil⟩ ?step ?done)
  case step =>
    rintro j u s1 hu ⟨H1, kA, n, kv, sm, J, vk, dk⟩
    rw [Nat.zero_add] at dk ⊢
    obtain ⟨v, hv, rel⟩ := vals_get rv hu
    rw [List.getElem?_map] at hv
    obtain ⟨e, he, rfl⟩ := Option.map_eq_some_iff.mp hv
    have pa := J.pin (a, seqObj "list" #[] e1) (by simp)
    have pk := J.pin (kS, seqObj "list" kA n) (by simp)
    have hj : j < its.length := (List.getElem?_eq_some_iff.mp hu).1
    have ck : kA.size ≤ its.length := by
      have h1 : kv.length = kA.size := vk.length.trans Array.length_toList
      have h2 := DpAll.len dk
      rw [List.length_map, List.length_take] at h2
      omega
    have E1 := J.env0
    have sp1 := key e (List.mem_of_getElem? he) H1 sm (fun v H2 => Same H1 H2 ∧ Dp X.K H2 v e.2) fun v H2 h1 h2 => ⟨h1, h2⟩
    refine wpAny_bind (wpAny_attempt ?_)
    refine wpAny_call (codeAny_mono (F.run X.A.in1.in1 X.stack s1 H1 ⟨[u], []⟩ [u] [e.1] _ E0 rB ⟨E1.frames, E1.mod, E1.bs, E1.bsz, E1.funs, E1.frf, E1.hok, E1.bare⟩ (hb s1 [u] J.kIn rfl) (.cons rel .nil) sp1) ?_)
    rintro r s2 hq
    cases r with
    | error e => exact False.elim hq
    | ok fl =>
      cases fl with
      | next => exact False.elim hq
      | brk => exact False.elim hq
      | cont => exact False.elim hq
      | ret x =>
        obtain ⟨v2, H2, J2, rel2, sm2, dp2⟩ := J.after hq
        have pa2 := J2.pin (a, seqObj "list" #[] e1) (by simp)
        have pk2 := J2.pin (kS, seqObj "list" kA n) (by simp)
        have J3 : Inv X pins σ H2 s2 := J2.unpinned
        obtain ⟨c2, hc2⟩ : ∃ c2, (s2.heap.update kS (Obj.mapSeq (·.push x))).get? kS = some (seqObj "list" (kA.push x) c2) := ⟨_, get?_update_seq pk2.1 (·.push x)⟩
        have sb := Heap.SameBut.update s2.heap kS (Obj.mapSeq (·.push x))
        show wpAny _ _ _ _ _ _
        refine wpAny_bind (listUpdate_at pk2.1 rfl ?_ (Nat.le_trans ck hZ) (Nat.le_trans (Nat.le_of_eq (Array.size_push ..)) (Nat.succ_le_succ (Nat.le_trans ck hZ))))
        have J4 : Inv X pins σ H2 { s2 with heap := s2.heap.update kS (Obj.mapSeq (·.push x)), toks := s2.toks } := J3.turnedL (ch := [kS]) (fun b o hb e => (sb.2 b (fun z => hb (by simp [z]))).trans e) fun b hb => by rw [List.mem_singleton.mp hb]; exact fk pk2.2.1
        refine wpAny_pure ⟨rfl, H2, kA.push x, c2, kv ++ [v2], fun b o e => sm2 b o (sm b o e), pin J4 pa2.2.1 pk2.2.1 ((sb.2 a hka.symm).trans pa2.1) hc2, ?_, ?_⟩
        · rw [Array.toList_push]
          exact vals_snoc vk rel2
        · rw [List.take_add_one, he, List.map_append]
          exact DpAll.snoc (DpAll.on sm2 dk) dp2
  case done =>
    rintro s1 ⟨H1, kA, n, kv, sm, J, vk, dk⟩
    have pa := J.pin (a, seqObj "list" #[] e1) (by simp)
    have pk := J.pin (kS, seqObj "list" kA n) (by simp)
    have J1 : Inv X pins σ H1 s1 := J.unpinned
    rw [Nat.zero_add, hlen, List.take_length] at dk
    have hk1 := each_dp J dk vk
    have sz : kA.size = its.length := by
      have h1 : kv.length = kA.size := vk.length.trans Array.length_toList
      have h2 := DpAll.len dk
      rw [List.length_map] at h2
      omega
    have hu : ∀ d, d ∈ es.map (·.2) → X.A.in1.in1.units + d.depth < cLine := fun d hd => by
      obtain ⟨e, he, rfl⟩ := List.mem_map.mp hd
      have := dp e he
      omega
    obtain ⟨G, g1, g2⟩ := L2.restrict s1.heap fun b => decide (b ≠ kS)
    have kp : PySem.W.KeepsBut a G s1.heap := fun b o _ e => by
      by_cases z : b = kS
      · rw [g2 b (decide_eq_false fun h => h z)] at e
        cases e
      · rw [g1 b (decide_eq_true z)] at e
        exact e
    refine wpAny_bind (listItems_at pk.1 rfl ?_)
    refine PySem.W.keyH_end (κ := PySem.W.dataKind s1.heap (es.map (·.2))) (h₁ := G) kp (g2 kS (decide_eq_false fun h => h rfl)) pk.1 pa.1 hka (PySem.W.SortsAt.data hk1 al so hu) sz hZ fun h3 tk3 c k3 n3 => ⟨rfl, ?_⟩
    have ko : PySem.W.KeyedOut false (es.map (·.2)) its (PySem.W.sortVals (PySem.W.dataKind s1.heap (es.map (·.2))) false kA.toList its) := ⟨s1.heap, kA.toList, al, rfl, hk1⟩
    have out := pairs_each (PySem.W.keyedOut_each (fun e : V × PyData => e.2) ko (each_pairs rv))
    have J2 : Inv X pins σ H1 { s1 with heap := h3, toks := tk3 } := J1.turnedL (ch := [a, kS]) (fun b o hb e => k3 b o (fun z => hb (by simp [z])) ((g1 b (decide_eq_true fun z => hb (by simp [z]))).trans e)) fun b hb => by
      rcases List.mem_cons.mp hb with rfl | h
      · exact fa pa.2.1
      · rw [List.mem_singleton.mp h]
        exact fk pk.2.1
    have lo : ((keyed es).map (·.1)).length ≤ sizeLine := by
      rw [List.length_map, List.length_mergeSort, ← hlen]
      exact hZ
    refine ⟨.ref a, upd H1 a (.lst ((keyed es).map (·.1))), J2.take (it := a) (fun b o _ e => e) (fa pa.2.1) ⟨lo, _, c, out, n3⟩, rfl, q a _ na0 (fun b o e => (upd_ne (ne_of_none e na0)).trans (sm b o e)) upd_same⟩
/-! ### {**d, k: v, l: w} -/
section
variable {prog : Program} {w : World} {K : Type} [DecidableEq K] {knd : KeyKind prog w K} {A : Around} {E : Value → Shared → Prop} {s : Shared}
theorem put_pairs {d : Addr} {kvs : List (K × Value)} {k : K} {key v : Value} {Q : Unit → Shared → Prop} (hkey : knd.is k key = true) (hm : s.heap.DictOf knd d kvs) (hsz : kvs.length ≤ sizeLine)
    (hQ : ∀ h', h'.DictOf knd d (stored kvs k v) → Heap.SameBut d s.heap h' → Q () { s with heap := h' }) : wpAny (model prog w) A (dictPut d (knd.hash k) key v) Q E s := by
  obtain ⟨o, es, ep, ho, hc, hd, hk, hp, hn⟩ := hm
  have sz : es.size = kvs.length := by rw [← hp.length, Array.length_toList]
  have idx : (es.findIdx? fun e => knd.is k e.key) = kvs.findIdx? fun kv => decide (kv.1 = k) := by
    rw [← hp.findIdx k]
    obtain ⟨l⟩ := es
    simp
  unfold dictPut
  refine wpAny_bind (wpAny_dictFind_of hkey ho hd hk ?_)
  cases hi : es.findIdx? fun e => knd.is k e.key with
  | some i =>
    have any : (kvs.any fun kv => decide (kv.1 = k)) = true := any_of_findIdx_some (idx ▸ hi)
    refine wpAny_updateDict ho hd (hQ _ ⟨_, _, ep, Heap.get?_update_self _ ho (Obj.isFreed_of_dict (Obj.data_mapDict hd _)), hc.mapDict _, Obj.data_mapDict hd _, hk.modify _ _, ?_, ?_⟩ (Heap.SameBut.update ..))
    · have q := hp.modify hn (k := k) (i := i) (by rw [← hi]; obtain ⟨l⟩ := es; simp) v
      rw [stored, if_pos any]
      obtain ⟨l⟩ := es
      simpa using q
    · rw [stored, if_pos any, keys_map_store]
      exact hn
  | none =>
    have out : k ∉ kvs.map (·.1) := not_mem_of_findIdx_none (idx ▸ hi)
    have no : ¬ (kvs.any fun kv => decide (kv.1 = k)) = true := fun z => by
      obtain ⟨kv, h1, h2⟩ := List.any_eq_true.mp z
      exact out (List.mem_map.mpr ⟨kv, h1, of_decide_eq_true h2⟩)
    refine wpAny_updateDictKeys (hz := by rw [sz]; exact hsz) ho hd (hQ _ ⟨_, _, ep + 1, Heap.get?_update_self _ ho (Obj.isFreed_of_dict (Obj.data_mapDictKeys hd _)), hc.mapDictKeys _, Obj.data_mapDictKeys hd _, hk.push hkey _, ?_, ?_⟩ (Heap.SameBut.update ..))
    · have q := hp.append hkey (knd.hash k) v
      rw [stored, if_neg no]
      obtain ⟨l⟩ := es
      simpa using q
    · rw [stored, if_neg no, List.map_append, List.nodup_append]
      refine ⟨hn, by simp, fun a ha b hb e => out ?_⟩
      rw [List.map_cons, List.map_nil, List.mem_singleton] at hb
      have z : a = k := e.trans hb
      rw [← z]
      exact ha
theorem merge_pairs {d a : Addr} {kvs more : List (K × Value)} {Q : Unit → Shared → Prop} (hda : d ≠ a) (hS : (a == sysModules) = false) (hd : s.heap.DictOf knd d kvs) (ha : s.heap.DictOf knd a more) (hsz : kvs.length + more.length ≤ sizeLine)
    (hQ : ∀ h', h'.DictOf knd d (merged kvs more) → Heap.SameBut d s.heap h' → Q () { s with heap := h' }) : wpAny (model prog w) A (mergeMapping d (.ref a) false) Q E s := by
  obtain ⟨oa, ea, pa, ha1, ha2, ha3, ha4, ha5, ha6⟩ := id ha
  obtain ⟨od, ed, pd, hd1, hd2, hd3, hd4, hd5, hd6⟩ := id hd
  have len : ea.size = more.length := by rw [← ha5.length, Array.length_toList]
  unfold mergeMapping
  refine wpAny_bind (wpAny_isInstance ha.typeIs isSubtype_dict_dict ?_)
  rw [if_pos rfl]
  refine wpAny_bind (wpAny_specialOf ha.typeIs PySem.F.slot_dict_iter.lookup ?_)
  refine wpAny_bind (wpAny_pure ?_)
  rw [show (some (Value.builtin "dict.__iter__") == some (Value.builtin "dict.__iter__")) = true by decide]
  dsimp only
  rw [if_neg (by rw [hS]; exact Bool.false_ne_true)]
  have loop : wpAny (model prog w) A (do
      let l ← dictEntries a
      let size : Nat := l.size
      let epoch ← dictEpoch a
      forIn (List.range size) PUnit.unit fun i (_ : PUnit) => (do
          let l' ← dictEntries a
          match l'[i]? with
          | some e => do
            holding [e.key, e.val] (dictPut d e.hash e.key e.val)
            let p ← dictEpoch a
            if (p != epoch) = true then do
                (unsupported "dict.changed-during-merge" : Sem PUnit)
                pure (ForInStep.yield PUnit.unit)
              else pure (ForInStep.yield PUnit.unit)
          | x => do
            (unsupported "dict.changed-during-merge" : Sem PUnit)
            pure (ForInStep.yield PUnit.unit) : Sem (ForInStep PUnit))
      pure ()) Q E s := by
    refine wpAny_bind (wpAny_dictEntries ha1 ha3 ?_)
    refine wpAny_bind (wpAny_dictEpoch ha1 ha3 ?_)
    refine wpAny_bind (wpAny_forIn_list _ (fun rest _ s' => ∃ h' i, s' = { s with heap := h' } ∧ rest = List.range' i (ea.size - i) ∧ i ≤ ea.size ∧ h'.DictOf knd d (merged kvs (more.take i)) ∧ Heap.SameBut d s.heap h') _ ?_ ?_ _ _
      ⟨s.heap, 0, rfl, List.range_eq_range' .., Nat.zero_le _, hd, Heap.SameBut.refl _ _⟩)
    · rintro x rest b s' ⟨h', i, rfl, hr, hi, hd', hs'⟩
      have lt : i < ea.size := by
        rcases Nat.lt_or_ge i ea.size with h | h
        · exact h
        · rw [Nat.sub_eq_zero_of_le h] at hr
          cases hr
      rw [show ea.size - i = (ea.size - (i + 1)) + 1 by omega, List.range'_succ] at hr
      obtain ⟨rfl, rfl⟩ := List.cons.inj hr
      have ha1' : h'.get? a = some oa := (hs'.2 a hda.symm).trans ha1
      refine wpAny_bind (wpAny_dictEntries (s := { s with heap := h' }) ha1' ha3 ?_)
      rw [Array.getElem?_eq_getElem lt]
      obtain ⟨⟨k, v⟩, hkv⟩ : ∃ kv, more[x]? = some kv := ⟨_, List.getElem?_eq_getElem (by omega)⟩
      obtain ⟨hkey, hval⟩ := ha5.get? (e := ea[x]) (by simp [lt]) hkv
      obtain ⟨k', hkey', hhash⟩ := ha4 ea[x] (Array.getElem_mem lt)
      obtain rfl : k' = k := knd.inj _ _ _ hkey' hkey
      dsimp only at hval ⊢
      rw [hhash, hval]
      have le : (merged kvs (more.take x)).length ≤ sizeLine := by
        have h1 := merged_length_le kvs (more.take x)
        rw [List.length_take] at h1
        omega
      refine wpAny_bind (wpAny_holding (put_pairs (s := { s with heap := h' }) hkey' hd' le fun h2 hd2 hs2 => ?_))
      refine wpAny_bind (wpAny_dictEpoch (s := { s with heap := h2 }) ((hs2.2 a hda.symm).trans ha1') ha3 ?_)
      rw [if_neg (by simp)]
      refine wpAny_pure ⟨h2, x + 1, rfl, rfl, lt, ?_, ?_⟩
      · rw [merged_take_succ _ _ _ _ hkv]
        exact hd2
      · exact hs'.trans hs2
    · rintro b s' ⟨h', i, rfl, hr, hi, hd', hs'⟩
      have e : i = ea.size := by
        rcases Nat.lt_or_ge i ea.size with h | h
        · rw [show ea.size - i = (ea.size - (i + 1)) + 1 by omega, List.range'_succ] at hr
          cases hr
        · omega
      rw [e, len, List.take_length] at hd'
      exact wpAny_pure (hQ h' hd' hs')
  refine wpAny_bind (wpAny_dictEntries hd1 hd3 ?_)
  split
  · refine wpAny_bind (wpAny_dictEntries ha1 ha3 ?_)
    refine wpAny_bind ?_
    rw [← Array.forIn_toList]
    refine wpAny_forIn_list _ (fun rest _ s' => s' = s ∧ ∀ e ∈ rest, carriedByValue e.key = true) _ ?_ ?_ _ _ ⟨rfl, fun e he => ?_⟩
    · rintro e rest b s' ⟨rfl, h⟩
      have hc := h e List.mem_cons_self
      cases hk : e.key with
      | ref z =>
        rw [hk] at hc
        cases hc
      | _ => exact wpAny_pure ⟨rfl, fun e he => h e (List.mem_cons_of_mem _ he)⟩
    · rintro b s' ⟨rfl, _⟩
      exact loop
    · obtain ⟨k, h1, _⟩ := ha4 e (Array.mem_toList_iff.mp he)
      exact knd.byValue _ _ h1
  · exact loop
end
theorem display2 (m k1 v1 k2 v2 : Sem Value) : dictDisplay [(none, m), (some k1, v1), (some k2, v2)] = (do
    let d ← alloc { cls := .type "dict", data := .dict #[] }
    let x ← holding [.ref d] m
    (((holding [.ref d, x] (mergeMapping d x false)).onRaise fun y => do let _ ← holding [.ref d, x, y] (runValue (.builtin "proto.let_go" {}))).tryCatch fun e => do
        if ← isInstance e (.type "AttributeError") then
          rule "dict.display.not-a-mapping"; raiseError "TypeError" s!"'{← typeNameOf x}' object is not a mapping"
        throw e).onRaise fun y => do let _ ← holding [.ref d, y] (runValue (.builtin "proto.let_go" {}))
    let sub ← holding [.ref d] (subDict [(k1, v1), (k2, v2)])
    (holding [.ref d, .ref sub] (mergeMapping d (.ref sub) false)).onRaise fun y => do let _ ← holding [.ref d, y] (runValue (.builtin "proto.let_go" {}))
    pure (.ref d)) := by
  unfold dictDisplay
  simp
/-- {**d, k: v, l: w}: a new dict with d's pairs, then the others -/
def tDispM (t0 : TE) (trs : List (TE × TE)) : TE := fun σ H Q => ∀ p, H p = none → t0 σ (upd H p (.dK [])) fun x H1 => ∃ (a : Addr) (kvs : List (Key × V)), x = .ref a ∧ a ≠ p ∧ Rd H1 a (.dK kvs) ∧ H1 p = some (.dK []) ∧
  ∀ q, upd H1 p (.dK (mergeK [] kvs)) q = none → tPairs trs σ (upd (upd H1 p (.dK (mergeK [] kvs))) q (.dK [])) fun ps H2 => H2 q = some (.dK []) ∧ H2 p = some (.dK (mergeK [] kvs)) ∧ q ≠ p ∧ kvs.length + 15 ≤ 1000 ∧
    ∃ more : List (Key × V), ps = more.map (fun kv => (kV kv.1, kv.2)) ∧ more.length ≤ 15 ∧ Q (.ref p) (upd (upd H2 q (.dK (mergeK [] more))) p (.dK (mergeK (mergeK [] kvs) (mergeK [] more))))
theorem pe_dispM {X : Cx} {pos : Pos} {e0 k1 v1 k2 v2 : Expr} {t0 : TE} {trs : List (TE × TE)} (h0 : PE X e0 t0) (h : PPs X pos [some k1, some k2] [v1, v2] trs) : PE X (.Dict [none, some k1, some k2] [e0, v1, v2] pos) (tDispM t0 trs) := by
  refine ⟨fun pins s σ H Q I q => ?_⟩
  rw [arm_eval_Dict]
  refine wpAny_bind (wpAny_standAt ?_)
  show wpAny _ _ (dictDisplay [(none, do let x ← eval e0 X.env; standAt pos; pure x), (some (eval k1 X.env), do let x ← eval v1 X.env; standAt pos; pure x), (some (eval k2 X.env), do let x ← eval v2 X.env; standAt pos; pure x)]) _ _ _
  rw [display2]
  refine wpAny_bind (wpAny_alloc ?_)
  have fresh := I.hok.fresh (Nat.le_refl s.heap.objs.size)
  have I1 := I.laid (a := s.heap.objs.size) (o := .dK []) (h' := s.heap.push { cls := .type "dict", data := .dict #[] }) (t' := s.toks) (fun _ _ q => Heap.get?_push_of_some _ q) (Nat.le_refl _) (dk_empty s.heap I.big)
  generalize hp : s.heap.objs.size = p at *
  refine wpAny_bind (wpAny_holding (wpAny_bind (thn (h0.run pins _ σ _ _ I1 (q p fresh)) ?_)))
  rintro u s1 ⟨x, H1, I2, rx, a, kvs, rfl, nap, hx, hpE, q1⟩
  obtain rfl : u = Value.ref a := rx
  refine wpAny_bind (wpAny_standAt (wpAny_pure ?_))
  obtain ⟨za, aS, va, ra, da⟩ := dk_rd I2.hok hx
  obtain ⟨zp, pS, vp, rp, dp⟩ := dk_of I2.hok hpE
  cases rp
  refine wpAny_bind (wpAny_onRaise (wpAny_tryCatch (wpAny_onRaise (wpAny_holding (merge_pairs (knd := mixKind X.prog X.w) (fun z => nap z.symm) aS dp da (by rw [List.length_nil, Nat.zero_add, ← ra.length]; exact za) fun h1 d1 sb1 => ?_)))))
  have hz1 : (mergeK [] kvs).length ≤ sizeLine := by
    have := length_mergeK kvs []
    rw [List.length_nil] at this
    omega
  have I3 : Inv X pins σ (upd H1 p (.dK (mergeK [] kvs))) { s1 with heap := h1, toks := s1.toks } := d_write I2 (by rw [hpE]; exact True.intro) sb1 (let ⟨q, _, _, hq, _⟩ := d1; ⟨q, hq⟩) (dk_new hz1 pS (ra.merge .nil) d1)
  -- the pairs, in a dict of their own
  have fresh2 := I3.hok.fresh (Nat.le_refl h1.objs.size)
  have I4 := I3.laid (a := h1.objs.size) (o := .dK []) (h' := h1.push { cls := .type "dict", data := .dict #[] }) (t' := s1.toks) (fun _ _ q => Heap.get?_push_of_some _ q) (Nat.le_refl _) (dk_empty h1 I3.big)
  refine wpAny_bind (wpAny_holding ?_)
  show wpAny _ _ (subDict (pairTrees [some k1, some k2] [v1, v2] X.env pos)) _ _ _
  refine wpAny_subDict (knd := mixKind X.prog X.w) (show 2 ≤ 15 by decide) (thn (h.run pins _ σ _ _ I4 (q1 _ fresh2)) ?_)
  rintro ws s2 ⟨ps, H2, I5, rel, eq, ep, nqp, small, more, rfl, lm, q2⟩
  obtain ⟨rs, c, rk⟩ := carries_of (P := X.prog) (w := X.w) rel
  obtain ⟨zq, qS, vq, rq, dq⟩ := dk_of I5.hok eq
  cases rq
  refine ⟨rs, c, dq, fun h3 d3 sb3 => ?_⟩
  have hz2 : (mergeK [] more).length ≤ sizeLine := by
    have := length_mergeK more []
    rw [List.length_nil] at this
    rw [sizeLine_eq]
    omega
  have rm : KV (mergeK [] more) (merged [] rs) := rk.merge .nil
  have I6 : Inv X pins σ (upd H2 h1.objs.size (.dK (mergeK [] more))) { s2 with heap := h3, toks := s2.toks + ws.length } := d_write I5 (by rw [eq]; exact True.intro) sb3 (let ⟨q, _, _, hq, _⟩ := d3; ⟨q, hq⟩) (dk_new hz2 qS rm d3)
  have ep6 : upd H2 h1.objs.size (.dK (mergeK [] more)) p = some (.dK (mergeK [] kvs)) := (upd_ne (fun z => nqp z.symm)).trans ep
  obtain ⟨zp6, _, vp6, rp6, dp6⟩ := dk_of I6.hok ep6
  have ks : (mergeK [] kvs).length ≤ kvs.length := by
    have := length_mergeK kvs []
    rw [List.length_nil] at this
    omega
  have ms : (mergeK [] more).length ≤ more.length := by
    have := length_mergeK more []
    rw [List.length_nil] at this
    omega
  refine wpAny_bind (wpAny_onRaise (wpAny_holding (merge_pairs (knd := mixKind X.prog X.w) (fun z => nqp z.symm) qS dp6 d3 (by rw [← rp6.length, ← rm.length, sizeLine_eq]; omega) fun h4 d4 sb4 => wpAny_pure ?_)))
  have hz3 : (mergeK (mergeK [] kvs) (mergeK [] more)).length ≤ sizeLine := by
    have := length_mergeK (mergeK [] more) (mergeK [] kvs)
    rw [sizeLine_eq]
    omega
  exact ⟨.ref p, _, d_write (t' := s2.toks + ws.length) I6 (by rw [ep6]; exact True.intro) sb4 (let ⟨q, _, _, hq, _⟩ := d4; ⟨q, hq⟩) (dk_new hz3 pS (rm.merge rp6) d4), rfl, q2⟩
/-! ### t[::i], i one or minus one -/
section
variable {prog : Program} {w : World} {A : Around} {E : Value → Shared → Prop} {s : Shared}
theorem stepped {sl : Addr} {vs : Value} {i : Int} {n : Nat} {Q : Int × Int × Nat → Shared → Prop} (hs : s.heap.IsSliceOf sl .none .none vs) (ps : IsPart vs (some i)) (h0 : i ≠ 0)
    (h : Q ((Builtin.Slice.sliceAdjust none none i (n : Int)).1, i, Builtin.Slice.slicePlaces (Builtin.Slice.sliceAdjust none none i (n : Int)).1 (Builtin.Slice.sliceAdjust none none i (n : Int)).2 i) s) : wpAny (model prog w) A (Builtin.Slice.sliceApplied (.ref sl) (pure (n : Int))) Q E s := by
  obtain ⟨os, hos, hcs, hds⟩ := id hs
  unfold Builtin.Slice.sliceApplied Builtin.Slice.sliceFields
  refine wpAny_bind (wpAny_bind (wpAny_field hos hds (x := .none) rfl (wpAny_bind (wpAny_field hos hds (x := .none) rfl (wpAny_bind (wpAny_field hos hds (x := vs) rfl (wpAny_pure ?_)))))))
  refine wpAny_bind (HT.slicePart_ ps ?_)
  show wpAny _ _ (if (i == 0) = true then _ else _) _ _ s
  rw [if_neg (by rw [beq_iff_eq]; exact h0)]
  exact wpAny_bind (HT.slicePart_ .none (wpAny_bind (HT.slicePart_ .none (wpAny_bind (wpAny_pure (wpAny_pure h))))))
theorem fm_congr {α β : Type} {f g : α → Option β} : ∀ {l : List α}, (∀ x ∈ l, f x = g x) → l.filterMap f = l.filterMap g
  | [], _ => rfl
  | x :: r, h => by rw [List.filterMap_cons, List.filterMap_cons, h x List.mem_cons_self, fm_congr fun y hy => h y (List.mem_cons_of_mem _ hy)]
theorem back_pick (xs : Array Value) : ((List.range xs.size).filterMap fun (k : Nat) => xs[((xs.size : Int) - 1 + (k : Int) * -1).toNat]?) = xs.toList.reverse := by
  rw [← PySem.W.krv_all xs, ← List.filterMap_reverse, ← PySem.W.krv_range, List.filterMap_map]
  refine fm_congr fun k hk => ?_
  have := List.mem_range.mp hk
  show xs[((xs.size : Int) - 1 + (k : Int) * -1).toNat]? = xs[xs.size - 1 - k]?
  rw [show ((xs.size : Int) - 1 + (k : Int) * -1).toNat = xs.size - 1 - k by omega]
theorem item_step {t sl : Addr} {items : Array Value} {vs : Value} {i : Int} {Q : Value → Shared → Prop} (ht : IsTup s.heap t items) (hs : s.heap.IsSliceOf sl .none .none vs) (ps : IsPart vs (some i)) (hi : i = 1 ∨ i = -1) (hsz : items.size ≤ sizeLine)
    (h1 : i = 1 → Q (.ref t) s) (h2 : i = -1 → Q (.ref s.heap.objs.size) { s with heap := s.heap.push { cls := .type "tuple", data := .seq items.toList.reverse.toArray } }) : wpAny (model prog w) A (getItem (.ref t) (.ref sl)) Q E s := by
  obtain ⟨os, hos, hcs, hds⟩ := id hs
  have hTs : s.TypeIs (.ref sl) "slice" := ⟨os, hos, hcs⟩
  unfold getItem
  try with_reducible refine wpAny_holding ?_
  first | refine wpAny_bind (wpAny_pure ?_) | skip
  refine wpAny_bind (wpAny_sequenceKey ht.typeIs (by decide) ?_)
  refine wpAny_bind (wpAny_callSpecial?_slot (name := Str.ofString "__getitem__") ht.typeIs PyProof.Rows.slot_tuple_getitem (wpAny_call_entry PyProof.Rows.slot_tuple_getitem ht.typeIs entry_tuple_getitem ?_ (args_tuple_getitem _ _)))
  show wpAny _ _ (Builtin.Tuple.tupleItemsOf (.ref t) >>= _) _ _ s
  refine wpAny_bind (tupleItemsOf_ ht ?_)
  refine wpAny_bind (wpAny_typeOf hTs ?_)
  rw [if_pos (by decide)]
  refine wpAny_bind (stepped hs ps (by omega) ?_)
  rcases hi with rfl | rfl
  · have e1 : (Builtin.Slice.sliceAdjust none none 1 (items.size : Int)) = (0, (items.size : Int)) := rfl
    have e2 : Builtin.Slice.slicePlaces 0 (items.size : Int) 1 = items.size := by
      unfold Builtin.Slice.slicePlaces
      rw [if_pos (by decide), Int.ediv_one]
      split <;> omega
    rw [e1]
    show wpAny _ _ (if ((0 : Int) == 0 && (1 : Int) == 1 && Builtin.Slice.slicePlaces 0 (items.size : Int) 1 == items.size) = true then _ else _) _ _ s
    rw [e2, if_pos (by simp)]
    refine wpAny_bind ?_
    show wpAny _ _ (typeOf (.ref t) >>= fun T => pure (T == .type "tuple")) _ _ s
    refine wpAny_bind (wpAny_typeOf ht.typeIs (wpAny_pure ?_))
    rw [if_pos (by decide)]
    first
      | exact wpAny_bind (wpAny_rule (wpAny_pure ⟨_, rfl, wpAny_pure (h1 rfl)⟩))
      | exact wpAny_bind (wpAny_rule (wpAny_bind (wpAny_pure (wpAny_pure ⟨_, rfl, wpAny_pure (h1 rfl)⟩))))
  · have e1 : (Builtin.Slice.sliceAdjust none none (-1) (items.size : Int)) = ((items.size : Int) - 1, -1) := rfl
    have e2 : Builtin.Slice.slicePlaces ((items.size : Int) - 1) (-1) (-1) = items.size := by
      unfold Builtin.Slice.slicePlaces
      rw [if_neg (by decide), show (- -1 : Int) = 1 from rfl, Int.ediv_one]
      split <;> omega
    rw [e1]
    show wpAny _ _ (if ((items.size : Int) - 1 == 0 && (-1 : Int) == 1 && Builtin.Slice.slicePlaces ((items.size : Int) - 1) (-1) (-1) == items.size) = true then _ else _) _ _ s
    rw [if_neg (by simp), e2, back_pick]
    have ok : sizeOk (.seq items.toList.reverse.toArray) := by
      show items.toList.reverse.toArray.size ≤ sizeLine
      rw [List.size_toArray, List.length_reverse, Array.length_toList]
      exact hsz
    first
      | exact wpAny_bind (m := Builtin.Tuple.tupleExact _) (wpAny_newObj_type (wpAny_pure ⟨_, rfl, wpAny_pure (h2 rfl)⟩) ok)
      | exact wpAny_bind (m := Builtin.Tuple.tupleExact _) (wpAny_newObj_type (wpAny_bind (wpAny_pure (wpAny_pure ⟨_, rfl, wpAny_pure (h2 rfl)⟩))) ok)
      | exact wpAny_bind (wpAny_bind (m := Builtin.Tuple.tupleExact _) (wpAny_newObj_type (wpAny_pure (wpAny_pure ⟨_, rfl, wpAny_pure (h2 rfl)⟩)) ok))
      | exact wpAny_bind (wpAny_bind (m := Builtin.Tuple.tupleExact _) (wpAny_newObj_type (wpAny_pure ⟨_, rfl, wpAny_pure (h2 rfl)⟩) ok))
end
/-- t[::i], i one or minus one: some tuple of the items, in their order or the other way about -/
def tStepP (te ts : TE) : TE := fun σ H Q => te σ H fun x H1 => ts σ H1 fun y H2 => ∃ (a : Addr) (xs : List V) (i : Int), x = .ref a ∧ H2 a = some (.tup xs) ∧ y = .int i ∧ (i = 1 ∨ i = -1) ∧
  ∀ (b : Addr) (H' : Hp) (ys : List V), Same H2 H' → (ys = xs ∨ ys = xs.reverse) → H' b = some (.tup ys) → Q (.ref b) H'
theorem pe_stepP {X : Cx} {e st : Expr} {te ts : TE} {p3 pos : Pos} (he : PE X e te) (hst : PE X st ts) : PE X (.Subscript e (.Slice none none (some st) p3) pos) (tStepP te ts) := by
  refine ⟨fun pins s σ H Q I h => ?_⟩
  refine Subscript_ (thn (he.run pins s σ H _ I h) fun v s1 ⟨x, H1, I1, r1, q1⟩ => ?_)
  refine wpAny_Slice (thn (po_none.run pins s1 σ H1 (fun o H2 => o = none ∧ H2 = H1) I1 ⟨rfl, rfl⟩) ?_)
  rintro vl s2 ⟨l, H2, I2, pl, rfl, rfl⟩
  refine thn (po_none.run pins s2 σ H2 (fun o H3 => o = none ∧ H3 = H2) I2 ⟨rfl, rfl⟩) ?_
  rintro vu s3 ⟨u, H3, I3, pu, rfl, rfl⟩
  refine thn (hst.run pins s3 σ H3 _ I3 q1) ?_
  rintro vs s4 ⟨y, H4, I4, ry, a, xs, i, rfl, hx, rfl, hi, g⟩
  cases r1
  obtain ⟨t, rfl⟩ := ry
  have I5 : Inv X pins σ H4 { s4 with heap := s4.heap.push { cls := .type "slice", data := .fields #[vl, vu, .int i t] } } := I4.kept (t' := s4.toks) fun b ob q => Heap.get?_push_of_some _ q
  obtain ⟨its, r, ht, hz⟩ := I5.tuple (SqT.of hx)
  have el : vl = .none := by cases pl; rfl
  have eu : vu = .none := by cases pu; rfl
  subst el eu
  show wpAny (model X.prog X.w) X.A (subscriptTail e (.Slice none none (some st) p3) (.ref a) (.ref s4.heap.objs.size)) (EP X pins σ Q) X.xe { s4 with heap := s4.heap.push { cls := .type "slice", data := .fields #[.none, .none, .int i t] } }
  refine tail_any (ops := [.ref a, .ref s4.heap.objs.size]) ht.typeIs PyProof.Rows.slot_tuple_getitem.lookup ?_ (by with_unfolding_all rfl)
  refine item_step ht (Heap.IsSliceOf.new _ _ _ _) (.int i t) hi (by rw [List.size_toArray, ← r.length]; exact hz) (fun e1 => ⟨.ref a, H4, I5, rfl, g a H4 xs (fun _ _ e => e) (.inl rfl) hx⟩) fun e1 => ?_
  refine ⟨.ref _, _, I5.laid (t' := s4.toks) (o := .tup xs.reverse) (fun b ob q => Heap.get?_push_of_some _ q) (Nat.le_refl _) ⟨by rw [List.length_reverse]; exact hz, _, r.reverse, IsTup.new _ _⟩, rfl, g _ _ _ (same_new (I5.hok.fresh (Nat.le_refl _))) (.inr rfl) upd_same⟩
/-! ### x in d.values(), texts -/
section
variable {prog : Program} {w : World} {A : Around} {E : Value → Shared → Prop} {s : Shared}
theorem plain_ci : plainId "proto.contains_iter" = true := by decide +kernel
theorem entry_ci : entryFor table "proto.contains_iter" = some Builtin.«proto.contains_iter» := entryFor_of_tree (by kernel_rfl)
theorem nocont_vals : typeLookup (.type "dict_values") "__contains__" = pure none := by rw [typeLookup_type, builtinLookup_eq_fast]; kernel_rfl
theorem ci_loop {it d : Addr} {ep : Nat} {vs : List (Key × Value)} {ys : List Str} {z : Str} {t : Tok} (hA : A.handled = none) (hv : ∀ (i : Nat) (p : Key × Value), vs[i]? = some p → ∃ y u, ys[i]? = some y ∧ p.2 = .str y u) (hl : ys.length = vs.length) (hdi : d ≠ it) {R : Result → Shared → Prop} :
    ∀ (n i : Nat) (s : Shared), i + n = vs.length → s.heap.IsValIter it d i vs.length ep → s.heap.DictAt (mixKind prog w) d vs ep → (∀ h', Heap.ExtBut it s.heap h' → R (.ok (.ret (.bool (decide (z ∈ ys.drop i))))) { s with heap := h' }) →
      codeAny (model prog w) A (.builtin "proto.contains_iter" ⟨[.ref it, .str z t], []⟩) R s
  | 0, i, s, hn, hit, hd, hR => by
    refine codeAny_builtin entry_ci ?_
    rw [Around.under_plainId plain_ci]
    unfold Builtin.«proto.contains_iter»
    refine wpAny_bind (wpAny_pyNext_values_end hA hit hd (List.getElem?_eq_none (by omega)) fun h' eb => ?_)
    refine wpAny_bind (wpAny_rule (wpAny_pure ?_))
    have e : ys.drop i = [] := List.drop_eq_nil_of_le (by omega)
    have q := hR h' eb
    rw [e] at q
    exact q
  | n + 1, i, s, hn, hit, hd, hR => by
    refine codeAny_builtin entry_ci ?_
    rw [Around.under_plainId plain_ci]
    unfold Builtin.«proto.contains_iter»
    obtain ⟨p, hp⟩ : ∃ p, vs[i]? = some p := ⟨_, List.getElem?_eq_getElem (by omega)⟩
    obtain ⟨y, u, hy, ev⟩ := hv i p hp
    have ed : ys.drop i = y :: ys.drop (i + 1) := by
      rw [List.drop_eq_getElem_cons (by omega)]
      rw [List.getElem?_eq_getElem (by omega)] at hy
      rw [Option.some.inj hy]
    refine wpAny_bind (wpAny_pyNext_values_item hit hd (k := p.1) (v := p.2) hp fun h' hit' sb => ?_)
    rw [ev]
    refine wpAny_bind ((mixKind prog w).eqBool (a := Sum.inr y) (b := Sum.inr z) (kV_is (k := Sum.inr y) ⟨u, rfl⟩) (kV_is (k := Sum.inr z) ⟨t, rfl⟩) ?_)
    by_cases e : y = z
    · rw [if_pos (by simp [e])]
      refine wpAny_bind (wpAny_rule (wpAny_pure ?_))
      have q := hR h' fun b o hb eo => (sb.2 b hb).trans eo
      rw [ed, decide_eq_true (by rw [e]; exact List.mem_cons_self)] at q
      exact q
    · rw [if_neg (by simp [e])]
      refine wpAny_pure ⟨plainId_quiet plain_ci _, ci_loop hA hv hl hdi n (i + 1) { s with heap := h' } (by omega) hit' (let ⟨o, es, ho, r⟩ := hd; ⟨o, es, (sb.2 d hdi).trans ho, r⟩) fun h2 eb2 => ?_⟩
      have q := hR h2 (fun b o hb eo => eb2 b o hb ((sb.2 b hb).trans eo))
      rw [ed] at q
      have e2 : decide (z ∈ y :: ys.drop (i + 1)) = decide (z ∈ ys.drop (i + 1)) := by
        have : ¬ z = y := fun h => e h.symm
        simp [this]
      rw [e2] at q
      exact q
end
def valsO (v d : Addr) : HO := .ext fun h => h.get? v = some { cls := .type "dict_values", data := .fields #[.ref d] }
/-- d.values(), as a value -/
def tVals (td : TE) : TE := fun σ H Q => td σ H fun x H1 => ∃ (d : Addr) (kvs : List (Key × V)), x = .ref d ∧ H1 d = some (.dK kvs) ∧ ∀ v, H1 v = none → Q (.ref v) (upd H1 v (valsO v d))
theorem pe_vals {X : Cx} {e : Expr} {td : TE} {apos cpos : Pos} (he : PE X e td) (hbase : attributeBase e "values" X.env (eval e X.env) = eval e X.env := by rfl) (hline : (apos.endLine == cpos.line) = true := by rfl) :
    PE X (.Call (.Attribute e "values" apos) [] [] cpos) (tVals td) := by
  refine ⟨fun pins s σ H Q I h => ?_⟩
  refine wpAny_Call_method (T := "dict") (id := "dict.values") hbase rfl hline F.plainAttrs_dict F.slot_dict_values F.type_dict_values (thn (he.run pins s σ H _ I h) ?_)
  rintro u s1 ⟨x, H1, I1, rx, d, kvs, rfl, hd, q⟩
  obtain rfl : u = Value.ref d := rx
  obtain ⟨_, dS, vs, rel, dd⟩ := dk_of I1.hok hd
  refine ⟨dd.typeIs, dd.mapOf.noDict, ?_⟩
  show wpAny _ _ (callWith cpos (.builtin "dict.values") [.ref d] [] []) _ X.xe s1
  refine method_meetsIn F.slot_dict_values F.entry_dict_values rfl (PySem.evalArgs_none ⟨rfl, dd.typeIs, F.args_dict_values_1 _, _, meets_dict_values (mixKind X.prog X.w) d dS, ⟨vs, dd⟩, ?_⟩)
  refine ⟨.ref s1.heap.objs.size, _, I1.laid (t' := s1.toks) (a := s1.heap.objs.size) (o := valsO s1.heap.objs.size d) (fun b ob q => Heap.get?_push_of_some _ q) (Nat.le_refl _) ?_, rfl, q _ (I1.hok.fresh (Nat.le_refl _))⟩
  have e : (s1.heap.push { cls := .type "dict_values", data := .fields #[.ref d] }).get? s1.heap.objs.size = some { cls := .type "dict_values", data := .fields #[.ref d] } := Heap.get?_push_size _ rfl
  exact ⟨e, ⟨_, e⟩, fun h1 h2 p k => k _ p⟩
def rInVals : R2 := fun x y H Q => ∃ (z : Str) (v d : Addr) (kvs : List (Key × V)) (ys : List Str), x = .str z ∧ y = .ref v ∧ H v = some (valsO v d) ∧ H d = some (.dK kvs) ∧ kvs.map (·.2) = ys.map V.str ∧ Q (.bl (decide (z ∈ ys))) H
theorem op_inVals {X : Cx} (hc : X.calm = true) : OpR X (compareOp .In) rInVals := by
  rintro pins s σ H x y vx vy Q I rx ry ⟨z, v, d, kvs, ys, rfl, rfl, hv, hd, hy, q⟩
  obtain ⟨t, rfl⟩ : ∃ t, vx = Value.str z t := rx
  obtain rfl : vy = Value.ref v := ry
  obtain ⟨ev, _, _⟩ := I.hok v _ hv
  obtain ⟨_, dS, vs, rel, o, es, ep, dd⟩ := dk_of I.hok hd
  have dA : s.heap.DictAt (mixKind X.prog X.w) d vs ep := ⟨o, es, dd⟩
  have tv : s.TypeIs (.ref v) "dict_values" := ⟨_, ev, rfl⟩
  have lv : kvs.length = vs.length := Paired.length rel
  have ly : ys.length = vs.length := by
    have := congrArg List.length hy
    rw [List.length_map, List.length_map] at this
    omega
  show wpAny _ _ (contains (.ref v) (.str z t) >>= fun b => pure (Value.bool b)) _ _ s
  refine wpAny_bind ?_
  unfold contains
  refine wpAny_holding ?_
  show wpAny _ _ (specialOf (.ref v) "__contains__" >>= _) _ _ s
  refine wpAny_bind (wpAny_specialOf tv nocont_vals ?_)
  show wpAny _ _ (if ((none : Option Value) == some Value.none) = true then _ else _) _ _ s
  rw [if_neg (by decide)]
  refine wpAny_bind (wpAny_callSpecialUnlessNone?_none tv nocont_vals ?_)
  refine wpAny_bind (wpAny_rule ?_)
  refine wpAny_bind (wpAny_tryCatch (wpAny_pyIter_values (d := d) (knd := mixKind X.prog X.w) ⟨_, ev, rfl, rfl⟩ dA ?_))
  have nvi : d ≠ s.heap.objs.size := Nat.ne_of_lt (Heap.lt_size dd.1)
  refine wpAny_bind (wpAny_runValue (ci_loop (ys := ys) (I.ok.hd hc) ?_ ly nvi vs.length 0 _ (by omega) ⟨_, Heap.get?_push_size _ rfl, rfl, rfl⟩ ?_ fun h' eb => ?_))
  · intro i p hp
    have hi : i < vs.length := (List.getElem?_eq_some_iff.mp hp).1
    obtain ⟨⟨k, v'⟩, hk⟩ : ∃ e, kvs[i]? = some e := ⟨_, List.getElem?_eq_getElem (by omega)⟩
    obtain ⟨u, hu, ru⟩ := kv_get rel hk
    obtain ⟨y, hy'⟩ : ∃ y, ys[i]? = some y := ⟨_, List.getElem?_eq_getElem (by omega)⟩
    have e1 : (kvs.map (·.2))[i]? = some v' := by rw [List.getElem?_map, hk]; rfl
    rw [hy, List.getElem?_map, hy'] at e1
    obtain rfl : V.str y = v' := Option.some.inj e1
    obtain ⟨t2, rfl⟩ := ru
    rw [hp] at hu
    exact ⟨y, t2, hy', by rw [Option.some.inj hu]⟩
  · exact ⟨o, es, Heap.get?_push_of_some _ dd.1, dd.2⟩
  · refine wpAny_pure (wpAny_pure ⟨.bl _, H, I.kept (t' := s.toks) (fun b ob e => eb b ob (Nat.ne_of_lt (Heap.lt_size e)) (Heap.get?_push_of_some _ e)), rfl, ?_⟩)
    rw [List.drop_zero]
    exact q
/-! ### the order of entries, by the law -/
def Ent.rank : Ent → Int
  | .swap .. => 0 | .come .. => 1 | .go .. => 1 | .move .. => 1 | .some_ .. => 1 | .count .. => 2 | .look .. => 2
def ordV (e : Ent) : List V := [.int e.moment, .int e.rank, .str e.name]
def ordD (e : Ent) : PyData := .tuple [.int e.moment, .int e.rank, .str e.name]
theorem ord_dp {K : PySem.W.Frag} {H : Hp} {tp : Addr} {e : Ent} (h : H tp = some (.tup (ordV e))) : Dp K H (.ref tp) (ordD e) := .tup (SqT.of h) (.cons (.int _) (.cons (.int _) (.cons (.str _) .nil)))
theorem ord_alike (e g : Ent) : PySem.W.alike (ordD e) (ordD g) = true := rfl
def spOrd : Sp := fun vs H Q _ => ∃ (a : Addr) (e : Ent), vs = [.ref a] ∧ H a = some (.tup e.vals) ∧ ∀ (tp : Addr) (H' : Hp), Same H H' → H' tp = some (.tup (ordV e)) → Q (.ref tp) H'
def rankW (x : Str) : Int := 1 - (if decide (V.str x = V.str "swap") = true then 1 else 0) + (if inV (V.str x) [V.str "count", V.str "look"] = true then 1 else 0)
theorem rank_own (e : Ent) : rankW e.word = e.rank := by
  have h1 : rankW "come" = 1 := by decide +kernel
  have h2 : rankW "go" = 1 := by decide +kernel
  have h3 : rankW "move" = 1 := by decide +kernel
  have h4 : rankW "some" = 1 := by decide +kernel
  have h5 : rankW "swap" = 0 := by decide +kernel
  have h6 : rankW "count" = 2 := by decide +kernel
  have h7 : rankW "look" = 2 := by decide +kernel
  cases e
  · exact h1
  · exact h2
  · exact h3
  · exact h4
  · exact h5
  · exact h6
  · exact h7
section
variable {P : Program} {w : World} {K : PySem.W.Frag} {mg : Str → Option Value} {base : Heap}
theorem scOwn : FnScope ["_law_entry_here", "_law_rank"] ["_law_entry_here"] (defScope sOwn) := ⟨rfl, rfl, rfl, by decide +kernel, rfl, by decide +kernel, by decide +kernel⟩
theorem at0 (e : Ent) : atI e.vals 0 = some (.str e.word) := atI_nat (j := 0) rfl
theorem at1 (e : Ent) : atI e.vals 1 = some (.str e.name) := atI_nat (j := 1) rfl
theorem at2 (e : Ent) : atI e.vals 2 = some (.int e.moment) := atI_nat (j := 2) rfl
theorem ok_own {f : Addr} {fd : FuncData} (F : Fun K "_law_order" "_law_order" sOwn f fd) (mi : mg "int" = none) : FnOk P w K mg base CX0 1 f fd ["_law_entry_here"] spOrd := by
  refine F.ok scOwn (fun vs H Q E h => ?_) (fun cdv A outer s H vs Q E hr h => ?_)
  · obtain ⟨a, e, rfl, _⟩ := h
    rfl
  · obtain ⟨a, e, rfl, ha, q⟩ := h
    refine ⟨_, pss_cons (ps_set (i := 1) scOwn.nd rfl (Or.inl rfl) (pe_op op_add (pe_op op_sub pe_int (pe_callTy call_int1 (by rfl) mi (by decide +kernel) (pa_cons (pe_cmpR op_eq (pe_ix ix_tup (pv 0) pe_int (fun _ _ => rfl)) pe_str (nomark _)) pa_nil)))
        (pe_callTy call_int1 (by rfl) mi (by decide +kernel) (pa_cons (pe_cmpR op_in_seq (pe_ix ix_tup (pv 0) pe_int (fun _ _ => rfl)) (pe_tup (pa_cons pe_str (pa_cons pe_str pa_nil))) (by rfl)) pa_nil))))
      (pss_one (ps_ret (pe_tup (pa_cons (pe_ix ix_tup (pv 0) pe_int (fun _ _ => rfl)) (pa_cons (pv 1) (pa_cons (pe_ix ix_tup (pv 0) pe_int (fun _ _ => rfl)) pa_nil)))))), ?_⟩
    refine ⟨_, rfl, a, _, 0, _, rfl, rfl, SqT.of ha, at0 e, rfl, .inr ⟨_, rfl, 1, _, rfl, rfl, _, rfl, a, _, 0, _, rfl, rfl, SqT.of ha, at0 e, (by show 2 ≤ sizeLine; decide), fun t nt => ?_⟩⟩
    have s1 := @same_new _ _ (.tup [V.str "count", .str "look"]) nt
    refine ⟨t, _, rfl, .inr (SqT.of upd_same), rfl, ?_, .inr ⟨_, rfl, _, _, rfl, rfl, ?_⟩⟩
    · rfl
    · refine ⟨_, rfl, a, _, 2, _, rfl, rfl, SqT.of (s1 _ _ ha), at2 e, _, rfl, _, rfl, a, _, 1, _, rfl, rfl, SqT.of (s1 _ _ ha), at1 e, (by show 3 ≤ sizeLine; decide), fun tp ntp => ?_⟩
      refine q tp _ (s1.trans (same_new ntp)) ?_
      rw [upd_same]
      exact congrArg (fun k => some (HO.tup [V.int e.moment, V.int k, V.str e.name])) (rank_own e)
end
/-! ### places_of -/
namespace Ent
def places : Ent → List Str
  | come _ _ _ p _ _ => [p]
  | go _ _ _ p _ => [p]
  | move _ _ _ o t _ => [o, t]
  | some_ _ _ _ o t => if t = "" then [o] else [o, t]
  | swap _ _ o t => [o, t]
  | count _ _ _ p _ _ => [p]
  | look _ _ _ p => [p]
end Ent
def spPlaces : Sp := fun vs H Q _ => ∃ (a : Addr) (e : Ent), vs = [.ref a] ∧ H a = some (.tup e.vals) ∧ ∀ (tp : Addr) (H' : Hp), Same H H' → H' tp = some (.tup (e.places.map V.str)) → Q (.ref tp) H'
theorem cut_mid {xs : List V} {i j : Nat} (h : j ≤ xs.length) (hi : i ≤ j) : cutV xs (some (i : Int)) (some (j : Int)) = (xs.drop i).take (j - i) := by
  unfold cutV
  rw [HT.sIx_nat, HT.sIx_nat, Nat.min_eq_left h, Nat.min_eq_left (Nat.le_trans hi h)]
theorem no_whole {n i j : Nat} (h : i ≤ n) (hi : 0 < i) : ¬ (HT.sIx n 0 (some (i : Int)) = 0 ∧ HT.sIx n n (some (j : Int)) = n) := by
  rw [HT.sIx_nat, Nat.min_eq_left h]
  omega
section
variable {P : Program} {w : World} {K : PySem.W.Frag} {mg : Str → Option Value} {base : Heap}
theorem scPlacesOf : FnScope ["entry", "word"] ["entry"] (defScope sPlacesOf) := ⟨rfl, rfl, rfl, by decide +kernel, rfl, by decide +kernel, by decide +kernel⟩
theorem bl_of {a b : Str} {k : Bool} (h : decide (V.str a = V.str b) = k) : V.bl (decide (V.str a = V.str b)) = V.bl k := congrArg V.bl h
theorem ok_placesOf {f : Addr} {fd : FuncData} (F : Fun K "places_of" "places_of" sPlacesOf f fd) : FnOk P w K mg base CX0 1 f fd ["entry"] spPlaces := by
  refine F.ok scPlacesOf (fun vs H Q E h => ?_) (fun cdv A outer s H vs Q E hr h => ?_)
  · obtain ⟨a, e, rfl, _⟩ := h
    rfl
  · obtain ⟨a, e, rfl, ha, q⟩ := h
    have nd := scPlacesOf.nd
    refine ⟨_, pss_cons (ps_set (i := 1) nd rfl (Or.inl rfl) (pe_ix ix_tup (pv 0) pe_int (fun _ _ => rfl)))
      (pss_cons (ps_if (pt_cmpR op_eq (pv 1) pe_str (nomark _)) (pss_one (ps_ret (pe_slice sl_tup (pv 0) (po_some pe_int) (po_some pe_int)))) pss_nil)
      (pss_cons (ps_if (PW.pt (pw_or (pt_cmpR op_eq (pv 1) pe_str (nomark _)) (pw_or1 (PW.pt (pw_and (pt_cmpR op_eq (pv 1) pe_str (nomark _)) (pw_and1 (pt_cmpR op_ne (pe_ix ix_tup (pv 0) pe_int (fun _ _ => rfl)) pe_str (nomark _)))))))) (pss_one (ps_ret (pe_slice sl_tup (pv 0) (po_some pe_int) (po_some pe_int)))) pss_nil)
      (pss_one (ps_ret (pe_slice sl_tup (pv 0) (po_some pe_int) (po_some pe_int)))))), ?_⟩
    refine ⟨_, rfl, a, _, 0, _, rfl, rfl, SqT.of ha, at0 e, ?_⟩
    have c1 : decide (V.str "come" = V.str "swap") = false := by decide +kernel
    have c2 : decide (V.str "go" = V.str "swap") = false := by decide +kernel
    have c3 : decide (V.str "move" = V.str "swap") = false := by decide +kernel
    have c4 : decide (V.str "some" = V.str "swap") = false := by decide +kernel
    have c6 : decide (V.str "count" = V.str "swap") = false := by decide +kernel
    have c7 : decide (V.str "look" = V.str "swap") = false := by decide +kernel
    have m1 : decide (V.str "come" = V.str "move") = false := by decide +kernel
    have m2 : decide (V.str "go" = V.str "move") = false := by decide +kernel
    have m4 : decide (V.str "some" = V.str "move") = false := by decide +kernel
    have m6 : decide (V.str "count" = V.str "move") = false := by decide +kernel
    have m7 : decide (V.str "look" = V.str "move") = false := by decide +kernel
    have s1 : decide (V.str "come" = V.str "some") = false := by decide +kernel
    have s2 : decide (V.str "go" = V.str "some") = false := by decide +kernel
    have s6 : decide (V.str "count" = V.str "some") = false := by decide +kernel
    have s7 : decide (V.str "look" = V.str "some") = false := by decide +kernel
    cases e with
    | come nme mo g pl many price =>
      refine ⟨_, rfl, rfl, false, bl_of c1, iteF ⟨_, rfl, rfl, false, bl_of m1, iteF ⟨_, rfl, rfl, false, bl_of s1, iteF ?_⟩⟩⟩
      exact ⟨_, rfl, 4, rfl, 5, rfl, a, _, rfl, SqT.of ha, no_whole (i := 4) (j := 5) (by show 4 ≤ 7; decide) (by decide), fun p np => q p _ (same_new np) (by rw [upd_same]; rfl)⟩
    | go nme mo g pl many =>
      refine ⟨_, rfl, rfl, false, bl_of c2, iteF ⟨_, rfl, rfl, false, bl_of m2, iteF ⟨_, rfl, rfl, false, bl_of s2, iteF ?_⟩⟩⟩
      exact ⟨_, rfl, 4, rfl, 5, rfl, a, _, rfl, SqT.of ha, no_whole (i := 4) (j := 5) (by show 4 ≤ 6; decide) (by decide), fun p np => q p _ (same_new np) (by rw [upd_same]; rfl)⟩
    | move nme mo g one other many =>
      refine ⟨_, rfl, rfl, false, bl_of c3, iteF ⟨_, rfl, rfl, true, bl_of (decide_eq_true rfl), iteT ?_⟩⟩
      exact ⟨_, rfl, 4, rfl, 6, rfl, a, _, rfl, SqT.of ha, no_whole (i := 4) (j := 6) (by show 4 ≤ 7; decide) (by decide), fun p np => q p _ (same_new np) (by rw [upd_same]; rfl)⟩
    | some_ nme mo g one other =>
      refine ⟨_, rfl, rfl, false, bl_of c4, iteF ⟨_, rfl, rfl, false, bl_of m4, iteF ⟨_, rfl, rfl, true, bl_of (decide_eq_true rfl), iteT ?_⟩⟩⟩
      refine ⟨_, rfl, a, _, 5, .str other, rfl, rfl, SqT.of ha, atI_nat (j := 5) rfl, rfl, !decide (V.str other = V.str ""), rfl, ?_⟩
      by_cases z : other = ""
      · rw [decide_eq_true (congrArg V.str z)]
        refine iteF ⟨_, rfl, 4, rfl, 5, rfl, a, _, rfl, SqT.of ha, no_whole (i := 4) (j := 5) (by show 4 ≤ 6; decide) (by decide), fun p np => q p _ (same_new np) ?_⟩
        rw [upd_same]
        show some (HO.tup [V.str one]) = some (HO.tup ((if other = "" then [one] else [one, other]).map V.str))
        rw [if_pos z]
        rfl
      · rw [decide_eq_false fun h => z (V.str.inj h)]
        refine iteT ⟨_, rfl, 4, rfl, 6, rfl, a, _, rfl, SqT.of ha, no_whole (i := 4) (j := 6) (by show 4 ≤ 6; decide) (by decide), fun p np => q p _ (same_new np) ?_⟩
        rw [upd_same]
        show some (HO.tup [V.str one, V.str other]) = some (HO.tup ((if other = "" then [one] else [one, other]).map V.str))
        rw [if_neg z]
        rfl
    | swap nme mo one other =>
      refine ⟨_, rfl, rfl, true, bl_of (decide_eq_true rfl), iteT ?_⟩
      exact ⟨_, rfl, 3, rfl, 5, rfl, a, _, rfl, SqT.of ha, no_whole (i := 3) (j := 5) (by show 3 ≤ 5; decide) (by decide), fun p np => q p _ (same_new np) (by rw [upd_same]; rfl)⟩
    | count nme mo g pl many hand =>
      refine ⟨_, rfl, rfl, false, bl_of c6, iteF ⟨_, rfl, rfl, false, bl_of m6, iteF ⟨_, rfl, rfl, false, bl_of s6, iteF ?_⟩⟩⟩
      exact ⟨_, rfl, 4, rfl, 5, rfl, a, _, rfl, SqT.of ha, no_whole (i := 4) (j := 5) (by show 4 ≤ 7; decide) (by decide), fun p np => q p _ (same_new np) (by rw [upd_same]; rfl)⟩
    | look nme mo g pl =>
      refine ⟨_, rfl, rfl, false, bl_of c7, iteF ⟨_, rfl, rfl, false, bl_of m7, iteF ⟨_, rfl, rfl, false, bl_of s7, iteF ?_⟩⟩⟩
      exact ⟨_, rfl, 4, rfl, 5, rfl, a, _, rfl, SqT.of ha, no_whole (i := 4) (j := 5) (by show 4 ≤ 5; decide) (by decide), fun p np => q p _ (same_new np) (by rw [upd_same]; rfl)⟩
end
/-! ### houses -/
def TK (H H' : Hp) : Prop := ∀ a xs, H a = some (.tup xs) → H' a = some (.tup xs)
theorem TK.of {H H' : Hp} (s : Same H H') : TK H H' := fun a xs e => s a _ e
theorem TK.tr {H H1 H2 : Hp} (a : TK H H1) (b : TK H1 H2) : TK H H2 := fun c xs e => b c xs (a c xs e)
theorem TK.but {H H' : Hp} {p c : Addr} {n : Nat} (pen : PenAt H p c n) (b : But p H H') : TK H H' := fun a xs e => by
  obtain ⟨kvs, ns', a', x', g1, _⟩ := pen.ex
  exact b a _ e (ne_of e g1 (by intro z; cases z))
theorem TK.upd {H : Hp} {l : Addr} {o : HO} (n : ∀ xs, H l ≠ some (.tup xs)) : TK H (upd H l o) := fun a xs e => by
  by_cases z : a = l
  · rw [z] at e
    exact absurd e (n xs)
  · exact (upd_ne z).trans e
/-- each address holds its entry -/
inductive EntsAt (H : Hp) : List Addr → List Ent → Prop
  | nil : EntsAt H [] []
  | cons {a : Addr} {e : Ent} {as : List Addr} {es : List Ent} : H a = some (.tup e.vals) → EntsAt H as es → EntsAt H (a :: as) (e :: es)
theorem EntsAt.on {H H' : Hp} (k : TK H H') {as : List Addr} {es : List Ent} (h : EntsAt H as es) : EntsAt H' as es := by
  induction h with
  | nil => exact .nil
  | cons a _ ih => exact .cons (k _ _ a) ih
theorem EntsAt.len {H : Hp} {as : List Addr} {es : List Ent} (h : EntsAt H as es) : as.length = es.length := by
  induction h with
  | nil => rfl
  | cons _ _ ih => simp [ih]
theorem EntsAt.snoc {H : Hp} {a : Addr} {e : Ent} {as : List Addr} {es : List Ent} (h : EntsAt H as es) (q : H a = some (.tup e.vals)) : EntsAt H (as ++ [a]) (es ++ [e]) := by
  induction h with
  | nil => exact .cons q .nil
  | cons a _ ih => exact .cons a ih
theorem EntsAt.get {H : Hp} {as : List Addr} {es : List Ent} (h : EntsAt H as es) : ∀ {i : Nat} {a : Addr}, as[i]? = some a → ∃ e, es[i]? = some e ∧ H a = some (.tup e.vals) := by
  induction h with
  | nil => intro i a q; cases q
  | @cons a0 e0 as es q _ ih =>
    intro i a z
    cases i with
    | zero => exact ⟨e0, rfl, by rw [← Option.some.inj z]; exact q⟩
    | succ n => exact ih (i := n) z
structure HouseAt (H : Hp) (h : Addr) (P G : List Str) (es : List Ent) : Prop where
  ex : ∃ (hp hg he : Addr) (tps : List Addr), H h = some (.tup [.ref hp, .ref hg, .ref he]) ∧ H hp = some (.tup (P.map V.str)) ∧ H hg = some (.tup (G.map V.str)) ∧ H he = some (.tup (tps.map V.ref)) ∧ EntsAt H tps es
theorem HouseAt.on {H H' : Hp} (k : TK H H') {h : Addr} {P G : List Str} {es : List Ent} (x : HouseAt H h P G es) : HouseAt H' h P G es := by
  obtain ⟨hp, hg, he, tps, h1, h2, h3, h4, h5⟩ := x.ex
  exact ⟨hp, hg, he, tps, k _ _ h1, k _ _ h2, k _ _ h3, k _ _ h4, h5.on k⟩
/-- what holds of a house that a law makes -/
structure Good (P G : List Str) (es : List Ent) (m : Nat) : Prop where
  nd : P.Nodup
  ne : P ≠ []
  le : P.length ≤ 6
  nm : ∀ y ∈ P, nameB y = true
  ge : G ≠ []
  gl : G.length ≤ 3
  gn : ∀ y ∈ G, nameB y = true
  gd : G.Nodup
  many : es.length = m
  ents : ∀ e ∈ es, nameB e.name = true ∧ 0 ≤ e.moment ∧ e.moment ≤ 9999 ∧ ∃ HL : List Str, (∀ y ∈ HL, nameB y = true) ∧ e.From P G HL
theorem From.perm {e : Ent} {P P' G G' HL : List Str} (h : e.From P G HL) (p : P'.Perm P) (g : G'.Perm G) : e.From P' G' HL := by
  have nd : P'.Nodup → P.Nodup := fun z => p.nodup_iff.mp z
  cases e with
  | come n m gg pl k r => exact ⟨g.mem_iff.mpr h.1, p.mem_iff.mpr h.2.1, h.2.2⟩
  | go n m gg pl k => exact ⟨g.mem_iff.mpr h.1, p.mem_iff.mpr h.2.1, h.2.2⟩
  | move n m gg o t k => exact ⟨g.mem_iff.mpr h.1, p.mem_iff.mpr h.2.1, p.mem_iff.mpr h.2.2.1, fun z => h.2.2.2.1 (nd z), h.2.2.2.2⟩
  | some_ n m gg o t => exact ⟨g.mem_iff.mpr h.1, p.mem_iff.mpr h.2.1, h.2.2.imp id fun z => ⟨p.mem_iff.mpr z.1, fun q => z.2 (nd q)⟩⟩
  | swap n m o t => exact ⟨p.mem_iff.mpr h.1, p.mem_iff.mpr h.2.1, fun z => h.2.2 (nd z)⟩
  | count n m gg pl k hd => exact ⟨g.mem_iff.mpr h.1, p.mem_iff.mpr h.2.1, h.2.2⟩
  | look n m gg pl => exact ⟨g.mem_iff.mpr h.1, p.mem_iff.mpr h.2⟩
/-! the house as data -/
def dV : V → PyData
  | .str x => .str x
  | .int i => .int i
  | _ => .none
def entD (e : Ent) : PyData := .tuple (e.vals.map dV)
def houseD (P G : List Str) (es : List Ent) : PyData := .tuple [.tuple (P.map .str), .tuple (G.map .str), .tuple (es.map entD)]
theorem dp_strs {K : PySem.W.Frag} {H : Hp} : ∀ ys : List Str, DpAll K H (ys.map V.str) (ys.map PyData.str)
  | [] => .nil
  | y :: r => .cons (.str y) (dp_strs r)
theorem dp_ent {K : PySem.W.Frag} {H : Hp} {a : Addr} {e : Ent} (h : H a = some (.tup e.vals)) : Dp K H (.ref a) (entD e) := by
  refine .tup (SqT.of h) ?_
  cases e <;> (repeat' (first | exact .nil | refine .cons (.str _) ?_ | refine .cons (.int _) ?_))
theorem dp_ents {K : PySem.W.Frag} {H : Hp} {as : List Addr} {es : List Ent} (h : EntsAt H as es) : DpAll K H (as.map V.ref) (es.map entD) := by
  induction h with
  | nil => exact .nil
  | cons a _ ih => exact .cons (dp_ent a) ih
theorem HouseAt.dp {K : PySem.W.Frag} {H : Hp} {h : Addr} {P G : List Str} {es : List Ent} (x : HouseAt H h P G es) : Dp K H (.ref h) (houseD P G es) := by
  obtain ⟨hp, hg, he, tps, h1, h2, h3, h4, h5⟩ := x.ex
  exact .tup (SqT.of h1) (.cons (.tup (SqT.of h2) (dp_strs P)) (.cons (.tup (SqT.of h3) (dp_strs G)) (.cons (.tup (SqT.of h4) (dp_ents h5)) .nil)))
/-! its text isn't long -/
structure Short (d : PyData) (n k : Nat) : Prop where
  sh : d.showable = true
  nd : d.hasDict = false
  ls : d.leavesShort 13 = true
  bk : d.bulk ≤ n
  dp : d.depth ≤ k
theorem short_str {y : Str} (h : nameB y = true ∨ y = "" ∨ y ∈ words7) : Short (.str y) 8 0 := by
  have lo : y.cps.toList.all (fun c => decide (c < 16 ^ 8)) = true ∧ y.cps.size ≤ 8 := by
    rcases h with h | rfl | h
    · unfold nameB at h
      rw [Bool.and_eq_true, Bool.and_eq_true] at h
      have l8 : y.length ≤ 8 := of_decide_eq_true h.1.2
      refine ⟨List.all_eq_true.mpr fun c hc => decide_eq_true ?_, l8⟩
      have q : ∀ c ∈ abc.cps.toList, c < 16 ^ 8 := by decide +kernel
      exact q c (of_decide_eq_true (List.all_eq_true.mp h.2 c hc))
    · exact ⟨rfl, Nat.zero_le _⟩
    · simp only [words7, List.mem_cons, List.not_mem_nil, or_false] at h
      rcases h with rfl | rfl | rfl | rfl | rfl | rfl | rfl <;> exact ⟨by decide +kernel, by decide +kernel⟩
  exact ⟨rfl, rfl, lo.1, lo.2, Nat.zero_le _⟩
theorem short_int {i : Int} (h0 : 0 ≤ i) (h1 : i ≤ 1000000000) : Short (.int i) 8 0 := by
  have e : (PyData.shown (.int i)).length ≤ 13 := Nat.le_trans (toString_length_le h0 (k := 10) (by decide) (by omega)) (by decide)
  refine ⟨?_, rfl, decide_eq_true e, Nat.zero_le _, Nat.zero_le _⟩
  show decide (i.natAbs.log2 < 1920) = true
  refine decide_eq_true ?_
  by_cases z : i.natAbs = 0
  · rw [z]
    decide
  · exact Nat.lt_trans ((Nat.log2_lt z).mpr (show i.natAbs < 2 ^ 30 by omega)) (by decide)
theorem short_all {n k : Nat} : ∀ {ds : List PyData}, (∀ d ∈ ds, Short d n k) → PyData.showableAll ds = true ∧ PyData.hasDictAll ds = false ∧ PyData.leavesShortAll 13 ds = true ∧ PyData.bulkAll ds ≤ ds.length * (n + 1) ∧ PyData.depthAll ds ≤ k
  | [], _ => ⟨rfl, rfl, rfl, Nat.le_of_eq (by simp [PyData.bulkAll]), Nat.zero_le _⟩
  | d :: ds, h => by
    have h1 := h d List.mem_cons_self
    obtain ⟨a1, a2, a3, a4, a5⟩ := short_all fun x hx => h x (List.mem_cons_of_mem _ hx)
    refine ⟨?_, ?_, ?_, ?_, ?_⟩
    · rw [PyData.showableAll, h1.sh, a1]
      rfl
    · rw [PyData.hasDictAll, h1.nd, a2]
      rfl
    · rw [PyData.leavesShortAll, h1.ls, a3]
      rfl
    · rw [PyData.bulkAll, List.length_cons, Nat.succ_mul]
      have := h1.bk
      omega
    · rw [PyData.depthAll]
      exact Nat.max_le.mpr ⟨h1.dp, a5⟩
theorem short_tup {n k m : Nat} {ds : List PyData} (h : ∀ d ∈ ds, Short d n k) (l : ds.length * (n + 1) ≤ m) : Short (.tuple ds) m (k + 1) := by
  obtain ⟨a1, a2, a3, a4, a5⟩ := short_all h
  refine ⟨?_, ?_, ?_, ?_, ?_⟩
  · rw [PyData.showable]; exact a1
  · rw [PyData.hasDict]; exact a2
  · rw [PyData.leavesShort]; exact a3
  · rw [PyData.bulk]; omega
  · rw [PyData.depth]; omega
theorem Short.mono {d : PyData} {n k n' k' : Nat} (h : Short d n k) (hn : n ≤ n') (hk : k ≤ k') : Short d n' k' := ⟨h.sh, h.nd, h.ls, Nat.le_trans h.bk hn, Nat.le_trans h.dp hk⟩
theorem Short.fits {d : PyData} {n k : Nat} (h : Short d n k) (hn : n ≤ 100000) : d.shown.length ≤ sizeLine := by
  have q := PyData.shown_le_bulk 13 (by decide) d h.ls
  have := h.bk
  rw [sizeLine_eq]
  omega
theorem short_names {ys : List Str} (h : ∀ y ∈ ys, nameB y = true) (l : ys.length ≤ 31) : Short (.tuple (ys.map .str)) 300 1 := by
  refine short_tup (n := 8) (k := 0) (fun d hd => ?_) (by rw [List.length_map]; omega)
  obtain ⟨y, hy, rfl⟩ := List.mem_map.mp hd
  exact short_str (.inl (h y hy))
theorem short_ent {e : Ent} {P G HL : List Str} (nn : nameB e.name = true) (m0 : 0 ≤ e.moment) (m1 : e.moment ≤ 9999) (hP : ∀ y ∈ P, nameB y = true) (hG : ∀ y ∈ G, nameB y = true) (hH : ∀ y ∈ HL, nameB y = true) (h : e.From P G HL) : Short (entD e) 70 1 := by
  have w : ∀ {x : Str}, x ∈ words7 → Short (.str x) 8 0 := fun hx => short_str (.inr (.inr hx))
  have n : ∀ {x : Str}, nameB x = true → Short (.str x) 8 0 := fun hx => short_str (.inl hx)
  have mo : Short (.int e.moment) 8 0 := short_int m0 (by omega)
  refine short_tup (n := 8) (k := 0) (fun d hd => ?_) (by rw [List.length_map]; cases e <;> simp [Ent.vals, Ent.rest])
  obtain ⟨v, hv, rfl⟩ := List.mem_map.mp hd
  cases e with
  | come nm m g pl k r =>
    obtain ⟨h1, h2, h3, h4, h5, h6⟩ := h
    simp only [Ent.vals, Ent.rest, List.mem_cons, List.not_mem_nil, or_false] at hv
    rcases hv with rfl | rfl | rfl | rfl | rfl | rfl | rfl
    · exact w (Ent.word_in _)
    · exact n nn
    · exact mo
    · exact n (hG _ h1)
    · exact n (hP _ h2)
    · exact short_int (by omega) h4
    · exact short_int h5 h6
  | go nm m g pl k =>
    obtain ⟨h1, h2, h3, h4⟩ := h
    simp only [Ent.vals, Ent.rest, List.mem_cons, List.not_mem_nil, or_false] at hv
    rcases hv with rfl | rfl | rfl | rfl | rfl | rfl
    · exact w (Ent.word_in _)
    · exact n nn
    · exact mo
    · exact n (hG _ h1)
    · exact n (hP _ h2)
    · exact short_int (by omega) h4
  | move nm m g o t k =>
    obtain ⟨h1, h2, h3, h4, h5, h6⟩ := h
    simp only [Ent.vals, Ent.rest, List.mem_cons, List.not_mem_nil, or_false] at hv
    rcases hv with rfl | rfl | rfl | rfl | rfl | rfl | rfl
    · exact w (Ent.word_in _)
    · exact n nn
    · exact mo
    · exact n (hG _ h1)
    · exact n (hP _ h2)
    · exact n (hP _ h3)
    · exact short_int (by omega) h6
  | some_ nm m g o t =>
    obtain ⟨h1, h2, h3⟩ := h
    simp only [Ent.vals, Ent.rest, List.mem_cons, List.not_mem_nil, or_false] at hv
    rcases hv with rfl | rfl | rfl | rfl | rfl | rfl
    · exact w (Ent.word_in _)
    · exact n nn
    · exact mo
    · exact n (hG _ h1)
    · exact n (hP _ h2)
    · rcases h3 with rfl | h3
      · exact short_str (.inr (.inl rfl))
      · exact n (hP _ h3.1)
  | swap nm m o t =>
    obtain ⟨h1, h2, h3⟩ := h
    simp only [Ent.vals, Ent.rest, List.mem_cons, List.not_mem_nil, or_false] at hv
    rcases hv with rfl | rfl | rfl | rfl | rfl
    · exact w (Ent.word_in _)
    · exact n nn
    · exact mo
    · exact n (hP _ h1)
    · exact n (hP _ h2)
  | count nm m g pl k hd =>
    obtain ⟨h1, h2, h3, h4, h5⟩ := h
    simp only [Ent.vals, Ent.rest, List.mem_cons, List.not_mem_nil, or_false] at hv
    rcases hv with rfl | rfl | rfl | rfl | rfl | rfl | rfl
    · exact w (Ent.word_in _)
    · exact n nn
    · exact mo
    · exact n (hG _ h1)
    · exact n (hP _ h2)
    · exact short_int h3 h4
    · exact n (hH _ h5)
  | look nm m g pl =>
    obtain ⟨h1, h2⟩ := h
    simp only [Ent.vals, Ent.rest, List.mem_cons, List.not_mem_nil, or_false] at hv
    rcases hv with rfl | rfl | rfl | rfl | rfl
    · exact w (Ent.word_in _)
    · exact n nn
    · exact mo
    · exact n (hG _ h1)
    · exact n (hP _ h2)
theorem Good.short {P G : List Str} {es : List Ent} {m : Nat} (g : Good P G es m) (hm : m ≤ 31) : Short (houseD P G es) 10000 3 := by
  refine short_tup (n := 3000) (k := 2) (fun d hd => ?_) (by show 3 * 3001 ≤ 10000; decide)
  simp only [List.mem_cons, List.not_mem_nil, or_false] at hd
  rcases hd with rfl | rfl | rfl
  · exact (short_names g.nm (Nat.le_trans g.le (by decide))).mono (by decide) (by decide)
  · exact (short_names g.gn (Nat.le_trans g.gl (by decide))).mono (by decide) (by decide)
  · refine short_tup (n := 70) (k := 1) (fun d hd => ?_) (by rw [List.length_map, g.many]; omega)
    obtain ⟨e, he, rfl⟩ := List.mem_map.mp hd
    obtain ⟨e1, e2, e3, HL, e4, e5⟩ := g.ents e he
    exact short_ent e1 e2 e3 g.nm g.gn e4 e5
/-! ### the law's house -/
def spHouse : Sp := fun vs H Q _ => ∃ (p c : Addr) (n m : Nat), vs = [.ref p, .int m] ∧ PenAt H p c n ∧ n ≤ 900 ∧ m ≤ 30 ∧
  ∀ (h : Addr) (P G : List Str) (es : List Ent) (H' : Hp), HouseAt H' h P G es → Good P G es m → PenAt H' p c (n + 1500) → But p H H' → Q (.ref h) H'
theorem ents_pairs {H : Hp} : ∀ {pr : List (Addr × Ent)}, (∀ x ∈ pr, H x.1 = some (.tup x.2.vals)) → EntsAt H (pr.map (·.1)) (pr.map (·.2))
  | [], _ => .nil
  | x :: r, h => .cons (h x List.mem_cons_self) (ents_pairs fun y hy => h y (List.mem_cons_of_mem _ hy))
def prV (x : Addr × Ent) : V × PyData := (.ref x.1, ordD x.2)
abbrev words8 : List Str := ["come", "move", "swap", "swap", "swap", "count", "swap", "some"]
section
variable {P : Program} {w : World} {K : PySem.W.Frag} {mg : Str → Option Value} {base : Heap}
abbrev houseN : List Str := ["_law_pen_here", "_law_many_here", "_law_places", "_law_goods", "_law_hands", "_law_names_here", "_law_moments_here", "_law_entries", "_law_swaps", "_law_k", "_law_word"]
theorem scHouse : FnScope houseN ["_law_pen_here", "_law_many_here"] (defScope sHouse) := ⟨rfl, rfl, rfl, by decide +kernel, rfl, by decide +kernel, by decide +kernel⟩
set_option maxHeartbeats 4000000 in
theorem ok_house {f : Addr} {fd : FuncData} (F : Fun K "_law_house" "_law_house" sHouse f fd)
    {fT fW fM fE fO : Addr} {dT dW dM dE dO : FuncData} (T : TakeT P w K mg base fT dT)
    (W : DefT P w K mg base "_law_words" 3 fW dW ["_law_pen_here", "_law_places", "_law_goods", "_law_entries"] spWords)
    (M : DefT P w K mg base "_law_moments" 2 fM dM ["_law_pen_here", "_law_many_here"] spMoments)
    (EN : DefT P w K mg base "_law_entry_of" 3 fE dE ["_law_pen_here", "_law_word", "_law_name", "_law_moment", "_law_places", "_law_goods", "_law_hands"] spEntryOf)
    (O : DefT P w K mg base "_law_order" 1 fO dO ["_law_entry_here"] spOrd) (mr : mg "range" = none) (ms : mg "sorted" = none) (mt : mg "tuple" = none) : FnOk P w K mg base CX0 4 f fd ["_law_pen_here", "_law_many_here"] spHouse := by
  refine F.ok scHouse (fun vs H Q E h => ?_) (fun cdv A outer s H vs Q E hr h => ?_)
  · obtain ⟨p, c, n, m, rfl, _⟩ := h
    rfl
  · obtain ⟨p, c, n, m, rfl, pen, hn, hm, q⟩ := h
    have nd := scHouse.nd
    have hr1 : Room 1 _ := hr.mono (by decide)
    have hr2 : Room 2 _ := hr.mono (by decide)
    refine ⟨_, pss_cons (ps_asg (pe_call W.ok hr (by rfl) W.g W.kp W.b .nil pass0 (pa_cons (pv 0) (pa_cons (pe_op op_add pe_int (pe_call T.ok hr1 (by rfl) T.g T.kp T.b .nil pass0 (pa_cons (pv 0) (pa_cons pe_int pa_nil)))) (pa_cons (pe_op op_add pe_int (pe_call T.ok hr1 (by rfl) T.g T.kp T.b .nil pass0 (pa_cons (pv 0) (pa_cons pe_int pa_nil)))) (pa_cons (pv 1) pa_nil)))))
        (pg_tup (by rfl) (pgs_cons (pg_name (i := 2) nd rfl (Or.inl rfl)) (pgs_cons (pg_name (i := 3) nd rfl (Or.inl rfl)) (pgs_cons (pg_name (i := 4) nd rfl (Or.inl rfl)) (pgs_cons (pg_name (i := 5) nd rfl (Or.inl rfl)) pgs_nil))))))
      (pss_cons (ps_set (i := 6) nd rfl (Or.inl rfl) (pe_call M.ok hr2 (by rfl) M.g M.kp M.b .nil pass0 (pa_cons (pv 0) (pa_cons (pv 1) pa_nil))))
      (pss_cons (ps_set (i := 7) nd rfl (Or.inl rfl) (pe_lst pa_nil))
      (pss_cons (ps_set (i := 8) nd rfl (Or.inl rfl) (pe_call T.ok hr1 (by rfl) T.g T.kp T.b .nil pass0 (pa_cons (pv 0) (pa_cons pe_int pa_nil))))
      (pss_cons (ps_for PassesOwn.never rfl (pi_range1 rfl mr (pa_cons (pv 1) pa_nil)) (pg_name (i := 9) nd rfl (Or.inl rfl))
        (pss_cons (ps_set (i := 10) nd rfl (Or.inl rfl) (pe_ix ix_list (pe_lst (pa_cons pe_str (pa_cons pe_str (pa_cons pe_str (pa_cons pe_str (pa_cons pe_str (pa_cons pe_str (pa_cons pe_str (pa_cons pe_str pa_nil))))))))) (pe_call T.ok hr1 (by rfl) T.g T.kp T.b .nil pass0 (pa_cons (pv 0) (pa_cons pe_int pa_nil))) (fun _ _ => rfl)))
        (C8.pss_cut (ps_if (pt_cmpR op_eq (pv 8) pe_int (nomark _)) (pss_one (ps_set (i := 10) nd rfl (Or.inl rfl) (pe_ix ix_list (pe_lst (pa_cons pe_str (pa_cons pe_str (pa_cons pe_str (pa_cons pe_str (pa_cons pe_str (pa_cons pe_str (pa_cons pe_str pa_nil)))))))) (pe_call T.ok hr1 (by rfl) T.g T.kp T.b .nil pass0 (pa_cons (pv 0) (pa_cons pe_int pa_nil))) (fun _ _ => rfl)))) pss_nil)
        (pss_one (ps_expr (pe_bm PySem.F.plainAttrs_list PySem.F.slot_list_append PySem.F.type_list_append mt_append (pv 7)
          (pa_cons (pe_call EN.ok hr (by rfl) EN.g EN.kp EN.b .nil pass0 (pa_cons (pv 0) (pa_cons (pv 10) (pa_cons (pe_ix ix_list (pv 5) (pv 9) (fun _ _ => rfl)) (pa_cons (pe_ix ix_list (pv 6) (pv 9) (fun _ _ => rfl)) (pa_cons (pv 2) (pa_cons (pv 3) (pa_cons (pv 4) pa_nil)))))))) pa_nil)))))))
      (pss_one (ps_ret (pe_tup (pa_cons (pe_callTy call_tuple_of (by rfl) mt (by decide +kernel) (pa_cons (pe_callB cr_sortedS (by rfl) ms (by decide +kernel) (pa_cons (pv 2) pa_nil)) pa_nil))
        (pa_cons (pe_callTy call_tuple_of (by rfl) mt (by decide +kernel) (pa_cons (pe_callB cr_sortedS (by rfl) ms (by decide +kernel) (pa_cons (pv 3) pa_nil)) pa_nil))
        (pa_cons (pe_callTy call_tuple_of (by rfl) mt (by decide +kernel) (pa_cons (pe_callBK (cr_sortK O.ok hr O.b) (by rfl) ms (by decide +kernel) (pa_cons (pv 7) pa_nil) (pk_cons (pe_glob (v := .ref fO) (by rfl) O.g rfl) pk_nil)) pa_nil)) pa_nil)))))))))), ?_⟩
    refine ⟨_, rfl, _, rfl, p, c, n, 6, rfl, pen, by omega, by decide, by decide, fun r1 H2 b1 d1 pen2 bt2 => ?_⟩
    refine ⟨1, r1, rfl, rfl, _, rfl, p, c, n + 1, 3, rfl, pen2, by omega, by decide, by decide, fun r2 H3 b2 d2 pen3 bt3 => ?_⟩
    refine ⟨1, r2, rfl, rfl, _, rfl, p, c, n + 2, (1 + r1).toNat, (1 + r2).toNat, m, ?_, pen3, by omega, by omega, by omega, by omega, fun tp l1 l2 l3 l4 PL GL HL EL H4 ntp ht h1 h2 h3 h4 n1 n2 n3 n4 pen4 bt4 => ?_⟩
    · rw [Int.toNat_of_nonneg (by omega), Int.toNat_of_nonneg (by omega)]
      rfl
    refine ⟨tp, _, rfl, SqT.of ht, rfl, _, _, rfl, _, _, rfl, _, _, rfl, _, _, rfl, rfl, ?_⟩
    refine ⟨_, rfl, _, rfl, p, c, n + 52, m, rfl, pen4, by omega, by omega, fun l5 mos H5 nl5 h5 lm bm pen5 bt5 => ?_⟩
    refine ⟨Nat.zero_le _, fun D nD => ?_⟩
    have sD := @same_new _ _ (.lst []) nD
    refine ⟨_, rfl, p, c, n + 152, 2, rfl, pen5.same sD, by omega, by decide, by decide, fun r3 H6 b3 d3 pen6 bt6 => ?_⟩
    have k1 := pen_strs pen4 bt5 h1
    have k2 := pen_strs pen4 bt5 h2
    have k3 := pen_strs pen4 bt5 h3
    have k4 := pen_strs pen4 bt5 h4
    have z1 : PL.length = (1 + r1).toNat := n1.len
    have z2 : GL.length = (1 + r2).toNat := n2.len
    have z3 : HL.length = 3 := n3.len
    have z4 : EL.length = m := n4.len
    have nDp : D ≠ p := fun z => pen5.there (z ▸ nD)
    have nDc : D ≠ c := fun z => pen5.cells (z ▸ nD)
    have d1' : l1 ≠ D := ne_of_none k1 nD
    have d2' : l2 ≠ D := ne_of_none k2 nD
    have d3' : l3 ≠ D := ne_of_none k3 nD
    have d4' : l4 ≠ D := ne_of_none k4 nD
    have d5' : l5 ≠ D := ne_of_none h5 nD
    have np5 : ∀ {H' : Hp} {n : Nat} {l : Addr} {xs : List V}, PenAt H' p c n → H' l = some (.lst xs) → l ≠ p := fun pen h => by
      obtain ⟨kvs, ns', a', x', g1, _⟩ := pen.ex
      exact ne_of h g1 (by intro z; cases z)
    have pD := pen5.same sD
    have bt0 : But p H H6 := bt2.tr (bt3.tr (bt4.tr (bt5.tr ((But.of sD).tr bt6))))
    have hDn : H D = none := by
      cases e : H D with
      | none => rfl
      | some o =>
        have := (bt2.tr (bt3.tr (bt4.tr bt5))) D o e nDp
        rw [nD] at this
        cases this
    refine ⟨_, rfl, m, rfl, by omega, by omega, for_range (lo := 0) (n := m) (fun j σ H' => ∃ y9 y10, ∃ pr : List (Addr × Ent), σ = [some (.ref p), some (.int m), some (.ref l1), some (.ref l2), some (.ref l3), some (.ref l4), some (.ref l5), some (.ref D), some (.int r3), y9, y10] ∧
        PenAt H' p c (n + 153 + 30 * j) ∧ But p H H' ∧ StrsAt H' l1 PL ∧ StrsAt H' l2 GL ∧ StrsAt H' l3 HL ∧ StrsAt H' l4 EL ∧ H' l5 = some (.lst (mos.map V.int)) ∧ pr.length = j ∧ H' D = some (.lst (pr.map fun x => V.ref x.1)) ∧
        ∀ x ∈ pr, H' x.1 = some (.tup x.2.vals) ∧ nameB x.2.name = true ∧ 0 ≤ x.2.moment ∧ x.2.moment ≤ 9999 ∧ x.2.From PL GL HL)
      ⟨_, _, [], rfl, pen6, bt0, bt6 _ _ (sD _ _ k1) (np5 pD (sD _ _ k1)), bt6 _ _ (sD _ _ k2) (np5 pD (sD _ _ k2)), bt6 _ _ (sD _ _ k3) (np5 pD (sD _ _ k3)), bt6 _ _ (sD _ _ k4) (np5 pD (sD _ _ k4)), bt6 _ _ (sD _ _ h5) (np5 pD (sD _ _ h5)), rfl, bt6 _ _ upd_same nDp, fun y hy => nomatch hy⟩ ?_ ?_⟩
    · rintro j σ H7 hj ⟨y9, y10, pr, rfl, pen7, bt7, g1, g2, g3, g4, g5, gl, gD, gE⟩
      refine ⟨(by show 8 ≤ sizeLine; decide), fun l nl => ?_⟩
      have sl := @same_new _ _ (.lst (words8.map V.str)) nl
      refine ⟨_, rfl, p, c, _, 8, rfl, pen7.same sl, by omega, by decide, by decide, fun r8 H8 a8 b8 pen8 bt8 => ?_⟩
      have nlp : l ≠ p := fun z => pen7.there (z ▸ nl)
      obtain ⟨wd, hw, _, hw3⟩ := at_strs (ys := words8) (r := r8) a8 b8
      have hw7 : wd ∈ words7 := by
        have sub : ∀ x ∈ words8, x ∈ words7 := by decide +kernel
        exact sub wd hw3
      refine ⟨l, _, _, _, rfl, rfl, SqL.of (bt8 l _ upd_same nlp), hw, ?_⟩
      have bt78 : But p H7 H8 := (But.of sl).tr bt8
      -- the word
      refine ⟨fun σ' H' => ∃ wd : Str, wd ∈ words7 ∧ σ' = [some (.ref p), some (.int m), some (.ref l1), some (.ref l2), some (.ref l3), some (.ref l4), some (.ref l5), some (.ref D), some (.int r3), some (.int (0 + (j : Int))), some (.str wd)] ∧ PenAt H' p c (n + 153 + 30 * j + 2) ∧ But p H7 H', ?_, ?_⟩
      · refine ⟨_, rfl, rfl, _, rfl, ite2 (fun e => ?_) (fun e => ?_)⟩
        · refine ⟨(by show 7 ≤ sizeLine; decide), fun l' nl' => ?_⟩
          have sl' := @same_new _ _ (.lst (words7.map V.str)) nl'
          have nlp' : l' ≠ p := fun z => pen8.there (z ▸ nl')
          refine ⟨_, rfl, p, c, _, 7, rfl, pen8.same sl', by omega, by decide, by decide, fun r9 H9 a9 b9 pen9 bt9 => ?_⟩
          obtain ⟨wd', hw', _, hw3'⟩ := at_strs (ys := words7) (r := r9) a9 b9
          exact ⟨l', _, _, _, rfl, rfl, SqL.of (bt9 l' _ upd_same nlp'), hw', wd', hw3', rfl, pen9, bt78.tr ((But.of sl').tr bt9)⟩
        · exact ⟨wd, hw7, rfl, pen8.mono (by omega), bt78⟩
      · rintro σ' H9 ⟨wd', hwd, rfl, pen9, bt9⟩
        have e1 := bt9 _ _ g1 (np5 pen7 g1)
        have e2 := bt9 _ _ g2 (np5 pen7 g2)
        have e3 := bt9 _ _ g3 (np5 pen7 g3)
        have e4 := bt9 _ _ g4 (np5 pen7 g4)
        have e5 := bt9 _ _ g5 (np5 pen7 g5)
        have eD := bt9 _ _ gD nDp
        obtain ⟨nme, hn1, _, hn3⟩ := at_strs (ys := EL) (r := 0 + (j : Int)) (by omega) (by omega)
        obtain ⟨mo, hm1, hm2⟩ := at_ints (ns := mos) (r := 0 + (j : Int)) (by omega) (by omega)
        refine ⟨_, rfl, .inl ⟨rfl, _, SqL.of eD⟩, _, rfl, _, rfl, _, rfl, _, rfl, l4, _, _, _, rfl, rfl, SqL.of e4, hn1, _, rfl, _, rfl, l5, _, _, _, rfl, rfl, SqL.of e5, hm1, _, rfl, _, rfl, _, rfl, p, c, _, wd', nme, mo, l1, l2, l3, PL, GL, HL, rfl, pen9, by omega, hwd, e1, e2, e3,
          (fun z => by subst z; simp at z1; omega), (fun z => by subst z; simp at z2; omega), (fun z => by subst z; simp at z3), by omega, by omega, by omega, fun te e H10 nte hte en em ef pen10 bt10 => ?_⟩
        have btA := bt9.tr bt10
        have gD10 := bt10 D _ eD nDp
        have nteD : te ≠ D := fun z => by
          subst z
          exact nomatch eD.symm.trans nte
        have neD : ∀ x ∈ pr, x.1 ≠ D := fun x hx z => by
          have he' := (gE x hx).1
          rw [z, gD] at he'
          cases he'
        refine ⟨D, _, _, rfl, rfl, gD10, (by rw [List.length_map]; exact small1000 (by omega)), ⟨_, _, pr ++ [(te, e)], rfl, (pen10.mono (by omega)).upd nDp nDc, fun b o eb nb => (upd_ne (ne_of_none eb hDn)).trans ((bt7.tr btA) b o eb nb),
          (upd_ne d1').trans (btA _ _ g1 (np5 pen7 g1)), (upd_ne d2').trans (btA _ _ g2 (np5 pen7 g2)), (upd_ne d3').trans (btA _ _ g3 (np5 pen7 g3)), (upd_ne d4').trans (btA _ _ g4 (np5 pen7 g4)), (upd_ne d5').trans (btA _ _ g5 (np5 pen7 g5)), by simp [gl], ?_, ?_⟩⟩
        · rw [upd_same, List.map_append]
          rfl
        · intro x hx
          rcases List.mem_append.mp hx with h | h
          · obtain ⟨he', r'⟩ := gE x h
            have nxp : x.1 ≠ p := by
              obtain ⟨kvs, ns', a', x', gg, _⟩ := pen7.ex
              exact ne_of he' gg (by intro z; cases z)
            exact ⟨(upd_ne (neD x h)).trans (btA x.1 _ he' nxp), r'⟩
          · rw [List.mem_singleton.mp h]
            exact ⟨(upd_ne nteD).trans hte, en ▸ n4.names (by omega) nme hn3, em ▸ (bm mo hm2).1, em ▸ (bm mo hm2).2, ef⟩
    · rintro σ H7 ⟨y9, y10, pr, rfl, pen7, bt7, g1, g2, g3, g4, g5, gl, gD, gE⟩
      refine ⟨_, rfl, l1, PL, rfl, SqL.of g1, by omega, fun P1 a1 pm1 so1 na1 => ⟨a1, _, rfl, .inl ⟨SqL.of upd_same, fun t1 nt1 => ?_⟩⟩⟩
      have s1 : Same H7 (upd (upd H7 a1 (.lst (P1.map V.str))) t1 (.tup (P1.map V.str))) := (same_new na1).trans (same_new nt1)
      have hp1 : (upd (upd H7 a1 (.lst (P1.map V.str))) t1 (.tup (P1.map V.str))) t1 = some (.tup (P1.map V.str)) := upd_same
      generalize upd (upd H7 a1 (.lst (P1.map V.str))) t1 (.tup (P1.map V.str)) = H8 at s1 hp1
      refine ⟨_, rfl, l2, GL, rfl, SqL.of (s1 _ _ g2), by omega, fun G1 a2 pm2 so2 na2 => ⟨a2, _, rfl, .inl ⟨SqL.of upd_same, fun t2 nt2 => ?_⟩⟩⟩
      have s2 : Same H8 (upd (upd H8 a2 (.lst (G1.map V.str))) t2 (.tup (G1.map V.str))) := (same_new na2).trans (same_new nt2)
      have hp2 : (upd (upd H8 a2 (.lst (G1.map V.str))) t2 (.tup (G1.map V.str))) t2 = some (.tup (G1.map V.str)) := upd_same
      generalize upd (upd H8 a2 (.lst (G1.map V.str))) t2 (.tup (G1.map V.str)) = H9 at s2 hp2
      have s12 := s1.trans s2
      have eD : H9 D = some (.lst (((pr.map prV).map (·.1)))) := by
        rw [s12 _ _ gD, List.map_map]
        rfl
      refine ⟨_, rfl, D, pr.map prV, rfl, rfl, SqL.of eD, ?_, .inl ?_, ?_, ?_, fun a3 H10 na3 s3 h3 => ⟨a3, _, rfl, .inl ⟨SqL.of h3, fun t3 nt3 => ?_⟩⟩⟩
      · intro d hd d' hd'
        rw [List.map_map] at hd hd'
        obtain ⟨x, _, rfl⟩ := List.mem_map.mp hd
        obtain ⟨y, _, rfl⟩ := List.mem_map.mp hd'
        exact ord_alike x.2 y.2
      · intro d hd
        rw [List.map_map] at hd
        obtain ⟨x, _, rfl⟩ := List.mem_map.mp hd
        exact ⟨_, _, rfl⟩
      · intro e he
        obtain ⟨x, _, rfl⟩ := List.mem_map.mp he
        show 1 ≤ 60
        decide
      · intro e he H1 sm Q1 hq
        obtain ⟨x, hx, rfl⟩ := List.mem_map.mp he
        exact ⟨x.1, x.2, rfl, sm _ _ (s12 _ _ (gE x hx).1), fun tp H2 sm2 h2 => hq _ _ sm2 (ord_dp h2)⟩
      · -- the sorted entries
        have key : keyed (pr.map prV) = (pr.mergeSort fun a b => PySem.W.dataLe false (fun e : V × PyData => e.2) (prV a) (prV b)).map prV := (List.map_mergeSort (f := prV) (s := PySem.W.dataLe false fun e : V × PyData => e.2) (r := fun a b => PySem.W.dataLe false (fun e : V × PyData => e.2) (prV a) (prV b)) (l := pr) fun a _ b _ => rfl).symm
        have pm3 : (pr.mergeSort fun a b => PySem.W.dataLe false (fun e : V × PyData => e.2) (prV a) (prV b)).Perm pr := List.mergeSort_perm _ _
        rw [key]
        generalize (pr.mergeSort fun a b => PySem.W.dataLe false (fun e : V × PyData => e.2) (prV a) (prV b)) = qr at pm3 ⊢
        have s4 : Same H10 (upd H10 t3 (.tup ((qr.map prV).map (·.1)))) := same_new nt3
        have e4 : (upd H10 t3 (.tup ((qr.map prV).map (·.1)))) t3 = some (.tup ((qr.map prV).map (·.1))) := upd_same
        generalize upd H10 t3 (.tup ((qr.map prV).map (·.1))) = H11 at s4 e4
        have sA := s12.trans (s3.trans s4)
        refine ⟨(by show 3 ≤ sizeLine; decide), fun h nh => ?_⟩
        have s5 := @same_new _ _ (.tup [V.ref t1, .ref t2, .ref t3]) nh
        refine q h P1 G1 (qr.map (·.2)) _ ⟨t1, t2, t3, qr.map (·.1), upd_same, s5 _ _ (s4 _ _ (s3 _ _ (s2 _ _ hp1))), s5 _ _ (s4 _ _ (s3 _ _ hp2)), ?_, ents_pairs fun x hx => s5 _ _ (sA _ _ (gE x (pm3.mem_iff.mp hx)).1)⟩
          ⟨?_, ?_, ?_, ?_, ?_, ?_, ?_, ?_, ?_, ?_⟩ ((pen7.mono (by omega)).same (sA.trans s5)) (bt7.tr (.of (sA.trans s5)))
        · rw [s5 _ _ e4, List.map_map, List.map_map]
          rfl
        · exact pm1.nodup_iff.mpr (n1.nodup (by omega))
        · intro z
          have := pm1.length_eq
          rw [z, List.length_nil] at this
          omega
        · rw [pm1.length_eq]
          omega
        · intro y hy
          exact n1.names (by omega) y (pm1.mem_iff.mp hy)
        · intro z
          have := pm2.length_eq
          rw [z, List.length_nil] at this
          omega
        · rw [pm2.length_eq]
          omega
        · intro y hy
          exact n2.names (by omega) y (pm2.mem_iff.mp hy)
        · exact pm2.nodup_iff.mpr (n2.nodup (by omega))
        · rw [List.length_map, pm3.length_eq, gl]
        · intro e he
          obtain ⟨x, hx, rfl⟩ := List.mem_map.mp he
          obtain ⟨_, i1, i2, i3, i4⟩ := gE x (pm3.mem_iff.mp hx)
          exact ⟨i1, i2, i3, HL, n3.names (by omega), From.perm i4 pm1 pm2⟩
end
/-! ### tracks -/
def swp (o t x : Str) : Str := if x = o then t else if x = t then o else x
theorem swp_swp (o t x : Str) : swp o t (swp o t x) = x := by
  unfold swp
  by_cases h1 : x = o
  · rw [if_pos h1]
    by_cases h2 : t = o
    · rw [if_pos h2, h2, h1]
    · rw [if_neg h2, if_pos rfl, h1]
  · rw [if_neg h1]
    by_cases h2 : x = t
    · rw [if_pos h2, if_pos rfl, h2]
    · rw [if_neg h2, if_neg h1, if_neg h2]
def swE : Ent → Str → Str
  | .swap _ _ o t => swp o t
  | _ => id
theorem swE_swE (e : Ent) (x : Str) : swE e (swE e x) = x := by
  cases e with
  | swap n m o t => exact swp_swp o t x
  | _ => rfl
def tau (es : List Ent) : Str → Str := es.foldl (fun τ e x => τ (swE e x)) id
def dlt (es : List Ent) : Str → Str := es.foldl (fun δ e x => swE e (δ x)) id
theorem tau_snoc (es : List Ent) (e : Ent) : tau (es ++ [e]) = fun x => tau es (swE e x) := by
  unfold tau
  rw [List.foldl_append]
  rfl
theorem dlt_snoc (es : List Ent) (e : Ent) : dlt (es ++ [e]) = fun x => swE e (dlt es x) := by
  unfold dlt
  rw [List.foldl_append]
  rfl
theorem take_snoc {α : Type} {l : List α} {i : Nat} {x : α} (h : l[i]? = some x) : l.take (i + 1) = l.take i ++ [x] := by
  rw [List.take_add_one, h]
  rfl
theorem td_n (es : List Ent) : ∀ n, n ≤ es.length → ∀ x, tau (es.take n) (dlt (es.take n) x) = x ∧ dlt (es.take n) (tau (es.take n) x) = x
  | 0, _, x => ⟨rfl, rfl⟩
  | n + 1, h, x => by
    have e : es[n]? = some es[n] := List.getElem?_eq_getElem (by omega)
    rw [take_snoc e, tau_snoc, dlt_snoc]
    have ih := td_n es n (by omega)
    refine ⟨?_, ?_⟩
    · show tau (es.take n) (swE _ (swE _ (dlt (es.take n) x))) = x
      rw [swE_swE]
      exact (ih x).1
    · show swE _ (dlt (es.take n) (tau (es.take n) (swE _ x))) = x
      rw [(ih _).2, swE_swE]
theorem swE_in {P : List Str} {e : Ent} {G HL : List Str} (h : e.From P G HL) {x : Str} (hx : x ∈ P) : swE e x ∈ P := by
  cases e with
  | swap n m o t =>
    show swp o t x ∈ P
    unfold swp
    split
    · exact h.2.1
    · split
      · exact h.1
      · exact hx
  | _ => exact hx
theorem in_n {P : List Str} {es : List Ent} (h : ∀ e ∈ es, ∀ x ∈ P, swE e x ∈ P) : ∀ n, n ≤ es.length → ∀ x ∈ P, tau (es.take n) x ∈ P ∧ dlt (es.take n) x ∈ P
  | 0, _, x, hx => ⟨hx, hx⟩
  | n + 1, hn, x, hx => by
    have e : es[n]? = some es[n] := List.getElem?_eq_getElem (by omega)
    have ih := in_n h n (by omega)
    rw [take_snoc e, tau_snoc, dlt_snoc]
    have me : es[n] ∈ es := List.getElem_mem _
    exact ⟨(ih _ (h _ me x hx)).1, h _ me _ (ih x hx).2⟩
/-! dicts from places to texts -/
def kvT (P : List Str) (τ : Str → Str) : List (Key × V) := P.map fun p => ((Sum.inr p : Key), V.str (τ p))
theorem valV_kvT {P : List Str} {τ : Str → Str} {x : Str} (h : x ∈ P) : valV (kvT P τ) (Sum.inr x) = some (.str (τ x)) := by
  induction P with
  | nil => cases h
  | cons p r ih =>
    unfold valV kvT
    rw [List.map_cons, List.find?_cons]
    by_cases e : p = x
    · rw [decide_eq_true (congrArg Sum.inr e), e]
      rfl
    · rw [decide_eq_false fun z => e (Sum.inr.inj z)]
      rcases List.mem_cons.mp h with z | z
      · exact absurd z.symm e
      · exact ih z
theorem any_kvT {P : List Str} {τ : Str → Str} {x : Str} : ((kvT P τ).any fun kv => decide (kv.1 = (Sum.inr x : Key))) = decide (x ∈ P) := by
  unfold kvT
  rw [List.any_map]
  by_cases h : x ∈ P
  · rw [decide_eq_true h]
    exact List.any_eq_true.mpr ⟨x, h, decide_eq_true rfl⟩
  · rw [decide_eq_false h]
    rw [List.any_eq_false]
    intro p hp z
    exact h (Sum.inr.inj (of_decide_eq_true z) ▸ hp)
theorem put_in {P : List Str} {τ : Str → Str} {x y : Str} (h : x ∈ P) : putK (kvT P τ) (Sum.inr x) (.str y) = kvT P fun z => if z = x then y else τ z := by
  unfold putK
  rw [any_kvT, decide_eq_true h, if_pos rfl]
  unfold kvT
  rw [List.map_map]
  refine List.map_congr_left fun p _ => ?_
  show (if (Sum.inr p : Key) = Sum.inr x then ((Sum.inr p : Key), V.str y) else (Sum.inr p, V.str (τ p))) = (Sum.inr p, V.str (if p = x then y else τ p))
  by_cases e : p = x
  · rw [if_pos (congrArg Sum.inr e), if_pos e]
  · rw [if_neg fun z => e (Sum.inr.inj z), if_neg e]
theorem put_new {P : List Str} {τ : Str → Str} {x : Str} (h : x ∉ P) : putK (kvT P τ) (Sum.inr x) (.str (τ x)) = kvT (P ++ [x]) τ := by
  unfold putK
  rw [any_kvT, decide_eq_false h, if_neg (by decide)]
  unfold kvT
  rw [List.map_append]
  rfl
theorem merge_kvT {τ : Str → Str} : ∀ {R P : List Str}, (P ++ R).Nodup → mergeK (kvT P τ) (kvT R τ) = kvT (P ++ R) τ
  | [], P, _ => by
    rw [List.append_nil]
    rfl
  | x :: R, P, h => by
    show mergeK (putK (kvT P τ) (Sum.inr x) (.str (τ x))) (kvT R τ) = _
    have nx : x ∉ P := fun z => (List.nodup_append.mp h).2.2 x z x List.mem_cons_self rfl
    rw [put_new nx, merge_kvT (by rw [List.append_assoc]; exact h), List.append_assoc]
    rfl
theorem merge0 {P : List Str} {τ : Str → Str} (h : P.Nodup) : mergeK [] (kvT P τ) = kvT P τ := merge_kvT (P := []) h
theorem merge2 {P : List Str} {τ : Str → Str} {o t : Str} (ho : o ∈ P) (ht : t ∈ P) (ne : o ≠ t) (h : P.Nodup) :
    mergeK (mergeK [] (kvT P τ)) (mergeK [] [((Sum.inr o : Key), V.str (τ t)), (Sum.inr t, .str (τ o))]) = kvT P fun x => τ (swp o t x) := by
  have e : mergeK [] [((Sum.inr o : Key), V.str (τ t)), (Sum.inr t, .str (τ o))] = [((Sum.inr o : Key), V.str (τ t)), (Sum.inr t, .str (τ o))] := by
    show putK [((Sum.inr o : Key), V.str (τ t))] (Sum.inr t) (.str (τ o)) = _
    unfold putK
    rw [List.any_cons, List.any_nil, decide_eq_false fun z => ne (Sum.inr.inj z)]
    rfl
  rw [e, merge0 h]
  show putK (putK (kvT P τ) (Sum.inr o) (.str (τ t))) (Sum.inr t) (.str (τ o)) = _
  rw [put_in ho, put_in ht]
  unfold kvT
  refine List.map_congr_left fun p _ => ?_
  show (_, V.str (if p = t then τ o else if p = o then τ t else τ p)) = (_, V.str (τ (swp o t p)))
  unfold swp
  by_cases h1 : p = o
  · rw [if_neg (fun z => ne (h1.symm.trans z)), if_pos h1, if_pos h1]
  · by_cases h2 : p = t
    · rw [if_pos h2, if_neg h1, if_pos h2]
    · rw [if_neg h2, if_neg h1, if_neg h1, if_neg h2]
theorem len_kvT (P : List Str) (τ : Str → Str) : (kvT P τ).length = P.length := List.length_map ..
theorem dc_keys {d : Addr} {od : Obj} {kvs : List (Key × V)} {g : TG} {tt : TT} {tk tv : TE} {vs : List Nat} {σ : L2.St} {H1 : Hp} {D : Addr} {Qd : Hp → Prop} (Pv : Nat → Hp → Prop) (h0 : Pv 0 (upd H1 D (.dK []))) (hl : ∀ i H, Pv i H → H d = some (.frz od (.dK kvs)))
    (hs : ∀ i k v H, kvs[i]? = some (k, v) → Pv i H → g (kV k) (wipe σ vs) H fun σ2 H2 => wipe σ2 vs = wipe σ vs ∧ tt σ2 H2 fun b H3 =>
      if b = true then tk σ2 H3 fun y H4 => tv σ2 H4 fun z H5 => ∃ kvs k, y = kV k ∧ H5 D = some (.dK kvs) ∧ kvs.length < sizeLine ∧ Pv (i + 1) (upd H5 D (.dK (putK kvs k z))) else Pv (i + 1) H3) (hd : ∀ H, Pv kvs.length H → Qd H) :
    ∃ W : Nat → Nat → Hp → Prop, (∃ m, W 0 m (upd H1 D (.dK []))) ∧ ∀ i m H, W i m H →
      ((Itk d od kvs).stop i H ∧ Qd H) ∨ ((Itk d od kvs).go i H ∧ ∃ Nx : Hp → Prop, (∀ H', Nx H' → ∃ m', m' < m ∧ W (i + 1) m' H') ∧ ∀ x H', (Itk d od kvs).yld i H x H' → g x (wipe σ vs) H' fun σ2 H2 => wipe σ2 vs = wipe σ vs ∧ tt σ2 H2 fun b H3 =>
        if b = true then tk σ2 H3 fun y H4 => tv σ2 H4 fun z H5 => ∃ kvs k, y = kV k ∧ H5 D = some (.dK kvs) ∧ kvs.length < sizeLine ∧ Nx (upd H5 D (.dK (putK kvs k z))) else Nx H3) := by
  refine ⟨fun i m H => m = kvs.length - i ∧ i ≤ kvs.length ∧ Pv i H, ⟨kvs.length, rfl, Nat.zero_le _, h0⟩, ?_⟩
  rintro i m H ⟨rfl, hi, p⟩
  have q := hl i H p
  by_cases lt : i < kvs.length
  · refine .inr ⟨⟨q, lt⟩, Pv (i + 1), fun H' p' => ⟨kvs.length - (i + 1), by omega, rfl, lt, p'⟩, ?_⟩
    rintro x H' ⟨rfl, k, v, e, rfl⟩
    exact hs i k v _ e p
  · obtain rfl : i = kvs.length := by omega
    exact .inl ⟨⟨q, Nat.le_refl _⟩, hd H p⟩
/-- which swaps are of the house -/
abbrev SwOk (P : List Str) (e : Ent) : Prop := ∀ n m o t, e = .swap n m o t → o ∈ P ∧ t ∈ P ∧ o ≠ t
theorem Good.sw {P G : List Str} {es : List Ent} {m : Nat} (g : Good P G es m) {e : Ent} (he : e ∈ es) : SwOk P e := fun n mo o t z => by
  subst z
  obtain ⟨_, _, _, HL, _, f⟩ := g.ents _ he
  exact ⟨f.1, f.2.1, f.2.2 g.nd⟩
theorem Good.inn {P G : List Str} {es : List Ent} {m : Nat} (g : Good P G es m) : ∀ e ∈ es, ∀ x ∈ P, swE e x ∈ P := fun e he x hx => by
  obtain ⟨_, _, _, HL, _, f⟩ := g.ents e he
  exact swE_in f hx
theorem sw_ent {e : Ent} (h : e.word = "swap") : ∃ n m o t, e = .swap n m o t := by
  cases e with
  | come n m g p k r => exact absurd h (show ("come" : Str) ≠ "swap" by decide +kernel)
  | go n m g p k => exact absurd h (show ("go" : Str) ≠ "swap" by decide +kernel)
  | move n m g o t k => exact absurd h (show ("move" : Str) ≠ "swap" by decide +kernel)
  | some_ n m g o t => exact absurd h (show ("some" : Str) ≠ "swap" by decide +kernel)
  | swap n m o t => exact ⟨n, m, o, t, rfl⟩
  | count n m g p k hd => exact absurd h (show ("count" : Str) ≠ "swap" by decide +kernel)
  | look n m g p => exact absurd h (show ("look" : Str) ≠ "swap" by decide +kernel)
def spFirst : Sp := fun vs H Q _ => ∃ (h : Addr) (P G : List Str) (es : List Ent) (m : Nat), vs = [.ref h] ∧ HouseAt H h P G es ∧ Good P G es m ∧ ∀ (d : Addr) (H' : Hp), Same H H' → H' d = some (.dK (kvT P id)) → Q (.ref d) H'
def spExch : Sp := fun vs H Q _ => ∃ (d a : Addr) (P : List Str) (τ : Str → Str) (e : Ent), vs = [.ref d, .ref a] ∧ H d = some (.dK (kvT P τ)) ∧ H a = some (.tup e.vals) ∧ SwOk P e ∧ P.Nodup ∧ P.length ≤ 6 ∧
  ∀ (d' : Addr) (H' : Hp), Same H H' → H' d' = some (.dK (kvT P fun x => τ (swE e x))) → Q (.ref d') H'
def spBehind : Sp := fun vs H Q _ => ∃ (h : Addr) (P G : List Str) (es : List Ent) (m k : Nat), vs = [.ref h, .int k] ∧ HouseAt H h P G es ∧ Good P G es m ∧ k ≤ m ∧ m ≤ 30 ∧ ∀ (d : Addr) (H' : Hp), Same H H' → H' d = some (.dK (kvT P (tau (es.take k)))) → Q (.ref d) H'
def spTrackAt : Sp := fun vs H Q _ => ∃ (h : Addr) (P G : List Str) (es : List Ent) (m k : Nat) (x : Str), vs = [.ref h, .str x, .int k] ∧ HouseAt H h P G es ∧ Good P G es m ∧ k ≤ m ∧ m ≤ 30 ∧ x ∈ P ∧ ∀ H', Same H H' → Q (.str (tau (es.take k) x)) H'
def spPlaceOf : Sp := fun vs H Q _ => ∃ (h : Addr) (P G : List Str) (es : List Ent) (m k : Nat) (x : Str), vs = [.ref h, .str x, .int k] ∧ HouseAt H h P G es ∧ Good P G es m ∧ k ≤ m ∧ m ≤ 30 ∧ x ∈ P ∧ ∀ H', Same H H' → Q (.str (dlt (es.take k) x)) H'
section
variable {P : Program} {w : World} {K : PySem.W.Frag} {mg : Str → Option Value} {base : Heap}
theorem scFirst : FnScope ["house", "place"] ["house"] (defScope sFirst) := ⟨rfl, rfl, rfl, by decide +kernel, rfl, by decide +kernel, by decide +kernel⟩
theorem scExch : FnScope ["there", "entry", "one", "other"] ["there", "entry"] (defScope sExch) := ⟨rfl, rfl, rfl, by decide +kernel, rfl, by decide +kernel, by decide +kernel⟩
theorem scBehind : FnScope ["house", "at", "there", "entry"] ["house", "at"] (defScope sBehind) := ⟨rfl, rfl, rfl, by decide +kernel, rfl, by decide +kernel, by decide +kernel⟩
theorem scTrackAt : FnScope ["house", "place", "at"] ["house", "place", "at"] (defScope sTrackAt) := ⟨rfl, rfl, rfl, by decide +kernel, rfl, by decide +kernel, by decide +kernel⟩
theorem scPlaceOf : FnScope ["house", "track", "at", "there", "place"] ["house", "track", "at"] (defScope sPlaceOf) := ⟨rfl, rfl, rfl, by decide +kernel, rfl, by decide +kernel, by decide +kernel⟩
theorem ok_first {f : Addr} {fd : FuncData} (F : Fun K "tracks_at_first" "tracks_at_first" sFirst f fd) : FnOk P w K mg base CX0 1 f fd ["house"] spFirst := by
  refine F.ok scFirst (fun vs H Q E h => ?_) (fun cdv A outer s H vs Q E hr h => ?_)
  · obtain ⟨h, PL, G, es, m, rfl, _⟩ := h
    rfl
  · obtain ⟨h, PL, G, es, m, rfl, ho, gd, q⟩ := h
    obtain ⟨hp, hg, he, tps, h1, h2, h3, h4, h5⟩ := ho.ex
    have nd := scFirst.nd
    refine ⟨_, pss_one (ps_ret (pe_dc (own := [("place", 1)]) (g := gName 1) (tt := tYes) (tk := tVar 1) (tv := tVar 1) rfl nd (pi_tup (pe_ix ix_tup (pv 0) pe_int (fun _ _ => rfl)))
      (blkOk_by (N := ["house", "place"]) (sc := defScope sFirst) (by decide +kernel)) (fun _ _ _ _ _ => pg_name (i := 1) nd rfl (Or.inl rfl)) (fun _ _ _ _ _ => pts_nil) (fun _ _ _ _ _ => pv 1) (fun _ _ _ _ _ => pv 1))), ?_⟩
    refine ⟨_, rfl, h, _, 0, _, rfl, rfl, SqT.of h1, atI_nat (j := 0) rfl, hp, rfl, ⟨_, SqT.of h2⟩, fun D nD => ?_⟩
    refine dc_tup (K := K) (a := hp) (xs := PL.map V.str) (fun i H' => Same H H' ∧ H' D = some (.dK (kvT (PL.take i) id))) ⟨same_new nD, upd_same⟩ (fun i H' _ z => SqT.of (z.1 _ _ h2)) ?_ ?_
    · rintro i x H' hx ⟨sm, hD⟩
      rw [List.getElem?_map] at hx
      obtain ⟨y, hy, rfl⟩ := Option.map_eq_some_iff.mp hx
      have lt : i < PL.length := (List.getElem?_eq_some_iff.mp hy).1
      refine ⟨rfl, yesT ⟨_, rfl, _, rfl, _, Sum.inr y, rfl, hD, ?_, fun b o e => (upd_ne (ne_of_none e nD)).trans (sm b o e), ?_⟩⟩
      · rw [len_kvT, List.length_take]
        exact small1000 (by have := gd.le; omega)
      · rw [upd_same, take_snoc hy]
        have nx : y ∉ PL.take i := fun z => by
          have q := gd.nd
          rw [← List.take_append_drop i PL, List.nodup_append] at q
          refine q.2.2 y z y ?_ rfl
          rw [List.drop_eq_getElem_cons lt]
          rw [List.getElem?_eq_getElem lt] at hy
          rw [Option.some.inj hy]
          exact List.mem_cons_self
        exact congrArg (fun z => some (HO.dK z)) (put_new (τ := id) nx)
    · rintro H' ⟨sm, hD⟩
      refine q D H' sm ?_
      rw [hD, List.length_map, List.take_length]
theorem ok_exch {f fP : Addr} {fd dP : FuncData} (F : Fun K "exchanged" "exchanged" sExch f fd) (PO : DefT P w K mg base "places_of" 1 fP dP ["entry"] spPlaces) : FnOk P w K mg base CX0 2 f fd ["there", "entry"] spExch := by
  refine F.ok scExch (fun vs H Q E h => ?_) (fun cdv A outer s H vs Q E hr h => ?_)
  · obtain ⟨d, a, PL, τ, e, rfl, _⟩ := h
    rfl
  · obtain ⟨d, a, PL, τ, e, rfl, hd, ha, sw, ndp, le6, q⟩ := h
    have nd := scExch.nd
    refine ⟨_, pss_cons (ps_if (pt_cmpR op_ne (pe_ix ix_tup (pv 1) pe_int (fun _ _ => rfl)) pe_str (nomark _)) (pss_one (ps_ret (pv 0))) pss_nil)
      (pss_cons (ps_asg (pe_call PO.ok hr (by rfl) PO.g PO.kp PO.b .nil pass0 (pa_cons (pv 1) pa_nil)) (pg_tup (by rfl) (pgs_cons (pg_name (i := 2) nd rfl (Or.inl rfl)) (pgs_cons (pg_name (i := 3) nd rfl (Or.inl rfl)) pgs_nil))))
      (pss_one (ps_ret (pe_dispM (pv 0) (pps_cons (pv 2) (pe_dget (hu_of hr) (pv 0) (pv 3) (fun _ _ => rfl)) (pps_cons (pv 3) (pe_dget (hu_of hr) (pv 0) (pv 2) (fun _ _ => rfl)) pps_nil)))))), ?_⟩
    refine ⟨_, rfl, a, _, 0, _, rfl, rfl, SqT.of ha, at0 e, rfl, _, rfl, ?_⟩
    by_cases isw : e.word = "swap"
    · rw [decide_eq_true (congrArg V.str isw)]
      refine iteF ?_
      obtain ⟨nm, mo, o, t, rfl⟩ := sw_ent isw
      · obtain ⟨ho, ht, ne⟩ := sw nm mo o t rfl
        refine ⟨_, rfl, a, _, rfl, ha, fun tp H1 s1 h1 => ?_⟩
        refine ⟨tp, _, rfl, SqT.of h1, rfl, _, _, rfl, _, _, rfl, rfl, ?_⟩
        have hd1 := s1 _ _ hd
        intro p np
        have ndp' : d ≠ p := ne_of_none hd1 np
        refine ⟨_, rfl, d, _, rfl, ndp', .inl ((upd_ne ndp').trans hd1), upd_same, fun z nz => ?_⟩
        have ndz : d ≠ z := fun e => by
          rw [← e, upd_ne ndp', upd_ne ndp', hd1] at nz
          cases nz
        have nzp : z ≠ p := fun e => by
          rw [e, upd_same] at nz
          cases nz
        have hd2 : upd (upd (upd H1 p (.dK [])) p (.dK (mergeK [] (kvT PL τ)))) z (.dK []) d = some (.dK (kvT PL τ)) := (upd_ne ndz).trans ((upd_ne ndp').trans ((upd_ne ndp').trans hd1))
        refine ⟨_, rfl, _, rfl, _, rfl, d, _, rfl, DGet.k (k := Sum.inr t) hd2 |> fun g => (valV_kvT (τ := τ) ht) ▸ g, ?_⟩
        refine ⟨_, rfl, _, rfl, _, rfl, d, _, rfl, DGet.k (k := Sum.inr o) hd2 |> fun g => (valV_kvT (τ := τ) ho) ▸ g, ?_⟩
        refine ⟨upd_same, (upd_ne nzp.symm).trans upd_same, nzp, (by rw [len_kvT]; omega), [(Sum.inr o, .str (τ t)), (Sum.inr t, .str (τ o))], rfl, (by show 2 ≤ 15; decide), ?_⟩
        refine q p _ (s1.trans fun b ob eb => ?_) ?_
        · have nb : b ≠ p := ne_of_none eb np
          have nbz : b ≠ z := fun e => by
            rw [← e, upd_ne nb, upd_ne nb, eb] at nz
            cases nz
          rw [upd_ne nb, upd_ne nbz, upd_ne nbz, upd_ne nb, upd_ne nb]
          exact eb
        · rw [upd_same, merge2 ho ht ne ndp]
          rfl
    · rw [decide_eq_false fun z => isw (V.str.inj z)]
      refine iteT ⟨_, rfl, q d H (fun _ _ z => z) ?_⟩
      rw [hd]
      cases e with
      | swap nm mo o t => exact absurd rfl isw
      | _ => rfl
end
/-- t[:k]: some tuple of the first so many -/
def rSlTo : V → Option Int → Option Int → Hp → VK → Prop := fun x lo hi H Q => ∃ (a : Addr) (xs : List V) (k : Nat), x = .ref a ∧ H a = some (.tup xs) ∧ lo = none ∧ hi = some (k : Int) ∧ ∀ (b : Addr) (H' : Hp), Same H H' → H' b = some (.tup (xs.take k)) → Q (.ref b) H'
theorem sl_to {X : Cx} : SlR X rSlTo := by
  rintro pins s σ H x v vl vu lo hi sl Q I rx hs pl pu ⟨a, xs, k, rfl, ha, rfl, rfl, q⟩
  refine sl_tupA pins s σ H _ v vl vu _ _ sl Q I rx hs pl pu ⟨a, xs, rfl, SqT.of ha, fun z => q a H (fun _ _ e => e) ?_, fun _ p np => q p _ (same_new np) ?_⟩
  · have := z.2
    rw [HT.sIx_nat] at this
    rw [ha, List.take_of_length_le (by omega)]
  · rw [upd_same, cut_take]
section
variable {P : Program} {w : World} {K : PySem.W.Frag} {mg : Str → Option Value} {base : Heap}
set_option maxHeartbeats 1000000 in
theorem ok_behind {f fF fX : Addr} {fd dF dX : FuncData} (F : Fun K "tracks_behind" "tracks_behind" sBehind f fd) (FI : DefT P w K mg base "tracks_at_first" 1 fF dF ["house"] spFirst) (XC : DefT P w K mg base "exchanged" 2 fX dX ["there", "entry"] spExch) :
    FnOk P w K mg base CX0 3 f fd ["house", "at"] spBehind := by
  refine F.ok scBehind (fun vs H Q E h => ?_) (fun cdv A outer s H vs Q E hr h => ?_)
  · obtain ⟨h, PL, G, es, m, k, rfl, _⟩ := h
    rfl
  · obtain ⟨h, PL, G, es, m, k, rfl, ho, gd, km, m30, q⟩ := h
    have nd := scBehind.nd
    have hr1 : Room 1 _ := hr.mono (by decide)
    refine ⟨_, pss_cons (ps_set (i := 2) nd rfl (Or.inl rfl) (pe_call FI.ok hr1 (by rfl) FI.g FI.kp FI.b .nil pass0 (pa_cons (pv 0) pa_nil)))
      (pss_cons (ps_for PassesOwn.never rfl (pi_tup (pe_slice sl_to (pe_ix ix_tup (pv 0) pe_int (fun _ _ => rfl)) po_none (po_some (pv 1)))) (pg_name (i := 3) nd rfl (Or.inl rfl))
        (pss_one (ps_set (i := 2) nd rfl (Or.inl rfl) (pe_call XC.ok hr (by rfl) XC.g XC.kp XC.b .nil pass0 (pa_cons (pv 2) (pa_cons (pv 3) pa_nil))))))
      (pss_one (ps_ret (pv 2)))), ?_⟩
    refine ⟨_, rfl, h, PL, G, es, m, rfl, ho, gd, fun d H1 s1 hd => ?_⟩
    obtain ⟨hp, hg, he, tps, h1, h2, h3, h4, h5⟩ := (ho.on (TK.of s1)).ex
    have lt : tps.length = m := h5.len.trans gd.many
    refine ⟨_, rfl, h, _, 2, _, rfl, rfl, SqT.of h1, atI_nat (j := 2) rfl, _, rfl, k, rfl, he, _, k, rfl, h4, rfl, rfl, fun a H2 s2 ha => ⟨a, rfl, ⟨_, SqT.of ha⟩, ?_⟩⟩
    refine for_tup (K := K) (a := a) (xs := (tps.map V.ref).take k) (fun i σ H' => ∃ y3 d, σ = [some (.ref h), some (.int (k : Nat)), some (.ref d), y3] ∧ Same H2 H' ∧ H' d = some (.dK (kvT PL (tau (es.take i)))))
      ⟨_, d, rfl, fun _ _ e => e, s2 _ _ hd⟩ (fun i σ H' _ z => by obtain ⟨_, _, _, sm, _⟩ := z; exact SqT.of (sm _ _ ha)) ?_ ?_
    · rintro i x σ H' hx ⟨y3, d', rfl, sm, hd'⟩
      have li : i < k := by
        have := (List.getElem?_eq_some_iff.mp hx).1
        rw [List.length_take] at this
        omega
      rw [List.getElem?_take_of_lt li, List.getElem?_map] at hx
      obtain ⟨tp, htp, rfl⟩ := Option.map_eq_some_iff.mp hx
      obtain ⟨e, hee, hte⟩ := h5.get htp
      refine ⟨_, rfl, _, rfl, d', tp, PL, _, e, rfl, hd', sm _ _ (s2 _ _ hte), gd.sw (List.mem_of_getElem? hee), gd.nd, gd.le, fun d2 H3 s3 h3 => ⟨_, d2, rfl, sm.trans s3, ?_⟩⟩
      rw [h3, take_snoc hee, tau_snoc]
    · rintro σ H' ⟨y3, d', rfl, sm, hd'⟩
      refine ⟨_, rfl, q d' H' (s1.trans (s2.trans sm)) ?_⟩
      rw [hd', List.length_take, List.length_map, Nat.min_eq_left (by omega)]
theorem ok_trackAt {f fB : Addr} {fd dB : FuncData} (F : Fun K "track_at" "track_at" sTrackAt f fd) (BH : DefT P w K mg base "tracks_behind" 3 fB dB ["house", "at"] spBehind) : FnOk P w K mg base CX0 4 f fd ["house", "place", "at"] spTrackAt := by
  refine F.ok scTrackAt (fun vs H Q E h => ?_) (fun cdv A outer s H vs Q E hr h => ?_)
  · obtain ⟨h, PL, G, es, m, k, x, rfl, _⟩ := h
    rfl
  · obtain ⟨h, PL, G, es, m, k, x, rfl, ho, gd, km, m30, hx, q⟩ := h
    refine ⟨_, pss_one (ps_ret (pe_dget (hu_of hr) (pe_call BH.ok hr (by rfl) BH.g BH.kp BH.b .nil pass0 (pa_cons (pv 0) (pa_cons (pv 2) pa_nil))) (pv 1) (fun _ _ => rfl))), ?_⟩
    refine ⟨_, rfl, _, rfl, h, PL, G, es, m, k, rfl, ho, gd, km, m30, fun d H1 s1 hd => ?_⟩
    exact ⟨_, rfl, d, _, rfl, DGet.k (k := Sum.inr x) hd |> fun g => (valV_kvT hx) ▸ g, q H1 s1⟩
set_option maxHeartbeats 1000000 in
theorem ok_placeOf {f fB : Addr} {fd dB : FuncData} (F : Fun K "place_of" "place_of" sPlaceOf f fd) (BH : DefT P w K mg base "tracks_behind" 3 fB dB ["house", "at"] spBehind) : FnOk P w K mg base CX0 4 f fd ["house", "track", "at"] spPlaceOf := by
  refine F.ok scPlaceOf (fun vs H Q E h => ?_) (fun cdv A outer s H vs Q E hr h => ?_)
  · obtain ⟨h, PL, G, es, m, k, x, rfl, _⟩ := h
    rfl
  · obtain ⟨h, PL, G, es, m, k, x, rfl, ho, gd, km, m30, hx, q⟩ := h
    have nd := scPlaceOf.nd
    refine ⟨_, pss_cons (ps_set (i := 3) nd rfl (Or.inr rfl) (pe_call BH.ok hr (by rfl) BH.g BH.kp BH.b .nil pass0 (pa_cons (pv 0) (pa_cons (pv 2) pa_nil))))
      (pss_one (ps_ret (pe_dget (hu_of hr) (pe_lock (pe_dc (own := [("place", 4)]) (g := gName 4) (tt := tYes) (tv := tVar 4) rfl nd (pi_keys (pv 3))
        (blkOk_by (N := ["house", "track", "at", "there", "place"]) (sc := defScope sPlaceOf) (by decide +kernel)) (fun _ _ _ _ _ => pg_name (i := 4) nd rfl (Or.inl rfl)) (fun _ _ _ _ _ => pts_nil) (fun _ _ _ _ _ => pe_dget (hu_of hr) (pv 3) (pv 4) (fun _ _ => rfl)) (fun _ _ _ _ _ => pv 4))) (pv 1) (fun _ _ => rfl)))), ?_⟩
    refine ⟨_, rfl, _, rfl, h, PL, G, es, m, k, rfl, ho, gd, km, m30, fun d H1 s1 hd => ?_⟩
    have td := td_n es k (by rw [gd.many]; exact km)
    have inn := in_n gd.inn k (by rw [gd.many]; exact km)
    generalize tau (es.take k) = τ at hd td inn
    generalize dlt (es.take k) = δ at q td inn
    refine ⟨d, _, hd, trivial, fun od => ?_⟩
    refine ⟨_, rfl, d, od, rfl, .inl ⟨_, upd_same, fun D nD => ?_⟩⟩
    have ndD : d ≠ D := fun z => by
      rw [← z, upd_same] at nD
      cases nD
    refine dc_keys (d := d) (od := od) (kvs := kvT PL τ) (fun i H' => H' d = some (.frz od (.dK (kvT PL τ))) ∧ (∀ b o, H1 b = some o → b ≠ d → H' b = some o) ∧ H' D = some (.dK (kvT ((PL.take i).map τ) δ)))
      ⟨(upd_ne ndD).trans upd_same, fun b o e nb => ?_, upd_same⟩ (fun i H' z => z.1) ?_ ?_
    · have nbD : b ≠ D := fun z => by
        rw [← z, upd_ne nb, e] at nD
        cases nD
      exact (upd_ne nbD).trans ((upd_ne nb).trans e)
    · rintro i kk v H' hk ⟨e1, e2, e3⟩
      unfold kvT at hk
      rw [List.getElem?_map] at hk
      obtain ⟨y, hy, eq⟩ := Option.map_eq_some_iff.mp hk
      cases eq
      have lt : i < PL.length := (List.getElem?_eq_some_iff.mp hy).1
      have my : y ∈ PL := List.mem_of_getElem? hy
      refine ⟨rfl, yesT ?_⟩
      refine ⟨_, rfl, _, rfl, d, _, rfl, (.inl ⟨_, Sum.inr y, .inr ⟨od, e1⟩, rfl, (valV_kvT my).symm⟩ : DGet H' d (.str y) (some (.str (τ y)))), _, rfl, _, Sum.inr (τ y), rfl, e3, ?_, (upd_ne ndD).trans e1, fun b o e nb => ?_, ?_⟩
      · rw [len_kvT, List.length_map, List.length_take]
        exact small1000 (by have := gd.le; omega)
      · have nbD : b ≠ D := fun z => by
          rw [← z, upd_ne nb, e] at nD
          cases nD
        exact (upd_ne nbD).trans (e2 b o e nb)
      · rw [upd_same, take_snoc hy, List.map_append]
        have nx : τ y ∉ (PL.take i).map τ := fun z => by
          obtain ⟨u, hu, eu⟩ := List.mem_map.mp z
          have : u = y := by
            have := congrArg δ eu
            rw [(td u).2, (td y).2] at this
            exact this
          subst this
          have q := gd.nd
          rw [← List.take_append_drop i PL, List.nodup_append] at q
          refine q.2.2 u hu u ?_ rfl
          rw [List.drop_eq_getElem_cons lt]
          rw [List.getElem?_eq_getElem lt] at hy
          rw [Option.some.inj hy]
          exact List.mem_cons_self
        have := put_new (τ := δ) nx
        rw [(td y).2] at this
        exact congrArg (fun z => some (HO.dK z)) this
    · rintro H' ⟨e1, e2, e3⟩
      rw [len_kvT, List.take_length] at e3
      have mx : x ∈ PL.map τ := List.mem_map.mpr ⟨δ x, (inn x hx).2, (td x).1⟩
      refine ⟨e1, _, rfl, D, _, rfl, DGet.k (k := Sum.inr x) ((upd_ne ndD.symm).trans e3) |> fun g => (valV_kvT mx) ▸ g, q _ (s1.trans fun b o e => ?_)⟩
      by_cases nb : b = d
      · rw [nb] at e ⊢
        rw [upd_same, ← e, hd]
      · exact (upd_ne nb).trans (e2 b o e nb)
end
theorem inV_strs {x : Str} {ys : List Str} (h : x ∈ ys) : inV (.str x) (ys.map V.str) = true := by
  unfold inV
  rw [List.any_map]
  exact List.any_eq_true.mpr ⟨x, h, by show eqV (.str x) (.str x) = true; simp [eqV]⟩
theorem flat_strs (ys : List Str) : (ys.map V.str).all flatV = true := by
  rw [List.all_map]
  exact List.all_eq_true.mpr fun y _ => rfl
theorem vals_kvT (L : List Str) (δ : Str → Str) : (kvT L δ).map (·.2) = (L.map δ).map V.str := by
  unfold kvT
  rw [List.map_map, List.map_map]
  rfl
def spHere : Sp := fun vs H Q _ => ∃ (h : Addr) (P G : List Str) (es : List Ent) (m k : Nat) (wy : Int), vs = [.ref h, .int k, .int wy] ∧ HouseAt H h P G es ∧ Good P G es m ∧ k ≤ m ∧ m ≤ 30 ∧ (wy = 0 ∨ wy = 1) ∧
  ∀ (d : Addr) (H' : Hp) (L : List Str), Same H H' → L.Perm P → H' d = some (.dK (kvT L (dlt (es.take k)))) → Q (.ref d) H'
section
variable {P : Program} {w : World} {K : PySem.W.Frag} {mg : Str → Option Value} {base : Heap}
abbrev hereN : List Str := ["_law_house_here", "_law_at", "_law_way", "_law_found", "_law_track", "_law_place"]
theorem scHere : FnScope hereN ["_law_house_here", "_law_at", "_law_way"] (defScope sHere) := ⟨rfl, rfl, rfl, by decide +kernel, rfl, by decide +kernel, by decide +kernel⟩
set_option maxHeartbeats 2000000 in
theorem ok_here {f fP fT : Addr} {fd dP dT : FuncData} (F : Fun K "_law_here" "_law_here" sHere f fd) (PL : DefT P w K mg base "place_of" 4 fP dP ["house", "track", "at"] spPlaceOf) (TA : DefT P w K mg base "track_at" 4 fT dT ["house", "place", "at"] spTrackAt) :
    FnOk P w K mg base CX0 5 f fd ["_law_house_here", "_law_at", "_law_way"] spHere := by
  refine F.ok scHere (fun vs H Q E h => ?_) (fun cdv A outer s H vs Q E hr h => ?_)
  · obtain ⟨h, Ps, G, es, m, k, wy, rfl, _⟩ := h
    rfl
  · obtain ⟨h, Ps, G, es, m, k, wy, rfl, ho, gd, km, m30, hwy, q⟩ := h
    have nd := scHere.nd
    have hu := hu_of hr
    refine ⟨_, pss_cons (ps_set (i := 3) nd rfl (Or.inl rfl) pe_dnewK)
      (pss_cons (ps_for PassesOwn.never rfl (pi_tup (pe_stepP (pe_ix ix_tup (pv 0) pe_int (fun _ _ => rfl)) (pe_op op_sub pe_int (pe_op op_mul pe_int (pv 2))))) (pg_name (i := 4) nd rfl (Or.inl rfl))
        (pss_cons (ps_set (i := 5) nd rfl (Or.inl rfl) (pe_call PL.ok hr (by rfl) PL.g PL.kp PL.b .nil pass0 (pa_cons (pv 0) (pa_cons (pv 4) (pa_cons (pv 1) pa_nil)))))
        (pss_cons (ps_if (PW.pt (pw_or (pt_cmpR op_notIn_seq (pv 5) (pe_ix ix_tup (pv 0) pe_int (fun _ _ => rfl)) (by rfl)) (pw_or1 (pt_cmpR (op_inVals rfl) (pv 5) (pe_vals (pv 3)) (by rfl))))) (pss_one (ps_ret pe_non)) pss_nil)
        (pss_one (ps_dput hu (pv 3) (pv 4) (pv 5) rfl)))))
      (pss_cons (ps_for PassesOwn.never rfl (pi_tup (pe_ix ix_tup (pv 0) pe_int (fun _ _ => rfl))) (pg_name (i := 5) nd rfl (Or.inl rfl))
        (pss_cons (ps_set (i := 4) nd rfl (Or.inl rfl) (pe_call TA.ok hr (by rfl) TA.g TA.kp TA.b .nil pass0 (pa_cons (pv 0) (pa_cons (pv 5) (pa_cons (pv 1) pa_nil)))))
        (pss_cons (ps_if (PW.pt (pw_or (pt_cmp (pc_dnotin hu (pv 4) (pv 3))) (pw_or1 (pt_cmpR op_ne (pe_dget hu (pv 3) (pv 4) (fun _ _ => rfl)) (pv 5) (nomark _))))) (pss_one (ps_ret pe_non)) pss_nil)
        (pss_one (ps_if (pt_cmpR op_ne (pe_call PL.ok hr (by rfl) PL.g PL.kp PL.b .nil pass0 (pa_cons (pv 0) (pa_cons (pv 4) (pa_cons (pv 1) pa_nil)))) (pv 5) (nomark _)) (pss_one (ps_ret pe_non)) pss_nil)))))
      (pss_one (ps_ret (pv 3))))), ?_⟩
    have kl : k ≤ es.length := by rw [gd.many]; exact km
    have td := td_n es k kl
    have inn := in_n gd.inn k kl
    obtain ⟨hp, hg, he, tps, h1, h2, h3, h4, h5⟩ := ho.ex
    intro Fd nF
    have sF := @same_new _ _ (.dK []) nF
    refine ⟨_, rfl, h, _, 0, _, rfl, rfl, SqT.of (sF _ _ h1), atI_nat (j := 0) rfl, _, rfl, 2, wy, rfl, rfl, .inl ⟨by decide, by decide⟩, 1, _, rfl, rfl, hp, _, _, rfl, sF _ _ h2, rfl, (by omega), fun a H1 ys s1 hys ha => ⟨a, rfl, ⟨_, SqT.of ha⟩, ?_⟩⟩
    obtain ⟨L, pm, rfl⟩ : ∃ L : List Str, L.Perm Ps ∧ ys = L.map V.str := by
      rcases hys with rfl | rfl
      · exact ⟨Ps, .refl _, rfl⟩
      · exact ⟨Ps.reverse, List.reverse_perm _, by rw [List.map_reverse]⟩
    have ndL : L.Nodup := pm.nodup_iff.mpr gd.nd
    have s01 : Same H H1 := sF.trans s1
    have nFh : ∀ {H' : Hp}, Same H H' → ∀ b o, H b = some o → ∀ u, upd H' Fd u b = some o := fun sm b o e u => (upd_ne (ne_of_none e nF)).trans (sm b o e)
    have naF : a ≠ Fd := ne_of ha (s1 _ _ upd_same) (by intro z; cases z)
    refine for_tup (K := K) (a := a) (xs := L.map V.str) (fun i σ H' => ∃ y4 y5, σ = [some (.ref h), some (.int (k : Nat)), some (.int wy), some (.ref Fd), y4, y5] ∧ Same H H' ∧ H' a = some (.tup (L.map V.str)) ∧ H' Fd = some (.dK (kvT (L.take i) (dlt (es.take k)))))
      ⟨_, _, rfl, s01, ha, s1 _ _ upd_same⟩ (fun i σ H' _ z => by obtain ⟨_, _, _, _, z, _⟩ := z; exact SqT.of z) ?_ ?_
    · rintro i x σ H' hx ⟨y4, y5, rfl, sm, hA, hF⟩
      rw [List.getElem?_map] at hx
      obtain ⟨y, hy, rfl⟩ := Option.map_eq_some_iff.mp hx
      have lt : i < L.length := (List.getElem?_eq_some_iff.mp hy).1
      have myL : y ∈ L := List.mem_of_getElem? hy
      have my : y ∈ Ps := pm.mem_iff.mp myL
      have ny : y ∉ L.take i := fun z => by
        have q := ndL
        rw [← List.take_append_drop i L, List.nodup_append] at q
        refine q.2.2 y z y ?_ rfl
        rw [List.drop_eq_getElem_cons lt]
        rw [List.getElem?_eq_getElem lt] at hy
        rw [Option.some.inj hy]
        exact List.mem_cons_self
      refine ⟨_, rfl, _, rfl, _, rfl, h, Ps, G, es, m, k, y, rfl, ho.on (TK.of sm), gd, km, m30, my, fun H2 s2 => ?_⟩
      have s02 := sm.trans s2
      refine ⟨_, rfl, _, rfl, h, _, 0, _, rfl, rfl, SqT.of (s02 _ _ h1), atI_nat (j := 0) rfl, hp, _, rfl, .inr (SqT.of (s02 _ _ h2)), rfl, flat_strs _, false, ?_, iteF ?_⟩
      · show V.bl (!inV _ _) = _
        rw [inV_strs (inn y my).2]
        rfl
      refine ⟨_, rfl, _, rfl, Fd, _, rfl, s2 _ _ hF, fun v nv => ?_⟩
      have s3 := @same_new _ _ (valsO v Fd) nv
      refine ⟨_, v, Fd, _, _, rfl, rfl, upd_same, s3 _ _ (s2 _ _ hF), vals_kvT _ _, false, congrArg V.bl (decide_eq_false fun z => ?_), iteF ?_⟩
      · obtain ⟨u, hu, eu⟩ := List.mem_map.mp z
        have : u = y := by
          have := congrArg (tau (es.take k)) eu
          rw [(td u).1, (td y).1] at this
          exact this
        exact ny (this ▸ hu)
      refine ⟨_, rfl, _, rfl, _, rfl, Fd, _, rfl, .inl ⟨_, Sum.inr y, s3 _ _ (s2 _ _ hF), rfl, ?_, rfl⟩, ⟨_, _, rfl, fun b o e => nFh (s02.trans s3) b o e _, (upd_ne naF).trans (s3 _ _ (s2 _ _ hA)), ?_⟩⟩
      · rw [len_kvT, List.length_take]
        exact small1000 (by have := gd.le; have := pm.length_eq; omega)
      · rw [upd_same, take_snoc hy]
        exact congrArg (fun z => some (HO.dK z)) (put_new ny)
    · rintro σ H' ⟨y4, y5, rfl, sm, hA, hF⟩
      rw [List.length_map, List.take_length] at hF
      refine ⟨_, rfl, h, _, 0, _, rfl, rfl, SqT.of (sm _ _ h1), atI_nat (j := 0) rfl, hp, rfl, ⟨_, SqT.of (sm _ _ h2)⟩, ?_⟩
      refine for_tup (K := K) (a := hp) (xs := Ps.map V.str) (fun i σ H2 => ∃ y4 y5, σ = [some (.ref h), some (.int (k : Nat)), some (.int wy), some (.ref Fd), y4, y5] ∧ Same H' H2)
        ⟨_, _, rfl, fun _ _ e => e⟩ (fun i σ H2 _ z => by obtain ⟨_, _, _, z⟩ := z; exact SqT.of (z _ _ (sm _ _ h2))) ?_ ?_
      · rintro i x σ H2 hx ⟨z4, z5, rfl, s2⟩
        rw [List.getElem?_map] at hx
        obtain ⟨y, hy, rfl⟩ := Option.map_eq_some_iff.mp hx
        have my : y ∈ Ps := List.mem_of_getElem? hy
        refine ⟨_, rfl, _, rfl, _, rfl, h, Ps, G, es, m, k, y, rfl, (ho.on (TK.of sm)).on (TK.of s2), gd, km, m30, my, fun H3 s3 => ?_⟩
        have hF3 := s3 _ _ (s2 _ _ hF)
        have mt : tau (es.take k) y ∈ L := pm.mem_iff.mpr (inn y my).1
        have v0 : valV (kvT L (dlt (es.take k))) (Sum.inr (tau (es.take k) y)) = some (.str y) := by
          rw [valV_kvT mt, (td y).2]
        refine ⟨_, rfl, _, rfl, Fd, _, rfl, DGet.k (k := Sum.inr (tau (es.take k) y)) hF3, false, ?_, iteF ?_⟩
        · rw [v0]
          rfl
        refine ⟨_, rfl, _, rfl, Fd, _, rfl, v0 ▸ DGet.k (k := Sum.inr (tau (es.take k) y)) hF3, _, rfl, rfl, false, congrArg V.bl ?_, iteF ?_⟩
        · rw [decide_eq_true rfl]
          rfl
        refine ⟨_, rfl, _, rfl, _, rfl, h, Ps, G, es, m, k, _, rfl, ((ho.on (TK.of sm)).on (TK.of s2)).on (TK.of s3), gd, km, m30, (inn y my).1, fun H4 s4 => ?_⟩
        refine ⟨_, rfl, rfl, false, congrArg V.bl ?_, iteF ⟨_, _, rfl, s2.trans (s3.trans s4)⟩⟩
        rw [(td y).2, decide_eq_true rfl]
        rfl
      · rintro σ H2 ⟨z4, z5, rfl, s2⟩
        exact ⟨_, rfl, q Fd H2 L (sm.trans s2) pm (s2 _ _ hF)⟩
end
/-! ### the law -/
def Prs (H : Hp) : List Addr → List Str → Prop := Paired fun a y => H a = some (.tup [V.str y, .str y])
theorem Prs.on {H H' : Hp} (k : TK H H') {as : List Addr} {ys : List Str} (h : Prs H as ys) : Prs H' as ys := Paired.mapP h fun a y e => k _ _ e
theorem Prs.kv {K : PySem.W.Frag} {H : Hp} : ∀ {as : List Addr} {ys : List Str}, Prs H as ys → Paired (fun p (kv : Key × V) => SqT K H p [kV kv.1, kv.2]) as (kvT ys id)
  | _, _, .nil => .nil
  | _, _, .cons h t => .cons (SqT.of h) (Prs.kv t)
theorem kvT_congr {P : List Str} {f g : Str → Str} (h : ∀ x ∈ P, f x = g x) : kvT P f = kvT P g := List.map_congr_left fun x hx => by rw [h x hx]
theorem kvT_eq {P L : List Str} {δ : Str → Str} (pm : L.Perm P) : (kvT L δ).length = (kvT P δ).length ∧ ∀ p ∈ kvT L δ, valV (kvT P δ) p.1 = some p.2 ∧ flatB p.2 = true := by
  refine ⟨by rw [len_kvT, len_kvT, pm.length_eq], fun p hp => ?_⟩
  obtain ⟨x, hx, rfl⟩ := List.mem_map.mp hp
  exact ⟨valV_kvT (pm.mem_iff.mp hx), rfl⟩
/-- the due, with the first i places gone over -/
def mid (P : List Str) (i : Nat) (e : Ent) (δ : Str → Str) : Str → Str := fun x => if x ∈ P.take i then swE e (δ x) else δ x
theorem not_in_take {L : List Str} (nd : L.Nodup) {i : Nat} {y : Str} (hy : L[i]? = some y) : y ∉ L.take i := fun z => by
  have lt : i < L.length := (List.getElem?_eq_some_iff.mp hy).1
  have q := nd
  rw [← List.take_append_drop i L, List.nodup_append] at q
  refine q.2.2 y z y ?_ rfl
  rw [List.drop_eq_getElem_cons lt]
  rw [List.getElem?_eq_getElem lt] at hy
  rw [Option.some.inj hy]
  exact List.mem_cons_self
theorem mid_put {P : List Str} {i : Nat} {e : Ent} {δ : Str → Str} {y : Str} (nd : P.Nodup) (hy : P[i]? = some y) : putK (kvT P (mid P i e δ)) (Sum.inr y) (.str (swE e (δ y))) = kvT P (mid P (i + 1) e δ) := by
  rw [put_in (List.mem_of_getElem? hy)]
  refine kvT_congr fun x _ => ?_
  unfold mid
  rw [take_snoc hy]
  by_cases z : x = y
  · rw [if_pos z, if_pos (by rw [z]; simp), z]
  · rw [if_neg z]
    by_cases m : x ∈ P.take i
    · rw [if_pos m, if_pos (List.mem_append.mpr (.inl m))]
    · rw [if_neg m, if_neg fun q => (List.mem_append.mp q).elim m fun q => z (List.mem_singleton.mp q)]
theorem mid_stay {P : List Str} {i : Nat} {e : Ent} {δ : Str → Str} {y : Str} (hy : P[i]? = some y) (h : swE e (δ y) = δ y) : kvT P (mid P i e δ) = kvT P (mid P (i + 1) e δ) := by
  refine kvT_congr fun x _ => ?_
  unfold mid
  rw [take_snoc hy]
  by_cases z : x = y
  · rw [z, if_pos (show y ∈ P.take i ++ [y] by simp), h]
    split <;> rfl
  · by_cases m : x ∈ P.take i
    · rw [if_pos m, if_pos (List.mem_append.mpr (.inl m))]
    · rw [if_neg m, if_neg fun q => (List.mem_append.mp q).elim m fun q => z (List.mem_singleton.mp q)]
theorem mid_done {P : List Str} {e : Ent} {δ : Str → Str} : kvT P (mid P P.length e δ) = kvT P fun x => swE e (δ x) := kvT_congr fun x hx => by
  unfold mid
  rw [List.take_length, if_pos hx]
theorem mid_at {P : List Str} {i : Nat} {e : Ent} {δ : Str → Str} {y : Str} (nd : P.Nodup) (hy : P[i]? = some y) : mid P i e δ y = δ y := if_neg (not_in_take nd hy)
theorem swp_no {o t x : Str} (h1 : x ≠ o) (h2 : x ≠ t) : swp o t x = x := by
  unfold swp
  rw [if_neg h1, if_neg h2]
theorem nsw_id {e : Ent} (h : e.word ≠ "swap") (x : Str) : swE e x = x := by
  cases e with
  | swap n m o t => exact absurd rfl h
  | _ => rfl
section
variable {P : Program} {w : World} {K : PySem.W.Frag} {mg : Str → Option Value} {base : Heap}
abbrev lawN : List Str := ["_law_script", "_law_pen_here", "_law_many_here", "_law_house_here", "_law_kept", "_law_track", "_law_due", "_law_at", "_law_one", "_law_other", "_law_first"]
theorem scLaw : FnScope lawN ["_law_script"] (defScope sLaw) := ⟨rfl, rfl, rfl, by decide +kernel, rfl, by decide +kernel, by decide +kernel⟩
def spLaw (K : PySem.W.Frag) : Sp := fun vs H Q _ => ∃ (a : Addr) (ns : List Int), vs = [.ref a] ∧ SqL K H a (ns.map V.int) ∧ ∀ H', Q (.bl true) H'
set_option maxHeartbeats 4000000 in
theorem ok_law {f : Addr} {fd : FuncData} (F : Fun K "law" "law" sLaw f fd)
    {fP fT fO fE : Addr} {dP dT dO dE : FuncData}
    (GP : DefT P w K mg base "_law_pen" 1 fP dP ["_law_script"] (spPen K)) (T : TakeT P w K mg base fT dT)
    (HS : DefT P w K mg base "_law_house" 4 fO dO ["_law_pen_here", "_law_many_here"] spHouse)
    (HE : DefT P w K mg base "_law_here" 5 fE dE ["_law_house_here", "_law_at", "_law_way"] spHere)
    (mr : mg "range" = none) (md : mg "dict" = none) (mi : mg "int" = none) (mp : mg "repr" = none) : FnG P w K mg base 6 f fd ["_law_script"] (spLaw K) := by
  refine Fun.okG F scLaw (fun vs H Q E h => ?_) (fun cdv A outer s H vs Q E hG hr h => ?_)
  · obtain ⟨a, ns, rfl, _⟩ := h
    rfl
  · obtain ⟨a, ns, rfl, hS, q⟩ := h
    have nd := scLaw.nd
    have hu := hu_of hr
    have hr1 : Room 1 _ := hr.mono (by decide)
    have hr4 : Room 4 _ := hr.mono (by decide)
    refine ⟨_, pss_cons (ps_set (i := 1) nd rfl (Or.inl rfl) (pe_call GP.ok hr1 (by rfl) GP.g GP.kp GP.b .nil pass0 (pa_cons (pv 0) pa_nil)))
      (pss_cons (ps_set (i := 2) nd rfl (Or.inl rfl) (pe_ix ix_list (pe_lst (pa_cons pe_int (pa_cons pe_int (pa_cons (pe_call T.ok hr1 (by rfl) T.g T.kp T.b .nil pass0 (pa_cons (pv 1) (pa_cons pe_int pa_nil))) (pa_cons (pe_op op_add pe_int (pe_call T.ok hr1 (by rfl) T.g T.kp T.b .nil pass0 (pa_cons (pv 1) (pa_cons pe_int pa_nil)))) pa_nil))))) (pe_call T.ok hr1 (by rfl) T.g T.kp T.b .nil pass0 (pa_cons (pv 1) (pa_cons pe_int pa_nil))) (fun _ _ => rfl)))
      (pss_cons (ps_set (i := 3) nd rfl (Or.inl rfl) (pe_call HS.ok hr4 (by rfl) HS.g HS.kp HS.b .nil pass0 (pa_cons (pv 1) (pa_cons (pv 2) pa_nil))))
      (pss_cons (ps_set (i := 4) nd rfl (Or.inl rfl) (pe_callB (cr_repr hG hr.units) (by rfl) mp (by decide +kernel) (pa_cons (pv 3) pa_nil)))
      (pss_cons (ps_set (i := 6) nd rfl (Or.inl rfl) (pe_callTy (call_dictP rfl) (by rfl) md (by decide +kernel) (pa_cons (pe_lc (own := [("_law_track", 5)]) (g := gName 5) (tt := tYes) rfl nd (pi_tup (pe_ix ix_tup (pv 3) pe_int (fun _ _ => rfl)))
          (blkOk_by (N := lawN) (sc := defScope sLaw) (by decide +kernel)) (fun _ _ _ _ _ => pg_name (i := 5) nd rfl (Or.inl rfl)) (fun _ _ _ _ _ => pts_nil) (fun _ _ _ _ _ => pe_tup (pa_cons (pv 5) (pa_cons (pv 5) pa_nil)))) pa_nil)))
      (pss_cons (ps_for PassesOwn.never rfl (pi_range1 rfl mr (pa_cons (pe_op op_add (pv 2) pe_int) pa_nil)) (pg_name (i := 7) nd rfl (Or.inl rfl))
        (C8.pss_cut (ps_if (PW.pt (pw_and (pt_cmpR op_gt (pv 7) pe_int (nomark _)) (pw_and1 (pt_cmpR op_eq (pe_ix ix_tup (pe_ix ix_tup (pe_ix ix_tup (pv 3) pe_int (fun _ _ => rfl)) (pe_op op_sub (pv 7) pe_int) (fun _ _ => rfl)) pe_int (fun _ _ => rfl)) pe_str (nomark _)))))
          (pss_cons (ps_asg (pe_slice sl_tup (pe_ix ix_tup (pe_ix ix_tup (pv 3) pe_int (fun _ _ => rfl)) (pe_op op_sub (pv 7) pe_int) (fun _ _ => rfl)) (po_some pe_int) po_none) (pg_tup (by rfl) (pgs_cons (pg_name (i := 8) nd rfl (Or.inl rfl)) (pgs_cons (pg_name (i := 9) nd rfl (Or.inl rfl)) pgs_nil))))
          (pss_one (ps_for PassesOwn.never rfl (pi_tup (pe_ix ix_tup (pv 3) pe_int (fun _ _ => rfl))) (pg_name (i := 5) nd rfl (Or.inl rfl))
            (pss_one (ps_if (pt_cmpR op_in_seq (pe_dget hu (pv 6) (pv 5) (fun _ _ => rfl)) (pe_tup (pa_cons (pv 8) (pa_cons (pv 9) pa_nil))) (by rfl))
              (pss_one (ps_dput hu (pv 6) (pv 5) (pe_ix ix_list (pe_lst (pa_cons (pv 8) (pa_cons (pv 9) pa_nil))) (pe_callTy call_int1 (by rfl) mi (by decide +kernel) (pa_cons (pe_cmpR op_eq (pe_dget hu (pv 6) (pv 5) (fun _ _ => rfl)) (pv 8) (nomark _)) pa_nil)) (fun _ _ => rfl)) rfl)) pss_nil))))) pss_nil)
        (pss_one (ps_if (pt_cmpR (op_ne_dictA hr.units0) (pe_call HE.ok hr (by rfl) HE.g HE.kp HE.b .nil pass0 (pa_cons (pv 3) (pa_cons (pv 7) (pa_cons (pe_call T.ok hr1 (by rfl) T.g T.kp T.b .nil pass0 (pa_cons (pv 1) (pa_cons pe_int pa_nil))) pa_nil)))) (pv 6) (nomark _)) (pss_one (ps_ret pe_bl)) pss_nil))))
      (pss_cons (ps_set (i := 10) nd rfl (Or.inl rfl) (pe_callTy (call_dictP rfl) (by rfl) md (by decide +kernel) (pa_cons (pe_lc (own := [("_law_track", 5)]) (g := gName 5) (tt := tYes) rfl nd (pi_tup (pe_ix ix_tup (pv 3) pe_int (fun _ _ => rfl)))
          (blkOk_by (N := lawN) (sc := defScope sLaw) (by decide +kernel)) (fun _ _ _ _ _ => pg_name (i := 5) nd rfl (Or.inl rfl)) (fun _ _ _ _ _ => pts_nil) (fun _ _ _ _ _ => pe_tup (pa_cons (pv 5) (pa_cons (pv 5) pa_nil)))) pa_nil)))
      (pss_one (ps_ret (pe_and (pe_cmpR (op_eq_dictA hr.units0) (pe_call HE.ok hr (by rfl) HE.g HE.kp HE.b .nil pass0 (pa_cons (pv 3) (pa_cons pe_int (pa_cons pe_int pa_nil)))) (pv 10) (nomark _))
        (pe_and (pe_cmpR (op_eq_dictA hr.units0) (pe_call HE.ok hr (by rfl) HE.g HE.kp HE.b .nil pass0 (pa_cons (pv 3) (pa_cons (pv 2) (pa_cons pe_int pa_nil)))) (pv 6) (nomark _))
          (pe_one (pe_cmpR op_eq (pe_callB (cr_repr hG hr.units) (by rfl) mp (by decide +kernel) (pa_cons (pv 3) pa_nil)) (pv 4) (nomark _))))))))))))), ?_⟩
    refine ⟨_, rfl, a, ns, rfl, hS, fun p c H1 np nc pen1 sm1 => ?_⟩
    refine ⟨_, rfl, p, c, 0, 31, rfl, pen1, by decide, by decide, by decide, fun r1 H2 a1 b1 pen2 bt2 => ?_⟩
    refine ⟨_, rfl, p, c, 1, 6, rfl, pen2, by decide, by decide, by decide, fun r2 H3 a2 b2 pen3 bt3 => ?_⟩
    refine ⟨1, r2, rfl, rfl, (by show 4 ≤ sizeLine; decide), fun l nl => ?_⟩
    have sl := @same_new _ _ (.lst [V.int 30, .int 0, .int r1, .int (1 + r2)]) nl
    refine ⟨_, rfl, p, c, 2, 4, rfl, pen3.same sl, by decide, by decide, by decide, fun r3 H4 a3 b3 pen4 bt4 => ?_⟩
    have nlp : l ≠ p := fun z => pen3.there (z ▸ nl)
    obtain ⟨mo, hm1, hm2⟩ := at_ints (ns := [30, 0, r1, 1 + r2]) (r := r3) a3 (by show r3 < 4; omega)
    refine ⟨l, _, _, _, rfl, rfl, SqL.of (bt4 l _ upd_same nlp), hm1, ?_⟩
    have hmo : 0 ≤ mo ∧ mo ≤ 30 := by
      simp only [List.mem_cons, List.not_mem_nil, or_false] at hm2
      rcases hm2 with rfl | rfl | rfl | rfl <;> omega
    obtain ⟨m, rfl⟩ : ∃ m : Nat, mo = m := ⟨mo.toNat, (Int.toNat_of_nonneg hmo.1).symm⟩
    have m30 : m ≤ 30 := by omega
    refine ⟨_, rfl, _, rfl, p, c, 3, m, rfl, pen4, by decide, m30, fun h Ps G es H5 ho5 gd pen5 bt5 => ?_⟩
    have sh := gd.short (by omega)
    refine ⟨_, rfl, h, _, rfl, ho5.dp, sh.sh, sh.nd, Nat.le_trans sh.dp (by decide), sh.fits (by decide), ?_⟩
    obtain ⟨hp, hg, he, tps, h1, h2, h3, h4, h5⟩ := ho5.ex
    have lens : tps.length = m := h5.len.trans gd.many
    refine ⟨_, rfl, h, _, 0, _, rfl, rfl, SqT.of h1, atI_nat (j := 0) rfl, hp, rfl, ⟨_, SqT.of h2⟩, fun D nD => ?_⟩
    refine lc_tup (K := K) (a := hp) (xs := Ps.map V.str) (fun i H' => Same H5 H' ∧ ∃ as : List Addr, H' D = some (.lst (as.map V.ref)) ∧ Prs H' as (Ps.take i)) ⟨same_new nD, [], upd_same, .nil⟩ (fun i H' _ z => SqT.of (z.1 _ _ h2)) ?_ ?_
    · rintro i x H' hx ⟨sm, as, hD, pr⟩
      rw [List.getElem?_map] at hx
      obtain ⟨y, hy, rfl⟩ := Option.map_eq_some_iff.mp hx
      have lt : i < Ps.length := (List.getElem?_eq_some_iff.mp hy).1
      refine ⟨rfl, yesT ⟨_, rfl, _, rfl, (by show 2 ≤ sizeLine; decide), fun t nt => ⟨_, (upd_ne (ne_of_none hD nt)).trans hD, ?_, ?_, as ++ [t], ?_, ?_⟩⟩⟩
      · rw [List.length_map, Paired.length pr, List.length_take]
        exact small1000 (by have := gd.le; omega)
      · exact fun b o e => (upd_ne (ne_of_none e nD)).trans ((same_new nt) b o (sm b o e))
      · rw [upd_same, List.map_append]
        rfl
      · rw [take_snoc hy]
        have ntD : t ≠ D := fun z => by rw [z, hD] at nt; cases nt
        refine Paired.snoc (pr.on fun b xs e => ?_) ((upd_ne ntD).trans upd_same)
        rw [upd_ne (ne_of e hD (by intro z; cases z))]
        exact same_new nt _ _ e
    rintro H6 ⟨sm6, as, hD6, pr6⟩
    rw [List.length_map, List.take_length] at pr6
    refine ⟨D, as, kvT Ps id, rfl, SqL.of hD6, pr6.kv, fun U nU => ?_⟩
    rw [merge0 gd.nd]
    have sU := sm6.trans (@same_new _ _ (.dK (kvT Ps id)) nU)
    have hU : (upd H6 U (.dK (kvT Ps id))) U = some (.dK (kvT Ps id)) := upd_same
    have pen6 := pen5.same sU
    have nUp : U ≠ p := fun z => (pen5.same sm6).there (z ▸ nU)
    have nUc : U ≠ c := fun z => (pen5.same sm6).cells (z ▸ nU)
    have ho6 := ho5.on (TK.of sU)
    generalize upd H6 U (.dK (kvT Ps id)) = H7 at sU hU pen6 ho6
    clear nU pr6 hD6 sm6
    have wOk := fun k (hk : k ≤ m) => show k ≤ es.length by rw [gd.many]; exact hk
    refine ⟨_, rfl, m, 1, rfl, rfl, m + 1, rfl, by omega, by omega, for_range (lo := 0) (n := m + 1) (fun j σ H' => ∃ y5 y7 y8 y9, σ = [some (.ref a), some (.ref p), some (.int m), some (.ref h), some (.str (houseD Ps G es).shown), y5, some (.ref U), y7, y8, y9, none] ∧
        PenAt H' p c (1503 + j) ∧ TK H7 H' ∧ H' U = some (.dK (kvT Ps (dlt (es.take (j - 1))))))
      ⟨_, _, _, _, rfl, pen6, fun _ _ e => e, hU⟩ ?_ ?_⟩
    · rintro j σ H8 hj ⟨y5, y7, y8, y9, rfl, pen8, tk8, hU8⟩
      have ho8 := ho6.on tk8
      obtain ⟨hp8, hg8, he8, tps8, g1, g2, g3, g4, g5⟩ := ho8.ex
      refine ⟨fun σ' H' => ∃ y5 y8 y9, σ' = [some (.ref a), some (.ref p), some (.int m), some (.ref h), some (.str (houseD Ps G es).shown), y5, some (.ref U), some (.int (j : Nat)), y8, y9, none] ∧
        PenAt H' p c (1503 + j) ∧ TK H8 H' ∧ H' U = some (.dK (kvT Ps (dlt (es.take j)))), ?_, ?_⟩
      · rw [show (0 : Int) + (j : Int) = ((j : Nat) : Int) from Int.zero_add _]
        refine ⟨_, rfl, j, 0, rfl, rfl, _, rfl, ite2 (fun e => ?_) (fun e => ?_)⟩
        · have j0 : 0 < j := by have := of_decide_eq_true e; omega
          have jm : j - 1 < m := by omega
          have ej : ((j : Int) - 1) = ((j - 1 : Nat) : Int) := by omega
          have lt8 : j - 1 < tps8.length := by rw [g5.len, gd.many]; exact jm
          have ta : tps8[j - 1]? = some tps8[j - 1] := List.getElem?_eq_getElem lt8
          generalize tps8[j - 1] = tj at ta
          obtain ⟨en, hen, htj⟩ := g5.get ta
          have take1 : es.take j = es.take (j - 1) ++ [en] := by
            have := take_snoc hen
            rwa [Nat.sub_add_cancel j0] at this
          have at1 : atI (tps8.map V.ref) ((j : Int) - 1) = some (.ref tj) := by
            rw [ej]
            exact atI_nat (by rw [List.getElem?_map, ta]; rfl)
          refine ⟨_, rfl, h, _, 2, _, rfl, rfl, SqT.of g1, atI_nat (j := 2) rfl, _, rfl, j, 1, rfl, rfl, he8, _, _, _, rfl, rfl, SqT.of g4, at1, tj, _, 0, _, rfl, rfl, SqT.of htj, at0 en, rfl, _, rfl, ?_⟩
          by_cases isw : en.word = "swap"
          · rw [decide_eq_true (congrArg V.str isw)]
            refine iteT ?_
            obtain ⟨nm, mm, o, t, rfl⟩ := sw_ent isw
            obtain ⟨hoP, htP, hne⟩ := gd.sw (List.mem_of_getElem? hen) nm mm o t rfl
            refine ⟨_, rfl, h, _, 2, _, rfl, rfl, SqT.of g1, atI_nat (j := 2) rfl, _, rfl, j, 1, rfl, rfl, he8, _, _, _, rfl, rfl, SqT.of g4, at1, 3, rfl, tj, _, rfl, SqT.of htj, ?_, fun tp ntp => ?_⟩
            · show ¬(HT.sIx 5 0 (some 3) = 0 ∧ HT.sIx 5 5 none = 5)
              decide
            have s9 := @same_new _ _ (.tup [V.str o, .str t]) ntp
            have hcut : cutV (Ent.swap nm mm o t).vals (some 3) none = [V.str o, .str t] := rfl
            rw [hcut]
            refine ⟨tp, _, rfl, SqT.of upd_same, rfl, _, _, rfl, _, _, rfl, rfl, ?_⟩
            refine ⟨_, rfl, h, _, 0, _, rfl, rfl, SqT.of (s9 _ _ g1), atI_nat (j := 0) rfl, hp8, rfl, ⟨_, SqT.of (s9 _ _ g2)⟩, ?_⟩
            generalize upd H8 tp (.tup [V.str o, .str t]) = H9 at s9
            refine for_tup (K := K) (a := hp8) (xs := Ps.map V.str) (fun i σ H' => ∃ y5, σ = [some (.ref a), some (.ref p), some (.int m), some (.ref h), some (.str (houseD Ps G es).shown), y5, some (.ref U), some (.int (j : Nat)), some (.str o), some (.str t), none] ∧
                PenAt H' p c (1503 + j) ∧ TK H8 H' ∧ H' U = some (.dK (kvT Ps (mid Ps i (.swap nm mm o t) (dlt (es.take (j - 1)))))))
              ⟨_, rfl, pen8.same s9, TK.of s9, s9 _ _ hU8⟩ (fun i σ H' _ z => by obtain ⟨_, _, _, z, _⟩ := z; exact SqT.of (z _ _ g2)) ?_ ?_
            · rintro i x σ H10 hx ⟨y5, rfl, pen10, tk10, hU10⟩
              rw [List.getElem?_map] at hx
              obtain ⟨y, hy, rfl⟩ := Option.map_eq_some_iff.mp hx
              have my : y ∈ Ps := List.mem_of_getElem? hy
              have v0 : valV (kvT Ps (mid Ps i (.swap nm mm o t) (dlt (es.take (j - 1))))) (Sum.inr y) = some (.str (dlt (es.take (j - 1)) y)) := by
                rw [valV_kvT my, mid_at gd.nd hy]
              generalize hz : dlt (es.take (j - 1)) y = z at v0
              refine ⟨_, rfl, _, rfl, U, _, rfl, dget_s hU10 v0, _, rfl, _, rfl, (by show 2 ≤ sizeLine; decide), fun tq ntq => ?_⟩
              have s11 := @same_new _ _ (.tup [V.str o, .str t]) ntq
              refine ⟨tq, _, rfl, .inr (SqT.of upd_same), rfl, rfl, _, rfl, ?_⟩
              by_cases ez : z = o ∨ z = t
              · have ei : inV (.str z) [V.str o, .str t] = true := by
                  rcases ez with rfl | rfl
                  · simp [inV, eqV]
                  · simp [inV, eqV]
                rw [ei]
                refine iteT ?_
                refine ⟨_, rfl, _, rfl, (by show 2 ≤ sizeLine; decide), fun lq nlq => ?_⟩
                have s12 := s11.trans (@same_new _ _ (.lst [V.str o, .str t]) nlq)
                refine ⟨_, rfl, _, rfl, U, _, rfl, dget_s (s12 _ _ hU10) v0, _, rfl, rfl, .inr ⟨_, rfl, lq, _, _, .str (swp o t z), rfl, rfl, SqL.of upd_same, ?_, _, rfl, _, rfl, U, _, rfl, dput_s (s12 _ _ hU10) ?_, ?_⟩⟩
                · unfold swp
                  by_cases e1 : z = o
                  · rw [if_pos e1, decide_eq_true (congrArg V.str e1)]
                    exact atI_nat (j := 1) rfl
                  · rw [if_neg e1, decide_eq_false fun q => e1 (V.str.inj q), if_pos (ez.resolve_left e1)]
                    exact atI_nat (j := 0) rfl
                · rw [len_kvT]
                  exact small1000 (by have := gd.le; omega)
                · refine ⟨_, rfl, (pen10.same s12).upd nUp nUc, (tk10.tr (TK.of s12)).tr (TK.upd fun xs e => ?_), ?_⟩
                  · rw [s12 _ _ hU10] at e
                    cases e
                  · rw [upd_same]
                    have := mid_put (e := Ent.swap nm mm o t) (δ := dlt (es.take (j - 1))) gd.nd hy
                    rw [hz] at this
                    exact congrArg (fun z => some (HO.dK z)) this
              · have ei : inV (.str z) [V.str o, .str t] = false := by
                  have n1 : z ≠ o := fun q => ez (.inl q)
                  have n2 : z ≠ t := fun q => ez (.inr q)
                  show ((o == z) || ((t == z) || false)) = false
                  rw [beq_eq_false_iff_ne.mpr n1.symm, beq_eq_false_iff_ne.mpr n2.symm]
                  rfl
                rw [ei]
                refine iteF ⟨_, rfl, pen10.same s11, tk10.tr (TK.of s11), ?_⟩
                rw [s11 _ _ hU10, mid_stay hy]
                rw [hz]
                exact swp_no (fun q => ez (.inl q)) (fun q => ez (.inr q))
            · rintro σ H10 ⟨y5, rfl, pen10, tk10, hU10⟩
              rw [List.length_map, mid_done] at hU10
              refine ⟨_, _, _, rfl, pen10, tk10, ?_⟩
              rw [hU10, take1, dlt_snoc]
          · rw [decide_eq_false fun q => isw (V.str.inj q)]
            refine iteF ⟨_, _, _, rfl, pen8, fun _ _ e => e, ?_⟩
            rw [hU8, take1, dlt_snoc]
            exact congrArg (fun z => some (HO.dK z)) (kvT_congr fun x _ => (nsw_id isw _).symm)
        · have j0 : j = 0 := by
            have : ¬ (0 : Int) < (j : Int) := fun z => e (decide_eq_true z)
            omega
          subst j0
          exact ⟨_, _, _, rfl, pen8, fun _ _ e => e, hU8⟩
      · rintro σ' H9 ⟨z5, z8, z9, rfl, pen9, tk9, hU9⟩
        refine ⟨_, rfl, _, rfl, _, rfl, p, c, _, 2, rfl, pen9, by omega, by decide, by decide, fun r H10 c1 c2 pen10 bt10 => ?_⟩
        have tk10 := TK.but pen9 bt10
        refine ⟨h, Ps, G, es, m, j, r, rfl, (ho8.on tk9).on tk10, gd, by omega, m30, by omega, fun d H11 L s11 pm hd => ?_⟩
        have hU11 := s11 _ _ (bt10 U _ hU9 nUp)
        obtain ⟨e1, e2⟩ := kvT_eq (δ := dlt (es.take j)) pm
        refine ⟨_, rfl, d, U, _, _, rfl, rfl, hd, hU11, e1, e2, false, rfl, iteF ⟨_, _, _, _, rfl, pen10.same s11, ((tk8.tr tk9).tr tk10).tr (TK.of s11), hU11⟩⟩
    · rintro σ H8 ⟨y5, y7, y8, y9, rfl, pen8, tk8, hU8⟩
      have ho8 := ho6.on tk8
      rw [Nat.add_sub_cancel] at hU8
      obtain ⟨hp8, hg8, he8, tps8, g1, g2, g3, g4, g5⟩ := ho8.ex
      refine ⟨_, rfl, h, _, 0, _, rfl, rfl, SqT.of g1, atI_nat (j := 0) rfl, hp8, rfl, ⟨_, SqT.of g2⟩, fun D' nD' => ?_⟩
      refine lc_tup (K := K) (a := hp8) (xs := Ps.map V.str) (fun i H' => Same H8 H' ∧ ∃ as : List Addr, H' D' = some (.lst (as.map V.ref)) ∧ Prs H' as (Ps.take i)) ⟨same_new nD', [], upd_same, .nil⟩ (fun i H' _ z => SqT.of (z.1 _ _ g2)) ?_ ?_
      · rintro i x H' hx ⟨sm, as, hD, pr⟩
        rw [List.getElem?_map] at hx
        obtain ⟨y, hy, rfl⟩ := Option.map_eq_some_iff.mp hx
        have lt : i < Ps.length := (List.getElem?_eq_some_iff.mp hy).1
        refine ⟨rfl, yesT ⟨_, rfl, _, rfl, (by show 2 ≤ sizeLine; decide), fun t nt => ⟨_, (upd_ne (ne_of_none hD nt)).trans hD, ?_, ?_, as ++ [t], ?_, ?_⟩⟩⟩
        · rw [List.length_map, Paired.length pr, List.length_take]
          exact small1000 (by have := gd.le; omega)
        · exact fun b o e => (upd_ne (ne_of_none e nD')).trans ((same_new nt) b o (sm b o e))
        · rw [upd_same, List.map_append]
          rfl
        · rw [take_snoc hy]
          have ntD : t ≠ D' := fun z => by rw [z, hD] at nt; cases nt
          refine Paired.snoc (pr.on fun b xs e => ?_) ((upd_ne ntD).trans upd_same)
          rw [upd_ne (ne_of e hD (by intro z; cases z))]
          exact same_new nt _ _ e
      rintro H9 ⟨sm9, as', hD9, pr9⟩
      rw [List.length_map, List.take_length] at pr9
      refine ⟨D', as', kvT Ps id, rfl, SqL.of hD9, pr9.kv, fun V1 nV => ?_⟩
      rw [merge0 gd.nd]
      have sV := sm9.trans (@same_new _ _ (.dK (kvT Ps id)) nV)
      have hV : (upd H9 V1 (.dK (kvT Ps id))) V1 = some (.dK (kvT Ps id)) := upd_same
      have hU9 := sV _ _ hU8
      have ho9 := ho8.on (TK.of sV)
      generalize upd H9 V1 (.dK (kvT Ps id)) = H10 at sV hV hU9 ho9
      refine ⟨_, rfl, h, Ps, G, es, m, 0, 1, rfl, ho9, gd, by omega, m30, .inr rfl, fun d H11 L s11 pm hd => ?_⟩
      obtain ⟨e1, e2⟩ := kvT_eq (δ := dlt (es.take 0)) pm
      refine ⟨_, rfl, d, V1, _, _, rfl, rfl, hd, s11 _ _ hV, e1, e2, true, rfl, iteT ?_⟩
      refine ⟨_, rfl, _, rfl, h, Ps, G, es, m, m, 0, rfl, ho9.on (TK.of s11), gd, by omega, m30, .inl rfl, fun d' H12 L' s12 pm' hd' => ?_⟩
      obtain ⟨e1', e2'⟩ := kvT_eq (δ := dlt (es.take m)) pm'
      refine ⟨_, rfl, d', U, _, _, rfl, rfl, hd', s12 _ _ (s11 _ _ hU9), e1', e2', true, rfl, iteT ?_⟩
      refine ⟨_, rfl, h, _, rfl, ((ho9.on (TK.of s11)).on (TK.of s12)).dp, sh.sh, sh.nd, Nat.le_trans sh.dp (by decide), sh.fits (by decide), _, rfl, rfl, ?_⟩
      rw [decide_eq_true rfl]
      exact q _
end
theorem all_mk {l : PySem.W.OpenLaw} {q : Program} {loose : List Str} {XP : (Str → Option Value) → Heap → Prop} {w : World} {s0 : Shared} {K : PySem.W.Frag} {h : Heap} {mg mb : Str → Option Value} {fa f1 f2 f3 f4 f5 f6 f7 f8 f9 f10 f11 f12 f13 f14 f15 f16 f17 : Addr}
    (G : PySem.W.Ground q loose [] XP w s0 mg mb h) (X : K.In h) (hfa : mg "law" = some (.ref fa))
    {od1 an1 od2 an2 od3 an3 od4 an4 od5 an5 od6 an6 od7 an7 od8 an8 od9 an9 od10 an10 od11 an11 od12 an12 od13 an13 od14 an14 od15 an15 od16 an16 od17 an17 : Option Addr} {sl1 sl2 sl3 sl4 sl5 sl6 sl7 sl8 sl9 sl10 sl11 sl12 sl13 sl14 sl15 sl16 sl17 : Array (Option Value)} {oc1 kV1 dc1 pm1 ct1 cd1 oc2 kV2 dc2 pm2 ct2 cd2 oc3 kV3 dc3 pm3 ct3 cd3 oc4 kV4 dc4 pm4 ct4 cd4 oc5 kV5 dc5 pm5 ct5 cd5 oc6 kV6 dc6 pm6 ct6 cd6 oc7 kV7 dc7 pm7 ct7 cd7 oc8 kV8 dc8 pm8 ct8 cd8 oc9 kV9 dc9 pm9 ct9 cd9 oc10 kV10 dc10 pm10 ct10 cd10 oc11 kV11 dc11 pm11 ct11 cd11 oc12 kV12 dc12 pm12 ct12 cd12 oc13 kV13 dc13 pm13 ct13 cd13 oc14 kV14 dc14 pm14 ct14 cd14 oc15 kV15 dc15 pm15 ct15 cd15 oc16 kV16 dc16 pm16 ct16 cd16 oc17 kV17 dc17 pm17 ct17 cd17 : Value}
    (a1 : PySem.W.nsIn K mainGlobals "_law_pen" = some (some (.ref f1)))
    (l1 : K.lookup f1 = some ⟨oc1, od1, .func (PySem.W.fnOf "_law_pen" "_law_pen" (defArgs sPen) (defBody sPen) (defScope sPen) .none kV1 dc1 pm1 an1 cd1 ct1), sl1⟩)
    (c_1 : PySem.W.codeIn K cd1 "_law_pen" = true)
    (k1 : PySem.W.keepIn K (.ref f1) = true)
    (a2 : PySem.W.nsIn K mainGlobals "_law_take" = some (some (.ref f2)))
    (l2 : K.lookup f2 = some ⟨oc2, od2, .func (PySem.W.fnOf "_law_take" "_law_take" (defArgs sTake) (defBody sTake) (defScope sTake) .none kV2 dc2 pm2 an2 cd2 ct2), sl2⟩)
    (c_2 : PySem.W.codeIn K cd2 "_law_take" = true)
    (k2 : PySem.W.keepIn K (.ref f2) = true)
    (a3 : PySem.W.nsIn K mainGlobals "_law_names" = some (some (.ref f3)))
    (l3 : K.lookup f3 = some ⟨oc3, od3, .func (PySem.W.fnOf "_law_names" "_law_names" (defArgs sNames) (defBody sNames) (defScope sNames) .none kV3 dc3 pm3 an3 cd3 ct3), sl3⟩)
    (c_3 : PySem.W.codeIn K cd3 "_law_names" = true)
    (k3 : PySem.W.keepIn K (.ref f3) = true)
    (a4 : PySem.W.nsIn K mainGlobals "_law_words" = some (some (.ref f4)))
    (l4 : K.lookup f4 = some ⟨oc4, od4, .func (PySem.W.fnOf "_law_words" "_law_words" (defArgs sWords) (defBody sWords) (defScope sWords) .none kV4 dc4 pm4 an4 cd4 ct4), sl4⟩)
    (c_4 : PySem.W.codeIn K cd4 "_law_words" = true)
    (k4 : PySem.W.keepIn K (.ref f4) = true)
    (a5 : PySem.W.nsIn K mainGlobals "_law_moments" = some (some (.ref f5)))
    (l5 : K.lookup f5 = some ⟨oc5, od5, .func (PySem.W.fnOf "_law_moments" "_law_moments" (defArgs sMoments) (defBody sMoments) (defScope sMoments) .none kV5 dc5 pm5 an5 cd5 ct5), sl5⟩)
    (c_5 : PySem.W.codeIn K cd5 "_law_moments" = true)
    (k5 : PySem.W.keepIn K (.ref f5) = true)
    (a6 : PySem.W.nsIn K mainGlobals "_law_many" = some (some (.ref f6)))
    (l6 : K.lookup f6 = some ⟨oc6, od6, .func (PySem.W.fnOf "_law_many" "_law_many" (defArgs sMany) (defBody sMany) (defScope sMany) .none kV6 dc6 pm6 an6 cd6 ct6), sl6⟩)
    (c_6 : PySem.W.codeIn K cd6 "_law_many" = true)
    (k6 : PySem.W.keepIn K (.ref f6) = true)
    (a7 : PySem.W.nsIn K mainGlobals "_law_entry_of" = some (some (.ref f7)))
    (l7 : K.lookup f7 = some ⟨oc7, od7, .func (PySem.W.fnOf "_law_entry_of" "_law_entry_of" (defArgs sEntryOf) (defBody sEntryOf) (defScope sEntryOf) .none kV7 dc7 pm7 an7 cd7 ct7), sl7⟩)
    (c_7 : PySem.W.codeIn K cd7 "_law_entry_of" = true)
    (k7 : PySem.W.keepIn K (.ref f7) = true)
    (a8 : PySem.W.nsIn K mainGlobals "_law_order" = some (some (.ref f8)))
    (l8 : K.lookup f8 = some ⟨oc8, od8, .func (PySem.W.fnOf "_law_order" "_law_order" (defArgs sOwn) (defBody sOwn) (defScope sOwn) .none kV8 dc8 pm8 an8 cd8 ct8), sl8⟩)
    (c_8 : PySem.W.codeIn K cd8 "_law_order" = true)
    (k8 : PySem.W.keepIn K (.ref f8) = true)
    (a9 : PySem.W.nsIn K mainGlobals "_law_house" = some (some (.ref f9)))
    (l9 : K.lookup f9 = some ⟨oc9, od9, .func (PySem.W.fnOf "_law_house" "_law_house" (defArgs sHouse) (defBody sHouse) (defScope sHouse) .none kV9 dc9 pm9 an9 cd9 ct9), sl9⟩)
    (c_9 : PySem.W.codeIn K cd9 "_law_house" = true)
    (k9 : PySem.W.keepIn K (.ref f9) = true)
    (a10 : PySem.W.nsIn K mainGlobals "places_of" = some (some (.ref f10)))
    (l10 : K.lookup f10 = some ⟨oc10, od10, .func (PySem.W.fnOf "places_of" "places_of" (defArgs sPlacesOf) (defBody sPlacesOf) (defScope sPlacesOf) .none kV10 dc10 pm10 an10 cd10 ct10), sl10⟩)
    (c_10 : PySem.W.codeIn K cd10 "places_of" = true)
    (k10 : PySem.W.keepIn K (.ref f10) = true)
    (a11 : PySem.W.nsIn K mainGlobals "place_of" = some (some (.ref f11)))
    (l11 : K.lookup f11 = some ⟨oc11, od11, .func (PySem.W.fnOf "place_of" "place_of" (defArgs sPlaceOf) (defBody sPlaceOf) (defScope sPlaceOf) .none kV11 dc11 pm11 an11 cd11 ct11), sl11⟩)
    (c_11 : PySem.W.codeIn K cd11 "place_of" = true)
    (k11 : PySem.W.keepIn K (.ref f11) = true)
    (a12 : PySem.W.nsIn K mainGlobals "track_at" = some (some (.ref f12)))
    (l12 : K.lookup f12 = some ⟨oc12, od12, .func (PySem.W.fnOf "track_at" "track_at" (defArgs sTrackAt) (defBody sTrackAt) (defScope sTrackAt) .none kV12 dc12 pm12 an12 cd12 ct12), sl12⟩)
    (c_12 : PySem.W.codeIn K cd12 "track_at" = true)
    (k12 : PySem.W.keepIn K (.ref f12) = true)
    (a13 : PySem.W.nsIn K mainGlobals "tracks_behind" = some (some (.ref f13)))
    (l13 : K.lookup f13 = some ⟨oc13, od13, .func (PySem.W.fnOf "tracks_behind" "tracks_behind" (defArgs sBehind) (defBody sBehind) (defScope sBehind) .none kV13 dc13 pm13 an13 cd13 ct13), sl13⟩)
    (c_13 : PySem.W.codeIn K cd13 "tracks_behind" = true)
    (k13 : PySem.W.keepIn K (.ref f13) = true)
    (a14 : PySem.W.nsIn K mainGlobals "tracks_at_first" = some (some (.ref f14)))
    (l14 : K.lookup f14 = some ⟨oc14, od14, .func (PySem.W.fnOf "tracks_at_first" "tracks_at_first" (defArgs sFirst) (defBody sFirst) (defScope sFirst) .none kV14 dc14 pm14 an14 cd14 ct14), sl14⟩)
    (c_14 : PySem.W.codeIn K cd14 "tracks_at_first" = true)
    (k14 : PySem.W.keepIn K (.ref f14) = true)
    (a15 : PySem.W.nsIn K mainGlobals "exchanged" = some (some (.ref f15)))
    (l15 : K.lookup f15 = some ⟨oc15, od15, .func (PySem.W.fnOf "exchanged" "exchanged" (defArgs sExch) (defBody sExch) (defScope sExch) .none kV15 dc15 pm15 an15 cd15 ct15), sl15⟩)
    (c_15 : PySem.W.codeIn K cd15 "exchanged" = true)
    (k15 : PySem.W.keepIn K (.ref f15) = true)
    (a16 : PySem.W.nsIn K mainGlobals "_law_here" = some (some (.ref f16)))
    (l16 : K.lookup f16 = some ⟨oc16, od16, .func (PySem.W.fnOf "_law_here" "_law_here" (defArgs sHere) (defBody sHere) (defScope sHere) .none kV16 dc16 pm16 an16 cd16 ct16), sl16⟩)
    (c_16 : PySem.W.codeIn K cd16 "_law_here" = true)
    (k16 : PySem.W.keepIn K (.ref f16) = true)
    (a17 : PySem.W.nsIn K mainGlobals "law" = some (some (.ref f17)))
    (l17 : K.lookup f17 = some ⟨oc17, od17, .func (PySem.W.fnOf "law" "law" (defArgs sLaw) (defBody sLaw) (defScope sLaw) .none kV17 dc17 pm17 an17 cd17 ct17), sl17⟩)
    (c_17 : PySem.W.codeIn K cd17 "law" = true)
    (k17 : PySem.W.keepIn K (.ref f17) = true)
    (y_len : PySem.W.nsIn K mainGlobals "len" = some none)
    (y_abs : PySem.W.nsIn K mainGlobals "abs" = some none)
    (y_list : PySem.W.nsIn K mainGlobals "list" = some none)
    (y_range : PySem.W.nsIn K mainGlobals "range" = some none)
    (y_int : PySem.W.nsIn K mainGlobals "int" = some none)
    (y_sorted : PySem.W.nsIn K mainGlobals "sorted" = some none)
    (y_tuple : PySem.W.nsIn K mainGlobals "tuple" = some none)
    (y_dict : PySem.W.nsIn K mainGlobals "dict" = some none)
    (y_repr : PySem.W.nsIn K mainGlobals "repr" = some none) :
    LawG l w K 6 63 "_law_script" mg fa h := by
  have Gg := G.T.g
  have e := hfa.symm.trans (PySem.W.mg_of X Gg a17)
  cases e
  have n_len := PySem.W.mg_none_of X Gg y_len
  have n_abs := PySem.W.mg_none_of X Gg y_abs
  have n_list := PySem.W.mg_none_of X Gg y_list
  have n_range := PySem.W.mg_none_of X Gg y_range
  have n_int := PySem.W.mg_none_of X Gg y_int
  have n_sorted := PySem.W.mg_none_of X Gg y_sorted
  have n_tuple := PySem.W.mg_none_of X Gg y_tuple
  have n_dict := PySem.W.mg_none_of X Gg y_dict
  have n_repr := PySem.W.mg_none_of X Gg y_repr
  have F1 := fun_mk (st := sPen) l1 c_1 k1
  have b1 := F1.binds (ps := ["_law_script"]) fun _ _ _ _ _ _ us hl => match us, hl with | [_], _ => rfl
  have g1 := PySem.W.mg_of X Gg a1
  have F2 := fun_mk (st := sTake) l2 c_2 k2
  have b2 := F2.binds (ps := ["_law_pen_here", "_law_many_here"]) fun _ _ _ _ _ _ us hl => match us, hl with | [_, _], _ => rfl
  have g2 := PySem.W.mg_of X Gg a2
  have F3 := fun_mk (st := sNames) l3 c_3 k3
  have b3 := F3.binds (ps := ["_law_pen_here", "_law_many_here"]) fun _ _ _ _ _ _ us hl => match us, hl with | [_, _], _ => rfl
  have g3 := PySem.W.mg_of X Gg a3
  have F4 := fun_mk (st := sWords) l4 c_4 k4
  have b4 := F4.binds (ps := ["_law_pen_here", "_law_places", "_law_goods", "_law_entries"]) fun _ _ _ _ _ _ us hl => match us, hl with | [_, _, _, _], _ => rfl
  have g4 := PySem.W.mg_of X Gg a4
  have F5 := fun_mk (st := sMoments) l5 c_5 k5
  have b5 := F5.binds (ps := ["_law_pen_here", "_law_many_here"]) fun _ _ _ _ _ _ us hl => match us, hl with | [_, _], _ => rfl
  have g5 := PySem.W.mg_of X Gg a5
  have F6 := fun_mk (st := sMany) l6 c_6 k6
  have b6 := F6.binds (ps := ["_law_pen_here"]) fun _ _ _ _ _ _ us hl => match us, hl with | [_], _ => rfl
  have g6 := PySem.W.mg_of X Gg a6
  have F7 := fun_mk (st := sEntryOf) l7 c_7 k7
  have b7 := F7.binds (ps := ["_law_pen_here", "_law_word", "_law_name", "_law_moment", "_law_places", "_law_goods", "_law_hands"]) fun _ _ _ _ _ _ us hl => match us, hl with | [_, _, _, _, _, _, _], _ => rfl
  have g7 := PySem.W.mg_of X Gg a7
  have F8 := fun_mk (st := sOwn) l8 c_8 k8
  have b8 := F8.binds (ps := ["_law_entry_here"]) fun _ _ _ _ _ _ us hl => match us, hl with | [_], _ => rfl
  have g8 := PySem.W.mg_of X Gg a8
  have F9 := fun_mk (st := sHouse) l9 c_9 k9
  have b9 := F9.binds (ps := ["_law_pen_here", "_law_many_here"]) fun _ _ _ _ _ _ us hl => match us, hl with | [_, _], _ => rfl
  have g9 := PySem.W.mg_of X Gg a9
  have F10 := fun_mk (st := sPlacesOf) l10 c_10 k10
  have b10 := F10.binds (ps := ["entry"]) fun _ _ _ _ _ _ us hl => match us, hl with | [_], _ => rfl
  have g10 := PySem.W.mg_of X Gg a10
  have F11 := fun_mk (st := sPlaceOf) l11 c_11 k11
  have b11 := F11.binds (ps := ["house", "track", "at"]) fun _ _ _ _ _ _ us hl => match us, hl with | [_, _, _], _ => rfl
  have g11 := PySem.W.mg_of X Gg a11
  have F12 := fun_mk (st := sTrackAt) l12 c_12 k12
  have b12 := F12.binds (ps := ["house", "place", "at"]) fun _ _ _ _ _ _ us hl => match us, hl with | [_, _, _], _ => rfl
  have g12 := PySem.W.mg_of X Gg a12
  have F13 := fun_mk (st := sBehind) l13 c_13 k13
  have b13 := F13.binds (ps := ["house", "at"]) fun _ _ _ _ _ _ us hl => match us, hl with | [_, _], _ => rfl
  have g13 := PySem.W.mg_of X Gg a13
  have F14 := fun_mk (st := sFirst) l14 c_14 k14
  have b14 := F14.binds (ps := ["house"]) fun _ _ _ _ _ _ us hl => match us, hl with | [_], _ => rfl
  have g14 := PySem.W.mg_of X Gg a14
  have F15 := fun_mk (st := sExch) l15 c_15 k15
  have b15 := F15.binds (ps := ["there", "entry"]) fun _ _ _ _ _ _ us hl => match us, hl with | [_, _], _ => rfl
  have g15 := PySem.W.mg_of X Gg a15
  have F16 := fun_mk (st := sHere) l16 c_16 k16
  have b16 := F16.binds (ps := ["_law_house_here", "_law_at", "_law_way"]) fun _ _ _ _ _ _ us hl => match us, hl with | [_, _, _], _ => rfl
  have g16 := PySem.W.mg_of X Gg a16
  have F17 := fun_mk (st := sLaw) l17 c_17 k17

  refine ⟨PySem.W.fnOf "law" "law" (defArgs sLaw) (defBody sLaw) (defScope sLaw) .none kV17 dc17 pm17 an17 cd17 ct17, [], spLaw K, ⟨fun p hp => ?_, fun p hp => ?_, fun p hp => ?_⟩, fun s v => .of_eq rfl, fun H a ns hlen hT hS => ?_, fun base _ _ TB => ?_⟩
  · exact nomatch hp
  · exact nomatch hp
  · exact nomatch hp
  · exact ⟨a, ns, rfl, hS, fun _ => rfl⟩
  · have TT : TakeT l.prog w K mg base f2 _ := ⟨ok_take F2 n_len n_abs, g2, k2, b2⟩
    have N : DefT l.prog w K mg base "_law_names" 2 f3 _ _ spNames := ⟨ok_names F3 TT n_len n_range, g3, k3, b3⟩
    have MY : DefT l.prog w K mg base "_law_many" 2 f6 _ _ spMany := ⟨ok_many F6 TT, g6, k6, b6⟩
    have EO : DefT l.prog w K mg base "_law_entry_of" 3 f7 _ _ spEntryOf := ⟨ok_entryOf F7 TT MY n_len, g7, k7, b7⟩
    have WS : DefT l.prog w K mg base "_law_words" 3 f4 _ _ spWords := ⟨ok_words F4 TT N, g4, k4, b4⟩
    have MO : DefT l.prog w K mg base "_law_moments" 2 f5 _ _ spMoments := ⟨ok_moments F5 TT n_len n_range n_int, g5, k5, b5⟩
    have OD : DefT l.prog w K mg base "_law_order" 1 f8 _ _ spOrd := ⟨ok_own F8 n_int, g8, k8, b8⟩
    have HS : DefT l.prog w K mg base "_law_house" 4 f9 _ _ spHouse := ⟨ok_house F9 TT WS MO EO OD n_range n_sorted n_tuple, g9, k9, b9⟩
    have PO : DefT l.prog w K mg base "places_of" 1 f10 _ _ spPlaces := ⟨ok_placesOf F10, g10, k10, b10⟩
    have FI : DefT l.prog w K mg base "tracks_at_first" 1 f14 _ _ spFirst := ⟨ok_first F14, g14, k14, b14⟩
    have XC : DefT l.prog w K mg base "exchanged" 2 f15 _ _ spExch := ⟨ok_exch F15 PO, g15, k15, b15⟩
    have BH : DefT l.prog w K mg base "tracks_behind" 3 f13 _ _ spBehind := ⟨ok_behind F13 FI XC, g13, k13, b13⟩
    have TA : DefT l.prog w K mg base "track_at" 4 f12 _ _ spTrackAt := ⟨ok_trackAt F12 BH, g12, k12, b12⟩
    have PL : DefT l.prog w K mg base "place_of" 4 f11 _ _ spPlaceOf := ⟨ok_placeOf F11 BH, g11, k11, b11⟩
    have HE : DefT l.prog w K mg base "_law_here" 5 f16 _ _ spHere := ⟨ok_here F16 PL TA, g16, k16, b16⟩
    exact ok_law F17 ⟨ok_pen F1 n_list, g1, k1, b1⟩ TT HS HE n_range n_dict n_int n_repr
end Shelf
open PySem PySem.W PyProof.Rows
set_option maxHeartbeats 0 in
theorem PySem.Challenge.cw_shelfcounts_k08_tracks_there_and_back_holds : PySem.Challenge.rw_shelfcounts_k08_tracks_there_and_back.Holds := by
  w_on; o_law; k_head; (case hw => w_witness2)
  k_fill
  refine Shelf.end_G (l := PySem.Challenge.rw_shelfcounts_k08_tracks_there_and_back) (n := 63) (k := 6) (x := "_law_script") rfl (by decide) rfl ⟨rfl, by decide, by decide⟩ (fun w h Y => PySem.W.kIn_of Y) ?F
  case F =>
    intro w s0 mg mb fa h G KX hmg
    refine' Shelf.all_mk G KX hmg ?a1 ?l1 ?c_1 ?k1 ?a2 ?l2 ?c_2 ?k2 ?a3 ?l3 ?c_3 ?k3 ?a4 ?l4 ?c_4 ?k4 ?a5 ?l5 ?c_5 ?k5 ?a6 ?l6 ?c_6 ?k6 ?a7 ?l7 ?c_7 ?k7 ?a8 ?l8 ?c_8 ?k8 ?a9 ?l9 ?c_9 ?k9 ?a10 ?l10 ?c_10 ?k10 ?a11 ?l11 ?c_11 ?k11 ?a12 ?l12 ?c_12 ?k12 ?a13 ?l13 ?c_13 ?k13 ?a14 ?l14 ?c_14 ?k14 ?a15 ?l15 ?c_15 ?k15 ?a16 ?l16 ?c_16 ?k16 ?a17 ?l17 ?c_17 ?k17 ?y_len ?y_abs ?y_list ?y_range ?y_int ?y_sorted ?y_tuple ?y_dict ?y_repr
    (case a1 => k_is); (case l1 => k_is); (case c_1 => k_is); (case k1 => k_is); (case a2 => k_is); (case l2 => k_is)
    (case c_2 => k_is); (case k2 => k_is); (case a3 => k_is); (case l3 => k_is); (case c_3 => k_is); (case k3 => k_is)
    (case a4 => k_is); (case l4 => k_is); (case c_4 => k_is); (case k4 => k_is); (case a5 => k_is); (case l5 => k_is)
    (case c_5 => k_is); (case k5 => k_is); (case a6 => k_is); (case l6 => k_is); (case c_6 => k_is); (case k6 => k_is)
    (case a7 => k_is); (case l7 => k_is); (case c_7 => k_is); (case k7 => k_is); (case a8 => k_is); (case l8 => k_is)
    (case c_8 => k_is); (case k8 => k_is); (case a9 => k_is); (case l9 => k_is); (case c_9 => k_is); (case k9 => k_is)
    (case a10 => k_is); (case l10 => k_is); (case c_10 => k_is); (case k10 => k_is); (case a11 => k_is); (case l11 => k_is)
    (case c_11 => k_is); (case k11 => k_is); (case a12 => k_is); (case l12 => k_is); (case c_12 => k_is); (case k12 => k_is)
    (case a13 => k_is); (case l13 => k_is); (case c_13 => k_is); (case k13 => k_is); (case a14 => k_is); (case l14 => k_is)
    (case c_14 => k_is); (case k14 => k_is); (case a15 => k_is); (case l15 => k_is); (case c_15 => k_is); (case k15 => k_is)
    (case a16 => k_is); (case l16 => k_is); (case c_16 => k_is); (case k16 => k_is); (case a17 => k_is); (case l17 => k_is)
    (case c_17 => k_is); (case k17 => k_is); (case y_len => k_is); (case y_abs => k_is); (case y_list => k_is); (case y_range => k_is)
    (case y_int => k_is); (case y_sorted => k_is); (case y_tuple => k_is); (case y_dict => k_is); (case y_repr => k_is)

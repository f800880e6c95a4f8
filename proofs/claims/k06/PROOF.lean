import PyProof.Rows.All
import Wide.All
import OpenK.AllK
import Wide.FinOn
import HandS.ForMost
import HandS.Style
import HandS.Codes
import HandS.Walk
import HandS.More
import KE.KEqSeq
import KE.DataCmp
import PySem.Challenge.RW_shelfcounts_k06_entries_in_order
set_option Elab.async false
set_option linter.all false
set_option maxRecDepth 100000
namespace Shelf
open PySem PySem.Spec PyProof.Rows L2
def topS (i : Nat) : Stmt := PySem.Challenge.pw_shelfcounts_k06_entries_in_order.main.body.getD i (.Pass ⟨0, 0, 0, 0⟩)
abbrev sPen : Stmt := topS 5
abbrev sTake : Stmt := topS 6
abbrev sNames : Stmt := topS 8
abbrev sWords : Stmt := topS 9
abbrev sMoments : Stmt := topS 10
abbrev sMany : Stmt := topS 11
abbrev sEntryOf : Stmt := topS 12
abbrev sEntry : Stmt := topS 13
/-! ### the pen: what a script is drawn from -/
theorem same_new {H : Hp} {p : Addr} {o : HO} (h : H p = none) : Same H (upd H p o) := fun b x e => (upd_ne (ne_of_none e h)).trans e
/-- all but the object at p is as it was -/
def But (p : Addr) (H H' : Hp) : Prop := ∀ b o, H b = some o → b ≠ p → H' b = some o
theorem But.refl (p : Addr) (H : Hp) : But p H H := fun _ _ e _ => e
theorem But.of {p : Addr} {H H' : Hp} (h : Same H H') : But p H H' := fun b o e _ => h b o e
theorem But.tr {p : Addr} {H H1 H2 : Hp} (a : But p H H1) (b : But p H1 H2) : But p H H2 := fun c o e n => b c o (a c o e n) n
theorem But.to {p : Addr} {H H1 : Hp} (a : But p H H1) {l : Addr} {o : HO} (h : H l = none) (n : H p ≠ none) : But p H (upd H1 l o) := fun c u e nc => (upd_ne (ne_of_none e h)).trans (a c u e nc)
theorem dget_s {H : Hp} {p : Addr} {kvs : List (Key × V)} {x : Str} {v : V} (h : H p = some (.dK kvs)) (e : valV kvs (Sum.inr x) = some v) : DGet H p (.str x) (some v) := .inl ⟨kvs, Sum.inr x, .inl h, rfl, e.symm⟩
theorem dput_s {H : Hp} {p : Addr} {kvs : List (Key × V)} {x : Str} {v : V} (h : H p = some (.dK kvs)) (hl : kvs.length < sizeLine) : DPut H p (.str x) v (upd H p (.dK (putK kvs (Sum.inr x) v))) := .inl ⟨kvs, Sum.inr x, h, rfl, hl, rfl⟩
theorem put_len {kvs : List (Key × V)} {k : Key} {v u : V} (e : valV kvs k = some u) : (putK kvs k v).length = kvs.length := by
  have h := valV_any k kvs
  rw [e] at h
  have h' : (kvs.any fun kv => decide (kv.1 = k)) = true := h
  unfold putK
  rw [if_pos h', List.length_map]
abbrev kCells : Key := Sum.inr "cells"
abbrev kAt : Key := Sum.inr "at"
abbrev kLeft : Key := Sum.inr "left"
theorem nCA : ¬ kCells = kAt := by decide +kernel
theorem nCL : ¬ kCells = kLeft := by decide +kernel
theorem nAL : ¬ kAt = kLeft := by decide +kernel
theorem nLA : ¬ kLeft = kAt := by decide +kernel
/-- a pen stands at p, its cells at c; at most n have been drawn -/
structure PenAt (H : Hp) (p c : Addr) (n : Nat) : Prop where
  ex : ∃ (kvs : List (Key × V)) (ns : List Int) (a l : Int), H p = some (.dK kvs) ∧ kvs.length ≤ 3 ∧ valV kvs kCells = some (.ref c) ∧ valV kvs kAt = some (.int a) ∧ valV kvs kLeft = some (.int l) ∧ H c = some (.lst (ns.map V.int)) ∧ 0 ≤ a ∧ a ≤ n ∧ 0 ≤ l
theorem PenAt.same {H H' : Hp} {p c : Addr} {n : Nat} (P : PenAt H p c n) (h : Same H H') : PenAt H' p c n := by
  obtain ⟨kvs, ns, a, l, h1, h2, h3, h4, h5, h6, h7⟩ := P.ex
  exact ⟨kvs, ns, a, l, h _ _ h1, h2, h3, h4, h5, h _ _ h6, h7⟩
theorem PenAt.there {H : Hp} {p c : Addr} {n : Nat} (P : PenAt H p c n) : H p ≠ none := by
  obtain ⟨kvs, ns, a, l, h1, _⟩ := P.ex
  rw [h1]
  exact fun z => nomatch z
theorem PenAt.cells {H : Hp} {p c : Addr} {n : Nat} (P : PenAt H p c n) : H c ≠ none := by
  obtain ⟨kvs, ns, a, l, _, _, _, _, _, h1, _⟩ := P.ex
  rw [h1]
  exact fun z => nomatch z
theorem PenAt.upd {H : Hp} {p c l : Addr} {n : Nat} {o : HO} (P : PenAt H p c n) (h1 : l ≠ p) (h2 : l ≠ c) : PenAt (L2.upd H l o) p c n := by
  obtain ⟨kvs, ns, a, x, g1, g2, g3, g4, g5, g6, g7⟩ := P.ex
  exact ⟨kvs, ns, a, x, (upd_ne h1.symm).trans g1, g2, g3, g4, g5, (upd_ne h2.symm).trans g6, g7⟩
theorem PenAt.mono {H : Hp} {p c : Addr} {n m : Nat} (P : PenAt H p c n) (h : n ≤ m) : PenAt H p c m := by
  obtain ⟨kvs, ns, a, l, g1, g2, g3, g4, g5, g6, g7, g8, g9⟩ := P.ex
  exact ⟨kvs, ns, a, l, g1, g2, g3, g4, g5, g6, g7, by omega, g9⟩
theorem dp_ints {K : PySem.W.Frag} {H : Hp} : ∀ ns : List Int, DpAll K H (ns.map V.int) (ns.map PyData.int)
  | [] => .nil
  | n :: r => .cons (.int n) (dp_ints r)
/-- what a draw promises: a number below many, the pen drawn once more, nothing else touched -/
def spTake : Sp := fun vs H Q _ => ∃ (p c : Addr) (n : Nat) (m : Int), vs = [.ref p, .int m] ∧ PenAt H p c n ∧ n ≤ 100000 ∧ 1 ≤ m ∧ m ≤ 1000000000 ∧
  ∀ (r : Int) (H' : Hp), 0 ≤ r → r < m → PenAt H' p c (n + 1) → But p H H' → Q (.int r) H'
def spPen (K : PySem.W.Frag) : Sp := fun vs H Q _ => ∃ (a : Addr) (ns : List Int), vs = [.ref a] ∧ SqL K H a (ns.map V.int) ∧
  ∀ (p c : Addr) (H' : Hp), H p = none → H c = none → PenAt H' p c 0 → Same H H' → Q (.ref p) H'
theorem mem_cut {α : Type} {xs : List α} {lo hi : Nat} : ∀ x ∈ (xs.drop lo).take hi, x ∈ xs := fun x h => List.mem_of_mem_drop (List.mem_of_mem_take h)
theorem cut_ints (ns : List Int) (lo hi : Option Int) : ∃ ms : List Int, cutV (ns.map V.int) lo hi = ms.map V.int := by
  unfold cutV
  rw [← List.map_drop, ← List.map_take]
  exact ⟨_, rfl⟩
section
variable {P : Program} {w : World} {K : PySem.W.Frag} {mg : Str → Option Value} {base : Heap}
theorem scPen : FnScope ["_law_script"] ["_law_script"] (defScope sPen) := ⟨rfl, rfl, rfl, by decide +kernel, rfl, by decide +kernel, by decide +kernel⟩
theorem scTake : FnScope ["_law_pen_here", "_law_many_here", "_law_found", "_law_at", "_law_cells", "_law_cell", "_law_one", "_law_two"] ["_law_pen_here", "_law_many_here"] (defScope sTake) := ⟨rfl, rfl, rfl, by decide +kernel, rfl, by decide +kernel, by decide +kernel⟩
theorem ok_pen {f : Addr} {fd : FuncData} (F : Fun K "_law_pen" "_law_pen" sPen f fd) (ml : mg "list" = none) : FnOk P w K mg base CX0 1 f fd ["_law_script"] (spPen K) := by
  refine F.ok scPen (fun vs H Q E h => ?_) (fun cdv A outer s H vs Q E hr h => ?_)
  · obtain ⟨a, ns, rfl, _⟩ := h
    rfl
  · obtain ⟨a, ns, rfl, hS, q⟩ := h
    refine ⟨_, pss_one (ps_ret (pe_disp (pps_cons pe_str (pe_callTy call_list_of (by rfl) ml (by decide +kernel) (pa_cons (pe_slice sl_list (pv 0) po_none (po_some pe_int)) pa_nil))
      (pps_cons pe_str pe_int (pps_cons pe_str pe_int pps_nil))) (by rfl) (by rfl) (fun z => by cases z) (by decide))), ?_⟩
    refine fun p np => ?_
    have s1 : Same H (upd H p (.dK [])) := same_new np
    refine ⟨.ref a, rfl, 63, rfl, a, ns.map V.int, rfl, s1.seq hS, fun t nt => ?_⟩
    obtain ⟨ms, em⟩ := cut_ints ns none (some 63)
    have s2 : Same (upd H p (.dK [])) (upd (upd H p (.dK [])) t (.lst (cutV (ns.map V.int) none (some 63)))) := same_new nt
    refine ⟨t, _, rfl, .inl (SqL.of upd_same), fun c nc => ?_⟩
    have s3 := @same_new _ _ (.lst (cutV (ns.map V.int) none (some 63))) nc
    have hp := s3 _ _ (s2 _ _ upd_same)
    refine ⟨hp, [(kCells, .ref c), (kAt, .int 0), (kLeft, .int 0)], rfl, (by show 3 ≤ 15; decide), ?_⟩
    have s4 := s1.trans (s2.trans s3)
    have npc : p ≠ c := ne_of_none (s2 _ _ upd_same) nc
    refine q p c _ np (s1.free (s2.free nc)) ⟨_, ms, 0, 0, upd_same, (by exact Nat.le_refl 3), ?_, ?_, ?_, ?_, Int.le_refl _, Int.le_refl _, Int.le_refl _⟩ fun b o e => (upd_ne (ne_of_none e np)).trans (s4 b o e)
    · rfl
    · rfl
    · rfl
    · rw [upd_ne npc.symm, upd_same, em]
theorem ok_take {f : Addr} {fd : FuncData} (F : Fun K "_law_take" "_law_take" sTake f fd) (mlen : mg "len" = none) (mabs : mg "abs" = none) : FnOk P w K mg base CX0 1 f fd ["_law_pen_here", "_law_many_here"] spTake := by
  refine F.ok scTake (fun vs H Q E h => ?_) (fun cdv A outer s H vs Q E hr h => ?_)
  · obtain ⟨p, c, n, m, rfl, _⟩ := h
    rfl
  · obtain ⟨p, c, n, m, rfl, pen, hn, m1, m2, q⟩ := h
    have hu := hu_of hr
    have nd := scTake.nd
    refine ⟨_, pss_cons (ps_if (pt_cmpR op_gt (pe_dget hu (pv 0) pe_str (fun _ _ => rfl)) pe_int (nomark _))
        (pss_cons (ps_set (i := 2) nd rfl (Or.inl rfl) (pe_op op_mod (pe_dget hu (pv 0) pe_str (fun _ _ => rfl)) (pv 1)))
        (pss_cons (ps_dput hu (pv 0) pe_str (pe_op op_fdiv (pe_dget hu (pv 0) pe_str (fun _ _ => rfl)) (pv 1)) rfl)
        (pss_one (ps_ret (pv 2))))) pss_nil)
      (pss_cons (ps_set (i := 3) nd rfl (Or.inl rfl) (pe_dget hu (pv 0) pe_str (fun _ _ => rfl)))
      (pss_cons (ps_dput hu (pv 0) pe_str (pe_op op_add (pv 3) pe_int) rfl)
      (pss_cons (ps_set (i := 4) nd rfl (Or.inl rfl) (pe_dget hu (pv 0) pe_str (fun _ _ => rfl)))
      (pss_cons (ps_set (i := 5) nd rfl (Or.inl rfl) (pe_op op_add (pe_op op_add (pe_op op_mul (pe_op op_mul pe_int (pv 3)) (pv 3)) (pe_op op_mul pe_int (pv 3))) pe_int))
      (C8.pss_cut (ps_if (pt_cmpR (op_neD hr.units) (pv 4) (pe_lst pa_nil) (nomark _))
        (pss_one (ps_set (i := 5) nd rfl (Or.inl rfl) (pe_ix ix_list (pv 4) (pe_op op_mod (pv 3) (pe_callB call_len_seq (by rfl) mlen PySem.boot_len (pa_cons (pv 4) pa_nil))) (fun _ _ => rfl)))) pss_nil)
      (C8.pss_cut (ps_if (PW.pt (pw_and (pt_cmpR op_lt (pv 3) (pe_callB call_len_seq (by rfl) mlen PySem.boot_len (pa_cons (pv 4) pa_nil)) (nomark _))
          (pw_and1 (pt_cmpR op_ge (pe_callB call_abs (by rfl) mabs (by decide +kernel) (pa_cons (pv 5) pa_nil)) (pe_op op_pow pe_int pe_int) (nomark _)))))
        (pss_cons (ps_dput hu (pv 0) pe_str (pe_op op_fdiv (pe_callB call_abs (by rfl) mabs (by decide +kernel) (pa_cons (pv 5) pa_nil)) (pv 1)) rfl)
        (pss_one (ps_ret (pe_op op_mod (pe_callB call_abs (by rfl) mabs (by decide +kernel) (pa_cons (pv 5) pa_nil)) (pv 1))))) pss_nil)
      (pss_cons (ps_set (i := 6) nd rfl (Or.inl rfl) (pe_op op_mod (pe_op op_pow (pe_op op_add (pe_op op_add (pe_op op_mod (pv 5) pe_int) (pe_op op_mul pe_int (pv 3))) pe_int) pe_int) pe_int))
      (pss_cons (ps_set (i := 7) nd rfl (Or.inl rfl) (pe_op op_mod (pe_op op_pow (pe_op op_add (pe_op op_add (pv 6) (pe_op op_mul (pe_op op_mul pe_int (pv 3)) (pv 3))) pe_int) pe_int) pe_int))
      (pss_one (ps_ret (pe_op op_mod (pe_op op_fdiv (pe_op op_mod (pe_op op_mul (pv 7) (pe_op op_add (pe_op op_mod (pv 6) pe_int) pe_int)) pe_int) pe_int) (pv 1)))))))))))), ?_⟩
    obtain ⟨kvs, ns, a, l, g1, g2, g3, g4, g5, g6, g7, g8, g9⟩ := pen.ex
    have hsz : kvs.length < sizeLine := small1000 (by omega)
    have npc : p ≠ c := ne_of g1 g6 (by intro z; cases z)
    -- the left
    refine ⟨_, rfl, p, _, rfl, dget_s g1 g5, l, 0, rfl, rfl, _, rfl, ite2 (fun e => ?_) (fun e => ?_)⟩
    · have e' : 0 < l := of_decide_eq_true e
      refine ⟨_, rfl, p, _, rfl, dget_s g1 g5, _, rfl, l, m, rfl, rfl, (by show (0 : Int) < m; omega), ?_⟩
      refine ⟨_, rfl, p, _, rfl, dget_s g1 g5, _, rfl, l, m, rfl, rfl, ⟨by omega, by omega⟩, _, rfl, p, _, rfl, dput_s g1 hsz, _, rfl, ?_⟩
      refine q _ _ (Int.emod_nonneg _ (by omega)) (Int.emod_lt_of_pos _ (by omega)) ⟨_, ns, a, l / m, upd_same, (by rw [put_len g5]; exact g2), ?_, ?_, ?_, ?_, g7, by omega, Int.ediv_nonneg (by omega) (by omega)⟩ fun b o z nb => (upd_ne nb).trans z
      · rw [valV_put, if_neg nCL]; exact g3
      · rw [valV_put, if_neg nAL]; exact g4
      · rw [valV_put, if_pos rfl]
      · rw [upd_ne npc.symm]; exact g6
    · -- a new cell
      refine ⟨_, rfl, p, _, rfl, dget_s g1 g4, ?_⟩
      refine ⟨_, rfl, a, 1, rfl, rfl, _, rfl, p, _, rfl, dput_s g1 hsz, ?_⟩
      have k1 : (upd H p (.dK (putK kvs kAt (.int (a + 1))))) p = some (.dK (putK kvs kAt (.int (a + 1)))) := upd_same
      have v3 : valV (putK kvs kAt (.int (a + 1))) kCells = some (.ref c) := by rw [valV_put, if_neg nCA]; exact g3
      have v4 : valV (putK kvs kAt (.int (a + 1))) kAt = some (.int (a + 1)) := by rw [valV_put, if_pos rfl]
      have v5 : valV (putK kvs kAt (.int (a + 1))) kLeft = some (.int l) := by rw [valV_put, if_neg nLA]; exact g5
      have k2 : (putK kvs kAt (.int (a + 1))).length ≤ 3 := by rw [put_len g4]; exact g2
      have k6 : (upd H p (.dK (putK kvs kAt (.int (a + 1))))) c = some (.lst (ns.map V.int)) := by rw [upd_ne npc.symm]; exact g6
      generalize putK kvs kAt (.int (a + 1)) = kw at k1 k2 k6 v3 v4 v5
      refine ⟨_, rfl, p, _, rfl, dget_s k1 v3, ?_⟩
      refine ⟨_, rfl, 70207, a, rfl, rfl, .inl ⟨by decide, by decide⟩, _, rfl, _, a, rfl, rfl, .inr ⟨by omega, by omega⟩, _, rfl, 131, a, rfl, rfl, .inl ⟨by decide, by decide⟩, _, _, rfl, rfl, _, 29, rfl, rfl, ?_⟩
      refine ⟨fun σ' H' => ∃ x : Int, σ' = [some (.ref p), some (.int m), none, some (.int a), some (.ref c), some (.int x), none, none] ∧ Same (upd H p (.dK kw)) H', ?_, ?_⟩
      · refine ⟨_, rfl, Nat.zero_le _, fun t nt => ?_⟩
        have s1 := @same_new _ _ (.lst []) nt
        refine ⟨.list (ns.map PyData.int), .list [], .lst (SqL.of (s1 _ _ k6)) (dp_ints ns), .lst (SqL.of upd_same) .nil, PySem.W.ke_shaped_ints ns, PySem.W.ke_shaped_ints [], _, rfl, ?_⟩
        cases e2 : (!PyData.eqv (.list (ns.map PyData.int)) (.list [])) with
        | false => exact iteF ⟨_, rfl, s1⟩
        | true =>
          refine iteT ?_
          have hne : ns ≠ [] := fun z => by
            subst z
            rw [show PyData.eqv (.list (([] : List Int).map PyData.int)) (.list []) = true from rfl] at e2
            cases e2
          have hlen : 0 < ns.length := List.length_pos_iff.mpr hne
          have hlt : (a % (ns.length : Int)).toNat < ns.length := by
            have h1 := Int.emod_nonneg a (show (ns.length : Int) ≠ 0 by omega)
            have h2 := Int.emod_lt_of_pos a (show (0 : Int) < ns.length by omega)
            omega
          refine ⟨_, rfl, _, rfl, _, rfl, c, _, rfl, .inl (SqL.of (s1 _ _ k6)), a, _, rfl, rfl, ?_, c, _, _, .int ns[(a % (ns.length : Int)).toNat], rfl, rfl, SqL.of (s1 _ _ k6), ?_, _, rfl, s1⟩
          · show (0 : Int) < ((ns.map V.int).length : Int)
            rw [List.length_map]; omega
          · rw [List.length_map]
            refine at_of (j := (a % (ns.length : Int)).toNat) (Int.toNat_of_nonneg (Int.emod_nonneg a (show (ns.length : Int) ≠ 0 by omega))).symm ?_
            rw [List.getElem?_map, List.getElem?_eq_getElem hlt]
            rfl
      · rintro σ' H2 ⟨x, rfl, s1⟩
        have j1 := s1 _ _ k1
        have j6 := s1 _ _ k6
        have bt : But p H H2 := fun b o z nb => s1 _ _ ((upd_ne nb).trans z)
        have absn : (0 : Int) ≤ if x < 0 then -x else x := by split <;> omega
        have fin : ∀ r : Int, 0 ≤ r → r < m → Q (.int r) H2 := fun r r1 r2 => q r H2 r1 r2 ⟨kw, ns, a + 1, l, j1, k2, v3, v4, v5, j6, by omega, by omega, g9⟩ bt
        have a2 : 0 ≤ 1213 * a * a ∧ 1213 * a * a ≤ 121300000 * 100000 := ⟨Int.mul_nonneg (by omega) g7, Int.mul_le_mul (by omega) (by omega) g7 (by decide)⟩
        refine ⟨fun σ' H' => σ' = [some (.ref p), some (.int m), none, some (.int a), some (.ref c), some (.int x), none, none] ∧ H' = H2, ?_, ?_⟩
        · refine ⟨_, rfl, _, rfl, c, _, rfl, .inl (SqL.of j6), a, _, rfl, rfl, _, rfl, ?_⟩
          refine ite2 (fun _ => ?_) (fun _ => ?_)
          · refine ⟨_, rfl, x, rfl, 10, 18, rfl, rfl, ⟨by decide, by decide, by decide⟩, _, _, rfl, rfl, _, rfl, ite2 (fun _ => ?_) (fun _ => ⟨rfl, rfl⟩)⟩
            refine ⟨_, rfl, x, rfl, _, rfl, _, m, rfl, rfl, ⟨by omega, by omega⟩, _, rfl, p, _, rfl, dput_s j1 (small1000 (by omega)), ?_⟩
            refine ⟨_, rfl, x, rfl, _, rfl, _, m, rfl, rfl, (by show (0 : Int) < m; omega), ?_⟩
            refine q _ _ (Int.emod_nonneg _ (by omega)) (Int.emod_lt_of_pos _ (by omega)) ⟨_, ns, a + 1, (if x < 0 then -x else x) / m, upd_same, (by rw [put_len v5]; exact k2), ?_, ?_, ?_, ?_, by omega, by omega, Int.ediv_nonneg absn (by omega)⟩ fun b o z nb => (upd_ne nb).trans (bt b o z nb)
            · rw [valV_put, if_neg nCL]; exact v3
            · rw [valV_put, if_neg nAL]; exact v4
            · rw [valV_put, if_pos rfl]
            · rw [upd_ne npc.symm]; exact j6
          · exact iteF ⟨rfl, rfl⟩
        · rintro σ' H' ⟨rfl, rfl⟩
          have b1 := Int.emod_nonneg x (show (2147483587 : Int) ≠ 0 by decide)
          have b2 := Int.emod_lt_of_pos x (show (0 : Int) < 2147483587 by decide)
          refine ⟨_, rfl, x, _, rfl, rfl, (by show (0 : Int) < 2147483587; decide), _, rfl, 45007, a, rfl, rfl, .inl ⟨by decide, by decide⟩, _, _, rfl, rfl, _, 11, rfl, rfl, _, 3, rfl, rfl, ⟨by decide, by decide, ?_⟩, _, 2147483629, rfl, rfl, (by show (0 : Int) < 2147483629; decide), ?_⟩
          · generalize x % 2147483587 = y at b1 b2
            show (y + 45007 * a + 11).natAbs < 2 ^ 64
            omega
          · generalize (x % 2147483587 + 45007 * a + 11) ^ (3 : Int).toNat = z
            have d1 := Int.emod_nonneg z (show (2147483629 : Int) ≠ 0 by decide)
            have d2 := Int.emod_lt_of_pos z (show (0 : Int) < 2147483629 by decide)
            obtain ⟨o, ho⟩ : ∃ o, z % 2147483629 = o := ⟨_, rfl⟩
            rw [ho] at d1 d2
            show tSeq _ _ _ [some (.ref p), some (.int m), none, some (.int a), some (.ref c), some (.int x), some (.int (z % 2147483629)), none] _
            rw [ho]
            have f1 := Int.emod_nonneg o (show (64007 : Int) ≠ 0 by decide)
            have f2 := Int.emod_lt_of_pos o (show (0 : Int) < 64007 by decide)
            refine ⟨_, rfl, _, rfl, 1213, a, rfl, rfl, .inl ⟨by decide, by decide⟩, _, rfl, _, a, rfl, rfl, .inr ⟨by omega, by omega⟩, o, _, rfl, rfl, _, 3, rfl, rfl, _, 5, rfl, rfl, ⟨by decide, by decide, ?_⟩, _, 2147483543, rfl, rfl, (by show (0 : Int) < 2147483543; decide), ?_⟩
            · show (o + 1213 * a * a + 3).natAbs < 2 ^ 64
              omega
            · refine ⟨_, rfl, _, rfl, o, 64007, rfl, rfl, (by show (0 : Int) < 64007; decide), _, 1, rfl, rfl, _, _, rfl, rfl, .inr ⟨by omega, by omega⟩, _, 2147483579, rfl, rfl, (by show (0 : Int) < 2147483579; decide), _, 64, rfl, rfl, ⟨by decide, by decide⟩, _, rfl, _, m, rfl, rfl, (by show (0 : Int) < m; omega), ?_⟩
              exact fin _ (Int.emod_nonneg _ (by omega)) (Int.emod_lt_of_pos _ (by omega))
end
/-! ### texts as lists of signs -/
abbrev sc (l : List Nat) : Str := ⟨l.toArray⟩
theorem sc_list (z : Str) : sc z.cps.toList = z := rfl
theorem sc_len (l : List Nat) : (sc l).length = l.length := by
  show l.toArray.size = l.length
  simp
theorem sc_app (a b : List Nat) : (sc a ++ sc b : Str) = sc (a ++ b) := by
  have h : TL.tl (sc a ++ sc b) = TL.tl (sc (a ++ b)) := by
    rw [TL.tl_append]
  have h2 := congrArg sc h
  exact h2
theorem sc_take (l : List Nat) {k : Nat} (hk : k ≤ l.length) : cutS (sc l) none (some (k : Int)) = sc (l.take k) := by
  unfold cutS
  rw [HT.sIx_none, HT.sIx_nat, sc_len, Nat.min_eq_left hk]
  show sc ((l.toArray.toList.drop 0).take (k - 0)) = sc (l.take k)
  simp
theorem sc_drop (l : List Nat) {k : Nat} (hk : k ≤ l.length) : cutS (sc l) (some (k : Int)) none = sc (l.drop k) := by
  unfold cutS
  rw [HT.sIx_none, HT.sIx_nat, sc_len, Nat.min_eq_left hk]
  show sc ((l.toArray.toList.drop k).take (l.length - k)) = sc (l.drop k)
  rw [List.take_of_length_le (by simp)]
theorem sc_join (ls : List (List Nat)) : Txt.join "" (ls.map sc) = sc ls.flatten := by
  have h : ∀ l : List (List Nat), TL.joinL [] l = l.flatten := by
    intro l
    induction l with
    | nil => rfl
    | cons p r ih =>
      cases r with
      | nil => show p = [p].flatten; simp
      | cons q r => show p ++ ([] ++ TL.joinL [] (q :: r)) = _; rw [List.nil_append, ih]; rfl
  have e := TL.tl_join "" (ls.map sc)
  rw [show TL.tl ("" : Str) = [] from rfl, h, List.map_map] at e
  rw [TL.join_eq]
  have e2 : ls.map (TL.tl ∘ sc) = ls := by
    have : (TL.tl ∘ sc) = id := funext fun l => by show l.toArray.toList = l; simp
    rw [this, List.map_id]
  rw [e2] at e
  exact congrArg sc e
abbrev abc : Str := "abcdefghijklmnopqrstuvwxyz"
def Lc (i : Nat) : Nat := abc.cps.toList.getD i 0
theorem abc_len : abc.cps.toList.length = 26 := by decide +kernel
theorem at_abc {r : Int} (h0 : 0 ≤ r) (h1 : r < 26) : atI abc.cps.toList r = some (Lc r.toNat) := by
  have h : r.toNat < abc.cps.toList.length := by rw [abc_len]; omega
  have e : ((r.toNat : Nat) : Int) = r := by omega
  have q := atI_nat (List.getElem?_eq_getElem h)
  rw [e] at q
  rw [q, Lc, List.getD_eq_getElem?_getD, List.getElem?_eq_getElem h]
  rfl
theorem Lc_in {i : Nat} (h : i < 26) : Lc i ∈ abc.cps.toList := by
  rw [Lc, List.getD_eq_getElem?_getD, List.getElem?_eq_getElem (by rw [abc_len]; exact h)]
  exact List.getElem_mem _
/-! ### the names that a law draws -/
def nmPair (t k : Nat) : List Nat := [Lc ((t + 7 * k) % 26), Lc ((t + k / 26) % 26)]
def bij (t : Nat) : Nat → List Nat
  | 0 => []
  | r + 1 => bij t (r / 2) ++ [Lc ((t + 9 * ((r + 1) % 2)) % 26)]
def nm (way t : Nat) (B : List Nat) (sp k : Nat) : List Nat := if way = 1 then bij t (k + 1) else B.take sp ++ nmPair t k ++ B.drop sp
def nmStr (way t : Nat) (B : List Nat) (sp k : Nat) : Str := sc (nm way t B sp k)
structure NmOk (way t : Nat) (B : List Nat) (sp : Nat) : Prop where
  t26 : t < 26
  b6 : B.length ≤ 6
  bl : ∀ c ∈ B, c ∈ abc.cps.toList
  s : sp ≤ B.length
/-- a list of names at l -/
def NmAt (H : Hp) (l : Addr) (m : Nat) : Prop := ∃ way t B sp, NmOk way t B sp ∧ H l = some (.lst ((List.range m).map fun k => V.str (nmStr way t B sp k)))
theorem bij_len (t : Nat) : ∀ r, (bij t r).length = if r = 0 then 0 else (bij t ((r - 1) / 2)).length + 1
  | 0 => by rw [bij]; rfl
  | r + 1 => by rw [bij, List.length_append, if_neg (by omega)]; rfl
theorem bij_le (t : Nat) : ∀ r, (bij t r).length ≤ r
  | 0 => by rw [bij]; exact Nat.le_refl _
  | r + 1 => by
    rw [bij, List.length_append]
    have := bij_le t (r / 2)
    show _ + 1 ≤ _
    omega
theorem flat_one : ∀ B : List Nat, (B.map fun c => [c]).flatten = B
  | [] => rfl
  | b :: r => by rw [List.map_cons, List.flatten_cons, flat_one r]; rfl
theorem sum_one : ∀ B : List Nat, (((B.map fun c => [c]).map sc).map (·.length)).sum = B.length
  | [] => rfl
  | b :: r => by
    rw [List.map_cons, List.map_cons, List.map_cons, List.sum_cons, sum_one r, List.length_cons, sc_len]
    exact Nat.add_comm _ _
def restOf (σ : L2.St) (_ : Hp) : Nat := match σ[10]? with
  | some (some (V.int r)) => r.toNat
  | _ => 0
/-- what _law_names promises -/
def spNames : Sp := fun vs H Q _ => ∃ (p c : Addr) (n : Nat) (m : Int), vs = [.ref p, .int m] ∧ PenAt H p c n ∧ n ≤ 50000 ∧ 0 ≤ m ∧ m ≤ 31 ∧
  ∀ (l : Addr) (H' : Hp), H l = none → NmAt H' l m.toNat → PenAt H' p c (n + 10) → But p H H' → Q (.ref l) H'
theorem yesT {σ : L2.St} {H : Hp} {A B : Hp → Prop} (h : A H) : tYes σ H fun b H3 => if b = true then A H3 else B H3 := iteT (A := A H) (B := B H) h
theorem small_sz {n : Nat} (h : n ≤ 1000) : n ≤ sizeLine := Nat.le_of_lt (small1000 h)
theorem at_ex {α : Type} {xs : List α} {r : Int} (h0 : 0 ≤ r) (h1 : r < (xs.length : Int)) : ∃ v, atI xs r = some v ∧ v ∈ xs := by
  have h : r.toNat < xs.length := by omega
  have e : ((r.toNat : Nat) : Int) = r := by omega
  have q := atI_nat (List.getElem?_eq_getElem h)
  rw [e] at q
  exact ⟨_, q, List.getElem_mem h⟩
/-- the def _law_take, as its callers need it -/
structure TakeT (P : Program) (w : World) (K : PySem.W.Frag) (mg : Str → Option Value) (base : Heap) (f : Addr) (fd : FuncData) : Prop where
  ok : FnOk P w K mg base CX0 1 f fd ["_law_pen_here", "_law_many_here"] spTake
  g : mg "_law_take" = some (.ref f)
  kp : PySem.W.keepIn K (.ref f) = true
  b : Binds K fd ["_law_pen_here", "_law_many_here"] []
/-- any def, as its callers need it -/
structure DefT (P : Program) (w : World) (K : PySem.W.Frag) (mg : Str → Option Value) (base : Heap) (x : Str) (k : Nat) (f : Addr) (fd : FuncData) (ps : List Str) (sp : Sp) : Prop where
  ok : FnOk P w K mg base CX0 k f fd ps sp
  g : mg x = some (.ref f)
  kp : PySem.W.keepIn K (.ref f) = true
  b : Binds K fd ps []
abbrev namesN : List Str := ["_law_pen_here", "_law_many_here", "_law_letters", "_law_way", "_law_turn", "_law_k", "_law_base", "_law_spot", "_law_found", "_law_word", "_law_rest"]
section
variable {P : Program} {w : World} {K : PySem.W.Frag} {mg : Str → Option Value} {base : Heap}
theorem scNames : FnScope namesN ["_law_pen_here", "_law_many_here"] (defScope sNames) := ⟨rfl, rfl, rfl, by decide +kernel, rfl, by decide +kernel, by decide +kernel⟩
set_option maxHeartbeats 4000000 in
theorem ok_names {f fT : Addr} {fd fdT : FuncData} (F : Fun K "_law_names" "_law_names" sNames f fd) (T : TakeT P w K mg base fT fdT) (ml : mg "len" = none) (mr : mg "range" = none) :
    FnOk P w K mg base CX0 2 f fd ["_law_pen_here", "_law_many_here"] spNames := by
  refine F.ok scNames (fun vs H Q E h => ?_) (fun cdv A outer s H vs Q E hr h => ?_)
  · obtain ⟨p, c, n, m, rfl, _⟩ := h
    rfl
  · obtain ⟨p, c, n, m, rfl, pen, hn, m0, m31, q⟩ := h
    have nd := scNames.nd
    refine ⟨_, pss_cons (ps_set (i := 2) nd rfl (Or.inr rfl) pe_str)
      (pss_cons (ps_set (i := 3) nd rfl (Or.inl rfl) (pe_call T.ok hr (by rfl) T.g T.kp T.b .nil pass0 (pa_cons (pv 0) (pa_cons pe_int pa_nil))))
      (pss_cons (ps_set (i := 4) nd rfl (Or.inl rfl) (pe_call T.ok hr (by rfl) T.g T.kp T.b .nil pass0 (pa_cons (pv 0) (pa_cons pe_int pa_nil))))
      (pss_cons (ps_set (i := 6) nd rfl (Or.inl rfl) (pe_join pe_str (pe_lc (own := [("_law_k", 5)]) (g := gName 5) (tt := tYes) rfl nd
          (pi_range1 rfl mr (pa_cons (pe_ix ix_list (pe_lst (pa_cons (pe_call T.ok hr (by rfl) T.g T.kp T.b .nil pass0 (pa_cons (pv 0) (pa_cons pe_int pa_nil))) (pa_cons pe_int (pa_cons pe_int pa_nil)))) (pv 3) (fun _ _ => rfl)) pa_nil))
          (blkOk_by (N := namesN) (sc := defScope sNames) (by decide +kernel))
          (fun _ _ _ _ _ => pg_name (i := 5) nd rfl (Or.inl rfl)) (fun _ _ _ _ _ => pts_nil)
          (fun _ _ _ _ _ => pe_ix ix_str (pv 2) (pe_call T.ok hr (by rfl) T.g T.kp T.b .nil pass0 (pa_cons (pv 0) (pa_cons pe_int pa_nil))) (fun _ _ => rfl)))))
      (pss_cons (ps_set (i := 7) nd rfl (Or.inl rfl) (pe_call T.ok hr (by rfl) T.g T.kp T.b .nil pass0 (pa_cons (pv 0) (pa_cons (pe_op op_add (pe_callB call_len_str (by rfl) ml PySem.boot_len (pa_cons (pv 6) pa_nil)) pe_int) pa_nil))))
      (pss_cons (ps_set (i := 8) nd rfl (Or.inl rfl) (pe_lst pa_nil))
      (pss_cons (ps_for PassesOwn.never rfl (pi_range1 rfl mr (pa_cons (pv 1) pa_nil)) (pg_name (i := 5) nd rfl (Or.inl rfl))
        (pss_cons (ps_set (i := 9) nd rfl (Or.inl rfl) (pe_op op_add_str (pe_ix ix_str (pv 2) (pe_op op_mod (pe_op op_add (pv 4) (pe_op op_mul pe_int (pv 5))) pe_int) (fun _ _ => rfl)) (pe_ix ix_str (pv 2) (pe_op op_mod (pe_op op_add (pv 4) (pe_op op_fdiv (pv 5) pe_int)) pe_int) (fun _ _ => rfl))))
        (pss_cons (ps_set (i := 9) nd rfl (Or.inl rfl) (pe_op op_add_str (pe_op op_add_str (pe_slice sl_str (pv 6) po_none (po_some (pv 7))) (pv 9)) (pe_slice sl_str (pv 6) (po_some (pv 7)) po_none)))
        (C8.pss_cut (ps_if (pt_cmpR op_eq (pv 3) pe_int (nomark _))
            (pss_cons (ps_set (i := 9) nd rfl (Or.inl rfl) pe_str)
            (pss_cons (ps_set (i := 10) nd rfl (Or.inl rfl) (pe_op op_add (pv 5) pe_int))
            (pss_one (ps_while PassesOwn.never (pt_cmpR op_gt (pv 10) pe_int (nomark _))
              (pss_cons (ps_set (i := 9) nd rfl (Or.inl rfl) (pe_op op_add_str (pe_ix ix_str (pv 2) (pe_op op_mod (pe_op op_add (pv 4) (pe_op op_mul pe_int (pe_op op_mod (pv 10) pe_int))) pe_int) (fun _ _ => rfl)) (pv 9)))
              (pss_one (ps_set (i := 10) nd rfl (Or.inl rfl) (pe_op op_fdiv (pe_op op_sub (pv 10) pe_int) pe_int)))))))) pss_nil)
        (pss_one (ps_expr (pe_bm PySem.F.plainAttrs_list PySem.F.slot_list_append PySem.F.type_list_append mt_append (pv 8) (pa_cons (pv 9) pa_nil))))))))
      (pss_one (ps_ret (pv 8))))))))), ?_⟩
    -- way, turn
    refine ⟨_, rfl, p, c, n, 3, rfl, pen, by omega, by decide, by decide, fun r1 H1 a1 b1 pen1 bt1 => ?_⟩
    refine ⟨_, rfl, p, c, n + 1, 26, rfl, pen1, by omega, by decide, by decide, fun r2 H2 a2 b2 pen2 bt2 => ?_⟩
    -- the base's size
    refine ⟨⟨_, rfl⟩, _, rfl, p, c, n + 2, 7, rfl, pen2, by omega, by decide, by decide, fun r3 H3 a3 b3 pen3 bt3 => ?_⟩
    refine ⟨(by show 3 ≤ sizeLine; decide), fun l nl => ?_⟩
    have s4 := @same_new _ _ (.lst [V.int r3, .int 0, .int 6]) nl
    obtain ⟨kk, hkk, k0, k6⟩ : ∃ kk : Int, atI [V.int r3, .int 0, .int 6] r1 = some (.int kk) ∧ 0 ≤ kk ∧ kk ≤ 6 := by
      have w3 : r1 = 0 ∨ r1 = 1 ∨ r1 = 2 := by omega
      rcases w3 with rfl | rfl | rfl
      · exact ⟨r3, atI_nat (j := 0) rfl, a3, by omega⟩
      · exact ⟨0, atI_nat (j := 1) rfl, by decide, by decide⟩
      · exact ⟨6, atI_nat (j := 2) rfl, by decide, by decide⟩
    have pen4 := pen3.same s4
    have bt4 : But p H (upd H3 l (.lst [V.int r3, .int 0, .int 6])) := (bt1.tr (bt2.tr bt3)).tr (.of s4)
    refine ⟨_, rfl, l, _, r1, _, rfl, rfl, SqL.of upd_same, hkk, kk, rfl, by omega, by omega, fun D nD => ?_⟩
    generalize upd H3 l (.lst [V.int r3, .int 0, .int 6]) = H4 at pen4 bt4 nD
    have nDp : D ≠ p := fun z => pen4.there (z ▸ nD)
    have nDc : D ≠ c := fun z => pen4.cells (z ▸ nD)
    refine lc_range (lo := 0) (n := kk.toNat) (fun j H' => PenAt H' p c (n + 3 + j) ∧ But p H H' ∧ ∃ B : List Nat, H' D = some (.lst (((B.map fun c => [c]).map sc).map V.str)) ∧ B.length = j ∧ ∀ c ∈ B, c ∈ abc.cps.toList)
      ⟨pen4.same (same_new nD), bt4.tr (.of (same_new nD)), [], upd_same, rfl, fun y hy => nomatch hy⟩ ?_ ?_
    · rintro j H6 hj ⟨pen6, bt6, B, hD6, ly, one⟩
      refine ⟨rfl, yesT ?_⟩
      refine ⟨_, rfl, _, rfl, p, c, _, 26, rfl, pen6, by omega, by decide, by decide, fun r H7 a7 b7 pen7 bt7 => ?_⟩
      have hD7 := bt7 D _ hD6 nDp
      have hDn : H D = none := by
        cases e : H D with
        | none => rfl
        | some o => rw [bt4 D o e nDp] at nD; cases nD
      refine ⟨abc, r, _, rfl, rfl, (by decide +kernel), at_abc a7 b7, _, hD7, (by simp only [List.length_map]; exact small1000 (by omega)), pen7.upd nDp nDc, fun b o e nb => (upd_ne (ne_of_none e hDn)).trans ((bt6.tr bt7) b o e nb), B ++ [Lc r.toNat], ?_, by simp [ly], ?_⟩
      · rw [upd_same, List.map_append, List.map_append, List.map_append]
        rfl
      · intro y hy
        rcases List.mem_append.mp hy with h | h
        · exact one y h
        · rw [List.mem_singleton.mp h]
          exact Lc_in (by omega)
    · rintro H6 ⟨pen6, bt6, B, hD6, ly, one⟩
      have bl : B.length ≤ 6 := by omega
      have ej : Txt.join "" ((B.map fun c => [c]).map sc) = sc B := by rw [sc_join, flat_one]
      refine ⟨"", D, (B.map fun c => [c]).map sc, rfl, rfl, .inl (SqL.of hD6), (by rw [sum_one]; simp only [List.length_map]; show B.length + B.length * 0 ≤ 16777216; omega), ?_⟩
      rw [ej]
      -- the spot
      refine ⟨_, rfl, _, rfl, sc B, rfl, (by rw [sc_len]; exact small_sz (by omega)), _, 1, rfl, rfl, p, c, n + 9, (B.length : Int) + 1, (by rw [sc_len]; rfl), pen6.mono (by omega), by omega, by omega, by omega, fun r4 H7 a4 b4 pen7 bt7 => ?_⟩
      refine ⟨Nat.zero_le _, fun Fd nFd => ?_⟩
      have nFp : Fd ≠ p := fun z => pen7.there (z ▸ nFd)
      have nFc : Fd ≠ c := fun z => pen7.cells (z ▸ nFd)
      have bt8 := bt6.tr bt7
      have hFn : H Fd = none := by
        cases e : H Fd with
        | none => rfl
        | some o => rw [bt8 Fd o e nFp] at nFd; cases nFd
      have nmok : NmOk r1.toNat r2.toNat B r4.toNat := ⟨by omega, bl, one, by omega⟩
      refine ⟨_, rfl, m, rfl, by omega, by omega, for_range (lo := 0) (n := m.toNat) (fun j σ H' => ∃ y5 y9 y10, σ = [some (.ref p), some (.int m), some (.str abc), some (.int r1), some (.int r2), y5, some (.str (sc B)), some (.int r4), some (.ref Fd), y9, y10] ∧
        PenAt H' p c (n + 10) ∧ But p H H' ∧ H' Fd = some (.lst ((List.range j).map fun k => V.str (nmStr r1.toNat r2.toNat B r4.toNat k)))) ⟨_, _, _, rfl, pen7.same (same_new nFd), bt8.tr (.of (same_new nFd)), upd_same⟩ ?_ ?_⟩
      · rintro j σ H9 hj ⟨y5, y9, y10, rfl, pen9, bt9, hF9⟩
        have i1 : 0 ≤ (r2 + 7 * (0 + (j : Int))) % 26 := Int.emod_nonneg _ (by decide)
        have i2 : (r2 + 7 * (0 + (j : Int))) % 26 < 26 := Int.emod_lt_of_pos _ (by decide)
        have i3 : 0 ≤ (r2 + (0 + (j : Int)) / 26) % 26 := Int.emod_nonneg _ (by decide)
        have i4 : (r2 + (0 + (j : Int)) / 26) % 26 < 26 := Int.emod_lt_of_pos _ (by decide)
        refine ⟨_, rfl, _, rfl, _, rfl, 7, 0 + (j : Int), rfl, rfl, .inl ⟨by decide, by decide⟩, r2, _, rfl, rfl, _, 26, rfl, rfl, (by show (0 : Int) < 26; decide), abc, _, _, rfl, rfl, (by decide +kernel), at_abc i1 i2, ?_⟩
        refine ⟨_, rfl, _, rfl, _, rfl, 0 + (j : Int), 26, rfl, rfl, ⟨by decide, by decide⟩, r2, _, rfl, rfl, _, 26, rfl, rfl, (by show (0 : Int) < 26; decide), abc, _, _, rfl, rfl, (by decide +kernel), at_abc i3 i4, _, _, rfl, rfl, (by show 1 + 1 ≤ sizeLine; decide), ?_⟩
        have q1 : ((r2 + 7 * (0 + (j : Int))) % 26).toNat = (r2.toNat + 7 * j) % 26 := by omega
        have q2 : ((r2 + (0 + (j : Int)) / 26) % 26).toNat = (r2.toNat + j / 26) % 26 := by
          have h : (0 + (j : Int)) / 26 = ((j / 26 : Nat) : Int) := by omega
          rw [h]
          generalize j / 26 = u
          omega
        have wd : ((⟨#[Lc ((r2 + 7 * (0 + (j : Int))) % 26).toNat]⟩ : Str) ++ ⟨#[Lc ((r2 + (0 + (j : Int)) / 26) % 26).toNat]⟩ : Str) = sc (nmPair r2.toNat j) := by
          rw [q1, q2]
          exact sc_app [_] [_]
        have e4 : ((r4.toNat : Nat) : Int) = r4 := by omega
        have c1 : cutS (sc B) none (some r4) = sc (B.take r4.toNat) := by rw [← e4]; exact sc_take B (by omega)
        have c2 : cutS (sc B) (some r4) none = sc (B.drop r4.toNat) := by rw [← e4]; exact sc_drop B (by omega)
        have szB : (sc B).length ≤ sizeLine := by rw [sc_len]; exact small_sz (by omega)
        refine ⟨_, rfl, _, rfl, r4, rfl, sc B, rfl, szB, _, rfl, _, _, rfl, rfl, ?_, _, rfl, _, rfl, r4, rfl, sc B, rfl, szB, _, _, rfl, rfl, ?_, ?_⟩
        · rw [wd, c1, sc_len, sc_len]
          refine small_sz ?_
          rw [List.length_take]
          show _ + 2 ≤ _
          omega
        · rw [wd, c1, c2, sc_app, sc_len, sc_len, List.length_append, List.length_take, List.length_drop]
          refine small_sz ?_
          show _ + 2 + _ ≤ _
          omega
        rw [wd, c1, c2, sc_app, sc_app]
        refine ⟨fun σ' H' => ∃ y10, σ' = [some (.ref p), some (.int m), some (.str abc), some (.int r1), some (.int r2), some (.int (0 + (j : Int))), some (.str (sc B)), some (.int r4), some (.ref Fd), some (.str (nmStr r1.toNat r2.toNat B r4.toNat j)), y10] ∧ H' = H9, ?_, ?_⟩
        · refine ⟨_, rfl, rfl, _, rfl, ite2 (fun e => ?_) (fun e => ?_)⟩
          · have e1 : r1 = 1 := V.int.inj (of_decide_eq_true e)
            subst e1
            refine ⟨_, rfl, _, 1, rfl, rfl, ?_⟩
            have el : (bij r2.toNat (j + 1)).length ≤ 100 := Nat.le_trans (bij_le _ _) (by omega)
            refine while_by (fun σ' H' => ∃ (L : List Nat) (r : Int), σ' = [some (.ref p), some (.int m), some (.str abc), some (.int 1), some (.int r2), some (.int (0 + (j : Int))), some (.str (sc B)), some (.int r4), some (.ref Fd), some (.str (sc L)), some (.int r)] ∧ H' = H9 ∧ 0 ≤ r ∧ bij r2.toNat (j + 1) = bij r2.toNat r.toNat ++ L)
              restOf ⟨[], _, rfl, rfl, by omega, ?_⟩ ?_ ?_
            · rw [List.append_nil, show (0 + (j : Int) + 1).toNat = j + 1 by omega]
            · rintro σ' H' ⟨L, r, rfl, rfl, r0, hb⟩
              have lL : L.length ≤ 100 := by
                have := congrArg List.length hb
                rw [List.length_append] at this
                omega
              refine ⟨_, rfl, r, 0, rfl, rfl, _, rfl, ite2 (fun er => ?_) (fun er => ?_)⟩
              · have er' : 0 < r := of_decide_eq_true er
                have d1 : 0 ≤ (r2 + 9 * (r % 2)) % 26 := Int.emod_nonneg _ (by decide)
                have d2 : (r2 + 9 * (r % 2)) % 26 < 26 := Int.emod_lt_of_pos _ (by decide)
                refine ⟨_, rfl, _, rfl, _, rfl, r, 2, rfl, rfl, (by show (0 : Int) < 2; decide), 9, _, rfl, rfl, .inl ⟨by decide, by decide⟩, r2, _, rfl, rfl, _, 26, rfl, rfl, (by show (0 : Int) < 26; decide), abc, _, _, rfl, rfl, (by decide +kernel), at_abc d1 d2, _, rfl, _, sc L, rfl, rfl, ?_, ?_⟩
                · show 1 + (sc L).length ≤ sizeLine
                  rw [sc_len]
                  exact small_sz (by omega)
                · refine ⟨_, rfl, r, 1, rfl, rfl, r - 1, 2, rfl, rfl, ⟨by decide, by decide⟩, ⟨Lc ((r2 + 9 * (r % 2)) % 26).toNat :: L, (r - 1) / 2, ?_, rfl, by omega, ?_⟩, ?_⟩
                  · rw [show ((⟨#[Lc ((r2 + 9 * (r % 2)) % 26).toNat]⟩ : Str) ++ sc L : Str) = sc (Lc ((r2 + 9 * (r % 2)) % 26).toNat :: L) from sc_app [_] L]
                    rfl
                  · rw [hb]
                    obtain ⟨u, rfl⟩ : ∃ u : Nat, r = ((u + 1 : Nat) : Int) := ⟨(r - 1).toNat, by omega⟩
                    rw [Int.toNat_natCast, bij, List.append_assoc, show ((((u + 1 : Nat) : Int) - 1) / 2).toNat = u / 2 by omega, show ((r2 + 9 * ((((u + 1 : Nat) : Int)) % 2)) % 26).toNat = (r2.toNat + 9 * ((u + 1) % 2)) % 26 by omega]
                    rfl
                  · show ((r - 1) / 2).toNat < r.toNat
                    omega
              · have er' : ¬ 0 < r := fun h => er (decide_eq_true h)
                have : r = 0 := by omega
                subst this
                refine ⟨some (.int 0), ?_, rfl⟩
                rw [show nmStr (1 : Int).toNat r2.toNat B r4.toNat j = sc L by
                  show sc (if 1 = 1 then bij r2.toNat (j + 1) else _) = sc L
                  rw [if_pos rfl, hb, show (0 : Int).toNat = 0 from rfl, bij, List.nil_append]]
            · rintro σ' H' Q1 Q2 hq ⟨v, hv, i, k, x1, x2, b, x3, x4⟩
              exact ⟨v, hv, i, k, x1, x2, b, x3, hq _ _ x4⟩
          · have e1 : ¬ r1 = 1 := fun h => e (decide_eq_true (congrArg V.int h))
            refine ⟨y10, ?_, rfl⟩
            rw [show nmStr r1.toNat r2.toNat B r4.toNat j = sc (B.take r4.toNat ++ nmPair r2.toNat j ++ B.drop r4.toNat) by
              show sc (if r1.toNat = 1 then _ else _) = _
              rw [if_neg (by omega)]]
            rfl
        · rintro σ' H' ⟨z10, rfl, rfl⟩
          refine ⟨_, rfl, .inl ⟨rfl, _, SqL.of hF9⟩, _, rfl, Fd, _, _, rfl, rfl, hF9, (by simp only [List.length_map, List.length_range]; exact small1000 (by omega)), ⟨_, _, _, rfl, pen9.upd nFp nFc, fun b o e nb => (upd_ne (ne_of_none e hFn)).trans (bt9 b o e nb), ?_⟩⟩
          rw [upd_same, List.range_succ, List.map_append]
          rfl
      · rintro σ H9 ⟨y5, y9, y10, rfl, pen9, bt9, hF9⟩
        exact ⟨_, rfl, q Fd H9 hFn ⟨_, _, _, _, nmok, hF9⟩ pen9 bt9⟩
end
/-! ### entries -/
inductive Ent where
  | come (nm : Str) (mo : Int) (g pl : Str) (many price : Int)
  | go (nm : Str) (mo : Int) (g pl : Str) (many : Int)
  | move (nm : Str) (mo : Int) (g one other : Str) (many : Int)
  | some_ (nm : Str) (mo : Int) (g one other : Str)
  | swap (nm : Str) (mo : Int) (one other : Str)
  | count (nm : Str) (mo : Int) (g pl : Str) (many : Int) (hand : Str)
  | look (nm : Str) (mo : Int) (g pl : Str)
namespace Ent
def word : Ent → Str
  | come .. => "come" | go .. => "go" | move .. => "move" | some_ .. => "some" | swap .. => "swap" | count .. => "count" | look .. => "look"
def name : Ent → Str
  | come n .. => n | go n .. => n | move n .. => n | some_ n .. => n | swap n .. => n | count n .. => n | look n .. => n
def moment : Ent → Int
  | come _ m .. => m | go _ m .. => m | move _ m .. => m | some_ _ m .. => m | swap _ m .. => m | count _ m .. => m | look _ m .. => m
def rest : Ent → List V
  | come _ _ g p m r => [.str g, .str p, .int m, .int r]
  | go _ _ g p m => [.str g, .str p, .int m]
  | move _ _ g o t m => [.str g, .str o, .str t, .int m]
  | some_ _ _ g o t => [.str g, .str o, .str t]
  | swap _ _ o t => [.str o, .str t]
  | count _ _ g p m h => [.str g, .str p, .int m, .str h]
  | look _ _ g p => [.str g, .str p]
def vals (e : Ent) : List V := .str e.word :: .str e.name :: .int e.moment :: e.rest
/-- its parts are drawn from these places, goods and hands -/
def From (PL GL HL : List Str) : Ent → Prop
  | come _ _ g p m r => g ∈ GL ∧ p ∈ PL ∧ 1 ≤ m ∧ m ≤ 1000000000 ∧ 0 ≤ r ∧ r ≤ 1000000000
  | go _ _ g p m => g ∈ GL ∧ p ∈ PL ∧ 1 ≤ m ∧ m ≤ 1000000000
  | move _ _ g o t m => g ∈ GL ∧ o ∈ PL ∧ t ∈ PL ∧ (PL.Nodup → o ≠ t) ∧ 1 ≤ m ∧ m ≤ 1000000000
  | some_ _ _ g o t => g ∈ GL ∧ o ∈ PL ∧ (t = "" ∨ (t ∈ PL ∧ (PL.Nodup → o ≠ t)))
  | swap _ _ o t => o ∈ PL ∧ t ∈ PL ∧ (PL.Nodup → o ≠ t)
  | count _ _ g p m h => g ∈ GL ∧ p ∈ PL ∧ 0 ≤ m ∧ m ≤ 1000000000 ∧ h ∈ HL
  | look _ _ g p => g ∈ GL ∧ p ∈ PL
end Ent
def words7 : List Str := ["come", "go", "move", "some", "swap", "count", "look"]
abbrev words10 : List Str := ["come", "go", "move", "some", "swap", "count", "look", "count", "swap", "move"]
theorem Ent.word_in (e : Ent) : e.word ∈ words7 := by
  cases e <;> simp [Ent.word, words7]
abbrev StrsAt (H : Hp) (l : Addr) (ys : List Str) : Prop := H l = some (.lst (ys.map V.str))
def spMany : Sp := fun vs H Q _ => ∃ (p c : Addr) (n : Nat), vs = [.ref p] ∧ PenAt H p c n ∧ n ≤ 90000 ∧
  ∀ (r : Int) (H' : Hp), 1 ≤ r → r ≤ 1000000000 → PenAt H' p c (n + 4) → But p H H' → Q (.int r) H'
def spEntryOf : Sp := fun vs H Q _ => ∃ (p c : Addr) (n : Nat) (wd nme : Str) (mo : Int) (a1 a2 a3 : Addr) (PL GL HL : List Str), vs = [.ref p, .str wd, .str nme, .int mo, .ref a1, .ref a2, .ref a3] ∧ PenAt H p c n ∧ n ≤ 80000 ∧ wd ∈ words7 ∧
  StrsAt H a1 PL ∧ StrsAt H a2 GL ∧ StrsAt H a3 HL ∧ PL ≠ [] ∧ GL ≠ [] ∧ HL ≠ [] ∧ PL.length ≤ 100 ∧ GL.length ≤ 100 ∧ HL.length ≤ 100 ∧
  ∀ (tp : Addr) (e : Ent) (H' : Hp), H tp = none → H' tp = some (.tup e.vals) → e.name = nme → e.moment = mo → e.From PL GL HL → PenAt H' p c (n + 20) → But p H H' → Q (.ref tp) H'
def spEntry : Sp := fun vs H Q _ => ∃ (p c : Addr) (n : Nat) (nme : Str) (mo : Int) (a1 a2 a3 : Addr) (PL GL HL : List Str), vs = [.ref p, .str nme, .int mo, .ref a1, .ref a2, .ref a3] ∧ PenAt H p c n ∧ n ≤ 70000 ∧
  StrsAt H a1 PL ∧ StrsAt H a2 GL ∧ StrsAt H a3 HL ∧ PL ≠ [] ∧ GL ≠ [] ∧ HL ≠ [] ∧ PL.length ≤ 100 ∧ GL.length ≤ 100 ∧ HL.length ≤ 100 ∧
  ∀ (tp : Addr) (e : Ent) (H' : Hp), H tp = none → H' tp = some (.tup e.vals) → e.name = nme → e.moment = mo → e.From PL GL HL → PenAt H' p c (n + 30) → But p H H' → Q (.ref tp) H'
theorem pen_strs {H H' : Hp} {p c l : Addr} {n : Nat} {ys : List Str} (pen : PenAt H p c n) (b : But p H H') (h : StrsAt H l ys) : StrsAt H' l ys := by
  obtain ⟨kvs, ns, a, x, g1, _⟩ := pen.ex
  exact b l _ h (ne_of h g1 (by intro z; cases z))
theorem pen_free {H H' : Hp} {p c l : Addr} {n : Nat} (pen : PenAt H p c n) (b : But p H H') (h : H' l = none) (pen' : PenAt H' p c n) : H l = none := by
  cases e : H l with
  | none => rfl
  | some o =>
    have nl : l ≠ p := fun z => pen'.there (z ▸ h)
    rw [b l o e nl] at h
    cases h
theorem But.free {H H' : Hp} {p l : Addr} (b : But p H H') (h : H' l = none) (hp : H' p ≠ none) : H l = none := by
  cases e : H l with
  | none => rfl
  | some o =>
    have nl : l ≠ p := fun z => hp (z ▸ h)
    rw [b l o e nl] at h
    cases h
theorem at_strs {ys : List Str} {r : Int} (h0 : 0 ≤ r) (h1 : r < (ys.length : Int)) : ∃ y, atI (ys.map V.str) r = some (.str y) ∧ ys[r.toNat]? = some y ∧ y ∈ ys := by
  have h : r.toNat < ys.length := by omega
  have e : ((r.toNat : Nat) : Int) = r := by omega
  have q := atI_nat (xs := ys.map V.str) (j := r.toNat) (v := .str ys[r.toNat]) (by rw [List.getElem?_map, List.getElem?_eq_getElem h]; rfl)
  rw [e] at q
  exact ⟨_, q, List.getElem?_eq_getElem h, List.getElem_mem h⟩
section
variable {P : Program} {w : World} {K : PySem.W.Frag} {mg : Str → Option Value} {base : Heap}
theorem scMany : FnScope ["_law_pen_here", "_law_way"] ["_law_pen_here"] (defScope sMany) := ⟨rfl, rfl, rfl, by decide +kernel, rfl, by decide +kernel, by decide +kernel⟩
theorem ok_many {f fT : Addr} {fd fdT : FuncData} (F : Fun K "_law_many" "_law_many" sMany f fd) (T : TakeT P w K mg base fT fdT) : FnOk P w K mg base CX0 2 f fd ["_law_pen_here"] spMany := by
  refine F.ok scMany (fun vs H Q E h => ?_) (fun cdv A outer s H vs Q E hr h => ?_)
  · obtain ⟨p, c, n, rfl, _⟩ := h
    rfl
  · obtain ⟨p, c, n, rfl, pen, hn, q⟩ := h
    have nd := scMany.nd
    refine ⟨_, pss_cons (ps_set (i := 1) nd rfl (Or.inl rfl) (pe_call T.ok hr (by rfl) T.g T.kp T.b .nil pass0 (pa_cons (pv 0) (pa_cons pe_int pa_nil))))
      (pss_one (ps_ret (pe_ix ix_list (pe_lst (pa_cons pe_int (pa_cons (pe_op op_add pe_int (pe_call T.ok hr (by rfl) T.g T.kp T.b .nil pass0 (pa_cons (pv 0) (pa_cons pe_int pa_nil))))
        (pa_cons (pe_op op_sub (pe_op op_pow pe_int pe_int) (pe_call T.ok hr (by rfl) T.g T.kp T.b .nil pass0 (pa_cons (pv 0) (pa_cons pe_int pa_nil))))
        (pa_cons (pe_op op_add pe_int (pe_call T.ok hr (by rfl) T.g T.kp T.b .nil pass0 (pa_cons (pv 0) (pa_cons (pe_op op_pow pe_int pe_int) pa_nil)))) pa_nil))))) (pv 1) (fun _ _ => rfl)))), ?_⟩
    refine ⟨_, rfl, p, c, n, 4, rfl, pen, by omega, by decide, by decide, fun r1 H1 a1 b1 pen1 bt1 => ?_⟩
    refine ⟨_, rfl, p, c, n + 1, 9, rfl, pen1, by omega, by decide, by decide, fun r2 H2 a2 b2 pen2 bt2 => ?_⟩
    refine ⟨1, r2, rfl, rfl, 10, 9, rfl, rfl, ⟨by decide, by decide, by decide⟩, _, rfl, p, c, n + 2, 3, rfl, pen2, by omega, by decide, by decide, fun r3 H3 a3 b3 pen3 bt3 => ?_⟩
    refine ⟨_, r3, rfl, rfl, _, rfl, 10, 9, rfl, rfl, ⟨by decide, by decide, by decide⟩, p, c, n + 3, 10 ^ (9 : Int).toNat, rfl, pen3, by omega, by decide, by decide, fun r4 H4 a4 b4 pen4 bt4 => ?_⟩
    have b4' : r4 < 1000000000 := b4
    refine ⟨1, r4, rfl, rfl, (by show 4 ≤ sizeLine; decide), fun l nl => ?_⟩
    have fin : ∀ r : Int, 1 ≤ r → r ≤ 1000000000 → Q (.int r) (upd H4 l (.lst [.int 1, .int (1 + r2), .int (10 ^ (9 : Int).toNat - r3), .int (1 + r4)])) := fun r h1 h2 => q r _ h1 h2 (pen4.same (same_new nl)) ((bt1.tr (bt2.tr (bt3.tr bt4))).tr (.of (same_new nl)))
    have w4 : r1 = 0 ∨ r1 = 1 ∨ r1 = 2 ∨ r1 = 3 := by omega
    rcases w4 with rfl | rfl | rfl | rfl
    · exact ⟨_, rfl, l, _, 0, _, rfl, rfl, SqL.of upd_same, atI_nat (j := 0) rfl, fin _ (by decide) (by decide)⟩
    · exact ⟨_, rfl, l, _, 1, _, rfl, rfl, SqL.of upd_same, atI_nat (j := 1) rfl, fin _ (by omega) (by omega)⟩
    · exact ⟨_, rfl, l, _, 2, _, rfl, rfl, SqL.of upd_same, atI_nat (j := 2) rfl, fin _ (by show (1 : Int) ≤ 1000000000 - r3; omega) (by show (1000000000 : Int) - r3 ≤ 1000000000; omega)⟩
    · exact ⟨_, rfl, l, _, 3, _, rfl, rfl, SqL.of upd_same, atI_nat (j := 3) rfl, fin _ (by omega) (by omega)⟩
abbrev entN : List Str := ["_law_pen_here", "_law_word", "_law_name", "_law_moment", "_law_places", "_law_goods", "_law_hands", "_law_at", "_law_one", "_law_good", "_law_other"]
theorem scEntryOf : FnScope entN ["_law_pen_here", "_law_word", "_law_name", "_law_moment", "_law_places", "_law_goods", "_law_hands"] (defScope sEntryOf) := ⟨rfl, rfl, rfl, by decide +kernel, rfl, by decide +kernel, by decide +kernel⟩
set_option maxHeartbeats 4000000 in
theorem ok_entryOf {f fT fM : Addr} {fd fdT fdM : FuncData} (F : Fun K "_law_entry_of" "_law_entry_of" sEntryOf f fd) (T : TakeT P w K mg base fT fdT) (M : DefT P w K mg base "_law_many" 2 fM fdM ["_law_pen_here"] spMany) (ml : mg "len" = none) :
    FnOk P w K mg base CX0 3 f fd ["_law_pen_here", "_law_word", "_law_name", "_law_moment", "_law_places", "_law_goods", "_law_hands"] spEntryOf := by
  refine F.ok scEntryOf (fun vs H Q E h => ?_) (fun cdv A outer s H vs Q E hr h => ?_)
  · obtain ⟨p, c, n, wd, nme, mo, a1, a2, a3, PL, GL, HL, rfl, _⟩ := h
    rfl
  · obtain ⟨p, c, n, wd, nme, mo, a1, a2, a3, PL, GL, HL, rfl, pen, hn, hw, h1, h2, h3, ne1, ne2, ne3, lp, lg, lh, q⟩ := h
    have nd := scEntryOf.nd
    have hr1 : Room 1 _ := hr.mono (by decide)
    refine ⟨_, pss_cons (ps_set (i := 7) nd rfl (Or.inl rfl) (pe_call T.ok hr1 (by rfl) T.g T.kp T.b .nil pass0 (pa_cons (pv 0) (pa_cons (pe_callB call_len_seq (by rfl) ml PySem.boot_len (pa_cons (pv 4) pa_nil)) pa_nil))))
      (pss_cons (ps_set (i := 8) nd rfl (Or.inl rfl) (pe_ix ix_list (pv 4) (pv 7) (fun _ _ => rfl)))
      (pss_cons (ps_set (i := 9) nd rfl (Or.inl rfl) (pe_ix ix_list (pv 5) (pe_call T.ok hr1 (by rfl) T.g T.kp T.b .nil pass0 (pa_cons (pv 0) (pa_cons (pe_callB call_len_seq (by rfl) ml PySem.boot_len (pa_cons (pv 5) pa_nil)) pa_nil))) (fun _ _ => rfl)))
      (pss_cons (ps_set (i := 10) nd rfl (Or.inl rfl) pe_str)
      (C8.pss_cut (ps_if (pt_cmpR op_gt (pe_callB call_len_seq (by rfl) ml PySem.boot_len (pa_cons (pv 4) pa_nil)) pe_int (nomark _))
        (pss_one (ps_set (i := 10) nd rfl (Or.inl rfl) (pe_ix ix_list (pv 4) (pe_op op_mod (pe_op op_add (pe_op op_add (pv 7) pe_int) (pe_call T.ok hr1 (by rfl) T.g T.kp T.b .nil pass0 (pa_cons (pv 0) (pa_cons (pe_op op_sub (pe_callB call_len_seq (by rfl) ml PySem.boot_len (pa_cons (pv 4) pa_nil)) pe_int) pa_nil)))) (pe_callB call_len_seq (by rfl) ml PySem.boot_len (pa_cons (pv 4) pa_nil))) (fun _ _ => rfl)))) pss_nil)
      (pss_cons (ps_if (pt_cmpR op_eq (pv 1) pe_str (nomark _)) (pss_one (ps_ret (pe_tup (pa_cons (pv 1) (pa_cons (pv 2) (pa_cons (pv 3) (pa_cons (pv 9) (pa_cons (pv 8) (pa_cons (pe_call M.ok hr (by rfl) M.g M.kp M.b .nil pass0 (pa_cons (pv 0) pa_nil)) (pa_cons (pe_op op_sub (pe_call M.ok hr (by rfl) M.g M.kp M.b .nil pass0 (pa_cons (pv 0) pa_nil)) (pe_call T.ok hr1 (by rfl) T.g T.kp T.b .nil pass0 (pa_cons (pv 0) (pa_cons pe_int pa_nil)))) pa_nil)))))))))) pss_nil)
      (pss_cons (ps_if (pt_cmpR op_eq (pv 1) pe_str (nomark _)) (pss_one (ps_ret (pe_tup (pa_cons (pv 1) (pa_cons (pv 2) (pa_cons (pv 3) (pa_cons (pv 9) (pa_cons (pv 8) (pa_cons (pe_call M.ok hr (by rfl) M.g M.kp M.b .nil pass0 (pa_cons (pv 0) pa_nil)) pa_nil))))))))) pss_nil)
      (C8.pss_cut (ps_if (PW.pt (pw_and (pt_cmpR op_eq (pv 1) pe_str (nomark _)) (pw_and1 (pt_cmpR op_ne (pv 10) pe_str (nomark _))))) (pss_one (ps_ret (pe_tup (pa_cons (pv 1) (pa_cons (pv 2) (pa_cons (pv 3) (pa_cons (pv 9) (pa_cons (pv 8) (pa_cons (pv 10) (pa_cons (pe_call M.ok hr (by rfl) M.g M.kp M.b .nil pass0 (pa_cons (pv 0) pa_nil)) pa_nil)))))))))) pss_nil)
      (pss_cons (ps_if (pt_cmpR op_eq (pv 1) pe_str (nomark _)) (pss_one (ps_ret (pe_tup (pa_cons (pv 1) (pa_cons (pv 2) (pa_cons (pv 3) (pa_cons (pv 9) (pa_cons (pv 8) (pa_cons (pe_ix ix_list (pe_lst (pa_cons (pv 10) (pa_cons (pv 10) (pa_cons pe_str pa_nil)))) (pe_call T.ok hr1 (by rfl) T.g T.kp T.b .nil pass0 (pa_cons (pv 0) (pa_cons pe_int pa_nil))) (fun _ _ => rfl)) pa_nil))))))))) pss_nil)
      (C8.pss_cut (ps_if (PW.pt (pw_and (pt_cmpR op_eq (pv 1) pe_str (nomark _)) (pw_and1 (pt_cmpR op_ne (pv 10) pe_str (nomark _))))) (pss_one (ps_ret (pe_tup (pa_cons (pv 1) (pa_cons (pv 2) (pa_cons (pv 3) (pa_cons (pv 8) (pa_cons (pv 10) pa_nil)))))))) pss_nil)
      (pss_cons (ps_if (pt_cmpR op_eq (pv 1) pe_str (nomark _)) (pss_one (ps_ret (pe_tup (pa_cons (pv 1) (pa_cons (pv 2) (pa_cons (pv 3) (pa_cons (pv 9) (pa_cons (pv 8) (pa_cons (pe_op op_sub (pe_call M.ok hr (by rfl) M.g M.kp M.b .nil pass0 (pa_cons (pv 0) pa_nil)) (pe_call T.ok hr1 (by rfl) T.g T.kp T.b .nil pass0 (pa_cons (pv 0) (pa_cons pe_int pa_nil)))) (pa_cons (pe_ix ix_list (pv 6) (pe_call T.ok hr1 (by rfl) T.g T.kp T.b .nil pass0 (pa_cons (pv 0) (pa_cons (pe_callB call_len_seq (by rfl) ml PySem.boot_len (pa_cons (pv 6) pa_nil)) pa_nil))) (fun _ _ => rfl)) pa_nil)))))))))) pss_nil)
      (pss_one (ps_ret (pe_tup (pa_cons pe_str (pa_cons (pv 2) (pa_cons (pv 3) (pa_cons (pv 9) (pa_cons (pv 8) pa_nil)))))))))))))))))), ?_⟩
    have p1 : 0 < PL.length := List.length_pos_iff.mpr ne1
    have g1 : 0 < GL.length := List.length_pos_iff.mpr ne2
    have k1 : 0 < HL.length := List.length_pos_iff.mpr ne3
    have lmap : ∀ ys : List Str, ((ys.map V.str).length : Int) = (ys.length : Int) := fun ys => by rw [List.length_map]
    -- at, one
    refine ⟨_, rfl, _, rfl, a1, _, rfl, .inl (SqL.of h1), p, c, n, _, rfl, pen, by omega, by rw [lmap]; omega, by rw [lmap]; omega, fun r1 H1 b1 d1 pen1 bt1 => ?_⟩
    rw [lmap] at d1
    have h11 := pen_strs pen bt1 h1
    have h12 := pen_strs pen bt1 h2
    have h13 := pen_strs pen bt1 h3
    obtain ⟨one, ho, ho2, ho3⟩ := at_strs b1 d1
    refine ⟨_, rfl, _, rfl, a1, _, r1, _, rfl, rfl, SqL.of h11, ho, ?_⟩
    refine ⟨_, rfl, _, rfl, _, rfl, a2, _, rfl, .inl (SqL.of h12), p, c, n + 1, _, rfl, pen1, by omega, by rw [lmap]; omega, by rw [lmap]; omega, fun r2 H2 b2 d2 pen2 bt2 => ?_⟩
    rw [lmap] at d2
    have h21 := pen_strs pen1 bt2 h11
    have h22 := pen_strs pen1 bt2 h12
    have h23 := pen_strs pen1 bt2 h13
    obtain ⟨good, hg, _, hg3⟩ := at_strs b2 d2
    have bt02 := bt1.tr bt2
    refine ⟨a2, _, r2, _, rfl, rfl, SqL.of h22, hg, ?_⟩
    refine ⟨fun σ' H' => ∃ other : Str, σ' = [some (.ref p), some (.str wd), some (.str nme), some (.int mo), some (.ref a1), some (.ref a2), some (.ref a3), some (.int r1), some (.str one), some (.str good), some (.str other)] ∧ (other = "" ∨ (other ∈ PL ∧ (PL.Nodup → one ≠ other))) ∧
      PenAt H' p c (n + 3) ∧ But p H H' ∧ StrsAt H' a1 PL ∧ StrsAt H' a2 GL ∧ StrsAt H' a3 HL, ?_, ?_⟩
    · refine ⟨_, rfl, a1, _, rfl, .inl (SqL.of h21), _, 1, rfl, rfl, _, rfl, ite2 (fun e => ?_) (fun e => ⟨"", rfl, .inl rfl, pen2.mono (by omega), bt02, h21, h22, h23⟩)⟩
      have e' : 1 < ((PL.map V.str).length : Int) := of_decide_eq_true e
      rw [lmap] at e'
      refine ⟨_, rfl, _, rfl, r1, 1, rfl, rfl, _, rfl, _, rfl, a1, _, rfl, .inl (SqL.of h21), _, 1, rfl, rfl, p, c, n + 2, _, rfl, pen2, by omega, by rw [lmap]; omega, by rw [lmap]; omega, fun r3 H3 b3 d3 pen3 bt3 => ?_⟩
      rw [lmap] at d3
      have h31 := pen_strs pen2 bt3 h21
      have h32 := pen_strs pen2 bt3 h22
      have h33 := pen_strs pen2 bt3 h23
      have x1 : 0 ≤ (r1 + 1 + r3) % (PL.length : Int) := Int.emod_nonneg _ (by omega)
      have x2 : (r1 + 1 + r3) % (PL.length : Int) < (PL.length : Int) := Int.emod_lt_of_pos _ (by omega)
      obtain ⟨other, hp, hp2, hp3⟩ := at_strs x1 x2
      refine ⟨r1 + 1, r3, rfl, rfl, _, rfl, a1, _, rfl, .inl (SqL.of h31), _, (PL.length : Int), rfl, by rw [lmap], (by show (0 : Int) < PL.length; omega), a1, _, _, .str other, rfl, rfl, SqL.of h31, hp, other, rfl, .inr ⟨hp3, fun nod z => ?_⟩, pen3, bt02.tr bt3, h31, h32, h33⟩
      subst z
      have := (List.getElem?_inj (show r1.toNat < PL.length by omega) nod).mp (ho2.trans hp2.symm)
      have x3 : (r1 + 1 + r3) % (PL.length : Int) = r1 + 1 + r3 ∨ (r1 + 1 + r3) % (PL.length : Int) = r1 + 1 + r3 - PL.length := by
        by_cases h : r1 + 1 + r3 < PL.length
        · exact .inl (Int.emod_eq_of_lt (by omega) h)
        · right
          rw [← Int.sub_emod_right]
          exact Int.emod_eq_of_lt (by omega) (by omega)
      omega
    · rintro σ' H3 ⟨other, rfl, oth, pen3, bt3, h31, h32, h33⟩
      have fin : ∀ (tp : Addr) (e : Ent) (H4 : Hp) (k : Nat), H4 tp = none → But p H3 H4 → PenAt H4 p c (n + 3 + k) → k ≤ 17 → e.name = nme → e.moment = mo → e.From PL GL HL → Q (.ref tp) (upd H4 tp (.tup e.vals)) := fun tp e H4 k ntp bt4 pen4 hk e1 e2 e3 =>
        q tp e _ ((bt3.tr bt4).free ntp pen4.there) upd_same e1 e2 e3 ((pen4.mono (by omega)).same (same_new ntp)) ((bt3.tr bt4).tr (.of (same_new ntp)))
      refine ⟨_, rfl, rfl, _, rfl, ite2 (fun e => ?_) (fun e1 => ?_)⟩
      · have e' : wd = "come" := V.str.inj (of_decide_eq_true e)
        subst e'
        refine ⟨_, rfl, _, rfl, _, rfl, _, rfl, _, rfl, _, rfl, p, c, n + 3, rfl, pen3, by omega, fun m1 H4 c1 d1 pen4 bt4 => ?_⟩
        refine ⟨_, rfl, p, c, _, rfl, pen4, by omega, fun m2 H5 c2 d2 pen5 bt5 => ?_⟩
        refine ⟨_, rfl, p, c, _, 2, rfl, pen5, by omega, by decide, by decide, fun r6 H6 c6 d6 pen6 bt6 => ?_⟩
        refine ⟨m2, r6, rfl, rfl, (by show 7 ≤ sizeLine; decide), fun tp ntp => ?_⟩
        exact fin tp (.come nme mo good one m1 (m2 - r6)) H6 9 ntp (bt4.tr (bt5.tr bt6)) pen6 (by decide) rfl rfl ⟨hg3, ho3, c1, d1, by omega, by omega⟩
      refine ⟨_, rfl, rfl, _, rfl, ite2 (fun e => ?_) (fun e2 => ?_)⟩
      · have e' : wd = "go" := V.str.inj (of_decide_eq_true e)
        subst e'
        refine ⟨_, rfl, _, rfl, _, rfl, _, rfl, _, rfl, _, rfl, p, c, n + 3, rfl, pen3, by omega, fun m1 H4 c1 d1 pen4 bt4 => ?_⟩
        refine ⟨(by show 6 ≤ sizeLine; decide), fun tp ntp => ?_⟩
        exact fin tp (.go nme mo good one m1) H4 4 ntp bt4 pen4 (by decide) rfl rfl ⟨hg3, ho3, c1, d1⟩
      have mv : ∀ (A B : Prop), (other ≠ "" → A) → B → (if (!decide (V.str other = V.str "")) = true then A else B) := fun A B hA hB => by
        by_cases z : other = ""
        · subst z
          rw [decide_eq_true rfl]
          exact iteF hB
        · rw [decide_eq_false fun h => z (V.str.inj h)]
          exact iteT (hA z)
      have oin : other ≠ "" → other ∈ PL ∧ (PL.Nodup → one ≠ other) := fun z => oth.resolve_left z
      refine ⟨fun σ' H' => σ' = [some (.ref p), some (.str wd), some (.str nme), some (.int mo), some (.ref a1), some (.ref a2), some (.ref a3), some (.int r1), some (.str one), some (.str good), some (.str other)] ∧ H' = H3, ?_, ?_⟩
      · refine ⟨_, rfl, rfl, _, rfl, ite2 (fun e => ?_) (fun _ => iteF ⟨rfl, rfl⟩)⟩
        have e' : wd = "move" := V.str.inj (of_decide_eq_true e)
        subst e'
        refine ⟨_, rfl, rfl, _, rfl, mv _ _ (fun z => ?_) ⟨rfl, rfl⟩⟩
        refine ⟨_, rfl, _, rfl, _, rfl, _, rfl, _, rfl, _, rfl, _, rfl, p, c, n + 3, rfl, pen3, by omega, fun m1 H4 c1 d1 pen4 bt4 => ?_⟩
        refine ⟨(by show 7 ≤ sizeLine; decide), fun tp ntp => ?_⟩
        exact fin tp (.move nme mo good one other m1) H4 4 ntp bt4 pen4 (by decide) rfl rfl ⟨hg3, ho3, (oin z).1, (oin z).2, c1, d1⟩
      rintro σ' H' ⟨rfl, rfl⟩
      refine ⟨_, rfl, rfl, _, rfl, ite2 (fun e => ?_) (fun e3 => ?_)⟩
      · have e' : wd = "some" := V.str.inj (of_decide_eq_true e)
        subst e'
        refine ⟨_, rfl, _, rfl, _, rfl, _, rfl, _, rfl, _, rfl, _, rfl, (by show 3 ≤ sizeLine; decide), fun l nl => ?_⟩
        have sl := @same_new _ _ (.lst [V.str other, .str other, .str ""]) nl
        have nlp : l ≠ p := fun z => pen3.there (z ▸ nl)
        refine ⟨_, rfl, p, c, n + 3, 3, rfl, pen3.same sl, by omega, by decide, by decide, fun r4 H4 c4 d4 pen4 bt4 => ?_⟩
        have hl := bt4 l _ upd_same nlp
        obtain ⟨to, ht, hto⟩ : ∃ to : Str, atI [V.str other, .str other, .str ""] r4 = some (.str to) ∧ (to = "" ∨ (to ∈ PL ∧ (PL.Nodup → one ≠ to))) := by
          have w3 : r4 = 0 ∨ r4 = 1 ∨ r4 = 2 := by omega
          rcases w3 with rfl | rfl | rfl
          · exact ⟨other, atI_nat (j := 0) rfl, oth⟩
          · exact ⟨other, atI_nat (j := 1) rfl, oth⟩
          · exact ⟨"", atI_nat (j := 2) rfl, .inl rfl⟩
        refine ⟨l, _, r4, _, rfl, rfl, SqL.of hl, ht, (by show 6 ≤ sizeLine; decide), fun tp ntp => ?_⟩
        exact fin tp (.some_ nme mo good one to) H4 1 ntp ((But.of sl).tr bt4) pen4 (by decide) rfl rfl ⟨hg3, ho3, hto⟩
      refine ⟨fun σ' H1 => σ' = [some (.ref p), some (.str wd), some (.str nme), some (.int mo), some (.ref a1), some (.ref a2), some (.ref a3), some (.int r1), some (.str one), some (.str good), some (.str other)] ∧ H1 = H', ?_, ?_⟩
      · refine ⟨_, rfl, rfl, _, rfl, ite2 (fun e => ?_) (fun _ => iteF ⟨rfl, rfl⟩)⟩
        have e' : wd = "swap" := V.str.inj (of_decide_eq_true e)
        subst e'
        refine ⟨_, rfl, rfl, _, rfl, mv _ _ (fun z => ?_) ⟨rfl, rfl⟩⟩
        refine ⟨_, rfl, _, rfl, _, rfl, _, rfl, _, rfl, (by show 5 ≤ sizeLine; decide), fun tp ntp => ?_⟩
        exact fin tp (.swap nme mo one other) H' 0 ntp (.refl _ _) pen3 (by decide) rfl rfl ⟨ho3, (oin z).1, (oin z).2⟩
      rintro σ' H2 ⟨rfl, rfl⟩
      refine ⟨_, rfl, rfl, _, rfl, ite2 (fun e => ?_) (fun e5 => ?_)⟩
      · have e' : wd = "count" := V.str.inj (of_decide_eq_true e)
        subst e'
        refine ⟨_, rfl, _, rfl, _, rfl, _, rfl, _, rfl, _, rfl, p, c, n + 3, rfl, pen3, by omega, fun m1 H4 c1 d1 pen4 bt4 => ?_⟩
        refine ⟨_, rfl, p, c, _, 2, rfl, pen4, by omega, by decide, by decide, fun r5 H5 c5 d5 pen5 bt5 => ?_⟩
        have h43 := pen_strs pen4 bt5 (pen_strs pen3 bt4 h33)
        refine ⟨m1, r5, rfl, rfl, _, rfl, _, rfl, _, rfl, a3, _, rfl, .inl (SqL.of h43), p, c, _, _, rfl, pen5, by omega, by rw [lmap]; omega, by rw [lmap]; omega, fun r6 H6 c6 d6 pen6 bt6 => ?_⟩
        rw [lmap] at d6
        obtain ⟨hand, hh, _, hh3⟩ := at_strs c6 d6
        refine ⟨a3, _, r6, _, rfl, rfl, SqL.of (pen_strs pen5 bt6 h43), hh, (by show 7 ≤ sizeLine; decide), fun tp ntp => ?_⟩
        exact fin tp (.count nme mo good one (m1 - r5) hand) H6 6 ntp (bt4.tr (bt5.tr bt6)) pen6 (by decide) rfl rfl ⟨hg3, ho3, by omega, by omega, hh3⟩
      refine ⟨_, rfl, _, rfl, _, rfl, _, rfl, (by show 5 ≤ sizeLine; decide), fun tp ntp => ?_⟩
      exact fin tp (.look nme mo good one) H2 0 ntp (.refl _ _) pen3 (by decide) rfl rfl ⟨hg3, ho3⟩
abbrev entryN : List Str := ["_law_pen_here", "_law_name", "_law_moment", "_law_places", "_law_goods", "_law_hands", "_law_words_here"]
theorem scEntry : FnScope entryN ["_law_pen_here", "_law_name", "_law_moment", "_law_places", "_law_goods", "_law_hands"] (defScope sEntry) := ⟨rfl, rfl, rfl, by decide +kernel, rfl, by decide +kernel, by decide +kernel⟩
theorem ok_entry {f fT fE : Addr} {fd fdT fdE : FuncData} (F : Fun K "_law_entry" "_law_entry" sEntry f fd) (T : TakeT P w K mg base fT fdT)
    (EO : DefT P w K mg base "_law_entry_of" 3 fE fdE ["_law_pen_here", "_law_word", "_law_name", "_law_moment", "_law_places", "_law_goods", "_law_hands"] spEntryOf) :
    FnOk P w K mg base CX0 4 f fd ["_law_pen_here", "_law_name", "_law_moment", "_law_places", "_law_goods", "_law_hands"] spEntry := by
  refine F.ok scEntry (fun vs H Q E h => ?_) (fun cdv A outer s H vs Q E hr h => ?_)
  · obtain ⟨p, c, n, nme, mo, a1, a2, a3, PL, GL, HL, rfl, _⟩ := h
    rfl
  · obtain ⟨p, c, n, nme, mo, a1, a2, a3, PL, GL, HL, rfl, pen, hn, h1, h2, h3, ne1, ne2, ne3, lp, lg, lh, q⟩ := h
    have nd := scEntry.nd
    have hr1 : Room 1 _ := hr.mono (by decide)
    refine ⟨_, pss_cons (ps_set (i := 6) nd rfl (Or.inl rfl) (pe_lst (pa_cons pe_str (pa_cons pe_str (pa_cons pe_str (pa_cons pe_str (pa_cons pe_str (pa_cons pe_str (pa_cons pe_str (pa_cons pe_str (pa_cons pe_str (pa_cons pe_str pa_nil))))))))))))
      (pss_one (ps_ret (pe_call EO.ok hr (by rfl) EO.g EO.kp EO.b .nil pass0 (pa_cons (pv 0) (pa_cons (pe_ix ix_list (pv 6) (pe_call T.ok hr1 (by rfl) T.g T.kp T.b .nil pass0 (pa_cons (pv 0) (pa_cons pe_int pa_nil))) (fun _ _ => rfl)) (pa_cons (pv 1) (pa_cons (pv 2) (pa_cons (pv 3) (pa_cons (pv 4) (pa_cons (pv 5) pa_nil)))))))))), ?_⟩
    refine ⟨(by show 10 ≤ sizeLine; decide), fun l nl => ?_⟩
    have sl := @same_new _ _ (.lst (words10.map V.str)) nl
    have nlp : l ≠ p := fun z => pen.there (z ▸ nl)
    have pen' := pen.same sl
    refine ⟨_, rfl, _, rfl, _, rfl, p, c, n, 10, rfl, pen', by omega, by decide, by decide, fun r1 H1 b1 d1 pen1 bt1 => ?_⟩
    obtain ⟨wd, hw, _, hw3⟩ := at_strs (ys := words10) b1 d1
    have hl : StrsAt H1 l words10 := bt1 l _ upd_same nlp
    have w7 : wd ∈ words7 := by
      simp only [List.mem_cons, List.not_mem_nil, or_false] at hw3
      rcases hw3 with rfl | rfl | rfl | rfl | rfl | rfl | rfl | rfl | rfl | rfl <;> simp [words7]
    refine ⟨l, _, r1, _, rfl, rfl, SqL.of hl, hw, _, rfl, _, rfl, _, rfl, _, rfl, _, rfl, p, c, n + 1, wd, nme, mo, a1, a2, a3, PL, GL, HL, rfl, pen1, by omega, w7, pen_strs pen' bt1 (sl _ _ h1), pen_strs pen' bt1 (sl _ _ h2), pen_strs pen' bt1 (sl _ _ h3), ne1, ne2, ne3, lp, lg, lh, fun tp e H2 ntp ht en em ef pen2 bt2 => ?_⟩
    exact q tp e H2 (sl.free ((bt1.free ntp pen1.there))) ht en em ef (pen2.mono (by omega)) ((But.of sl).tr (bt1.tr bt2))
end
/-! ### words and moments -/
def NmL (ys : List Str) (m : Nat) : Prop := ∃ way t B sp, NmOk way t B sp ∧ ys = (List.range m).map (nmStr way t B sp)
theorem nmAt_strs {H : Hp} {l : Addr} {m : Nat} (h : NmAt H l m) : ∃ ys, StrsAt H l ys ∧ NmL ys m := by
  obtain ⟨way, t, B, sp, ok, e⟩ := h
  refine ⟨(List.range m).map (nmStr way t B sp), ?_, way, t, B, sp, ok, rfl⟩
  show H l = _
  rw [e, List.map_map]
  rfl
theorem NmL.len {ys : List Str} {m : Nat} (h : NmL ys m) : ys.length = m := by
  obtain ⟨way, t, B, sp, ok, rfl⟩ := h
  simp
theorem NmL.take {ys : List Str} {m k : Nat} (h : NmL ys m) (hk : k ≤ m) : NmL (ys.take k) k := by
  obtain ⟨way, t, B, sp, ok, rfl⟩ := h
  refine ⟨way, t, B, sp, ok, ?_⟩
  rw [← List.map_take, List.take_range, Nat.min_eq_left hk]
theorem cut_take {xs : List V} {k : Nat} : cutV xs none (some (k : Int)) = xs.take k := by
  unfold cutV
  rw [HT.sIx_none, HT.sIx_nat]
  show (xs.drop 0).take (min k xs.length - 0) = xs.take k
  rw [List.drop_zero, Nat.sub_zero]
  by_cases h : k ≤ xs.length
  · rw [Nat.min_eq_left h]
  · rw [Nat.min_eq_right (by omega), List.take_length, List.take_of_length_le (by omega)]
def spWords : Sp := fun vs H Q _ => ∃ (p c : Addr) (n : Nat) (a b e : Nat), vs = [.ref p, .int a, .int b, .int e] ∧ PenAt H p c n ∧ n ≤ 1000 ∧ a ≤ 31 ∧ b ≤ 31 ∧ e ≤ 31 ∧
  ∀ (tp l1 l2 l3 l4 : Addr) (PL GL HL EL : List Str) (H' : Hp), H tp = none → H' tp = some (.tup [.ref l1, .ref l2, .ref l3, .ref l4]) → StrsAt H' l1 PL → StrsAt H' l2 GL → StrsAt H' l3 HL → StrsAt H' l4 EL →
    NmL PL a → NmL GL b → NmL HL 3 → NmL EL e → PenAt H' p c (n + 50) → But p H H' → Q (.ref tp) H'
def spMoments : Sp := fun vs H Q _ => ∃ (p c : Addr) (n : Nat) (m : Nat), vs = [.ref p, .int m] ∧ PenAt H p c n ∧ n ≤ 2000 ∧ m ≤ 31 ∧
  ∀ (l : Addr) (ns : List Int) (H' : Hp), H l = none → H' l = some (.lst (ns.map V.int)) → ns.length = m → (∀ x ∈ ns, 0 ≤ x ∧ x ≤ 9999) → PenAt H' p c (n + 100) → But p H H' → Q (.ref l) H'
section
variable {P : Program} {w : World} {K : PySem.W.Frag} {mg : Str → Option Value} {base : Heap}
abbrev wordsN : List Str := ["_law_pen_here", "_law_places", "_law_goods", "_law_entries", "_law_some", "_law_hands"]
theorem scWords : FnScope wordsN ["_law_pen_here", "_law_places", "_law_goods", "_law_entries"] (defScope sWords) := ⟨rfl, rfl, rfl, by decide +kernel, rfl, by decide +kernel, by decide +kernel⟩
theorem ok_words {f fT fN : Addr} {fd fdT fdN : FuncData} (F : Fun K "_law_words" "_law_words" sWords f fd) (T : TakeT P w K mg base fT fdT) (N : DefT P w K mg base "_law_names" 2 fN fdN ["_law_pen_here", "_law_many_here"] spNames) :
    FnOk P w K mg base CX0 3 f fd ["_law_pen_here", "_law_places", "_law_goods", "_law_entries"] spWords := by
  refine F.ok scWords (fun vs H Q E h => ?_) (fun cdv A outer s H vs Q E hr h => ?_)
  · obtain ⟨p, c, n, a, b, e, rfl, _⟩ := h
    rfl
  · obtain ⟨p, c, n, a, b, e, rfl, pen, hn, ha, hb, he, q⟩ := h
    have nd := scWords.nd
    have hr1 : Room 1 _ := hr.mono (by decide)
    refine ⟨_, pss_cons (ps_if (pt_cmpR op_eq (pe_call T.ok hr1 (by rfl) T.g T.kp T.b .nil pass0 (pa_cons (pv 0) (pa_cons pe_int pa_nil))) pe_int (nomark _))
        (pss_cons (ps_set (i := 4) nd rfl (Or.inl rfl) (pe_call N.ok hr (by rfl) N.g N.kp N.b .nil pass0 (pa_cons (pv 0) (pa_cons pe_int pa_nil))))
        (pss_one (ps_ret (pe_tup (pa_cons (pe_slice sl_list (pv 4) po_none (po_some (pv 1))) (pa_cons (pe_slice sl_list (pv 4) po_none (po_some (pv 2))) (pa_cons (pe_slice sl_list (pv 4) po_none (po_some pe_int)) (pa_cons (pe_slice sl_list (pv 4) po_none (po_some (pv 3))) pa_nil)))))))) pss_nil)
      (pss_cons (ps_set (i := 5) nd rfl (Or.inl rfl) (pe_call N.ok hr (by rfl) N.g N.kp N.b .nil pass0 (pa_cons (pv 0) (pa_cons pe_int pa_nil))))
      (pss_one (ps_ret (pe_tup (pa_cons (pe_call N.ok hr (by rfl) N.g N.kp N.b .nil pass0 (pa_cons (pv 0) (pa_cons (pv 1) pa_nil))) (pa_cons (pe_call N.ok hr (by rfl) N.g N.kp N.b .nil pass0 (pa_cons (pv 0) (pa_cons (pv 2) pa_nil))) (pa_cons (pv 5) (pa_cons (pe_call N.ok hr (by rfl) N.g N.kp N.b .nil pass0 (pa_cons (pv 0) (pa_cons (pv 3) pa_nil))) pa_nil)))))))), ?_⟩
    refine ⟨_, rfl, p, c, n, 4, rfl, pen, by omega, by decide, by decide, fun r1 H1 b1 d1 pen1 bt1 => ⟨rfl, _, rfl, ite2 (fun _ => ?_) (fun _ => ?_)⟩⟩
    · refine ⟨_, rfl, p, c, n + 1, 31, rfl, pen1, by omega, by decide, by decide, fun l H2 nl hl pen2 bt2 => ?_⟩
      obtain ⟨ys, hy, ny⟩ := nmAt_strs hl
      have tk : ∀ k : Nat, cutV (ys.map V.str) none (some (k : Int)) = (ys.take k).map V.str := fun k => by rw [cut_take, List.map_take]
      refine ⟨_, rfl, _, rfl, (a : Int), rfl, l, _, rfl, SqL.of hy, fun l1 n1 => ?_⟩
      have s1 := @same_new _ _ (.lst (cutV (ys.map V.str) none (some (a : Int)))) n1
      refine ⟨_, rfl, _, rfl, (b : Int), rfl, l, _, rfl, SqL.of (s1 _ _ hy), fun l2 n2 => ?_⟩
      have s2 := @same_new _ _ (.lst (cutV (ys.map V.str) none (some (b : Int)))) n2
      refine ⟨_, rfl, 3, rfl, l, _, rfl, SqL.of (s2 _ _ (s1 _ _ hy)), fun l3 n3 => ?_⟩
      have s3 := @same_new _ _ (.lst (cutV (ys.map V.str) none (some (3 : Int)))) n3
      refine ⟨_, rfl, _, rfl, (e : Int), rfl, l, _, rfl, SqL.of (s3 _ _ (s2 _ _ (s1 _ _ hy))), fun l4 n4 => ?_⟩
      have s4 := @same_new _ _ (.lst (cutV (ys.map V.str) none (some (e : Int)))) n4
      refine ⟨(by show 4 ≤ sizeLine; decide), fun tp ntp => ?_⟩
      have s5 := @same_new _ _ (.tup [V.ref l1, .ref l2, .ref l3, .ref l4]) ntp
      have u4 := s4.trans s5
      have u3 := s3.trans u4
      have u2 := s2.trans u3
      have u1 := s1.trans u2
      have bt := (bt1.tr bt2).tr (.of u1)
      have f0 : H tp = none := (bt1.tr bt2).free (s1.free (s2.free (s3.free (s4.free ntp)))) pen2.there
      refine q tp l1 l2 l3 l4 (ys.take a) (ys.take b) (ys.take 3) (ys.take e) _ f0 upd_same ?_ ?_ ?_ ?_ (ny.take ha) (ny.take hb) (ny.take (by decide)) (ny.take he) ((pen2.mono (by omega)).same u1) bt
      · exact u2 _ _ (by rw [upd_same, tk])
      · exact u3 _ _ (by rw [upd_same, tk])
      · exact u4 _ _ (by rw [upd_same]; exact congrArg (fun z => some (HO.lst z)) (tk 3))
      · exact s5 _ _ (by rw [upd_same, tk])
    · refine ⟨_, rfl, p, c, n + 1, 3, rfl, pen1, by omega, by decide, by decide, fun l3 H2 nl3 hl3 pen2 bt2 => ?_⟩
      obtain ⟨ys3, hy3, ny3⟩ := nmAt_strs hl3
      refine ⟨_, rfl, _, rfl, p, c, n + 11, (a : Int), rfl, pen2, by omega, by omega, by omega, fun l1 H3 nl1 hl1 pen3 bt3 => ?_⟩
      obtain ⟨ys1, hy1, ny1⟩ := nmAt_strs hl1
      refine ⟨_, rfl, _, rfl, p, c, n + 21, (b : Int), rfl, pen3, by omega, by omega, by omega, fun l2 H4 nl2 hl2 pen4 bt4 => ?_⟩
      obtain ⟨ys2, hy2, ny2⟩ := nmAt_strs hl2
      refine ⟨_, rfl, _, rfl, _, rfl, p, c, n + 31, (e : Int), rfl, pen4, by omega, by omega, by omega, fun l4 H5 nl4 hl4 pen5 bt5 => ?_⟩
      obtain ⟨ys4, hy4, ny4⟩ := nmAt_strs hl4
      refine ⟨(by show 4 ≤ sizeLine; decide), fun tp ntp => ?_⟩
      have s5 := @same_new _ _ (.tup [V.ref l1, .ref l2, .ref l3, .ref l4]) ntp
      have bt := bt1.tr (bt2.tr (bt3.tr (bt4.tr bt5)))
      exact q tp l1 l2 l3 l4 ys1 ys2 ys3 ys4 _ (bt.free ntp pen5.there) upd_same (s5 _ _ (pen_strs pen4 bt5 (pen_strs pen3 bt4 hy1))) (s5 _ _ (pen_strs pen4 bt5 hy2)) (s5 _ _ (pen_strs pen4 bt5 (pen_strs pen3 bt4 (pen_strs pen2 bt3 hy3)))) (s5 _ _ hy4)
        (by rw [Int.toNat_natCast] at ny1; exact ny1) (by rw [Int.toNat_natCast] at ny2; exact ny2) ny3 (by rw [Int.toNat_natCast] at ny4; exact ny4) ((pen5.mono (by omega)).same s5) (bt.tr (.of s5))
abbrev momN : List Str := ["_law_pen_here", "_law_many_here", "_law_way", "_law_some", "_law_k", "_law_few", "_law_found"]
theorem scMom : FnScope momN ["_law_pen_here", "_law_many_here"] (defScope sMoments) := ⟨rfl, rfl, rfl, by decide +kernel, rfl, by decide +kernel, by decide +kernel⟩
theorem at_ints {ns : List Int} {r : Int} (h0 : 0 ≤ r) (h1 : r < (ns.length : Int)) : ∃ y, atI (ns.map V.int) r = some (.int y) ∧ y ∈ ns := by
  have h : r.toNat < ns.length := by omega
  have e : ((r.toNat : Nat) : Int) = r := by omega
  have q := atI_nat (xs := ns.map V.int) (j := r.toNat) (v := .int ns[r.toNat]) (by rw [List.getElem?_map, List.getElem?_eq_getElem h]; rfl)
  rw [e] at q
  exact ⟨_, q, List.getElem_mem h⟩
set_option maxHeartbeats 4000000 in
theorem ok_moments {f fT : Addr} {fd fdT : FuncData} (F : Fun K "_law_moments" "_law_moments" sMoments f fd) (T : TakeT P w K mg base fT fdT) (ml : mg "len" = none) (mr : mg "range" = none) (mi : mg "int" = none) :
    FnOk P w K mg base CX0 2 f fd ["_law_pen_here", "_law_many_here"] spMoments := by
  refine F.ok scMom (fun vs H Q E h => ?_) (fun cdv A outer s H vs Q E hr h => ?_)
  · obtain ⟨p, c, n, m, rfl, _⟩ := h
    rfl
  · obtain ⟨p, c, n, m, rfl, pen, hn, hm, q⟩ := h
    have nd := scMom.nd
    refine ⟨_, pss_cons (ps_set (i := 2) nd rfl (Or.inl rfl) (pe_call T.ok hr (by rfl) T.g T.kp T.b .nil pass0 (pa_cons (pv 0) (pa_cons pe_int pa_nil))))
      (pss_cons (ps_set (i := 3) nd rfl (Or.inr rfl) (pe_lst (pa_cons pe_int (pa_cons pe_int (pa_cons pe_int (pa_cons pe_int (pa_cons (pe_call T.ok hr (by rfl) T.g T.kp T.b .nil pass0 (pa_cons (pv 0) (pa_cons pe_int pa_nil))) (pa_cons (pe_call T.ok hr (by rfl) T.g T.kp T.b .nil pass0 (pa_cons (pv 0) (pa_cons pe_int pa_nil))) pa_nil))))))))
      (pss_cons (ps_setLc (i := 5) (own := [("_law_k", 4)]) (g := gName 4) (tt := tYes) (te := tOp (rIxL K) (tVar 3) (tCall spTake [] E0 (tCons (tVar 0) (tCons (tC (V.int 6)) tNil)))) rfl nd rfl rfl (sw_true rfl rfl rfl (by decide +kernel))
          (pi_range1 rfl mr (pa_cons (pe_op op_add pe_int (pe_call T.ok hr (by rfl) T.g T.kp T.b .nil pass0 (pa_cons (pv 0) (pa_cons pe_int pa_nil)))) pa_nil))
          (blkOk_by (N := momN) (sc := defScope sMoments) (by decide +kernel))
          (fun _ _ _ _ _ => pg_name (i := 4) nd rfl (Or.inl rfl)) (fun _ _ _ _ _ => pts_nil)
          (fun _ _ _ _ _ => pe_ix ix_list (pv 3) (pe_call T.ok hr (by rfl) T.g T.kp T.b .nil pass0 (pa_cons (pv 0) (pa_cons pe_int pa_nil))) (fun _ _ => rfl)))
      (pss_cons (ps_set (i := 6) nd rfl (Or.inl rfl) (pe_lst pa_nil))
      (pss_cons (ps_for PassesOwn.never rfl (pi_range1 rfl mr (pa_cons (pv 1) pa_nil)) (pg_name (i := 4) nd rfl (Or.inl rfl))
        (pss_one (ps_expr (pe_bm PySem.F.plainAttrs_list PySem.F.slot_list_append PySem.F.type_list_append mt_append (pv 6) (pa_cons (pe_ix ix_list
          (pe_lst (pa_cons (pe_ix ix_list (pv 5) (pe_call T.ok hr (by rfl) T.g T.kp T.b .nil pass0 (pa_cons (pv 0) (pa_cons (pe_callB call_len_seq (by rfl) ml PySem.boot_len (pa_cons (pv 5) pa_nil)) pa_nil))) (fun _ _ => rfl)) (pa_cons (pe_call T.ok hr (by rfl) T.g T.kp T.b .nil pass0 (pa_cons (pv 0) (pa_cons pe_int pa_nil))) pa_nil)))
          (pe_callTy call_int1 (by rfl) mi (by decide +kernel) (pa_cons (pe_cmpR op_eq (pv 2) pe_int (nomark _)) pa_nil)) (fun _ _ => rfl)) pa_nil)))))
      (pss_one (ps_ret (pv 6))))))), ?_⟩
    refine ⟨_, rfl, p, c, n, 4, rfl, pen, by omega, by decide, by decide, fun r1 H1 b1 d1 pen1 bt1 => ?_⟩
    refine ⟨_, rfl, p, c, n + 1, 10000, rfl, pen1, by omega, by decide, by decide, fun r2 H2 b2 d2 pen2 bt2 => ?_⟩
    refine ⟨_, rfl, p, c, n + 2, 10000, rfl, pen2, by omega, by decide, by decide, fun r3 H3 b3 d3 pen3 bt3 => ?_⟩
    refine ⟨(by show 6 ≤ sizeLine; decide), fun S nS => ?_⟩
    have sS := @same_new _ _ (.lst (([0, 99, 100, 9999, r2, r3] : List Int).map V.int)) nS
    have penS := pen3.same sS
    have nSp : S ≠ p := fun z => pen3.there (z ▸ nS)
    have btS : But p H (upd H3 S (.lst (([0, 99, 100, 9999, r2, r3] : List Int).map V.int))) := (bt1.tr (bt2.tr bt3)).tr (.of sS)
    have hS : (upd H3 S (.lst (([0, 99, 100, 9999, r2, r3] : List Int).map V.int))) S = some (.lst (([0, 99, 100, 9999, r2, r3] : List Int).map V.int)) := upd_same
    refine ⟨_, rfl, p, c, n + 3, 4, rfl, penS, by omega, by decide, by decide, fun r4 H4 b4 d4 pen4 bt4 => ?_⟩
    have hS4 := bt4 S _ hS nSp
    refine ⟨1, r4, rfl, rfl, 1 + r4, rfl, by omega, by omega, fun D nD => ?_⟩
    have nDp : D ≠ p := fun z => pen4.there (z ▸ nD)
    have nDc : D ≠ c := fun z => pen4.cells (z ▸ nD)
    have nSD : S ≠ D := ne_of_none hS4 nD
    have hDn : H D = none := (btS.tr bt4).free nD pen4.there
    refine lc_range (lo := 0) (n := (1 + r4).toNat) (fun j H' => PenAt H' p c (n + 4 + j) ∧ But p H H' ∧ H' S = some (.lst (([0, 99, 100, 9999, r2, r3] : List Int).map V.int)) ∧ ∃ fs : List Int, H' D = some (.lst (fs.map V.int)) ∧ fs.length = j ∧ ∀ x ∈ fs, 0 ≤ x ∧ x ≤ 9999)
      ⟨pen4.same (same_new nD), (btS.tr bt4).tr (.of (same_new nD)), (upd_ne nSD).trans hS4, [], upd_same, rfl, fun y hy => nomatch hy⟩ ?_ ?_
    · rintro j H6 hj ⟨pen6, bt6, hS6, fs, hD6, lf, bd⟩
      refine ⟨rfl, yesT ?_⟩
      refine ⟨_, rfl, _, rfl, p, c, _, 6, rfl, pen6, by omega, by decide, by decide, fun r H7 b7 d7 pen7 bt7 => ?_⟩
      obtain ⟨y, hy, my⟩ := at_ints (ns := [0, 99, 100, 9999, r2, r3]) b7 d7
      have hD7 := bt7 D _ hD6 nDp
      have hS7 := bt7 S _ hS6 nSp
      refine ⟨S, _, r, _, rfl, rfl, SqL.of hS7, hy, _, hD7, (by rw [List.length_map]; exact small1000 (by omega)), pen7.upd nDp nDc, fun b o e nb => (upd_ne (ne_of_none e hDn)).trans ((bt6.tr bt7) b o e nb), (upd_ne nSD).trans hS7, fs ++ [y], ?_, by simp [lf], ?_⟩
      · rw [upd_same, List.map_append]
        rfl
      · intro x hx
        rcases List.mem_append.mp hx with h | h
        · exact bd x h
        · rw [List.mem_singleton.mp h]
          simp only [List.mem_cons, List.not_mem_nil, or_false] at my
          rcases my with rfl | rfl | rfl | rfl | rfl | rfl <;> constructor <;> omega
    · rintro H6 ⟨pen6, bt6, hS6, fs, hD6, lf, bd⟩
      refine ⟨Nat.zero_le _, fun Fd nFd => ?_⟩
      have nFp : Fd ≠ p := fun z => pen6.there (z ▸ nFd)
      have nFc : Fd ≠ c := fun z => pen6.cells (z ▸ nFd)
      have nDF : D ≠ Fd := ne_of_none hD6 nFd
      have hFn : H Fd = none := bt6.free nFd pen6.there
      refine ⟨_, rfl, (m : Int), rfl, by omega, by omega, for_range (lo := 0) (n := (m : Int).toNat) (fun j σ H' => ∃ y4, σ = [some (.ref p), some (.int (m : Int)), some (.int r1), some (.ref S), y4, some (.ref D), some (.ref Fd)] ∧ PenAt H' p c (n + 8 + 2 * j) ∧ But p H H' ∧ H' D = some (.lst (fs.map V.int)) ∧
        ∃ ns : List Int, H' Fd = some (.lst (ns.map V.int)) ∧ ns.length = j ∧ ∀ x ∈ ns, 0 ≤ x ∧ x ≤ 9999) ⟨_, rfl, (pen6.mono (by omega)).same (same_new nFd), bt6.tr (.of (same_new nFd)), (upd_ne nDF).trans hD6, [], upd_same, rfl, fun y hy => nomatch hy⟩ ?_ ?_⟩
      · rintro j σ H9 hj ⟨y4, rfl, pen9, bt9, hD9, ns, hF9, ln, bn⟩
        have lfs : ((fs.map V.int).length : Int) = (fs.length : Int) := by rw [List.length_map]
        refine ⟨_, rfl, .inl ⟨rfl, _, SqL.of hF9⟩, _, rfl, _, rfl, _, rfl, D, _, rfl, .inl (SqL.of hD9), p, c, _, _, rfl, pen9, by omega, by rw [lfs]; omega, by rw [lfs]; omega, fun r5 H10 b5 d5 pen10 bt10 => ?_⟩
        rw [lfs] at d5
        obtain ⟨y, hy, my⟩ := at_ints b5 d5
        have hD10 := bt10 D _ hD9 nDp
        refine ⟨D, _, r5, _, rfl, rfl, SqL.of hD10, hy, _, rfl, p, c, _, 10000, rfl, pen10, by omega, by decide, by decide, fun r6 H11 b6 d6 pen11 bt11 => ?_⟩
        refine ⟨(by show 2 ≤ sizeLine; decide), fun L nL => ?_⟩
        have sL := @same_new _ _ (.lst (([y, r6] : List Int).map V.int)) nL
        refine ⟨_, rfl, rfl, .inr ⟨decide (V.int r1 = V.int 0), rfl, ?_⟩⟩
        have z01 : (0 : Int) ≤ (if decide (V.int r1 = V.int 0) = true then 1 else 0) ∧ (if decide (V.int r1 = V.int 0) = true then (1 : Int) else 0) < 2 := by
          cases decide (V.int r1 = V.int 0) <;> decide
        obtain ⟨x, hx, mx⟩ := at_ints (ns := [y, r6]) z01.1 z01.2
        have hF12 := sL _ _ (bt11 Fd _ (bt10 Fd _ hF9 nFp) nFp)
        have bt12 := (bt9.tr (bt10.tr bt11)).tr (.of sL)
        refine ⟨L, _, _, _, rfl, rfl, SqL.of upd_same, hx, Fd, _, _, rfl, rfl, hF12, (by rw [List.length_map]; exact small1000 (by omega)), _, rfl, (((pen11.mono (by omega)).same sL).upd nFp nFc), fun b o e nb => (upd_ne (ne_of_none e hFn)).trans (bt12 b o e nb), (upd_ne nDF).trans (sL _ _ (bt11 D _ hD10 nDp)), ns ++ [x], ?_, by simp [ln], ?_⟩
        · rw [upd_same, List.map_append]
          rfl
        · intro z hz
          rcases List.mem_append.mp hz with h | h
          · exact bn z h
          · rw [List.mem_singleton.mp h]
            have by_ := bd y my
            simp only [List.mem_cons, List.not_mem_nil, or_false] at mx
            rcases mx with rfl | rfl <;> constructor <;> omega
      · rintro σ H9 ⟨y4, rfl, pen9, bt9, hD9, ns, hF9, ln, bn⟩
        exact ⟨_, rfl, q Fd ns H9 hFn hF9 (by omega) bn (pen9.mono (by omega)) bt9⟩
end
/-! ### the order of entries -/
abbrev sOrd : Stmt := topS 2
abbrev sAhead : Stmt := topS 3
abbrev sSame : Stmt := topS 7
abbrev sOwn : Stmt := topS 14
abbrev sLaw : Stmt := topS 15
def Ent.rank : Ent → Int
  | .swap .. => 0 | .come .. => 1 | .go .. => 1 | .move .. => 1 | .some_ .. => 1 | .count .. => 2 | .look .. => 2
def ordV (e : Ent) : List V := [.int e.moment, .int e.rank, .str e.name]
def ordD (e : Ent) : PyData := .tuple [.int e.moment, .int e.rank, .str e.name]
theorem ord_dp {K : PySem.W.Frag} {H : Hp} {tp : Addr} {e : Ent} (h : H tp = some (.tup (ordV e))) : Dp K H (.ref tp) (ordD e) := .tup (SqT.of h) (.cons (.int _) (.cons (.int _) (.cons (.str _) .nil)))
/-- a < b of data that are alike -/
def rLtD (K : PySem.W.Frag) : R2 := fun x y H Q => ∃ d e, Dp K H x d ∧ Dp K H y e ∧ PySem.W.alike d e = true ∧ d ≠ .none ∧ min d.depth e.depth ≤ 60 ∧ Q (.bl (PySem.W.dataLt d e)) H
theorem op_ltD {X : Cx} (hu : X.A.units + 64 < cLine) : OpR X (compareOp .Lt) (rLtD X.K) := by
  intro pins s σ H x y v u Q I rx ry h
  obtain ⟨d, e, hd, he, al, nn, dp, q⟩ := h
  obtain ⟨as, r1⟩ := Dp.reads I d x v hd rx
  obtain ⟨bs, r2⟩ := Dp.reads I e y u he ry
  exact PySem.W.lt_data r1 r2 al nn (by omega) ⟨.bl _, H, I, rfl, q⟩
theorem ord_alike (e g : Ent) : PySem.W.alike (ordD e) (ordD g) = true := rfl
def spOrd : Sp := fun vs H Q _ => ∃ (a : Addr) (e : Ent), vs = [.ref a] ∧ H a = some (.tup e.vals) ∧ ∀ (tp : Addr) (H' : Hp), Same H H' → H' tp = some (.tup (ordV e)) → Q (.ref tp) H'
def spAhead : Sp := fun vs H Q _ => ∃ (a b : Addr) (e g : Ent), vs = [.ref a, .ref b] ∧ H a = some (.tup e.vals) ∧ H b = some (.tup g.vals) ∧ ∀ H', Same H H' → Q (.bl (PySem.W.dataLt (ordD e) (ordD g))) H'
def spSame : Sp := fun vs H Q _ => ∃ a b : Bool, vs = [.bl a, .bl b] ∧ Q (.bl (decide (a = b))) H
def rankW (x : Str) : Int := 1 - (if decide (V.str x = V.str "swap") = true then 1 else 0) + (if inV (V.str x) [V.str "count", V.str "look"] = true then 1 else 0)
theorem rank_own (e : Ent) : rankW e.word = e.rank := by
  have h1 : rankW "come" = 1 := by decide +kernel
  have h2 : rankW "go" = 1 := by decide +kernel
  have h3 : rankW "move" = 1 := by decide +kernel
  have h4 : rankW "some" = 1 := by decide +kernel
  have h5 : rankW "swap" = 0 := by decide +kernel
  have h6 : rankW "count" = 2 := by decide +kernel
  have h7 : rankW "look" = 2 := by decide +kernel
  cases e
  · exact h1
  · exact h2
  · exact h3
  · exact h4
  · exact h5
  · exact h6
  · exact h7
section
variable {P : Program} {w : World} {K : PySem.W.Frag} {mg : Str → Option Value} {base : Heap}
theorem scOrd : FnScope ["entry"] ["entry"] (defScope sOrd) := ⟨rfl, rfl, rfl, by decide +kernel, rfl, by decide +kernel, by decide +kernel⟩
theorem scAhead : FnScope ["entry", "other"] ["entry", "other"] (defScope sAhead) := ⟨rfl, rfl, rfl, by decide +kernel, rfl, by decide +kernel, by decide +kernel⟩
theorem scSame : FnScope ["_law_found", "_law_due"] ["_law_found", "_law_due"] (defScope sSame) := ⟨rfl, rfl, rfl, by decide +kernel, rfl, by decide +kernel, by decide +kernel⟩
theorem scOwn : FnScope ["_law_entry_here", "_law_rank"] ["_law_entry_here"] (defScope sOwn) := ⟨rfl, rfl, rfl, by decide +kernel, rfl, by decide +kernel, by decide +kernel⟩
theorem at0 (e : Ent) : atI e.vals 0 = some (.str e.word) := atI_nat (j := 0) rfl
theorem at1 (e : Ent) : atI e.vals 1 = some (.str e.name) := atI_nat (j := 1) rfl
theorem at2 (e : Ent) : atI e.vals 2 = some (.int e.moment) := atI_nat (j := 2) rfl
theorem ok_ord {f aR : Addr} {fd : FuncData} (F : Fun K "order_of" "order_of" sOrd f fd) (mR : mg "RANKS" = some (.ref aR)) (hR : ∀ e : Ent, KDct K w aR e.word (.int e.rank)) : FnOk P w K mg base CX0 1 f fd ["entry"] spOrd := by
  refine F.ok scOrd (fun vs H Q E h => ?_) (fun cdv A outer s H vs Q E hr h => ?_)
  · obtain ⟨a, e, rfl, _⟩ := h
    rfl
  · obtain ⟨a, e, rfl, ha, q⟩ := h
    refine ⟨_, pss_one (ps_ret (pe_tup (pa_cons (pe_ix ix_tup (pv 0) pe_int (fun _ _ => rfl)) (pa_cons (pe_ix ix_kdict (pe_glob (v := .ref aR) rfl mR rfl) (pe_ix ix_tup (pv 0) pe_int (fun _ _ => rfl)) (fun _ _ => rfl)) (pa_cons (pe_ix ix_tup (pv 0) pe_int (fun _ _ => rfl)) pa_nil))))), ?_⟩
    refine ⟨_, rfl, a, _, 2, _, rfl, rfl, SqT.of ha, at2 e, _, rfl, a, _, 0, _, rfl, rfl, SqT.of ha, at0 e, aR, e.word, _, rfl, rfl, hR e, _, rfl, a, _, 1, _, rfl, rfl, SqT.of ha, at1 e, (by show 3 ≤ sizeLine; decide), fun tp ntp => ?_⟩
    exact q tp _ (same_new ntp) upd_same
theorem ok_ahead {f fO : Addr} {fd fdO : FuncData} (F : Fun K "goes_ahead" "goes_ahead" sAhead f fd) (O : DefT P w K mg base "order_of" 1 fO fdO ["entry"] spOrd) : FnOk P w K mg base CX0 2 f fd ["entry", "other"] spAhead := by
  refine F.ok scAhead (fun vs H Q E h => ?_) (fun cdv A outer s H vs Q E hr h => ?_)
  · obtain ⟨a, b, e, g, rfl, _⟩ := h
    rfl
  · obtain ⟨a, b, e, g, rfl, ha, hb, q⟩ := h
    refine ⟨_, pss_one (ps_ret (pe_cmpR (op_ltD hr.units) (pe_call O.ok hr (by rfl) O.g O.kp O.b .nil pass0 (pa_cons (pv 0) pa_nil)) (pe_call O.ok hr (by rfl) O.g O.kp O.b .nil pass0 (pa_cons (pv 1) pa_nil)) (nomark _))), ?_⟩
    refine ⟨_, rfl, a, e, rfl, ha, fun t1 H1 s1 h1 => ?_⟩
    refine ⟨_, rfl, b, g, rfl, s1 _ _ hb, fun t2 H2 s2 h2 => ?_⟩
    exact ⟨ordD e, ordD g, ord_dp (s2 _ _ h1), ord_dp h2, ord_alike e g, fun z => (by cases z), by show min 1 1 ≤ 60; decide, q H2 (s1.trans s2)⟩
theorem ok_same {f : Addr} {fd : FuncData} (F : Fun K "_law_same" "_law_same" sSame f fd) : FnOk P w K mg base CX0 1 f fd ["_law_found", "_law_due"] spSame := by
  refine F.ok scSame (fun vs H Q E h => ?_) (fun cdv A outer s H vs Q E hr h => ?_)
  · obtain ⟨a, b, rfl, _⟩ := h
    rfl
  · obtain ⟨a, b, rfl, q⟩ := h
    refine ⟨_, pss_cons (ps_if (pt_val (pv 1)) (pss_one (ps_ret (pe_cmpR op_isBl (pv 0) pe_bl (nomark _)))) pss_nil) (pss_one (ps_ret (pe_cmpR op_isBl (pv 0) pe_bl (nomark _)))), ?_⟩
    refine ⟨_, rfl, b, rfl, ?_⟩
    cases b with
    | true => exact iteT ⟨_, rfl, a, true, rfl, rfl, q⟩
    | false => exact iteF ⟨_, rfl, a, false, rfl, rfl, q⟩
theorem ok_own {f : Addr} {fd : FuncData} (F : Fun K "_law_order" "_law_order" sOwn f fd) (mi : mg "int" = none) : FnOk P w K mg base CX0 1 f fd ["_law_entry_here"] spOrd := by
  refine F.ok scOwn (fun vs H Q E h => ?_) (fun cdv A outer s H vs Q E hr h => ?_)
  · obtain ⟨a, e, rfl, _⟩ := h
    rfl
  · obtain ⟨a, e, rfl, ha, q⟩ := h
    refine ⟨_, pss_cons (ps_set (i := 1) scOwn.nd rfl (Or.inl rfl) (pe_op op_add (pe_op op_sub pe_int (pe_callTy call_int1 (by rfl) mi (by decide +kernel) (pa_cons (pe_cmpR op_eq (pe_ix ix_tup (pv 0) pe_int (fun _ _ => rfl)) pe_str (nomark _)) pa_nil)))
        (pe_callTy call_int1 (by rfl) mi (by decide +kernel) (pa_cons (pe_cmpR op_in_seq (pe_ix ix_tup (pv 0) pe_int (fun _ _ => rfl)) (pe_tup (pa_cons pe_str (pa_cons pe_str pa_nil))) (by rfl)) pa_nil))))
      (pss_one (ps_ret (pe_tup (pa_cons (pe_ix ix_tup (pv 0) pe_int (fun _ _ => rfl)) (pa_cons (pv 1) (pa_cons (pe_ix ix_tup (pv 0) pe_int (fun _ _ => rfl)) pa_nil)))))), ?_⟩
    refine ⟨_, rfl, a, _, 0, _, rfl, rfl, SqT.of ha, at0 e, rfl, .inr ⟨_, rfl, 1, _, rfl, rfl, _, rfl, a, _, 0, _, rfl, rfl, SqT.of ha, at0 e, (by show 2 ≤ sizeLine; decide), fun t nt => ?_⟩⟩
    have s1 := @same_new _ _ (.tup [V.str "count", .str "look"]) nt
    refine ⟨t, _, rfl, .inr (SqT.of upd_same), rfl, ?_, .inr ⟨_, rfl, _, _, rfl, rfl, ?_⟩⟩
    · rfl
    · refine ⟨_, rfl, a, _, 2, _, rfl, rfl, SqT.of (s1 _ _ ha), at2 e, _, rfl, _, rfl, a, _, 1, _, rfl, rfl, SqT.of (s1 _ _ ha), at1 e, (by show 3 ≤ sizeLine; decide), fun tp ntp => ?_⟩
      refine q tp _ (s1.trans (same_new ntp)) ?_
      rw [upd_same]
      exact congrArg (fun k => some (HO.tup [V.int e.moment, V.int k, V.str e.name])) (rank_own e)
abbrev lawN : List Str := ["_law_script", "_law_pen_here", "_law_places", "_law_goods", "_law_hands", "_law_names_here", "_law_moments_here", "_law_k", "_law_entries", "_law_turn", "_law_j", "_law_due"]
theorem scLaw : FnScope lawN ["_law_script"] (defScope sLaw) := ⟨rfl, rfl, rfl, by decide +kernel, rfl, by decide +kernel, by decide +kernel⟩
def spLaw (K : PySem.W.Frag) : Sp := fun vs H Q _ => ∃ (a : Addr) (ns : List Int), vs = [.ref a] ∧ SqL K H a (ns.map V.int) ∧ ∀ H', Q (.bl true) H'
/-- ten entries stand in the list at l -/
def Ents (H : Hp) (l : Addr) (m : Nat) : Prop := ∃ tps : List Addr, H l = some (.lst (tps.map V.ref)) ∧ tps.length = m ∧ ∀ tp ∈ tps, ∃ e : Ent, H tp = some (.tup e.vals)
theorem Ents.same {H H' : Hp} {l : Addr} {m : Nat} (h : Ents H l m) (s : Same H H') : Ents H' l m := by
  obtain ⟨tps, h1, h2, h3⟩ := h
  exact ⟨tps, s _ _ h1, h2, fun tp ht => let ⟨e, he⟩ := h3 tp ht; ⟨e, s _ _ he⟩⟩
theorem Ents.at {H : Hp} {l : Addr} {m : Nat} (h : Ents H l m) {i : Int} (h0 : 0 ≤ i) (h1 : i < m) : ∃ xs tp e, H l = some (.lst xs) ∧ atI xs i = some (.ref tp) ∧ H tp = some (.tup (Ent.vals e)) := by
  obtain ⟨tps, g1, g2, g3⟩ := h
  have h : i.toNat < tps.length := by omega
  have ei : ((i.toNat : Nat) : Int) = i := by omega
  have q := atI_nat (xs := tps.map V.ref) (j := i.toNat) (v := .ref tps[i.toNat]) (by rw [List.getElem?_map, List.getElem?_eq_getElem h]; rfl)
  rw [ei] at q
  obtain ⟨e, he⟩ := g3 _ (List.getElem_mem h)
  exact ⟨_, _, e, g1, q, he⟩
set_option maxHeartbeats 4000000 in
theorem ok_law {f : Addr} {fd : FuncData} (F : Fun K "law" "law" sLaw f fd)
    {fP fT fW fM fE fS fA fO : Addr} {dP dT dW dM dE dS dA dO : FuncData}
    (GP : DefT P w K mg base "_law_pen" 1 fP dP ["_law_script"] (spPen K)) (T : TakeT P w K mg base fT dT)
    (W : DefT P w K mg base "_law_words" 3 fW dW ["_law_pen_here", "_law_places", "_law_goods", "_law_entries"] spWords)
    (M : DefT P w K mg base "_law_moments" 2 fM dM ["_law_pen_here", "_law_many_here"] spMoments)
    (EN : DefT P w K mg base "_law_entry" 4 fE dE ["_law_pen_here", "_law_name", "_law_moment", "_law_places", "_law_goods", "_law_hands"] spEntry)
    (SA : DefT P w K mg base "_law_same" 1 fS dS ["_law_found", "_law_due"] spSame)
    (AH : DefT P w K mg base "goes_ahead" 2 fA dA ["entry", "other"] spAhead)
    (O : DefT P w K mg base "_law_order" 1 fO dO ["_law_entry_here"] spOrd) (mr : mg "range" = none) : FnOk P w K mg base CX0 5 f fd ["_law_script"] (spLaw K) := by
  refine F.ok scLaw (fun vs H Q E h => ?_) (fun cdv A outer s H vs Q E hr h => ?_)
  · obtain ⟨a, ns, rfl, _⟩ := h
    rfl
  · obtain ⟨a, ns, rfl, hS, q⟩ := h
    have nd := scLaw.nd
    have hr1 : Room 1 _ := hr.mono (by decide)
    have hr2 : Room 2 _ := hr.mono (by decide)
    have hr3 : Room 3 _ := hr.mono (by decide)
    refine ⟨_, pss_cons (ps_set (i := 1) nd rfl (Or.inr rfl) (pe_call GP.ok hr1 (by rfl) GP.g GP.kp GP.b .nil pass0 (pa_cons (pv 0) pa_nil)))
      (pss_cons (ps_asg (pe_call W.ok hr3 (by rfl) W.g W.kp W.b .nil pass0 (pa_cons (pv 1) (pa_cons (pe_op op_add pe_int (pe_call T.ok hr1 (by rfl) T.g T.kp T.b .nil pass0 (pa_cons (pv 1) (pa_cons pe_int pa_nil)))) (pa_cons (pe_op op_add pe_int (pe_call T.ok hr1 (by rfl) T.g T.kp T.b .nil pass0 (pa_cons (pv 1) (pa_cons pe_int pa_nil)))) (pa_cons pe_int pa_nil)))))
        (pg_tup (by rfl) (pgs_cons (pg_name (i := 2) nd rfl (Or.inr rfl)) (pgs_cons (pg_name (i := 3) nd rfl (Or.inr rfl)) (pgs_cons (pg_name (i := 4) nd rfl (Or.inr rfl)) (pgs_cons (pg_name (i := 5) nd rfl (Or.inr rfl)) pgs_nil))))))
      (pss_cons (ps_set (i := 6) nd rfl (Or.inr rfl) (pe_call M.ok hr2 (by rfl) M.g M.kp M.b .nil pass0 (pa_cons (pv 1) (pa_cons pe_int pa_nil))))
      (pss_cons (ps_setLc (i := 8) (own := [("_law_k", 7)]) (g := gName 7) (tt := tYes)
          (te := tCall spEntry [] E0 (tCons (tVar 1) (tCons (tOp (rIxL K) (tVar 5) (tVar 7)) (tCons (tOp (rIxL K) (tVar 6) (tVar 7)) (tCons (tVar 2) (tCons (tVar 3) (tCons (tVar 4) tNil))))))) rfl nd rfl rfl (sw_true rfl rfl rfl (by decide +kernel))
          (pi_range1 rfl mr (pa_cons pe_int pa_nil)) (blkOk_by (N := lawN) (sc := defScope sLaw) (by decide +kernel))
          (fun _ _ _ _ _ => pg_name (i := 7) nd rfl (Or.inl rfl)) (fun _ _ _ _ _ => pts_nil)
          (fun _ _ _ _ _ => pe_call EN.ok hr (by rfl) EN.g EN.kp EN.b .nil pass0 (pa_cons (pv 1) (pa_cons (pe_ix ix_list (pv 5) (pv 7) (fun _ _ => rfl)) (pa_cons (pe_ix ix_list (pv 6) (pv 7) (fun _ _ => rfl)) (pa_cons (pv 2) (pa_cons (pv 3) (pa_cons (pv 4) pa_nil))))))))
      (pss_cons (ps_for PassesOwn.never rfl (pi_range1 rfl mr (pa_cons pe_int pa_nil)) (pg_name (i := 9) nd rfl (Or.inl rfl))
        (pss_cons (ps_for PassesOwn.never rfl (pi_range1 rfl mr (pa_cons pe_int pa_nil)) (pg_name (i := 7) nd rfl (Or.inl rfl))
          (pss_one (ps_for PassesOwn.never rfl (pi_range1 rfl mr (pa_cons pe_int pa_nil)) (pg_name (i := 10) nd rfl (Or.inl rfl))
            (pss_cons (ps_set (i := 11) nd rfl (Or.inl rfl) (pe_cmpR (op_ltD hr.units) (pe_call O.ok hr1 (by rfl) O.g O.kp O.b .nil pass0 (pa_cons (pe_ix ix_list (pv 8) (pv 7) (fun _ _ => rfl)) pa_nil)) (pe_call O.ok hr1 (by rfl) O.g O.kp O.b .nil pass0 (pa_cons (pe_ix ix_list (pv 8) (pv 10) (fun _ _ => rfl)) pa_nil)) (nomark _)))
            (pss_one (ps_if (PW.pt (pw_and (pt_cmpR op_ne (pv 7) (pv 10) (nomark _)) (pw_and1 (pt_not (pt_val (pe_call SA.ok hr1 (by rfl) SA.g SA.kp SA.b .nil pass0 (pa_cons (pe_call AH.ok hr2 (by rfl) AH.g AH.kp AH.b .nil pass0 (pa_cons (pe_ix ix_list (pv 8) (pv 7) (fun _ _ => rfl)) (pa_cons (pe_ix ix_list (pv 8) (pv 10) (fun _ _ => rfl)) pa_nil))) (pa_cons (pv 11) pa_nil))))))))
              (pss_one (ps_ret pe_bl)) pss_nil))))))
        (pss_one (ps_set (i := 8) nd rfl (Or.inl rfl) (pe_revL (pv 8))))))
      (pss_one (ps_ret pe_bl)))))), ?_⟩
    refine ⟨_, rfl, a, ns, rfl, hS, fun p c H1 np nc pen1 s1 => ?_⟩
    refine ⟨_, rfl, _, rfl, p, c, 0, 6, rfl, pen1, by omega, by decide, by decide, fun r1 H2 b1 d1 pen2 bt2 => ?_⟩
    refine ⟨1, r1, rfl, rfl, _, rfl, p, c, 1, 3, rfl, pen2, by omega, by decide, by decide, fun r2 H3 b2 d2 pen3 bt3 => ?_⟩
    refine ⟨1, r2, rfl, rfl, p, c, 2, (1 + r1).toNat, (1 + r2).toNat, 10, ?_, pen3, by omega, by omega, by omega, by decide, fun tp l1 l2 l3 l4 PL GL HL EL H4 ntp ht h1 h2 h3 h4 n1 n2 n3 n4 pen4 bt4 => ?_⟩
    · rw [Int.toNat_of_nonneg (by omega), Int.toNat_of_nonneg (by omega)]
      rfl
    refine ⟨tp, _, rfl, SqT.of ht, rfl, _, _, rfl, _, _, rfl, _, _, rfl, _, _, rfl, rfl, ?_⟩
    refine ⟨_, rfl, p, c, 52, 10, rfl, pen4, by omega, by decide, fun l5 ms H5 nl5 h5 lm bm pen5 bt5 => ?_⟩
    have k1 := pen_strs pen4 bt5 h1
    have k2 := pen_strs pen4 bt5 h2
    have k3 := pen_strs pen4 bt5 h3
    have k4 := pen_strs pen4 bt5 h4
    have z1 : PL.length = (1 + r1).toNat := n1.len
    have z2 : GL.length = (1 + r2).toNat := n2.len
    have z3 : HL.length = 3 := n3.len
    have z4 : EL.length = 10 := n4.len
    refine ⟨10, rfl, by decide, by decide, fun D nD => ?_⟩
    have nDp : D ≠ p := fun z => pen5.there (z ▸ nD)
    have nDc : D ≠ c := fun z => pen5.cells (z ▸ nD)
    have d1' : l1 ≠ D := ne_of_none k1 nD
    have d2' : l2 ≠ D := ne_of_none k2 nD
    have d3' : l3 ≠ D := ne_of_none k3 nD
    have d4' : l4 ≠ D := ne_of_none k4 nD
    have d5' : l5 ≠ D := ne_of_none h5 nD
    have sD := @same_new _ _ (.lst []) nD
    have np5 : ∀ {H' : Hp} {n : Nat} {l : Addr} {xs : List V}, PenAt H' p c n → H' l = some (.lst xs) → l ≠ p := fun pen h => by
      obtain ⟨kvs, ns', a', x', g1, _⟩ := pen.ex
      exact ne_of h g1 (by intro z; cases z)
    refine lc_range (lo := 0) (n := 10) (fun j H' => PenAt H' p c (152 + 30 * j) ∧ StrsAt H' l1 PL ∧ StrsAt H' l2 GL ∧ StrsAt H' l3 HL ∧ StrsAt H' l4 EL ∧ H' l5 = some (.lst (ms.map V.int)) ∧ Ents H' D j)
      ⟨pen5.same sD, sD _ _ k1, sD _ _ k2, sD _ _ k3, sD _ _ k4, sD _ _ h5, [], upd_same, rfl, fun y hy => nomatch hy⟩ ?_ ?_
    · rintro j H6 hj ⟨pen6, g1, g2, g3, g4, g5, tps, gD, gl, gE⟩
      refine ⟨rfl, yesT ?_⟩
      obtain ⟨nme, hn1, _, _⟩ := at_strs (ys := EL) (r := 0 + (j : Int)) (by omega) (by omega)
      obtain ⟨mo, hm1, _⟩ := at_ints (ns := ms) (r := 0 + (j : Int)) (by omega) (by omega)
      refine ⟨_, rfl, _, rfl, _, rfl, l4, _, _, _, rfl, rfl, SqL.of g4, hn1, _, rfl, _, rfl, l5, _, _, _, rfl, rfl, SqL.of g5, hm1, _, rfl, _, rfl, _, rfl, p, c, _, nme, mo, l1, l2, l3, PL, GL, HL, rfl, pen6, by omega, g1, g2, g3,
        (fun z => by subst z; simp at z1; omega), (fun z => by subst z; simp at z2; omega), (fun z => by subst z; simp at z3), by omega, by omega, by omega, fun te e H7 nte hte _ _ _ pen7 bt7 => ?_⟩
      have gD7 := bt7 D _ gD nDp
      have nte7 : te ≠ D := fun z => by
        rw [z, gD] at nte
        cases nte
      have ne6 : ∀ x ∈ tps, x ≠ D := fun x hx z => by
        obtain ⟨e', he'⟩ := gE x hx
        rw [z, gD] at he'
        cases he'
      refine ⟨_, gD7, (by rw [List.length_map]; exact small1000 (by omega)), (pen7.mono (by omega)).upd nDp nDc, (upd_ne d1').trans (bt7 _ _ g1 (np5 pen6 g1)), (upd_ne d2').trans (bt7 _ _ g2 (np5 pen6 g2)), (upd_ne d3').trans (bt7 _ _ g3 (np5 pen6 g3)), (upd_ne d4').trans (bt7 _ _ g4 (np5 pen6 g4)), (upd_ne d5').trans (bt7 _ _ g5 (np5 pen6 g5)), tps ++ [te], ?_, by simp [gl], ?_⟩
      · rw [upd_same, List.map_append]
        rfl
      · intro x hx
        rcases List.mem_append.mp hx with h | h
        · obtain ⟨e', he'⟩ := gE x h
          have nxp : x ≠ p := by
            obtain ⟨kvs, ns', a', x', gg, _⟩ := pen6.ex
            exact ne_of he' gg (by intro z; cases z)
          exact ⟨e', (upd_ne (ne6 x h)).trans (bt7 x _ he' nxp)⟩
        · rw [List.mem_singleton.mp h]
          exact ⟨e, (upd_ne nte7).trans hte⟩
    · rintro H6 ⟨pen6, g1, g2, g3, g4, g5, EE⟩
      refine ⟨2, rfl, by decide, by decide, for_range (lo := 0) (n := 2) (fun i σ H' => ∃ y7 y9 y10 y11 D', σ = [some (.ref a), some (.ref p), some (.ref l1), some (.ref l2), some (.ref l3), some (.ref l4), some (.ref l5), y7, some (.ref D'), y9, y10, y11] ∧ Ents H' D' 10) ⟨_, _, _, _, D, rfl, EE⟩ ?_ ?_⟩
      · rintro i σ H7 hi ⟨y7, y9, y10, y11, D', rfl, E7⟩
        refine ⟨10, rfl, by decide, by decide, for_range (lo := 0) (n := 10) (fun k σ H' => ∃ y7 y10 y11, σ = [some (.ref a), some (.ref p), some (.ref l1), some (.ref l2), some (.ref l3), some (.ref l4), some (.ref l5), y7, some (.ref D'), some (.int (0 + (i : Int))), y10, y11] ∧ Ents H' D' 10) ⟨_, _, _, rfl, E7⟩ ?_ ?_⟩
        · rintro k σ H8 hk ⟨z7, z10, z11, rfl, E8⟩
          refine ⟨10, rfl, by decide, by decide, for_range (lo := 0) (n := 10) (fun j σ H' => ∃ y10 y11, σ = [some (.ref a), some (.ref p), some (.ref l1), some (.ref l2), some (.ref l3), some (.ref l4), some (.ref l5), some (.int (0 + (k : Int))), some (.ref D'), some (.int (0 + (i : Int))), y10, y11] ∧ Ents H' D' 10) ⟨_, _, rfl, E8⟩ ?_ ?_⟩
          · rintro j σ H9 hj ⟨x10, x11, rfl, E9⟩
            obtain ⟨xs, t1, e1, g1, g2, g3⟩ := E9.at (i := 0 + (k : Int)) (by omega) (by omega)
            refine ⟨_, rfl, _, rfl, D', _, _, _, rfl, rfl, SqL.of g1, g2, t1, e1, rfl, g3, fun u1 H10 s10 o1 => ?_⟩
            obtain ⟨xs', t2, e2, f1, f2, f3⟩ := (E9.same s10).at (i := 0 + (j : Int)) (by omega) (by omega)
            refine ⟨_, rfl, _, rfl, D', _, _, _, rfl, rfl, SqL.of f1, f2, t2, e2, rfl, f3, fun u2 H11 s11 o2 => ?_⟩
            refine ⟨ordD e1, ordD e2, ord_dp (s11 _ _ o1), ord_dp o2, ord_alike e1 e2, fun z => (by cases z), (by show min 1 1 ≤ 60; decide), ?_⟩
            have E11 := (E9.same s10).same s11
            refine ⟨_, rfl, _, rfl, rfl, _, rfl, ite2 (fun _ => ?_) (fun _ => iteF ⟨_, _, rfl, E11⟩)⟩
            refine ⟨_, rfl, _, rfl, D', _, _, _, rfl, rfl, SqL.of (s11 _ _ (s10 _ _ g1)), g2, _, rfl, _, rfl, D', _, _, _, rfl, rfl, SqL.of (s11 _ _ f1), f2, t1, t2, e1, e2, rfl, s11 _ _ (s10 _ _ g3), s11 _ _ f3, fun H12 s12 => ?_⟩
            refine ⟨_, rfl, _, _, rfl, true, congrArg V.bl (decide_eq_true rfl), iteF ⟨_, _, rfl, E11.same s12⟩⟩
          · rintro σ H9 ⟨x10, x11, rfl, E9⟩
            exact ⟨_, _, _, rfl, E9⟩
        · rintro σ H8 ⟨z7, z10, z11, rfl, E8⟩
          obtain ⟨tps, q1, q2, q3⟩ := id E8
          refine ⟨_, rfl, D', _, rfl, SqL.of q1, fun R nR => ?_⟩
          have sR := @same_new _ _ (.lst (tps.map V.ref).reverse) nR
          refine ⟨_, _, _, _, R, rfl, tps.reverse, ?_, by simp [q2], fun tp ht => ?_⟩
          · rw [upd_same, List.map_reverse]
          · obtain ⟨e, he⟩ := q3 tp (List.mem_reverse.mp ht)
            exact ⟨e, sR _ _ he⟩
      · rintro σ H7 ⟨y7, y9, y10, y11, D', rfl, E7⟩
        exact q H7
end
theorem all_mk {l : PySem.W.OpenLaw} {w : World} {K : PySem.W.Frag} {h : Heap} {mg : Str → Option Value} {fa adR f1 f2 f3 f4 f5 f6 f7 f8 f9 f10 f11 f12 f13 : Addr} (X : K.In h) (G : h.Ns mainGlobals mg) (hfa : mg "law" = some (.ref fa))
    {od1 an1 od2 an2 od3 an3 od4 an4 od5 an5 od6 an6 od7 an7 od8 an8 od9 an9 od10 an10 od11 an11 od12 an12 od13 an13 : Option Addr} {sl1 sl2 sl3 sl4 sl5 sl6 sl7 sl8 sl9 sl10 sl11 sl12 sl13 : Array (Option Value)}
    {oc1 kV1 dc1 pm1 cd1 ct1 oc2 kV2 dc2 pm2 cd2 ct2 oc3 kV3 dc3 pm3 cd3 ct3 oc4 kV4 dc4 pm4 cd4 ct4 oc5 kV5 dc5 pm5 cd5 ct5 oc6 kV6 dc6 pm6 cd6 ct6 oc7 kV7 dc7 pm7 cd7 ct7 oc8 kV8 dc8 pm8 cd8 ct8 oc9 kV9 dc9 pm9 cd9 ct9 oc10 kV10 dc10 pm10 cd10 ct10 oc11 kV11 dc11 pm11 cd11 ct11 oc12 kV12 dc12 pm12 cd12 ct12 oc13 kV13 dc13 pm13 cd13 ct13 : Value} {esR : Array DictEntry} {nR : Nat} {t1 t2 t3 t4 t5 t6 t7 : Tok}
    (a1 : PySem.W.nsIn K mainGlobals "_law_pen" = some (some (.ref f1))) (l1 : K.lookup f1 = some ⟨oc1, od1, .func (PySem.W.fnOf "_law_pen" "_law_pen" (defArgs sPen) (defBody sPen) (defScope sPen) .none kV1 dc1 pm1 an1 cd1 ct1), sl1⟩) (c1 : PySem.W.codeIn K cd1 "_law_pen" = true) (k1 : PySem.W.keepIn K (.ref f1) = true)
    (a2 : PySem.W.nsIn K mainGlobals "_law_take" = some (some (.ref f2))) (l2 : K.lookup f2 = some ⟨oc2, od2, .func (PySem.W.fnOf "_law_take" "_law_take" (defArgs sTake) (defBody sTake) (defScope sTake) .none kV2 dc2 pm2 an2 cd2 ct2), sl2⟩) (c2 : PySem.W.codeIn K cd2 "_law_take" = true) (k2 : PySem.W.keepIn K (.ref f2) = true)
    (a3 : PySem.W.nsIn K mainGlobals "_law_same" = some (some (.ref f3))) (l3 : K.lookup f3 = some ⟨oc3, od3, .func (PySem.W.fnOf "_law_same" "_law_same" (defArgs sSame) (defBody sSame) (defScope sSame) .none kV3 dc3 pm3 an3 cd3 ct3), sl3⟩) (c3 : PySem.W.codeIn K cd3 "_law_same" = true) (k3 : PySem.W.keepIn K (.ref f3) = true)
    (a4 : PySem.W.nsIn K mainGlobals "_law_names" = some (some (.ref f4))) (l4 : K.lookup f4 = some ⟨oc4, od4, .func (PySem.W.fnOf "_law_names" "_law_names" (defArgs sNames) (defBody sNames) (defScope sNames) .none kV4 dc4 pm4 an4 cd4 ct4), sl4⟩) (c4 : PySem.W.codeIn K cd4 "_law_names" = true) (k4 : PySem.W.keepIn K (.ref f4) = true)
    (a5 : PySem.W.nsIn K mainGlobals "_law_words" = some (some (.ref f5))) (l5 : K.lookup f5 = some ⟨oc5, od5, .func (PySem.W.fnOf "_law_words" "_law_words" (defArgs sWords) (defBody sWords) (defScope sWords) .none kV5 dc5 pm5 an5 cd5 ct5), sl5⟩) (c5 : PySem.W.codeIn K cd5 "_law_words" = true) (k5 : PySem.W.keepIn K (.ref f5) = true)
    (a6 : PySem.W.nsIn K mainGlobals "_law_moments" = some (some (.ref f6))) (l6 : K.lookup f6 = some ⟨oc6, od6, .func (PySem.W.fnOf "_law_moments" "_law_moments" (defArgs sMoments) (defBody sMoments) (defScope sMoments) .none kV6 dc6 pm6 an6 cd6 ct6), sl6⟩) (c6 : PySem.W.codeIn K cd6 "_law_moments" = true) (k6 : PySem.W.keepIn K (.ref f6) = true)
    (a7 : PySem.W.nsIn K mainGlobals "_law_many" = some (some (.ref f7))) (l7 : K.lookup f7 = some ⟨oc7, od7, .func (PySem.W.fnOf "_law_many" "_law_many" (defArgs sMany) (defBody sMany) (defScope sMany) .none kV7 dc7 pm7 an7 cd7 ct7), sl7⟩) (c7 : PySem.W.codeIn K cd7 "_law_many" = true) (k7 : PySem.W.keepIn K (.ref f7) = true)
    (a8 : PySem.W.nsIn K mainGlobals "_law_entry_of" = some (some (.ref f8))) (l8 : K.lookup f8 = some ⟨oc8, od8, .func (PySem.W.fnOf "_law_entry_of" "_law_entry_of" (defArgs sEntryOf) (defBody sEntryOf) (defScope sEntryOf) .none kV8 dc8 pm8 an8 cd8 ct8), sl8⟩) (c8 : PySem.W.codeIn K cd8 "_law_entry_of" = true) (k8 : PySem.W.keepIn K (.ref f8) = true)
    (a9 : PySem.W.nsIn K mainGlobals "_law_entry" = some (some (.ref f9))) (l9 : K.lookup f9 = some ⟨oc9, od9, .func (PySem.W.fnOf "_law_entry" "_law_entry" (defArgs sEntry) (defBody sEntry) (defScope sEntry) .none kV9 dc9 pm9 an9 cd9 ct9), sl9⟩) (c9 : PySem.W.codeIn K cd9 "_law_entry" = true) (k9 : PySem.W.keepIn K (.ref f9) = true)
    (a10 : PySem.W.nsIn K mainGlobals "_law_order" = some (some (.ref f10))) (l10 : K.lookup f10 = some ⟨oc10, od10, .func (PySem.W.fnOf "_law_order" "_law_order" (defArgs sOwn) (defBody sOwn) (defScope sOwn) .none kV10 dc10 pm10 an10 cd10 ct10), sl10⟩) (c10 : PySem.W.codeIn K cd10 "_law_order" = true) (k10 : PySem.W.keepIn K (.ref f10) = true)
    (a11 : PySem.W.nsIn K mainGlobals "order_of" = some (some (.ref f11))) (l11 : K.lookup f11 = some ⟨oc11, od11, .func (PySem.W.fnOf "order_of" "order_of" (defArgs sOrd) (defBody sOrd) (defScope sOrd) .none kV11 dc11 pm11 an11 cd11 ct11), sl11⟩) (c11 : PySem.W.codeIn K cd11 "order_of" = true) (k11 : PySem.W.keepIn K (.ref f11) = true)
    (a12 : PySem.W.nsIn K mainGlobals "goes_ahead" = some (some (.ref f12))) (l12 : K.lookup f12 = some ⟨oc12, od12, .func (PySem.W.fnOf "goes_ahead" "goes_ahead" (defArgs sAhead) (defBody sAhead) (defScope sAhead) .none kV12 dc12 pm12 an12 cd12 ct12), sl12⟩) (c12 : PySem.W.codeIn K cd12 "goes_ahead" = true) (k12 : PySem.W.keepIn K (.ref f12) = true)
    (a13 : PySem.W.nsIn K mainGlobals "law" = some (some (.ref f13))) (l13 : K.lookup f13 = some ⟨oc13, od13, .func (PySem.W.fnOf "law" "law" (defArgs sLaw) (defBody sLaw) (defScope sLaw) .none kV13 dc13 pm13 an13 cd13 ct13), sl13⟩) (c13 : PySem.W.codeIn K cd13 "law" = true) (k13 : PySem.W.keepIn K (.ref f13) = true)
    (aR : PySem.W.nsIn K mainGlobals "RANKS" = some (some (.ref adR))) (lR : K.lookup adR = some ⟨.type "dict", none, .dict esR nR, #[]⟩) (litR : PySem.W.KeysLit w.params esR.toList)
    (r1 : PySem.W.nsIn K adR "come" = some (some (.int 1 t1)))
    (r2 : PySem.W.nsIn K adR "go" = some (some (.int 1 t2)))
    (r3 : PySem.W.nsIn K adR "move" = some (some (.int 1 t3)))
    (r4 : PySem.W.nsIn K adR "some" = some (some (.int 1 t4)))
    (r5 : PySem.W.nsIn K adR "swap" = some (some (.int 0 t5)))
    (r6 : PySem.W.nsIn K adR "count" = some (some (.int 2 t6)))
    (r7 : PySem.W.nsIn K adR "look" = some (some (.int 2 t7)))
    (z1 : PySem.W.nsIn K mainGlobals "len" = some none) (z2 : PySem.W.nsIn K mainGlobals "abs" = some none) (z3 : PySem.W.nsIn K mainGlobals "list" = some none) (z4 : PySem.W.nsIn K mainGlobals "range" = some none) (z5 : PySem.W.nsIn K mainGlobals "int" = some none) :
    ∃ fd : FuncData, (∀ (s : Shared) (v : Value), BindsTo s fd ⟨[v], []⟩ [("_law_script", v)]) ∧ ∀ base : Heap, K.In base → base.Ns mainGlobals mg → FnOk l.prog w K mg base CX0 5 fa fd ["_law_script"] (spLaw K) := by
  have e := hfa.symm.trans (PySem.W.mg_of X G a13)
  cases e
  have n1 := PySem.W.mg_none_of X G z1
  have n2 := PySem.W.mg_none_of X G z2
  have n3 := PySem.W.mg_none_of X G z3
  have n4 := PySem.W.mg_none_of X G z4
  have n5 := PySem.W.mg_none_of X G z5
  have F1 := fun_mk (st := sPen) l1 c1 k1
  have b1 := F1.binds (ps := ["_law_script"]) fun _ _ _ _ _ _ us hl => match us, hl with | [_], _ => rfl
  have g1 := PySem.W.mg_of X G a1
  have F2 := fun_mk (st := sTake) l2 c2 k2
  have b2 := F2.binds (ps := ["_law_pen_here", "_law_many_here"]) fun _ _ _ _ _ _ us hl => match us, hl with | [_, _], _ => rfl
  have g2 := PySem.W.mg_of X G a2
  have F3 := fun_mk (st := sSame) l3 c3 k3
  have b3 := F3.binds (ps := ["_law_found", "_law_due"]) fun _ _ _ _ _ _ us hl => match us, hl with | [_, _], _ => rfl
  have g3 := PySem.W.mg_of X G a3
  have F4 := fun_mk (st := sNames) l4 c4 k4
  have b4 := F4.binds (ps := ["_law_pen_here", "_law_many_here"]) fun _ _ _ _ _ _ us hl => match us, hl with | [_, _], _ => rfl
  have g4 := PySem.W.mg_of X G a4
  have F5 := fun_mk (st := sWords) l5 c5 k5
  have b5 := F5.binds (ps := ["_law_pen_here", "_law_places", "_law_goods", "_law_entries"]) fun _ _ _ _ _ _ us hl => match us, hl with | [_, _, _, _], _ => rfl
  have g5 := PySem.W.mg_of X G a5
  have F6 := fun_mk (st := sMoments) l6 c6 k6
  have b6 := F6.binds (ps := ["_law_pen_here", "_law_many_here"]) fun _ _ _ _ _ _ us hl => match us, hl with | [_, _], _ => rfl
  have g6 := PySem.W.mg_of X G a6
  have F7 := fun_mk (st := sMany) l7 c7 k7
  have b7 := F7.binds (ps := ["_law_pen_here"]) fun _ _ _ _ _ _ us hl => match us, hl with | [_], _ => rfl
  have g7 := PySem.W.mg_of X G a7
  have F8 := fun_mk (st := sEntryOf) l8 c8 k8
  have b8 := F8.binds (ps := ["_law_pen_here", "_law_word", "_law_name", "_law_moment", "_law_places", "_law_goods", "_law_hands"]) fun _ _ _ _ _ _ us hl => match us, hl with | [_, _, _, _, _, _, _], _ => rfl
  have g8 := PySem.W.mg_of X G a8
  have F9 := fun_mk (st := sEntry) l9 c9 k9
  have b9 := F9.binds (ps := ["_law_pen_here", "_law_name", "_law_moment", "_law_places", "_law_goods", "_law_hands"]) fun _ _ _ _ _ _ us hl => match us, hl with | [_, _, _, _, _, _], _ => rfl
  have g9 := PySem.W.mg_of X G a9
  have F10 := fun_mk (st := sOwn) l10 c10 k10
  have b10 := F10.binds (ps := ["_law_entry_here"]) fun _ _ _ _ _ _ us hl => match us, hl with | [_], _ => rfl
  have g10 := PySem.W.mg_of X G a10
  have F11 := fun_mk (st := sOrd) l11 c11 k11
  have b11 := F11.binds (ps := ["entry"]) fun _ _ _ _ _ _ us hl => match us, hl with | [_], _ => rfl
  have g11 := PySem.W.mg_of X G a11
  have F12 := fun_mk (st := sAhead) l12 c12 k12
  have b12 := F12.binds (ps := ["entry", "other"]) fun _ _ _ _ _ _ us hl => match us, hl with | [_, _], _ => rfl
  have g12 := PySem.W.mg_of X G a12
  have F13 := fun_mk (st := sLaw) l13 c13 k13
  have b13 := F13.binds (ps := ["_law_script"]) fun _ _ _ _ _ _ us hl => match us, hl with | [_], _ => rfl
  have g13 := PySem.W.mg_of X G a13
  have hR : ∀ e : Ent, KDct K w adR e.word (.int e.rank) := fun e => by
    cases e
    · exact ⟨esR, nR, _, lR, litR, r1, ⟨_, rfl⟩⟩
    · exact ⟨esR, nR, _, lR, litR, r2, ⟨_, rfl⟩⟩
    · exact ⟨esR, nR, _, lR, litR, r3, ⟨_, rfl⟩⟩
    · exact ⟨esR, nR, _, lR, litR, r4, ⟨_, rfl⟩⟩
    · exact ⟨esR, nR, _, lR, litR, r5, ⟨_, rfl⟩⟩
    · exact ⟨esR, nR, _, lR, litR, r6, ⟨_, rfl⟩⟩
    · exact ⟨esR, nR, _, lR, litR, r7, ⟨_, rfl⟩⟩
  refine ⟨PySem.W.fnOf "law" "law" (defArgs sLaw) (defBody sLaw) (defScope sLaw) .none kV13 dc13 pm13 an13 cd13 ct13, fun s v => .of_eq rfl, fun base _ _ => ?_⟩
  have TT : TakeT l.prog w K mg base f2 _ := ⟨ok_take F2 n1 n2, g2, k2, b2⟩
  have N : DefT l.prog w K mg base "_law_names" 2 f4 _ _ spNames := ⟨ok_names F4 TT n1 n4, g4, k4, b4⟩
  have MY : DefT l.prog w K mg base "_law_many" 2 f7 _ _ spMany := ⟨ok_many F7 TT, g7, k7, b7⟩
  have EO : DefT l.prog w K mg base "_law_entry_of" 3 f8 _ _ spEntryOf := ⟨ok_entryOf F8 TT MY n1, g8, k8, b8⟩
  have OR : DefT l.prog w K mg base "order_of" 1 f11 _ _ spOrd := ⟨ok_ord F11 (PySem.W.mg_of X G aR) hR, g11, k11, b11⟩
  exact ok_law F13 ⟨ok_pen F1 n3, g1, k1, b1⟩ TT ⟨ok_words F5 TT N, g5, k5, b5⟩ ⟨ok_moments F6 TT n1 n4 n5, g6, k6, b6⟩ ⟨ok_entry F9 TT EO, g9, k9, b9⟩ ⟨ok_same F3, g3, k3, b3⟩ ⟨ok_ahead F12 OR, g12, k12, b12⟩ ⟨ok_own F10 n5, g10, k10, b10⟩ n4
end Shelf
open PySem PySem.W PyProof.Rows
set_option maxHeartbeats 0 in
theorem PySem.Challenge.cw_shelfcounts_k06_entries_in_order_holds : PySem.Challenge.rw_shelfcounts_k06_entries_in_order.Holds := by
  w_on; o_law; k_head; (case hw => w_witness2)
  k_fill
  refine L2.walk_of (l := PySem.Challenge.rw_shelfcounts_k06_entries_in_order) (n := 63) (k := 5) (x := "_law_script") (CX := fun _ => L2.CX0) (sp := fun w => Shelf.spLaw _) rfl (by decide) rfl ⟨rfl, by decide, by decide⟩ (fun w h Y => PySem.W.kIn_of Y) ?F (fun _ _ a ns hl _ hS => ⟨a, ns, rfl, hS, fun _ => rfl⟩) (fun _ _ _ _ _ h => h)
  case F =>
    intro w mg fa h KX G hmg
    refine' Shelf.all_mk KX G hmg ?a1 ?l1 ?c1 ?k1 ?a2 ?l2 ?c2 ?k2 ?a3 ?l3 ?c3 ?k3 ?a4 ?l4 ?c4 ?k4 ?a5 ?l5 ?c5 ?k5 ?a6 ?l6 ?c6 ?k6 ?a7 ?l7 ?c7 ?k7 ?a8 ?l8 ?c8 ?k8 ?a9 ?l9 ?c9 ?k9 ?a10 ?l10 ?c10 ?k10 ?a11 ?l11 ?c11 ?k11 ?a12 ?l12 ?c12 ?k12 ?a13 ?l13 ?c13 ?k13 ?aR ?lR ?litR ?r1 ?r2 ?r3 ?r4 ?r5 ?r6 ?r7 ?z1 ?z2 ?z3 ?z4 ?z5
    (case a1 => k_is)
    (case l1 => k_is)
    (case c1 => k_is)
    (case k1 => k_is)
    (case a2 => k_is)
    (case l2 => k_is)
    (case c2 => k_is)
    (case k2 => k_is)
    (case a3 => k_is)
    (case l3 => k_is)
    (case c3 => k_is)
    (case k3 => k_is)
    (case a4 => k_is)
    (case l4 => k_is)
    (case c4 => k_is)
    (case k4 => k_is)
    (case a5 => k_is)
    (case l5 => k_is)
    (case c5 => k_is)
    (case k5 => k_is)
    (case a6 => k_is)
    (case l6 => k_is)
    (case c6 => k_is)
    (case k6 => k_is)
    (case a7 => k_is)
    (case l7 => k_is)
    (case c7 => k_is)
    (case k7 => k_is)
    (case a8 => k_is)
    (case l8 => k_is)
    (case c8 => k_is)
    (case k8 => k_is)
    (case a9 => k_is)
    (case l9 => k_is)
    (case c9 => k_is)
    (case k9 => k_is)
    (case a10 => k_is)
    (case l10 => k_is)
    (case c10 => k_is)
    (case k10 => k_is)
    (case a11 => k_is)
    (case l11 => k_is)
    (case c11 => k_is)
    (case k11 => k_is)
    (case a12 => k_is)
    (case l12 => k_is)
    (case c12 => k_is)
    (case k12 => k_is)
    (case a13 => k_is)
    (case l13 => k_is)
    (case c13 => k_is)
    (case k13 => k_is)
    (case aR => k_is)
    (case lR => k_is)
    (case litR => repeat' (first | exact True.intro | refine ⟨⟨_, _, rfl, rfl⟩, ?_⟩))
    (case r1 => k_is)
    (case r2 => k_is)
    (case r3 => k_is)
    (case r4 => k_is)
    (case r5 => k_is)
    (case r6 => k_is)
    (case r7 => k_is)
    (case z1 => k_is)
    (case z2 => k_is)
    (case z3 => k_is)
    (case z4 => k_is)
    (case z5 => k_is)

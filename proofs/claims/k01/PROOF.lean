import PyProof.Rows.All
import Wide.All
import OpenK.AllK
import Wide.FinOn
import HandS.ForMost
import HandS.AnyAll
import HandS.IsInst
import HandS.Style
import HandS.EndTab
import HandS.Codes
import HandS.Walk
import KE.KEqSeq
import PySem.Challenge.RW_shelfcounts_k01_names_known
set_option Elab.async false
set_option linter.all false
set_option maxRecDepth 100000
namespace Shelf
open PySem PySem.Spec PyProof.Rows L2
def topS (i : Nat) : Stmt := PySem.Challenge.pw_shelfcounts_k01_names_known.main.body.getD i (.Pass ⟨0, 0, 0, 0⟩)
abbrev sPen : Stmt := topS 5
abbrev sTake : Stmt := topS 6
/-! ### the pen: what a script is drawn from -/
theorem same_new {H : Hp} {p : Addr} {o : HO} (h : H p = none) : Same H (upd H p o) := fun b x e => (upd_ne (ne_of_none e h)).trans e
/-- all but the object at p is as it was -/
def But (p : Addr) (H H' : Hp) : Prop := ∀ b o, H b = some o → b ≠ p → H' b = some o
theorem But.refl (p : Addr) (H : Hp) : But p H H := fun _ _ e _ => e
theorem But.of {p : Addr} {H H' : Hp} (h : Same H H') : But p H H' := fun b o e _ => h b o e
theorem But.tr {p : Addr} {H H1 H2 : Hp} (a : But p H H1) (b : But p H1 H2) : But p H H2 := fun c o e n => b c o (a c o e n) n
theorem But.to {p : Addr} {H H1 : Hp} (a : But p H H1) {l : Addr} {o : HO} (h : H l = none) (n : H p ≠ none) : But p H (upd H1 l o) := fun c u e nc => (upd_ne (ne_of_none e h)).trans (a c u e nc)
theorem dget_s {H : Hp} {p : Addr} {kvs : List (Key × V)} {x : Str} {v : V} (h : H p = some (.dK kvs)) (e : valV kvs (Sum.inr x) = some v) : DGet H p (.str x) (some v) := .inl ⟨kvs, Sum.inr x, .inl h, rfl, e.symm⟩
theorem dput_s {H : Hp} {p : Addr} {kvs : List (Key × V)} {x : Str} {v : V} (h : H p = some (.dK kvs)) (hl : kvs.length < sizeLine) : DPut H p (.str x) v (upd H p (.dK (putK kvs (Sum.inr x) v))) := .inl ⟨kvs, Sum.inr x, h, rfl, hl, rfl⟩
theorem put_len {kvs : List (Key × V)} {k : Key} {v u : V} (e : valV kvs k = some u) : (putK kvs k v).length = kvs.length := by
  have h := valV_any k kvs
  rw [e] at h
  have h' : (kvs.any fun kv => decide (kv.1 = k)) = true := h
  unfold putK
  rw [if_pos h', List.length_map]
abbrev kCells : Key := Sum.inr "cells"
abbrev kAt : Key := Sum.inr "at"
abbrev kLeft : Key := Sum.inr "left"
theorem nCA : ¬ kCells = kAt := by decide +kernel
theorem nCL : ¬ kCells = kLeft := by decide +kernel
theorem nAL : ¬ kAt = kLeft := by decide +kernel
theorem nLA : ¬ kLeft = kAt := by decide +kernel
/-- a pen stands at p, its cells at c; at most n have been drawn -/
structure PenAt (H : Hp) (p c : Addr) (n : Nat) : Prop where
  ex : ∃ (kvs : List (Key × V)) (ns : List Int) (a l : Int), H p = some (.dK kvs) ∧ kvs.length ≤ 3 ∧ valV kvs kCells = some (.ref c) ∧ valV kvs kAt = some (.int a) ∧ valV kvs kLeft = some (.int l) ∧ H c = some (.lst (ns.map V.int)) ∧ 0 ≤ a ∧ a ≤ n ∧ 0 ≤ l
theorem PenAt.same {H H' : Hp} {p c : Addr} {n : Nat} (P : PenAt H p c n) (h : Same H H') : PenAt H' p c n := by
  obtain ⟨kvs, ns, a, l, h1, h2, h3, h4, h5, h6, h7⟩ := P.ex
  exact ⟨kvs, ns, a, l, h _ _ h1, h2, h3, h4, h5, h _ _ h6, h7⟩
theorem PenAt.there {H : Hp} {p c : Addr} {n : Nat} (P : PenAt H p c n) : H p ≠ none := by
  obtain ⟨kvs, ns, a, l, h1, _⟩ := P.ex
  rw [h1]
  exact fun z => nomatch z
theorem PenAt.cells {H : Hp} {p c : Addr} {n : Nat} (P : PenAt H p c n) : H c ≠ none := by
  obtain ⟨kvs, ns, a, l, _, _, _, _, _, h1, _⟩ := P.ex
  rw [h1]
  exact fun z => nomatch z
theorem PenAt.upd {H : Hp} {p c l : Addr} {n : Nat} {o : HO} (P : PenAt H p c n) (h1 : l ≠ p) (h2 : l ≠ c) : PenAt (L2.upd H l o) p c n := by
  obtain ⟨kvs, ns, a, x, g1, g2, g3, g4, g5, g6, g7⟩ := P.ex
  exact ⟨kvs, ns, a, x, (upd_ne h1.symm).trans g1, g2, g3, g4, g5, (upd_ne h2.symm).trans g6, g7⟩
theorem PenAt.mono {H : Hp} {p c : Addr} {n m : Nat} (P : PenAt H p c n) (h : n ≤ m) : PenAt H p c m := by
  obtain ⟨kvs, ns, a, l, g1, g2, g3, g4, g5, g6, g7, g8, g9⟩ := P.ex
  exact ⟨kvs, ns, a, l, g1, g2, g3, g4, g5, g6, g7, by omega, g9⟩
theorem dp_ints {K : PySem.W.Frag} {H : Hp} : ∀ ns : List Int, DpAll K H (ns.map V.int) (ns.map PyData.int)
  | [] => .nil
  | n :: r => .cons (.int n) (dp_ints r)
/-- what a draw promises: a number below many, the pen drawn once more, nothing else touched -/
def spTake : Sp := fun vs H Q _ => ∃ (p c : Addr) (n : Nat) (m : Int), vs = [.ref p, .int m] ∧ PenAt H p c n ∧ n ≤ 100000 ∧ 1 ≤ m ∧ m ≤ 1000000000 ∧
  ∀ (r : Int) (H' : Hp), 0 ≤ r → r < m → PenAt H' p c (n + 1) → But p H H' → Q (.int r) H'
def spPen (K : PySem.W.Frag) : Sp := fun vs H Q _ => ∃ (a : Addr) (ns : List Int), vs = [.ref a] ∧ SqL K H a (ns.map V.int) ∧
  ∀ (p c : Addr) (H' : Hp), H p = none → H c = none → PenAt H' p c 0 → Same H H' → Q (.ref p) H'
theorem mem_cut {α : Type} {xs : List α} {lo hi : Nat} : ∀ x ∈ (xs.drop lo).take hi, x ∈ xs := fun x h => List.mem_of_mem_drop (List.mem_of_mem_take h)
theorem cut_ints (ns : List Int) (lo hi : Option Int) : ∃ ms : List Int, cutV (ns.map V.int) lo hi = ms.map V.int := by
  unfold cutV
  rw [← List.map_drop, ← List.map_take]
  exact ⟨_, rfl⟩
section
variable {P : Program} {w : World} {K : PySem.W.Frag} {mg : Str → Option Value} {base : Heap}
theorem scPen : FnScope ["_law_script"] ["_law_script"] (defScope sPen) := ⟨rfl, rfl, rfl, by decide +kernel, rfl, by decide +kernel, by decide +kernel⟩
theorem scTake : FnScope ["_law_pen_here", "_law_many", "_law_found", "_law_at", "_law_cells", "_law_cell", "_law_one", "_law_two"] ["_law_pen_here", "_law_many"] (defScope sTake) := ⟨rfl, rfl, rfl, by decide +kernel, rfl, by decide +kernel, by decide +kernel⟩
theorem ok_pen {f : Addr} {fd : FuncData} (F : Fun K "_law_pen" "_law_pen" sPen f fd) (ml : mg "list" = none) : FnOk P w K mg base CX0 1 f fd ["_law_script"] (spPen K) := by
  refine F.ok scPen (fun vs H Q E h => ?_) (fun cdv A outer s H vs Q E hr h => ?_)
  · obtain ⟨a, ns, rfl, _⟩ := h
    rfl
  · obtain ⟨a, ns, rfl, hS, q⟩ := h
    refine ⟨_, pss_one (ps_ret (pe_disp (pps_cons pe_str (pe_callTy call_list_of (by rfl) ml (by decide +kernel) (pa_cons (pe_slice sl_list (pv 0) po_none (po_some pe_int)) pa_nil))
      (pps_cons pe_str pe_int (pps_cons pe_str pe_int pps_nil))) (by rfl) (by rfl) (fun z => by cases z) (by decide))), ?_⟩
    refine fun p np => ?_
    have s1 : Same H (upd H p (.dK [])) := same_new np
    refine ⟨.ref a, rfl, 63, rfl, a, ns.map V.int, rfl, s1.seq hS, fun t nt => ?_⟩
    obtain ⟨ms, em⟩ := cut_ints ns none (some 63)
    have s2 : Same (upd H p (.dK [])) (upd (upd H p (.dK [])) t (.lst (cutV (ns.map V.int) none (some 63)))) := same_new nt
    refine ⟨t, _, rfl, .inl (SqL.of upd_same), fun c nc => ?_⟩
    have s3 := @same_new _ _ (.lst (cutV (ns.map V.int) none (some 63))) nc
    have hp := s3 _ _ (s2 _ _ upd_same)
    refine ⟨hp, [(kCells, .ref c), (kAt, .int 0), (kLeft, .int 0)], rfl, (by show 3 ≤ 15; decide), ?_⟩
    have s4 := s1.trans (s2.trans s3)
    have npc : p ≠ c := ne_of_none (s2 _ _ upd_same) nc
    refine q p c _ np (s1.free (s2.free nc)) ⟨_, ms, 0, 0, upd_same, (by exact Nat.le_refl 3), ?_, ?_, ?_, ?_, Int.le_refl _, Int.le_refl _, Int.le_refl _⟩ fun b o e => (upd_ne (ne_of_none e np)).trans (s4 b o e)
    · rfl
    · rfl
    · rfl
    · rw [upd_ne npc.symm, upd_same, em]
theorem ok_take {f : Addr} {fd : FuncData} (F : Fun K "_law_take" "_law_take" sTake f fd) (mlen : mg "len" = none) (mabs : mg "abs" = none) : FnOk P w K mg base CX0 1 f fd ["_law_pen_here", "_law_many"] spTake := by
  refine F.ok scTake (fun vs H Q E h => ?_) (fun cdv A outer s H vs Q E hr h => ?_)
  · obtain ⟨p, c, n, m, rfl, _⟩ := h
    rfl
  · obtain ⟨p, c, n, m, rfl, pen, hn, m1, m2, q⟩ := h
    have hu := hu_of hr
    have nd := scTake.nd
    refine ⟨_, pss_cons (ps_if (pt_cmpR op_gt (pe_dget hu (pv 0) pe_str (fun _ _ => rfl)) pe_int (nomark _))
        (pss_cons (ps_set (i := 2) nd rfl (Or.inl rfl) (pe_op op_mod (pe_dget hu (pv 0) pe_str (fun _ _ => rfl)) (pv 1)))
        (pss_cons (ps_dput hu (pv 0) pe_str (pe_op op_fdiv (pe_dget hu (pv 0) pe_str (fun _ _ => rfl)) (pv 1)) rfl)
        (pss_one (ps_ret (pv 2))))) pss_nil)
      (pss_cons (ps_set (i := 3) nd rfl (Or.inl rfl) (pe_dget hu (pv 0) pe_str (fun _ _ => rfl)))
      (pss_cons (ps_dput hu (pv 0) pe_str (pe_op op_add (pv 3) pe_int) rfl)
      (pss_cons (ps_set (i := 4) nd rfl (Or.inl rfl) (pe_dget hu (pv 0) pe_str (fun _ _ => rfl)))
      (pss_cons (ps_set (i := 5) nd rfl (Or.inl rfl) (pe_op op_add (pe_op op_add (pe_op op_mul (pe_op op_mul pe_int (pv 3)) (pv 3)) (pe_op op_mul pe_int (pv 3))) pe_int))
      (C8.pss_cut (ps_if (pt_cmpR (op_neD hr.units) (pv 4) (pe_lst pa_nil) (nomark _))
        (pss_one (ps_set (i := 5) nd rfl (Or.inl rfl) (pe_ix ix_list (pv 4) (pe_op op_mod (pv 3) (pe_callB call_len_seq (by rfl) mlen PySem.boot_len (pa_cons (pv 4) pa_nil))) (fun _ _ => rfl)))) pss_nil)
      (C8.pss_cut (ps_if (PW.pt (pw_and (pt_cmpR op_lt (pv 3) (pe_callB call_len_seq (by rfl) mlen PySem.boot_len (pa_cons (pv 4) pa_nil)) (nomark _))
          (pw_and1 (pt_cmpR op_ge (pe_callB call_abs (by rfl) mabs (by decide +kernel) (pa_cons (pv 5) pa_nil)) (pe_op op_pow pe_int pe_int) (nomark _)))))
        (pss_cons (ps_dput hu (pv 0) pe_str (pe_op op_fdiv (pe_callB call_abs (by rfl) mabs (by decide +kernel) (pa_cons (pv 5) pa_nil)) (pv 1)) rfl)
        (pss_one (ps_ret (pe_op op_mod (pe_callB call_abs (by rfl) mabs (by decide +kernel) (pa_cons (pv 5) pa_nil)) (pv 1))))) pss_nil)
      (pss_cons (ps_set (i := 6) nd rfl (Or.inl rfl) (pe_op op_mod (pe_op op_pow (pe_op op_add (pe_op op_add (pe_op op_mod (pv 5) pe_int) (pe_op op_mul pe_int (pv 3))) pe_int) pe_int) pe_int))
      (pss_cons (ps_set (i := 7) nd rfl (Or.inl rfl) (pe_op op_mod (pe_op op_pow (pe_op op_add (pe_op op_add (pv 6) (pe_op op_mul (pe_op op_mul pe_int (pv 3)) (pv 3))) pe_int) pe_int) pe_int))
      (pss_one (ps_ret (pe_op op_mod (pe_op op_fdiv (pe_op op_mod (pe_op op_mul (pv 7) (pe_op op_add (pe_op op_mod (pv 6) pe_int) pe_int)) pe_int) pe_int) (pv 1)))))))))))), ?_⟩
    obtain ⟨kvs, ns, a, l, g1, g2, g3, g4, g5, g6, g7, g8, g9⟩ := pen.ex
    have hsz : kvs.length < sizeLine := small1000 (by omega)
    have npc : p ≠ c := ne_of g1 g6 (by intro z; cases z)
    -- the left
    refine ⟨_, rfl, p, _, rfl, dget_s g1 g5, l, 0, rfl, rfl, _, rfl, ite2 (fun e => ?_) (fun e => ?_)⟩
    · have e' : 0 < l := of_decide_eq_true e
      refine ⟨_, rfl, p, _, rfl, dget_s g1 g5, _, rfl, l, m, rfl, rfl, (by show (0 : Int) < m; omega), ?_⟩
      refine ⟨_, rfl, p, _, rfl, dget_s g1 g5, _, rfl, l, m, rfl, rfl, ⟨by omega, by omega⟩, _, rfl, p, _, rfl, dput_s g1 hsz, _, rfl, ?_⟩
      refine q _ _ (Int.emod_nonneg _ (by omega)) (Int.emod_lt_of_pos _ (by omega)) ⟨_, ns, a, l / m, upd_same, (by rw [put_len g5]; exact g2), ?_, ?_, ?_, ?_, g7, by omega, Int.ediv_nonneg (by omega) (by omega)⟩ fun b o z nb => (upd_ne nb).trans z
      · rw [valV_put, if_neg nCL]; exact g3
      · rw [valV_put, if_neg nAL]; exact g4
      · rw [valV_put, if_pos rfl]
      · rw [upd_ne npc.symm]; exact g6
    · -- a new cell
      refine ⟨_, rfl, p, _, rfl, dget_s g1 g4, ?_⟩
      refine ⟨_, rfl, a, 1, rfl, rfl, _, rfl, p, _, rfl, dput_s g1 hsz, ?_⟩
      have k1 : (upd H p (.dK (putK kvs kAt (.int (a + 1))))) p = some (.dK (putK kvs kAt (.int (a + 1)))) := upd_same
      have v3 : valV (putK kvs kAt (.int (a + 1))) kCells = some (.ref c) := by rw [valV_put, if_neg nCA]; exact g3
      have v4 : valV (putK kvs kAt (.int (a + 1))) kAt = some (.int (a + 1)) := by rw [valV_put, if_pos rfl]
      have v5 : valV (putK kvs kAt (.int (a + 1))) kLeft = some (.int l) := by rw [valV_put, if_neg nLA]; exact g5
      have k2 : (putK kvs kAt (.int (a + 1))).length ≤ 3 := by rw [put_len g4]; exact g2
      have k6 : (upd H p (.dK (putK kvs kAt (.int (a + 1))))) c = some (.lst (ns.map V.int)) := by rw [upd_ne npc.symm]; exact g6
      generalize putK kvs kAt (.int (a + 1)) = kw at k1 k2 k6 v3 v4 v5
      refine ⟨_, rfl, p, _, rfl, dget_s k1 v3, ?_⟩
      refine ⟨_, rfl, 70207, a, rfl, rfl, .inl ⟨by decide, by decide⟩, _, rfl, _, a, rfl, rfl, .inr ⟨by omega, by omega⟩, _, rfl, 131, a, rfl, rfl, .inl ⟨by decide, by decide⟩, _, _, rfl, rfl, _, 29, rfl, rfl, ?_⟩
      refine ⟨fun σ' H' => ∃ x : Int, σ' = [some (.ref p), some (.int m), none, some (.int a), some (.ref c), some (.int x), none, none] ∧ Same (upd H p (.dK kw)) H', ?_, ?_⟩
      · refine ⟨_, rfl, Nat.zero_le _, fun t nt => ?_⟩
        have s1 := @same_new _ _ (.lst []) nt
        refine ⟨.list (ns.map PyData.int), .list [], .lst (SqL.of (s1 _ _ k6)) (dp_ints ns), .lst (SqL.of upd_same) .nil, PySem.W.ke_shaped_ints ns, PySem.W.ke_shaped_ints [], _, rfl, ?_⟩
        cases e2 : (!PyData.eqv (.list (ns.map PyData.int)) (.list [])) with
        | false => exact iteF ⟨_, rfl, s1⟩
        | true =>
          refine iteT ?_
          have hne : ns ≠ [] := fun z => by
            subst z
            rw [show PyData.eqv (.list (([] : List Int).map PyData.int)) (.list []) = true from rfl] at e2
            cases e2
          have hlen : 0 < ns.length := List.length_pos_iff.mpr hne
          have hlt : (a % (ns.length : Int)).toNat < ns.length := by
            have h1 := Int.emod_nonneg a (show (ns.length : Int) ≠ 0 by omega)
            have h2 := Int.emod_lt_of_pos a (show (0 : Int) < ns.length by omega)
            omega
          refine ⟨_, rfl, _, rfl, _, rfl, c, _, rfl, .inl (SqL.of (s1 _ _ k6)), a, _, rfl, rfl, ?_, c, _, _, .int ns[(a % (ns.length : Int)).toNat], rfl, rfl, SqL.of (s1 _ _ k6), ?_, _, rfl, s1⟩
          · show (0 : Int) < ((ns.map V.int).length : Int)
            rw [List.length_map]; omega
          · rw [List.length_map]
            refine at_of (j := (a % (ns.length : Int)).toNat) (Int.toNat_of_nonneg (Int.emod_nonneg a (show (ns.length : Int) ≠ 0 by omega))).symm ?_
            rw [List.getElem?_map, List.getElem?_eq_getElem hlt]
            rfl
      · rintro σ' H2 ⟨x, rfl, s1⟩
        have j1 := s1 _ _ k1
        have j6 := s1 _ _ k6
        have bt : But p H H2 := fun b o z nb => s1 _ _ ((upd_ne nb).trans z)
        have absn : (0 : Int) ≤ if x < 0 then -x else x := by split <;> omega
        have fin : ∀ r : Int, 0 ≤ r → r < m → Q (.int r) H2 := fun r r1 r2 => q r H2 r1 r2 ⟨kw, ns, a + 1, l, j1, k2, v3, v4, v5, j6, by omega, by omega, g9⟩ bt
        have a2 : 0 ≤ 1213 * a * a ∧ 1213 * a * a ≤ 121300000 * 100000 := ⟨Int.mul_nonneg (by omega) g7, Int.mul_le_mul (by omega) (by omega) g7 (by decide)⟩
        refine ⟨fun σ' H' => σ' = [some (.ref p), some (.int m), none, some (.int a), some (.ref c), some (.int x), none, none] ∧ H' = H2, ?_, ?_⟩
        · refine ⟨_, rfl, _, rfl, c, _, rfl, .inl (SqL.of j6), a, _, rfl, rfl, _, rfl, ?_⟩
          refine ite2 (fun _ => ?_) (fun _ => ?_)
          · refine ⟨_, rfl, x, rfl, 10, 18, rfl, rfl, ⟨by decide, by decide, by decide⟩, _, _, rfl, rfl, _, rfl, ite2 (fun _ => ?_) (fun _ => ⟨rfl, rfl⟩)⟩
            refine ⟨_, rfl, x, rfl, _, rfl, _, m, rfl, rfl, ⟨by omega, by omega⟩, _, rfl, p, _, rfl, dput_s j1 (small1000 (by omega)), ?_⟩
            refine ⟨_, rfl, x, rfl, _, rfl, _, m, rfl, rfl, (by show (0 : Int) < m; omega), ?_⟩
            refine q _ _ (Int.emod_nonneg _ (by omega)) (Int.emod_lt_of_pos _ (by omega)) ⟨_, ns, a + 1, (if x < 0 then -x else x) / m, upd_same, (by rw [put_len v5]; exact k2), ?_, ?_, ?_, ?_, by omega, by omega, Int.ediv_nonneg absn (by omega)⟩ fun b o z nb => (upd_ne nb).trans (bt b o z nb)
            · rw [valV_put, if_neg nCL]; exact v3
            · rw [valV_put, if_neg nAL]; exact v4
            · rw [valV_put, if_pos rfl]
            · rw [upd_ne npc.symm]; exact j6
          · exact iteF ⟨rfl, rfl⟩
        · rintro σ' H' ⟨rfl, rfl⟩
          have b1 := Int.emod_nonneg x (show (2147483587 : Int) ≠ 0 by decide)
          have b2 := Int.emod_lt_of_pos x (show (0 : Int) < 2147483587 by decide)
          refine ⟨_, rfl, x, _, rfl, rfl, (by show (0 : Int) < 2147483587; decide), _, rfl, 45007, a, rfl, rfl, .inl ⟨by decide, by decide⟩, _, _, rfl, rfl, _, 11, rfl, rfl, _, 3, rfl, rfl, ⟨by decide, by decide, ?_⟩, _, 2147483629, rfl, rfl, (by show (0 : Int) < 2147483629; decide), ?_⟩
          · generalize x % 2147483587 = y at b1 b2
            show (y + 45007 * a + 11).natAbs < 2 ^ 64
            omega
          · generalize (x % 2147483587 + 45007 * a + 11) ^ (3 : Int).toNat = z
            have d1 := Int.emod_nonneg z (show (2147483629 : Int) ≠ 0 by decide)
            have d2 := Int.emod_lt_of_pos z (show (0 : Int) < 2147483629 by decide)
            obtain ⟨o, ho⟩ : ∃ o, z % 2147483629 = o := ⟨_, rfl⟩
            rw [ho] at d1 d2
            show tSeq _ _ _ [some (.ref p), some (.int m), none, some (.int a), some (.ref c), some (.int x), some (.int (z % 2147483629)), none] _
            rw [ho]
            have f1 := Int.emod_nonneg o (show (64007 : Int) ≠ 0 by decide)
            have f2 := Int.emod_lt_of_pos o (show (0 : Int) < 64007 by decide)
            refine ⟨_, rfl, _, rfl, 1213, a, rfl, rfl, .inl ⟨by decide, by decide⟩, _, rfl, _, a, rfl, rfl, .inr ⟨by omega, by omega⟩, o, _, rfl, rfl, _, 3, rfl, rfl, _, 5, rfl, rfl, ⟨by decide, by decide, ?_⟩, _, 2147483543, rfl, rfl, (by show (0 : Int) < 2147483543; decide), ?_⟩
            · show (o + 1213 * a * a + 3).natAbs < 2 ^ 64
              omega
            · refine ⟨_, rfl, _, rfl, o, 64007, rfl, rfl, (by show (0 : Int) < 64007; decide), _, 1, rfl, rfl, _, _, rfl, rfl, .inr ⟨by omega, by omega⟩, _, 2147483579, rfl, rfl, (by show (0 : Int) < 2147483579; decide), _, 64, rfl, rfl, ⟨by decide, by decide⟩, _, rfl, _, m, rfl, rfl, (by show (0 : Int) < m; omega), ?_⟩
              exact fin _ (Int.emod_nonneg _ (by omega)) (Int.emod_lt_of_pos _ (by omega))
end
/-! ### generator expressions whose element reads the module's names and the def's cells -/
section
variable {X : Cx} {pins : List (Addr × Obj)} {σ : L2.St} {H : Hp} {s : Shared}
/-- walking u makes one new object and reads fp alone; n items, the i-th one as Pf says -/
def GSrc (X : Cx) (T : Addr) (u : Value) (s1 : Shared) (n : Nat) (Pf : Nat → Value → Prop) : Prop :=
  ∀ (Q : Value → Shared → Prop) (E : Value → Shared → Prop),
    (∀ (o : Obj) (fp : List Addr) (St : Nat → Heap → Prop),
      (∀ A' : Around, A'.handled = none → Walks X.prog X.w A' s1.heap.objs.size fp [s1.heap.objs.size] n Pf St) →
      St 0 (s1.heap.push o) → (∀ b ∈ fp, b ≤ s1.heap.objs.size ∧ b ≠ T) →
      Q (.ref s1.heap.objs.size) { s1 with heap := s1.heap.push o }) →
    wpAny (model X.prog X.w) X.A (pyIter u) Q E s1
/-- the tests and the element at the item v: nothing that stood is changed -/
structure GElt (X : Cx) (T : Addr) (scope : Scope) (x : Str) (ifs : List Expr) (elt : Expr) (s1 : Shared) (Pf : Nat → Value → Prop) (pz : Nat → Bool) (F : Nat → Value → Prop) : Prop where
  run : ∀ (ce : Env) (A' : Around) (E' : Value → Shared → Prop) (i : Nat) (v : Value) (s2 : Shared) (m2 : Str → Option Value),
    ce.scope = scope → ce.globals = mainGlobals → ce.cells = cloFrom X.env.cells scope.names [] → A'.handled = none → Pf i v → s2.heap.Ns ce.locals m2 → m2 x = some v →
    (∀ b u, b ≠ T → s1.heap.get? b = some u → s2.heap.get? b = some u) →
    wpAny (model X.prog X.w) A' (forIn ifs true fun c r => if r = true then do let ok ← isTrue c ce (eval c ce); pure (ForInStep.yield ok) else pure (ForInStep.yield r)) (fun ok s3 => ok = pz i ∧ Keeps s2 s3) E' s2 ∧
    (pz i = true → wpAny (model X.prog X.w) A' (eval elt ce) (fun y s3 => F i y ∧ Keeps s2 s3) E' s2)
/-- the generator g is ready to be walked in s5 -/
def GReady (X : Cx) (pins : List (Addr × Obj)) (σ : L2.St) (H1 : Hp) (T : Addr) (n : Nat) (pz : Nat → Bool) (F : Nat → Value → Prop) (g : Addr) (s5 : Shared) : Prop :=
  ∃ (fp wr : List Addr) (G : Array GenState → Array GenState → Prop) (St : Nat → Shared → Prop),
    WalksS X.prog X.w X.A.in1 g fp wr G (passing pz n 0).length (fun j y => ∃ i, (passing pz n 0)[j]? = some i ∧ F i y) St ∧ St 0 s5 ∧
    ∀ s', Moved wr G s5 s' → ∃ H2, GxR.Tabbed T H1 H2 ∧ Inv X pins σ H2 s'
theorem gen_mk {c T : Addr} {elt iter : Expr} {x : Str} {px gpos : Pos} {ifs : List Expr} {scope : Scope} {te : TE} {k : Nat} {Q' : Value → Shared → Prop} {R : V → Hp → Prop}
    (hr : Room k X.A) (TB : GxR.TabB X.base X.mg c T) (hcode : X.env.code = .ref c) (S : GxR.GenS X.env scope x) (hi : PE X iter te)
    (hs : ∀ v, genFold iter X.env v = pure v) (I : Inv X pins σ H s) (h : te σ H fun v H1 => GxR.TabG H1 T ∧ R v H1)
    (hQ : ∀ v u H1 s1, Inv X pins σ H1 s1 → RelV v u → GxR.TabG H1 T → R v H1 → ∃ n Pf pz F, GSrc X T u s1 n Pf ∧ GElt X T scope x ifs elt s1 Pf pz F ∧
      ∀ g s5, GReady X pins σ H1 T n pz F g s5 → Q' (.ref g) s5) :
    wpAny (model X.prog X.w) X.A (eval (.GeneratorExp elt [⟨.Name x px, iter, ifs, 0⟩] scope gpos) X.env) Q' X.xe s := by
  refine wpAny_GeneratorExp_walksQ hr.hd S.co (closure_ok S.free) S.cell S.dot S.loc S.kind (Nat.lt_of_le_of_lt (by omega : X.A.depth ≤ X.A.depth + 3 * k + 5) hr.dp) ?_ hs
  refine thn (hi.run pins s σ H _ I h) fun u s1 ⟨v, H1, J, rv, ⟨ps, hT, hok⟩, hR⟩ => ?_
  obtain ⟨n, Pf, pz, F, src, el, fin⟩ := hQ v u H1 s1 J rv ⟨ps, hT, hok⟩ hR
  refine src _ _ fun o fp St W st0 hfp => ?_
  have gT : s1.heap.get? T = some (PySem.W.tabObj ps) := J.hok T _ hT
  have ltT := Heap.lt_size gT
  have sz : (s1.heap.push o).objs.size = s1.heap.objs.size + 1 := Heap.size_push ..
  have cd : PySem.W.CodeHd (s1.heap.push o) c T := TB.code.keeps fun b z e => Heap.get?_push_of_some _ (J.bk b z e)
  have pT : (s1.heap.push o).get? T = some (PySem.W.tabObj ps) := Heap.get?_push_of_some _ gT
  have lim : (s1.heap.push o).NoLimit := J.nolimit.push o
  obtain ⟨mc, nsC, _⟩ := id J.nolimit
  have ltC : cStatics < s1.heap.objs.size := nsC.lt
  have neC : cStatics ≠ T := fun e => by
    obtain ⟨oo, es, ep, go, dd, _⟩ := nsC
    rw [e, gT] at go
    cases go
    cases dd
  refine ⟨lim, ?_⟩
  -- behind the code object: the generator is made and handed on
  have on : ∀ (code : Value) (h3 : Heap) (tk : Nat) (ps' : Array Value), Heap.ExtBut T (s1.heap.push o) h3 → (s1.heap.push o).objs.size ≤ h3.objs.size →
      h3.get? T = some (PySem.W.tabObj ps') → (∃ more, ps' = ps ++ more) → TriplesOk ps'.toList →
      wpAny (model X.prog X.w) X.A (builtinsFor X.env.globals X.env.builtins) (fun bi s4 =>
        ∃ I' fp' wr n0 P' St' pz' F', Value.ref s1.heap.objs.size = .ref I' ∧ (∀ A' : Around, A'.handled = none → Walks X.prog X.w A' I' fp' wr n0 P' St') ∧ St' 0 s4.heap ∧ (∀ b ∈ fp', b < s4.heap.objs.size) ∧
          s4.heap.NoLimit ∧ cStatics ∉ wr ∧
          (∀ href : Heap, (∀ b z, s4.heap.get? b = some z → href.get? b = some z) →
            QuietGen X.prog X.w (genEnv scope (cloFrom X.env.cells scope.names []) s4.heap.objs.size code bi X.env) x ifs elt (List.range s4.heap.objs.size) wr P' pz' F' href) ∧
          (∀ a h5 tk5 gs, gs.bare = true → s4.heap.objs.size < a → h5.objs.size = a + 1 → (∀ b z, s4.heap.get? b = some z → h5.get? b = some z) →
            WalksS X.prog X.w X.A.in4 a (a :: s4.heap.objs.size :: List.range s4.heap.objs.size) (s4.heap.objs.size :: wr) (GenOnlyQ s4.gens.size) (passing pz' n0 0).length
              (fun j y => ∃ i, (passing pz' n0 0)[j]? = some i ∧ F' i y) (GenAt X.prog X.w X.A.in4 a s4.gens.size s4.heap.objs.size (List.range s4.heap.objs.size) wr pz' n0 F') →
            GenAt X.prog X.w X.A.in4 a s4.gens.size s4.heap.objs.size (List.range s4.heap.objs.size) wr pz' n0 F' 0 { s4 with gens := s4.gens.push gs, toks := tk5, heap := h5 } →
            Q' (.ref a) { s4 with gens := s4.gens.push gs, toks := tk5, heap := h5 })) X.xe { s1 with heap := h3, toks := tk } := by
    intro code h3 tk ps' ext ge3 gT3 mo ok3
    have stay : ∀ b z, b ≠ T → s1.heap.get? b = some z → h3.get? b = some z := fun b z nb e => ext b z nb (Heap.get?_push_of_some _ e)
    have glo : ∀ h4 : Heap, (∀ b z, b ≠ T → s1.heap.get? b = some z → h4.get? b = some z) → h4.Ns mainGlobals X.mg := fun h4 st => by
      obtain ⟨oo, es, ep, go, r⟩ := J.mod.glob
      exact ⟨oo, es, ep, st _ _ TB.gP (J.bk _ _ go), r⟩
    obtain ⟨bm, ob, e1, e2, _, e4, e5, e6, e7, e8⟩ := TB.bm
    refine wpAny_builtinsFor (m := X.mg) (by rw [J.ok.glob]; exact glo h3 stay) e1 e2 (stay _ _ e4 (J.bk _ _ e5)) e6 e7 e8 ?_
    refine ⟨s1.heap.objs.size, fp, [s1.heap.objs.size], n, Pf, St, pz, F, rfl, W, ?_, fun b hb => ?_, lim.extBut ext neC, fun z => ?_, fun href keepR => ⟨?_, ?_⟩, ?_⟩
    · exact (W X.A hr.hd).frame _ _ _ st0 fun b hb z e => ext b z (hfp b hb).2 e
    · have l1 := (hfp b hb).1
      have l2 := ge3
      rw [sz] at l2
      exact Nat.lt_of_lt_of_le (Nat.lt_succ_of_le l1) l2
    · rw [List.mem_singleton] at z
      exact absurd z (Nat.ne_of_lt ltC)
    · intro A' E' i v2 s2 m2 hA hP hn hm hk
      refine (el.run (genEnv scope (cloFrom X.env.cells scope.names []) h3.objs.size code builtinsNs X.env) A' E' i v2 s2 m2 rfl J.ok.glob rfl hA hP hn hm fun b z nb e => ?_).1
      have hb := Heap.lt_size e
      refine hk b (List.mem_range.mpr ?_) (fun q => ?_) z (keepR b z (stay b z nb e))
      · have := ge3
        rw [sz] at this
        exact Nat.lt_of_lt_of_le (Nat.lt_succ_of_lt hb) this
      · rw [List.mem_singleton] at q
        exact absurd q (Nat.ne_of_lt hb)
    · intro A' E' i v2 s2 m2 hA hP hz hn hm hk
      refine (el.run (genEnv scope (cloFrom X.env.cells scope.names []) h3.objs.size code builtinsNs X.env) A' E' i v2 s2 m2 rfl J.ok.glob rfl hA hP hn hm fun b z nb e => ?_).2 hz
      have hb := Heap.lt_size e
      refine hk b (List.mem_range.mpr ?_) (fun q => ?_) z (keepR b z (stay b z nb e))
      · have := ge3
        rw [sz] at this
        exact Nat.lt_of_lt_of_le (Nat.lt_succ_of_lt hb) this
      · rw [List.mem_singleton] at q
        exact absurd q (Nat.ne_of_lt hb)
    · intro g h5 tk5 gs bare ltg sz5 keep5 W5 at5
      refine fin g _ ⟨_, _, _, _, W5.in4_1, at5, fun s' mv => ?_⟩
      obtain ⟨more, em⟩ := mo
      have out : ∀ b z, s1.heap.get? b = some z → b ∉ h3.objs.size :: [s1.heap.objs.size] := fun b z e hb => by
        have l1 := Heap.lt_size e
        have l3 := ge3
        rw [sz] at l3
        rcases List.mem_cons.mp hb with q | q
        · rw [q] at l1
          exact Nat.lt_irrefl _ (Nat.lt_trans l1 l3)
        · rw [List.mem_singleton] at q
          rw [q] at l1
          exact Nat.lt_irrefl _ l1
      have K5 := GxR.inv_tab (more := more) (h' := s'.heap) (g' := s'.gens) (d' := s'.drawn) (t' := s'.toks) J hT
        (fun b z nb e => mv.heap b z (out b z e) (keep5 b z (stay b z nb e))) (by rw [← em]; exact mv.heap T _ (out T _ gT) (keep5 T _ gT3)) (AllBare.movedS (J.bare.push bare) mv)
      rw [GxR.sh_eta s1 s' mv.os] at K5
      exact ⟨upd H1 T (.tbl (ps ++ more)), ⟨⟨_, upd_same, by rw [← em]; exact ok3⟩, fun b nb => upd_ne nb⟩, K5⟩
  cases among : codeAmong gpos ps.toList with
  | some cv =>
    refine wpAny_genexprCode_hit hcode (cd.code pT hok) among ?_
    exact on cv _ s1.toks ps (Heap.ExtBut.refl _ _) (Nat.le_refl _) pT ⟨#[], (Array.append_empty).symm⟩ hok
  | none =>
    refine wpAny_genexprCodeX hcode (cd.code pT hok) (cd.tab pT) among fun c' h' tk hx hge hlt isC _ tab' _ => ?_
    obtain ⟨_, _, _, _, _, _, _, _, _, _, _, _, _, _, _, _, _, _, _, ok', _⟩ := isC
    exact on _ h' tk _ hx (Nat.le_trans hge (Nat.le_of_lt hlt)) tab'.2 ⟨_, rfl⟩ ok'
/-- a text's signs as what is walked -/
theorem gsrc_str {T : Addr} {a : Str} {t : Tok} {s1 : Shared} (hT : T < s1.heap.objs.size) : GSrc X T (.str a t) s1 a.cps.size (SignAt a) := fun Q E h =>
  wpAny_pyIter_str fun o St W st0 => h o _ St W st0 fun b hb => by
    rw [List.mem_singleton] at hb
    subst hb
    exact ⟨Nat.le_refl _, Nat.ne_of_gt hT⟩
theorem pass_all (n : Nat) : passing (fun _ => true) n 0 = List.range n := by
  simp [passing]
/-- all(test for x in e), e a text -/
def tAllT (T : Addr) (pb : Nat → Bool) (te : TE) : TE := fun σ H Q => te σ H fun v H1 => GxR.TabG H1 T ∧ ∃ a : Str, v = .str a ∧ ∀ H2, GxR.Tabbed T H1 H2 → Q (.bl (a.cps.toList.all pb)) H2
theorem pe_allT {c T : Addr} {elt iter : Expr} {x : Str} {px p pos gpos : Pos} {scope : Scope} {pb : Nat → Bool} {te : TE} {k : Nat}
    (hr : Room k X.A) (hg : Gl X "all") (hm : X.mg "all" = none) (TB : GxR.TabB X.base X.mg c T) (hcode : X.env.code = .ref c) (S : GxR.GenS X.env scope x) (hi : PE X iter te)
    (hel : ∀ pins s1 σ H1 a, Inv X pins σ H1 s1 → GElt X T scope x [] elt s1 (SignAt a) (fun _ => true) (fun i y => ∃ cc, a.cps[i]? = some cc ∧ y = .bool (pb cc)))
    (hs : ∀ v, genFold iter X.env v = pure v)
    (he : starEach [.GeneratorExp elt [⟨.Name x px, iter, [], 0⟩] scope gpos] X.env = (false, eval (.GeneratorExp elt [⟨.Name x px, iter, [], 0⟩] scope gpos) X.env) :: starEach [] X.env := by rfl) :
    PE X (.Call (.Name "all" p) [.GeneratorExp elt [⟨.Name x px, iter, [], 0⟩] scope gpos] [] pos) (tAllT T pb te) := by
  refine ⟨fun pins s σ H Q I h => wpAny_Call_Name_kw (ld_blt I hg hm (show bootBuiltins "all" = some (.builtin "all") by decide +kernel) ?_)⟩
  refine PyProof.Rows.callWith_builtin1 ?_ he (by rfl)
  rw [he]
  refine Calls.spliced_cons (gen_mk hr TB hcode S hi hs I h fun v u H1 s1 J rv tg hR => ?_)
  obtain ⟨a, rfl, hR⟩ := hR
  obtain ⟨t, rfl⟩ := id rv
  refine ⟨_, _, fun _ => true, _, gsrc_str ?_, hel pins s1 σ H1 a J, fun g s5 rdy => ?_⟩
  · obtain ⟨ps, e, _⟩ := tg
    exact J.hok.lt e
  obtain ⟨fp, wr, G, St, W, st0, back⟩ := rdy
  rw [pass_all] at W
  refine Calls.spliced_nil (call_all_walkS (W.self 0 _ _ _ st0 ⟨g, fp, wr, G, _, _, St, GxR.trF pb a.cps.toList, rfl, W, st0, ?_, fun s' mv => ?_⟩))
  · intro j y sj Qj Ej hy hq
    obtain ⟨i, ij, cc, hc, rfl⟩ := hy
    obtain ⟨hj, ej⟩ := List.getElem?_eq_some_iff.mp ij
    rw [List.getElem_range] at ej
    subst ej
    refine wpAny_truthy_bool ?_
    rw [← GxR.trF_some (pb := pb) (show a.cps.toList[j]? = some cc by rw [Array.getElem?_toList]; exact hc)]
    exact hq
  · obtain ⟨H2, tab, K2⟩ := back s' mv
    refine ⟨.bl _, H2, K2, rfl, ?_⟩
    rw [List.length_range, GxR.all_signs a pb]
    exact hR H2 tab
end
/-! ### is_name and the law's own -/
abbrev sName : Stmt := topS 3
abbrev sSame : Stmt := topS 7
abbrev sOwn : Stmt := topS 8
abbrev sBent : Stmt := topS 9
abbrev sLaw : Stmt := topS 10
abbrev abc : Str := "abcdefghijklmnopqrstuvwxyz"
def signB (c : Nat) : Bool := decide (c ∈ abc.cps.toList)
def nameB (z : Str) : Bool := decide (1 ≤ z.length) && decide (z.length ≤ 8) && z.cps.toList.all signB
theorem nameB_in {z : Str} (h1 : (1 : Int) ≤ (z.length : Int)) (h2 : (z.length : Int) ≤ 8) : nameB z = z.cps.toList.all signB := by
  unfold nameB
  rw [decide_eq_true (show 1 ≤ z.length by omega), decide_eq_true (show z.length ≤ 8 by omega)]
  rfl
theorem nameB_long {z : Str} (h : ¬ (z.length : Int) ≤ 8) : nameB z = false := by
  unfold nameB
  rw [decide_eq_false (show ¬ z.length ≤ 8 by omega), Bool.and_false]
  rfl
theorem nameB_short {z : Str} (h : ¬ (1 : Int) ≤ (z.length : Int)) : nameB z = false := by
  unfold nameB
  rw [decide_eq_false (show ¬ 1 ≤ z.length by omega)]
  rfl
/-- what is_name is told: a text, or what is of another built-in kind -/
def spName (K : PySem.W.Frag) (T : Addr) : Sp := fun vs H Q _ => ∃ v : V, vs = [v] ∧ GxR.TabG H T ∧
  ((∃ z : Str, v = .str z ∧ z.length ≤ sizeLine ∧ ∀ H2, GxR.Tabbed T H H2 → Q (.bl (nameB z)) H2) ∨
   ∃ t : String, TyX K H v (.type t) ∧ kitB t "str" = some false ∧ Q (.bl false) H)
def spOwn : Sp := fun vs H Q _ => ∃ z : Str, vs = [.str z] ∧ z.length ≤ sizeLine ∧ Q (.bl (nameB z)) H
def spSame : Sp := fun vs H Q _ => ∃ a b : Bool, vs = [.bl a, .bl b] ∧ Q (.bl (decide (a = b))) H
def spBent : Sp := fun vs H Q _ => ∃ (p c : Addr) (n : Nat) (z : Str), vs = [.ref p, .str z] ∧ PenAt H p c n ∧ n ≤ 1000 ∧ 1 ≤ z.length ∧ z.length ≤ 8 ∧
  ∀ (y : Str) (H' : Hp), y.length ≤ 100 → PenAt H' p c (n + 3) → But p H H' → Q (.str y) H'
section
variable {P : Program} {w : World} {K : PySem.W.Frag} {mg : Str → Option Value} {base : Heap}
theorem scName : FnScope ["thing"] ["thing"] (defScope sName) := ⟨rfl, rfl, rfl, by decide +kernel, rfl, by decide +kernel, by decide +kernel⟩
theorem scSame : FnScope ["_law_found", "_law_due"] ["_law_found", "_law_due"] (defScope sSame) := ⟨rfl, rfl, rfl, by decide +kernel, rfl, by decide +kernel, by decide +kernel⟩
theorem scOwn : FnScope ["_law_thing", "_law_sign"] ["_law_thing"] (defScope sOwn) := ⟨rfl, rfl, rfl, by decide +kernel, rfl, by decide +kernel, by decide +kernel⟩
theorem ok_name {f c T : Addr} {oc kV doc pm ct : Value} {od an : Option Addr} {osl : Array (Option Value)}
    (lk : K.lookup f = some ⟨oc, od, .func (PySem.W.fnOf "is_name" "is_name" (defArgs sName) (defBody sName) (defScope sName) .none kV doc pm an (.ref c) ct), osl⟩) (cdI : PySem.W.codeIn K (.ref c) "is_name" = true)
    (TB : GxR.TabB base mg c T) (mi : mg "isinstance" = none) (mst : mg "str" = none) (ml : mg "len" = none) (ma : mg "all" = none) (mL : ∃ t, mg "LETTERS" = some (.str abc t)) (mN : ∃ t, mg "LONGEST_NAME" = some (.int 8 t)) :
    FnOk P w K mg base CX0 1 f (PySem.W.fnOf "is_name" "is_name" (defArgs sName) (defBody sName) (defScope sName) .none kV doc pm an (.ref c) ct) ["thing"] (spName K T) := by
  refine fn_of lk cdI scName (fun vs H Q E h => ?_) (fun A outer s H vs Q E hr h => ?_)
  · obtain ⟨v, rfl, _⟩ := h
    rfl
  · obtain ⟨v, rfl, tg, h⟩ := h
    obtain ⟨tL, mL⟩ := mL
    obtain ⟨tN, mN⟩ := mN
    refine ⟨_, pss_cons (ps_if (pt_not (pt_val (pe_callB call_isi (by rfl) mi (by decide +kernel) (pa_cons (pv 0) (pa_cons (pe_bltn (v := .ty "str") (u := .type "str") (by rfl) mst (by decide +kernel) rfl) pa_nil)))))
        (pss_one (ps_ret pe_bl)) pss_nil)
      (pss_one (ps_ret (pe_and (pe_chain op_le op_le pe_int (pe_callB call_len_str (by rfl) ml PySem.boot_len (pa_cons (pv 0) pa_nil)) (pe_glob (v := .int 8) rfl mN ⟨_, rfl⟩))
        (pe_one (pe_allT (T := T) (c := c) (pb := signB) hr (by rfl) ma TB rfl ⟨rfl, rfl, by decide +kernel, rfl, rfl, by intro y hy e; simp only [List.mem_cons, List.not_mem_nil, or_false] at hy; rcases hy with rfl | rfl | rfl <;> cases e⟩ (pv 0) ?_ (fun _ => rfl)))))), ?_⟩
    · intro pins s1 σ H1 a J
      refine ⟨fun ce A' E' i v s2 m2 e1 e2 e3 hA hP hn hm hk => ⟨?_, fun _ => ?_⟩⟩
      · simp only [List.forIn_nil]
        exact wpAny_pure ⟨rfl, GxR.keeps_refl _⟩
      · obtain ⟨cc, u, hc, rfl⟩ := hP
        refine wpAny_Compare1 ?_
        refine wpAny_Name (wpAny_loadName_local (by rw [e1]) (show ce.scope.names.lookup _ = some .local by rw [e1]; rfl) hn hm ?_) (by decide)
        refine Calls.Name_function_global (by rw [e1]) (show ce.scope.names.lookup _ = some .globalImplicit by rw [e1]; rfl) ?_
        have G : s2.heap.Ns mainGlobals mg := by
          obtain ⟨oo, es, ep, go, r⟩ := J.mod.glob
          exact ⟨oo, es, ep, hk _ _ TB.gP (J.bk _ _ go), r⟩
        refine Calls.loadGlobal_global (by rw [e2]; exact G) mL ?_
        exact PyProof.Rows.in_str ⟨⟨cc, hc, congrArg Value.bool (PySem.StrLaws.found_one abc cc)⟩, GxR.keeps_refl _⟩
    · refine ⟨v, rfl, ?_⟩
      rcases h with ⟨z, rfl, hz, q⟩ | ⟨t, ty, kt, q⟩
      · refine ⟨_, _, _, _, true, rfl, .ty "str", .base (.str z), kit_ty (by decide +kernel), _, rfl, iteF ?_⟩
        refine ⟨_, rfl, z, rfl, hz, 1, _, rfl, rfl, _, rfl, ite2 (fun e1 => ?_) (fun e1 => ?_)⟩
        · refine ⟨_, 8, rfl, rfl, _, rfl, ite2 (fun e2 => ?_) (fun e2 => ?_)⟩
          · refine ⟨_, rfl, tg, z, rfl, fun H2 tb => ?_⟩
            have e3 := q H2 tb
            rw [nameB_in (of_decide_eq_true e1) (of_decide_eq_true e2)] at e3
            exact e3
          · have e3 := q H ⟨tg, fun _ _ => rfl⟩
            rw [nameB_long fun h => e2 (decide_eq_true h)] at e3
            exact e3
        · have e3 := q H ⟨tg, fun _ _ => rfl⟩
          rw [nameB_short fun h => e1 (decide_eq_true h)] at e3
          exact ⟨_, rfl, iteF e3⟩
      · exact ⟨_, _, _, _, false, rfl, .ty "str", ty, kit_ty kt, _, rfl, iteT q⟩
theorem ok_same {f : Addr} {fd : FuncData} (F : Fun K "_law_same" "_law_same" sSame f fd) : FnOk P w K mg base CX0 1 f fd ["_law_found", "_law_due"] spSame := by
  refine F.ok scSame (fun vs H Q E h => ?_) (fun cdv A outer s H vs Q E hr h => ?_)
  · obtain ⟨a, b, rfl, _⟩ := h
    rfl
  · obtain ⟨a, b, rfl, q⟩ := h
    refine ⟨_, pss_cons (ps_if (pt_val (pv 1)) (pss_one (ps_ret (pe_cmpR op_isBl (pv 0) pe_bl (nomark _)))) pss_nil) (pss_one (ps_ret (pe_cmpR op_isBl (pv 0) pe_bl (nomark _)))), ?_⟩
    refine ⟨_, rfl, b, rfl, ?_⟩
    cases b with
    | true => exact iteT ⟨_, rfl, a, true, rfl, rfl, q⟩
    | false => exact iteF ⟨_, rfl, a, false, rfl, rfl, q⟩
theorem ok_own {f : Addr} {fd : FuncData} (F : Fun K "_law_is_name" "_law_is_name" sOwn f fd) (ml : mg "len" = none) : FnOk P w K mg base CX0 1 f fd ["_law_thing"] spOwn := by
  refine F.ok scOwn (fun vs H Q E h => ?_) (fun cdv A outer s H vs Q E hr h => ?_)
  · obtain ⟨z, rfl, _⟩ := h
    rfl
  · obtain ⟨z, rfl, hz, q⟩ := h
    refine ⟨_, pss_cons (ps_if (PW.pt (pw_or (pt_cmpR op_eq (pe_callB call_len_str (by rfl) ml PySem.boot_len (pa_cons (pv 0) pa_nil)) pe_int (nomark _))
          (pw_or1 (pt_cmpR op_gt (pe_callB call_len_str (by rfl) ml PySem.boot_len (pa_cons (pv 0) pa_nil)) pe_int (nomark _))))) (pss_one (ps_ret pe_bl)) pss_nil)
      (pss_cons (ps_for PassesOwn.never rfl (pi_str (pv 0)) (pg_name (i := 1) scOwn.nd rfl (Or.inl rfl))
        (pss_one (ps_if (pt_cmpR op_notIn_sign (pv 1) pe_str (by rfl)) (pss_one (ps_ret pe_bl)) pss_nil)))
      (pss_one (ps_ret pe_bl))), ?_⟩
    refine ⟨_, rfl, z, rfl, hz, rfl, _, rfl, ite2 (fun e1 => ?_) (fun e1 => ?_)⟩
    · have e2 : (z.length : Int) = 0 := V.int.inj (of_decide_eq_true e1)
      rw [nameB_short (by omega)] at q
      exact iteT q
    · have e2 : ¬ (z.length : Int) = 0 := fun h => e1 (decide_eq_true (congrArg V.int h))
      refine ⟨_, rfl, z, rfl, hz, _, 8, rfl, rfl, _, rfl, ite2 (fun e3 => ?_) (fun e3 => ?_)⟩
      · have e4 : (8 : Int) < (z.length : Int) := of_decide_eq_true e3
        rw [nameB_long (by omega)] at q
        exact q
      · have e4 : ¬ (8 : Int) < (z.length : Int) := fun h => e3 (decide_eq_true h)
        rw [nameB_in (by omega) (by omega)] at q
        refine ⟨_, rfl, z, rfl, for_it walk_str (fun i σ H' => ∃ y, σ = [some (.str z), y] ∧ H' = H ∧ (z.cps.toList.take i).all signB = true) ⟨none, rfl, rfl, rfl⟩ (fun _ _ _ _ _ => True.intro) ?_ ?_⟩
        · rintro i v σ H1 H2 hi ⟨y, rfl, rfl, pre⟩ ⟨rfl, cc, hc, rfl⟩
          have hc' : z.cps.toList[i]? = some cc := by rw [Array.getElem?_toList]; exact hc
          refine ⟨_, rfl, cc, abc, rfl, rfl, _, rfl, ?_⟩
          cases e5 : signB cc with
          | true =>
            rw [show decide (cc ∈ abc.cps.toList) = true from e5]
            refine iteF ⟨_, rfl, rfl, ?_⟩
            rw [List.take_add_one, hc', List.all_append, pre]
            show (true && ([cc] : List Nat).all signB) = true
            rw [List.all_cons, e5]
            rfl
          | false =>
            rw [show decide (cc ∈ abc.cps.toList) = false from e5]
            have e6 : z.cps.toList.all signB = false := by
              cases e7 : z.cps.toList.all signB with
              | false => rfl
              | true =>
                have := List.all_eq_true.mp e7 cc (List.mem_of_getElem? hc')
                rw [e5] at this
                cases this
            rw [e6] at q
            exact iteT q
        · rintro σ H1 ⟨y, rfl, rfl, pre⟩
          have e6 : z.cps.toList.all signB = true := by
            rw [List.take_of_length_le (by simp)] at pre
            exact pre
          rw [e6] at q
          exact q
theorem at_ex {α : Type} {xs : List α} {r : Int} (h0 : 0 ≤ r) (h1 : r < (xs.length : Int)) : ∃ v, atI xs r = some v ∧ v ∈ xs := by
  have h : r.toNat < xs.length := by omega
  have e : ((r.toNat : Nat) : Int) = r := by omega
  have q := atI_nat (List.getElem?_eq_getElem h)
  rw [e] at q
  exact ⟨_, q, List.getElem_mem h⟩
theorem at_s {z : Str} {r : Int} (h0 : 0 ≤ r) (h1 : r < (z.length : Int)) : ∃ c, atI z.cps.toList r = some c ∧ c ∈ z.cps.toList := at_ex h0 (by rw [Array.length_toList]; exact h1)
end
theorem cut_len (z : Str) (lo hi : Option Int) : (cutS z lo hi).length ≤ z.length := by
  show (((z.cps.toList.drop _).take _).toArray).size ≤ z.cps.size
  simp only [List.size_toArray, List.length_take, List.length_drop, Array.length_toList]
  omega
theorem join_len (ys : List Str) : (Txt.join "" ys).length = (ys.map (·.length)).sum := by
  have h : ∀ l : List (List Nat), (TL.joinL [] l).length = (l.map List.length).sum := by
    intro l
    induction l with
    | nil => rfl
    | cons p r ih =>
      cases r with
      | nil => show p.length = ([p.length] : List Nat).sum; simp
      | cons q r => show (p ++ ([] ++ TL.joinL [] (q :: r))).length = _; rw [List.nil_append, List.length_append, ih]; rfl
  have e := congrArg List.length (TL.tl_join "" ys)
  rw [show TL.tl ("" : Str) = [] from rfl, h, List.map_map] at e
  rw [TL.join_eq]
  show (Str.join "" ys).cps.size = _
  rw [← Array.length_toList]
  exact e
section
variable {P : Program} {w : World} {K : PySem.W.Frag} {mg : Str → Option Value} {base : Heap}
theorem scBent : FnScope ["_law_pen_here", "_law_word", "_law_way", "_law_signs", "_law_sign", "_law_at"] ["_law_pen_here", "_law_word"] (defScope sBent) := ⟨rfl, rfl, rfl, by decide +kernel, rfl, by decide +kernel, by decide +kernel⟩
/-- the def _law_take, as its callers need it -/
structure TakeT (P : Program) (w : World) (K : PySem.W.Frag) (mg : Str → Option Value) (base : Heap) (f : Addr) (fd : FuncData) : Prop where
  ok : FnOk P w K mg base CX0 1 f fd ["_law_pen_here", "_law_many"] spTake
  g : mg "_law_take" = some (.ref f)
  kp : PySem.W.keepIn K (.ref f) = true
  b : Binds K fd ["_law_pen_here", "_law_many"] []
theorem small_sz {n : Nat} (h : n ≤ 1000) : n ≤ sizeLine := Nat.le_of_lt (small1000 h)
theorem ok_bent {f fT : Addr} {fd fdT : FuncData} (F : Fun K "_law_bent" "_law_bent" sBent f fd) (T : TakeT P w K mg base fT fdT) (ml : mg "len" = none) : FnOk P w K mg base CX0 2 f fd ["_law_pen_here", "_law_word"] spBent := by
  refine F.ok scBent (fun vs H Q E h => ?_) (fun cdv A outer s H vs Q E hr h => ?_)
  · obtain ⟨p, c, n, z, rfl, _⟩ := h
    rfl
  · obtain ⟨p, c, n, z, rfl, pen, hn, z1, z8, q⟩ := h
    have nd := scBent.nd
    refine ⟨_, pss_cons (ps_set (i := 2) nd rfl (Or.inl rfl) (pe_call T.ok hr (by rfl) T.g T.kp T.b .nil pass0 (pa_cons (pv 0) (pa_cons pe_int pa_nil))))
      (pss_cons (ps_set (i := 3) nd rfl (Or.inl rfl) pe_str)
      (pss_cons (ps_set (i := 4) nd rfl (Or.inl rfl) (pe_ix ix_str (pv 3) (pe_call T.ok hr (by rfl) T.g T.kp T.b .nil pass0 (pa_cons (pv 0) (pa_cons (pe_callB call_len_str (by rfl) ml PySem.boot_len (pa_cons (pv 3) pa_nil)) pa_nil))) (fun _ _ => rfl)))
      (pss_cons (ps_set (i := 5) nd rfl (Or.inl rfl) (pe_call T.ok hr (by rfl) T.g T.kp T.b .nil pass0 (pa_cons (pv 0) (pa_cons (pe_callB call_len_str (by rfl) ml PySem.boot_len (pa_cons (pv 1) pa_nil)) pa_nil))))
      (pss_one (ps_ret (pe_ix ix_list (pe_lst (pa_cons (pe_op op_add_str (pe_op op_add_str (pe_slice sl_str (pv 1) po_none (po_some (pv 5))) (pv 4)) (pe_slice sl_str (pv 1) (po_some (pe_op op_add (pv 5) pe_int)) po_none))
        (pa_cons (pe_op op_add_str (pe_op op_add_str (pe_slice sl_str (pv 1) po_none (po_some (pv 5))) (pv 4)) (pe_slice sl_str (pv 1) (po_some (pv 5)) po_none))
        (pa_cons (pe_op op_add_str (pe_slice sl_str (pv 1) po_none (po_some (pv 5))) (pe_slice sl_str (pv 1) (po_some (pe_op op_add (pv 5) pe_int)) po_none))
        (pa_cons (pe_op op_add_str (pv 1) (pv 4)) pa_nil))))) (pv 2) (fun _ _ => rfl))))))), ?_⟩
    refine ⟨_, rfl, p, c, n, 4, rfl, pen, by omega, by decide, by decide, fun r1 H1 a1 b1 pen1 bt1 => ?_⟩
    refine ⟨_, rfl, _, rfl, _, rfl, _, rfl, (by decide +kernel), p, c, n + 1, _, rfl, pen1, by omega, (by decide +kernel), (by decide +kernel), fun r2 H2 a2 b2 pen2 bt2 => ?_⟩
    obtain ⟨cc, hcc, _⟩ := at_s a2 b2
    refine ⟨_, r2, cc, rfl, rfl, (by decide +kernel), hcc, ?_⟩
    refine ⟨_, rfl, _, rfl, z, rfl, small_sz (by omega), p, c, n + 2, z.length, rfl, pen2, by omega, by omega, by omega, fun r3 H3 a3 b3 pen3 bt3 => ?_⟩
    have zl : z.length ≤ sizeLine := small_sz (by omega)
    have c1 := cut_len z none (some r3)
    have c2 := cut_len z (some (r3 + 1)) none
    have c3 := cut_len z (some r3) none
    have l1 : (⟨#[cc]⟩ : Str).length = 1 := rfl
    have sm : ∀ n : Nat, n ≤ 100 → n ≤ sizeLine := fun n h => small_sz (by omega)
    have ap : ∀ a b : Str, (a ++ b).length = a.length + b.length := Str.length_append
    have p1 : ∀ (a b : Str), a.length ≤ 8 → b.length ≤ 8 → (a ++ ⟨#[cc]⟩ ++ b : Str).length ≤ 100 := fun a b h1 h2 => by rw [ap, ap, l1]; omega
    refine ⟨_, rfl, _, rfl, r3, rfl, z, rfl, zl, _, rfl, _, ⟨#[cc]⟩, rfl, rfl, sm _ (by omega), _, rfl, _, rfl, r3, 1, rfl, rfl, _, rfl, z, rfl, zl, _, _, rfl, rfl, sm _ (by rw [ap]; omega), ?_⟩
    refine ⟨_, rfl, _, rfl, r3, rfl, z, rfl, zl, _, rfl, _, ⟨#[cc]⟩, rfl, rfl, sm _ (by omega), _, rfl, _, rfl, r3, rfl, z, rfl, zl, _, _, rfl, rfl, sm _ (by rw [ap]; omega), ?_⟩
    refine ⟨_, rfl, _, rfl, r3, rfl, z, rfl, zl, _, rfl, _, rfl, r3, 1, rfl, rfl, _, rfl, z, rfl, zl, _, _, rfl, rfl, sm _ (by omega), ?_⟩
    refine ⟨_, rfl, _, rfl, z, ⟨#[cc]⟩, rfl, rfl, sm _ (by omega), (by show 4 ≤ sizeLine; decide), fun l nl => ?_⟩
    have fin : ∀ y : Str, y.length ≤ 100 → Q (.str y) (upd H3 l (.lst [.str (cutS z none (some r3) ++ ⟨#[cc]⟩ ++ cutS z (some (r3 + 1)) none), .str (cutS z none (some r3) ++ ⟨#[cc]⟩ ++ cutS z (some r3) none), .str (cutS z none (some r3) ++ cutS z (some (r3 + 1)) none), .str (z ++ ⟨#[cc]⟩)])) := fun y hy =>
      q y _ hy (pen3.same (same_new nl)) ((bt1.tr (bt2.tr bt3)).tr (.of (same_new nl)))
    have w4 : r1 = 0 ∨ r1 = 1 ∨ r1 = 2 ∨ r1 = 3 := by omega
    rcases w4 with rfl | rfl | rfl | rfl
    · exact ⟨_, rfl, l, _, 0, _, rfl, rfl, SqL.of upd_same, atI_nat (j := 0) rfl, fin _ (p1 _ _ (by omega) (by omega))⟩
    · exact ⟨_, rfl, l, _, 1, _, rfl, rfl, SqL.of upd_same, atI_nat (j := 1) rfl, fin _ (p1 _ _ (by omega) (by omega))⟩
    · exact ⟨_, rfl, l, _, 2, _, rfl, rfl, SqL.of upd_same, atI_nat (j := 2) rfl, fin _ (by rw [ap]; omega)⟩
    · exact ⟨_, rfl, l, _, 3, _, rfl, rfl, SqL.of upd_same, atI_nat (j := 3) rfl, fin _ (by rw [ap, l1]; omega)⟩
end
theorem pen_tab {H H' : Hp} {p c T : Addr} {n : Nat} (pen : PenAt H p c n) (b : But p H H') (t : GxR.TabG H T) : GxR.TabG H' T := by
  obtain ⟨kvs, ns, a, l, g1, _⟩ := pen.ex
  obtain ⟨ps, e, ok⟩ := t
  exact ⟨ps, b T _ e (ne_of e g1 (by intro z; cases z)), ok⟩
theorem tab_same {H H' : Hp} {T : Addr} (b : Same H H') (t : GxR.TabG H T) : GxR.TabG H' T := by
  obtain ⟨ps, e, ok⟩ := t
  exact ⟨ps, b T _ e, ok⟩
theorem tab_pen {H H' : Hp} {p c T : Addr} {n : Nat} (pen : PenAt H p c n) (t : GxR.TabG H T) (b : GxR.Tabbed T H H') : PenAt H' p c n := by
  obtain ⟨kvs, ns, a, l, g1, g2, g3, g4, g5, g6, g7⟩ := pen.ex
  obtain ⟨ps, e, ok⟩ := t
  have n1 : p ≠ T := ne_of g1 e (by intro z; cases z)
  have n2 : c ≠ T := ne_of g6 e (by intro z; cases z)
  exact ⟨kvs, ns, a, l, (b.2 p n1).trans g1, g2, g3, g4, g5, (b.2 c n2).trans g6, g7⟩
theorem tabbed_tr {T : Addr} {H H1 H2 : Hp} (a : GxR.Tabbed T H H1) (b : GxR.Tabbed T H1 H2) : GxR.Tabbed T H H2 := ⟨b.1, fun c n => (b.2 c n).trans (a.2 c n)⟩
/-- things that are no names: None, truths, numbers, the text without signs, lists, tuples, dicts -/
def Odd (H : Hp) (v : V) : Prop := v = .non ∨ (∃ b, v = .bl b) ∨ (∃ i, v = .int i) ∨ v = .str "" ∨ ∃ a o, v = .ref a ∧ H a = some o ∧ ((∃ xs, o = .lst xs) ∨ (∃ xs, o = .tup xs) ∨ ∃ kvs, o = .dK kvs)
theorem Odd.same {H H' : Hp} {v : V} (o : Odd H v) (s : Same H H') : Odd H' v := by
  rcases o with h | h | h | h | ⟨a, o, h1, h2, h3⟩
  · exact .inl h
  · exact .inr (.inl h)
  · exact .inr (.inr (.inl h))
  · exact .inr (.inr (.inr (.inl h)))
  · exact .inr (.inr (.inr (.inr ⟨a, o, h1, s _ _ h2, h3⟩)))
theorem Odd.tab {H H' : Hp} {v : V} {T : Addr} (o : Odd H v) (t : GxR.TabG H T) (s : ∀ b, b ≠ T → H' b = H b) : Odd H' v := by
  rcases o with h | h | h | h | ⟨a, o, h1, h2, h3⟩
  · exact .inl h
  · exact .inr (.inl h)
  · exact .inr (.inr (.inl h))
  · exact .inr (.inr (.inr (.inl h)))
  · obtain ⟨ps, e, _⟩ := t
    have ne : a ≠ T := ne_of h2 e (by
      rintro rfl
      rcases h3 with ⟨_, z⟩ | ⟨_, z⟩ | ⟨_, z⟩ <;> cases z)
    exact .inr (.inr (.inr (.inr ⟨a, o, h1, (s a ne).trans h2, h3⟩)))
theorem odd_new {H : Hp} {a : Addr} {o : HO} (h : H a = some o) (k : (∃ xs, o = .lst xs) ∨ (∃ xs, o = .tup xs) ∨ ∃ kvs, o = .dK kvs) : Odd H (.ref a) := .inr (.inr (.inr (.inr ⟨a, o, rfl, h, k⟩)))
theorem sum_ones : ∀ {ys : List Str}, (∀ y ∈ ys, y.length = 1) → (ys.map (·.length)).sum = ys.length
  | [], _ => rfl
  | y :: r, h => by
    rw [List.map_cons, List.sum_cons, List.length_cons, sum_ones fun z hz => h z (List.mem_cons_of_mem _ hz), h y List.mem_cons_self]
    omega
theorem same_new2 {H : Hp} {p : Addr} {o u : HO} (h : H p = none) : Same H (upd (upd H p o) p u) := fun b x e => (upd_ne (ne_of_none e h)).trans ((upd_ne (ne_of_none e h)).trans e)
theorem yesT {σ : L2.St} {H : Hp} {A B : Hp → Prop} (h : A H) : tYes σ H fun b H3 => if b = true then A H3 else B H3 := iteT (A := A H) (B := B H) h
def spLaw (K : PySem.W.Frag) (T : Addr) : Sp := fun vs H Q _ => ∃ (a : Addr) (ns : List Int), vs = [.ref a] ∧ SqL K H a (ns.map V.int) ∧ GxR.TabG H T ∧ ∀ H', Q (.bl true) H'
abbrev lawN : List Str := ["_law_script", "_law_pen_here", "_law_turn", "_law_size", "_law_word", "_law_thing", "_law_k"]
section
variable {P : Program} {w : World} {K : PySem.W.Frag} {mg : Str → Option Value} {base : Heap}
theorem scLaw : FnScope lawN ["_law_script"] (defScope sLaw) := ⟨rfl, rfl, rfl, by decide +kernel, rfl, by decide +kernel, by decide +kernel⟩
theorem ok_law {f T : Addr} {fd : FuncData} (F : Fun K "law" "law" sLaw f fd)
    {fP fT fB fS fN fO : Addr} {dP dT dB dS dN dO : FuncData}
    (GP : FnOk P w K mg base CX0 1 fP dP ["_law_script"] (spPen K)) (mP : mg "_law_pen" = some (.ref fP)) (kP : PySem.W.keepIn K (.ref fP) = true) (bP : Binds K dP ["_law_script"] [])
    (TT : TakeT P w K mg base fT dT)
    (GB : FnOk P w K mg base CX0 2 fB dB ["_law_pen_here", "_law_word"] spBent) (mB : mg "_law_bent" = some (.ref fB)) (kB : PySem.W.keepIn K (.ref fB) = true) (bB : Binds K dB ["_law_pen_here", "_law_word"] [])
    (GS : FnOk P w K mg base CX0 1 fS dS ["_law_found", "_law_due"] spSame) (mS : mg "_law_same" = some (.ref fS)) (kS : PySem.W.keepIn K (.ref fS) = true) (bS : Binds K dS ["_law_found", "_law_due"] [])
    (GN : FnOk P w K mg base CX0 1 fN dN ["thing"] (spName K T)) (mN : mg "is_name" = some (.ref fN)) (kN : PySem.W.keepIn K (.ref fN) = true) (bN : Binds K dN ["thing"] [])
    (GO : FnOk P w K mg base CX0 1 fO dO ["_law_thing"] spOwn) (mO : mg "_law_is_name" = some (.ref fO)) (kO : PySem.W.keepIn K (.ref fO) = true) (bO : Binds K dO ["_law_thing"] [])
    (mr : mg "range" = none) : FnOk P w K mg base CX0 3 f fd ["_law_script"] (spLaw K T) := by
  refine F.ok scLaw (fun vs H Q E h => ?_) (fun cdv A outer s H vs Q E hr h => ?_)
  · obtain ⟨a, ns, rfl, _⟩ := h
    rfl
  · obtain ⟨a, ns, rfl, hS, tg, q⟩ := h
    have nd := scLaw.nd
    have hr1 : Room 1 _ := hr.mono (by decide)
    refine ⟨_, pss_cons (ps_set (i := 1) nd rfl (Or.inr rfl) (pe_call GP hr1 (by rfl) mP kP bP .nil pass0 (pa_cons (pv 0) pa_nil)))
      (pss_cons (ps_for PassesOwn.never rfl (pi_range1 rfl mr (pa_cons pe_int pa_nil)) (pg_name (i := 2) nd rfl (Or.inl rfl))
        (pss_cons (ps_set (i := 3) nd rfl (Or.inl rfl) (pe_ix ix_list (pe_lst (pa_cons pe_int (pa_cons pe_int (pa_cons (pe_op op_add pe_int (pe_call TT.ok hr1 (by rfl) TT.g TT.kp TT.b .nil pass0 (pa_cons (pv 1) (pa_cons pe_int pa_nil)))) pa_nil))))
          (pe_call TT.ok hr1 (by rfl) TT.g TT.kp TT.b .nil pass0 (pa_cons (pv 1) (pa_cons pe_int pa_nil))) (fun _ _ => rfl)))
        (pss_cons (ps_set (i := 4) nd rfl (Or.inl rfl) (pe_join pe_str (pe_lc (own := [("_law_k", 6)]) (g := gName 6) (tt := tYes) rfl nd (pi_range1 rfl mr (pa_cons (pv 3) pa_nil)) (blkOk_by (N := lawN) (sc := defScope sLaw) (by decide +kernel))
          (fun _ _ _ _ _ => pg_name (i := 6) nd rfl (Or.inl rfl)) (fun _ _ _ _ _ => pts_nil)
          (fun _ _ _ _ _ => pe_ix ix_str pe_str (pe_call TT.ok hr1 (by rfl) TT.g TT.kp TT.b .nil pass0 (pa_cons (pv 1) (pa_cons pe_int pa_nil))) (fun _ _ => rfl)))))
        (pss_one (ps_for PassesOwn.never rfl (pi_tup (pe_tup (pa_cons (pv 4)
            (pa_cons (pe_call GB hr (by rfl) mB kB bB .nil pass0 (pa_cons (pv 1) (pa_cons (pv 4) pa_nil))) (pa_cons (pe_call GB hr (by rfl) mB kB bB .nil pass0 (pa_cons (pv 1) (pa_cons (pv 4) pa_nil)))
            (pa_cons (pe_op op_add_str (pv 4) (pv 4)) (pa_cons (pe_upper (pv 4)) (pa_cons (pv 4) pa_nil)))))))) (pg_name (i := 5) nd rfl (Or.inl rfl))
          (pss_one (ps_if (pt_not (pt_val (pe_call GS hr1 (by rfl) mS kS bS .nil pass0 (pa_cons (pe_call GN hr1 (by rfl) mN kN bN .nil pass0 (pa_cons (pv 5) pa_nil)) (pa_cons (pe_call GO hr1 (by rfl) mO kO bO .nil pass0 (pa_cons (pv 5) pa_nil)) pa_nil)))))
            (pss_one (ps_ret pe_bl)) pss_nil)))))))
      (pss_cons (ps_for PassesOwn.never rfl (pi_tup (pe_tup (pa_cons pe_non (pa_cons pe_bl (pa_cons pe_bl (pa_cons pe_int (pa_cons pe_int (pa_cons (pe_un un_neg pe_int)
            (pa_cons (pe_tup pa_nil) (pa_cons (pe_lst pa_nil) (pa_cons pe_dnewK (pa_cons pe_str (pa_cons (pe_tup (pa_cons pe_str pa_nil)) (pa_cons (pe_lst (pa_cons pe_str pa_nil))
            (pa_cons (pe_disp (pps_cons pe_str pe_int pps_nil) (by rfl) (by rfl) (fun z => by cases z) (by decide)) (pa_cons (pe_tup (pa_cons pe_str (pa_cons pe_str pa_nil))) (pa_cons (pe_lst (pa_cons (pe_lst (pa_cons pe_str pa_nil)) pa_nil)) pa_nil)))))))))))))))))
          (pg_name (i := 5) nd rfl (Or.inl rfl))
          (pss_one (ps_if (pt_cmpR op_notBl (pe_call GN hr1 (by rfl) mN kN bN .nil pass0 (pa_cons (pv 5) pa_nil)) pe_bl (nomark _)) (pss_one (ps_ret pe_bl)) pss_nil)))
      (pss_one (ps_ret pe_bl)))), ?_⟩
    refine ⟨_, rfl, a, ns, rfl, hS, fun p c H1 np nc pen s1 => ?_⟩
    refine ⟨12, rfl, by decide, by decide, for_range (lo := 0) (n := 12) (fun i σ H' => ∃ y2 y3 y4 y5, σ = [some (.ref a), some (.ref p), y2, y3, y4, y5, none] ∧ PenAt H' p c (20 * i) ∧ GxR.TabG H' T)
      ⟨none, none, none, none, rfl, pen, tab_same s1 tg⟩ ?_ ?_⟩
    · rintro i σ H2 hi ⟨y2, y3, y4, y5, rfl, pen2, tg2⟩
      -- the size
      refine ⟨_, rfl, p, c, 20 * i, 8, rfl, pen2, by omega, by decide, by decide, fun r1 H3 a1 b1 pen3 bt3 => ?_⟩
      have tg3 := pen_tab pen2 bt3 tg2
      refine ⟨1, r1, rfl, rfl, (by show 3 ≤ sizeLine; decide), fun l nl => ?_⟩
      have s4 := @same_new _ _ (.lst [V.int 1, .int 8, .int (1 + r1)]) nl
      have pen4 := pen3.same s4
      have npl : l ≠ p := fun z => pen3.there (z ▸ nl)
      refine ⟨_, rfl, p, c, 20 * i + 1, 3, rfl, pen4, by omega, by decide, by decide, fun r2 H5 a2 b2 pen5 bt5 => ?_⟩
      have tg5 := pen_tab pen4 bt5 (tab_same s4 tg3)
      have hl : H5 l = some (.lst [V.int 1, .int 8, .int (1 + r1)]) := bt5 l _ upd_same npl
      obtain ⟨v, hv, mv⟩ := at_ex (xs := [V.int 1, .int 8, .int (1 + r1)]) a2 b2
      obtain ⟨k, rfl, k1, k8⟩ : ∃ k : Int, v = .int k ∧ 1 ≤ k ∧ k ≤ 8 := by
        simp only [List.mem_cons, List.not_mem_nil, or_false] at mv
        rcases mv with rfl | rfl | rfl
        · exact ⟨1, rfl, by decide, by decide⟩
        · exact ⟨8, rfl, by decide, by decide⟩
        · exact ⟨_, rfl, by omega, by omega⟩
      refine ⟨l, _, r2, _, rfl, rfl, SqL.of hl, hv, ?_⟩
      -- the word
      refine ⟨⟨_, rfl⟩, _, rfl, k, rfl, by omega, by omega, fun D nD => ?_⟩
      refine lc_range (lo := 0) (n := k.toNat) (fun j H' => PenAt H' p c (20 * i + 2 + j) ∧ GxR.TabG H' T ∧ ∃ ys : List Str, H' D = some (.lst (ys.map V.str)) ∧ ys.length = j ∧ ∀ y ∈ ys, y.length = 1) ⟨pen5.same (same_new nD), tab_same (same_new nD) tg5, [], upd_same, rfl, fun y hy => nomatch hy⟩ ?_ ?_
      · rintro j H6 hj ⟨pen6, tg6, ys, hD6, ly, one⟩
        refine ⟨rfl, yesT ?_⟩
        refine ⟨_, rfl, p, c, _, 26, rfl, pen6, by omega, by decide, by decide, fun r H7 a7 b7 pen7 bt7 => ?_⟩
        obtain ⟨cc, hcc, _⟩ := at_s (z := abc) a7 b7
        have nDp : D ≠ p := fun z => pen5.there (z ▸ nD)
        have nDc : D ≠ c := fun z => pen5.cells (z ▸ nD)
        have hD7 := bt7 D _ hD6 nDp
        refine ⟨abc, r, cc, rfl, rfl, (by decide +kernel), hcc, _, hD7, (by rw [List.length_map]; exact small1000 (by omega)), pen7.upd nDp nDc, ?_, ys ++ [⟨#[cc]⟩], ?_, by simp [ly], ?_⟩
        · obtain ⟨ps, e, ok⟩ := pen_tab pen6 bt7 tg6
          exact ⟨ps, (upd_ne (ne_of e hD7 (by intro z; cases z))).trans e, ok⟩
        · rw [upd_same, List.map_append]
          rfl
        · intro y hy
          rcases List.mem_append.mp hy with h | h
          · exact one y h
          · rw [List.mem_singleton.mp h]
            rfl
      · rintro H6 ⟨pen6, tg6, ys, hD6, ly, one⟩
        have sum1 : (ys.map (·.length)).sum = ys.length := sum_ones one
        have zl : (Txt.join "" ys).length = ys.length := (join_len ys).trans sum1
        have z1 : 1 ≤ (Txt.join "" ys).length := by omega
        have z8 : (Txt.join "" ys).length ≤ 8 := by omega
        refine ⟨"", D, ys, rfl, rfl, .inl (SqL.of hD6), (by rw [sum1]; show ys.length + ys.length * 0 ≤ 16777216; omega), ?_⟩
        generalize Txt.join "" ys = z at z1 z8
        have pen6' := pen6.mono (show 20 * i + 2 + k.toNat ≤ 20 * i + 10 by omega)
        have zz : z.length + z.length ≤ sizeLine := small_sz (by omega)
        refine ⟨_, rfl, _, rfl, _, rfl, p, c, _, z, rfl, pen6', by omega, z1, z8, fun w1 H7 l7 pen7 bt7 => ?_⟩
        refine ⟨_, rfl, _, rfl, p, c, _, z, rfl, pen7, by omega, z1, z8, fun w2 H8 l8 pen8 bt8 => ?_⟩
        have tg8 := pen_tab pen7 bt8 (pen_tab pen6' bt7 tg6)
        refine ⟨_, rfl, _, rfl, z, z, rfl, rfl, zz, _, rfl, ⟨_, rfl⟩, z, rfl, rfl, by omega, _, rfl, (by show 6 ≤ sizeLine; decide), fun tp ntp => ?_⟩
        have s9 := @same_new _ _ (.tup [.str z, .str w1, .str w2, .str (z ++ z), .str (Txt.upper z), .str z]) ntp
        refine ⟨tp, rfl, ⟨_, SqT.of upd_same⟩, for_tup (K := K) (a := tp) (xs := [z, w1, w2, z ++ z, Txt.upper z, z].map V.str)
          (fun j σ H' => ∃ y5, σ = [some (.ref a), some (.ref p), some (.int (0 + i)), some (.int k), some (.str z), y5, none] ∧ PenAt H' p c (20 * i + 16) ∧ GxR.TabG H' T ∧ H' tp = some (.tup ([z, w1, w2, z ++ z, Txt.upper z, z].map V.str)))
          ⟨_, rfl, pen8.same s9, tab_same s9 tg8, upd_same⟩ (fun j σ H' _ ⟨_, _, _, _, h⟩ => SqT.of h) ?_ ?_⟩
        · rintro j x σ H9 hx ⟨y5, rfl, pen9, tg9, ht⟩
          obtain ⟨y, rfl, ly⟩ : ∃ y : Str, x = .str y ∧ y.length ≤ 1000 := by
            have hm := List.mem_of_getElem? hx
            obtain ⟨y, hy, rfl⟩ := List.mem_map.mp hm
            refine ⟨y, rfl, ?_⟩
            have l1 : (z ++ z).length = z.length + z.length := Str.length_append z z
            have l2 := len_upper z
            simp only [List.mem_cons, List.not_mem_nil, or_false] at hy
            rcases hy with rfl | rfl | rfl | rfl | rfl | rfl <;> omega
          refine ⟨_, rfl, _, rfl, tg9, .inl ⟨y, rfl, small_sz ly, fun H10 tb => ?_⟩⟩
          refine ⟨_, rfl, y, rfl, small_sz ly, nameB y, nameB y, rfl, true, congrArg V.bl (decide_eq_true rfl), iteF ?_⟩
          obtain ⟨ps, e, ok⟩ := id tg9
          exact ⟨_, rfl, tab_pen pen9 tg9 tb, tb.1, (tb.2 tp (ne_of ht e (by intro z; cases z))).trans ht⟩
        · rintro σ H9 ⟨y5, rfl, pen9, tg9, ht⟩
          exact ⟨_, _, _, _, rfl, pen9.mono (by omega), tg9⟩
    · rintro σ H2 ⟨y2, y3, y4, y5, rfl, pen2, tg2⟩
      refine ⟨1, rfl, Nat.zero_le _, fun p1 n1 => ⟨Nat.zero_le _, fun p2 n2 p3 n3 => ⟨(by show 1 ≤ sizeLine; decide), fun p4 n4 => ⟨(by show 1 ≤ sizeLine; decide), fun p5 n5 p6 n6 => ?_⟩⟩⟩⟩
      refine ⟨upd_same, [(Sum.inr "a", .int 1)], rfl, (by show 1 ≤ 15; decide), (by show 2 ≤ sizeLine; decide), fun p7 n7 => ⟨(by show 1 ≤ sizeLine; decide), fun p8 n8 => ⟨(by show 1 ≤ sizeLine; decide), fun p9 n9 => ⟨(by show 15 ≤ sizeLine; decide), fun tp ntp => ?_⟩⟩⟩⟩
      have t1 := @same_new _ _ (.tup []) n1
      have t2 := @same_new _ _ (.lst []) n2
      have t3 := @same_new _ _ (.dK []) n3
      have t4 := @same_new _ _ (.tup [V.str "a"]) n4
      have t5 := @same_new _ _ (.lst [V.str "a"]) n5
      have t6 := @same_new2 _ _ (.dK []) (.dK (mergeK [] [(Sum.inr "a", .int 1)])) n6
      have t7 := @same_new _ _ (.tup [V.str "a", .str "b"]) n7
      have t8 := @same_new _ _ (.lst [V.str "a"]) n8
      have t9 := @same_new _ _ (.lst [V.ref p8]) n9
      have t10 := @same_new _ _ (.tup [V.non, .bl true, .bl false, .int 0, .int 7, .int (-1), .ref p1, .ref p2, .ref p3, .str "", .ref p4, .ref p5, .ref p6, .ref p7, .ref p9]) ntp
      have u9 := t9.trans t10
      have u8 := t8.trans u9
      have u7 := t7.trans u8
      have u6 := t6.trans u7
      have u5 := t5.trans u6
      have u4 := t4.trans u5
      have u3 := t3.trans u4
      have u2 := t2.trans u3
      have u1 := t1.trans u2
      refine ⟨tp, rfl, ⟨_, SqT.of upd_same⟩, for_tup (K := K) (a := tp) (xs := [V.non, .bl true, .bl false, .int 0, .int 7, .int (-1), .ref p1, .ref p2, .ref p3, .str "", .ref p4, .ref p5, .ref p6, .ref p7, .ref p9])
        (fun j σ H' => ∃ y, σ = [some (.ref a), some (.ref p), y2, y3, y4, y, none] ∧ GxR.TabG H' T ∧ H' tp = some (.tup [V.non, .bl true, .bl false, .int 0, .int 7, .int (-1), .ref p1, .ref p2, .ref p3, .str "", .ref p4, .ref p5, .ref p6, .ref p7, .ref p9]) ∧
          ∀ x ∈ [V.non, .bl true, .bl false, .int 0, .int 7, .int (-1), .ref p1, .ref p2, .ref p3, .str "", .ref p4, .ref p5, .ref p6, .ref p7, .ref p9], Odd H' x)
        ⟨_, rfl, tab_same u1 tg2, upd_same, fun x hx => ?_⟩ (fun j σ H' _ ⟨_, _, _, h, _⟩ => SqT.of h) ?_ ?_⟩
      · simp only [List.mem_cons, List.not_mem_nil, or_false] at hx
        rcases hx with rfl | rfl | rfl | rfl | rfl | rfl | rfl | rfl | rfl | rfl | rfl | rfl | rfl | rfl | rfl
        · exact .inl rfl
        · exact .inr (.inl ⟨_, rfl⟩)
        · exact .inr (.inl ⟨_, rfl⟩)
        · exact .inr (.inr (.inl ⟨_, rfl⟩))
        · exact .inr (.inr (.inl ⟨_, rfl⟩))
        · exact .inr (.inr (.inl ⟨_, rfl⟩))
        · exact (odd_new (H := upd _ p1 _) upd_same (.inr (.inl ⟨_, rfl⟩))).same u2
        · exact (odd_new (H := upd _ p2 _) upd_same (.inl ⟨_, rfl⟩)).same u3
        · exact (odd_new (H := upd _ p3 _) upd_same (.inr (.inr ⟨_, rfl⟩))).same u4
        · exact .inr (.inr (.inr (.inl rfl)))
        · exact (odd_new (H := upd _ p4 _) upd_same (.inr (.inl ⟨_, rfl⟩))).same u5
        · exact (odd_new (H := upd _ p5 _) upd_same (.inl ⟨_, rfl⟩)).same u6
        · exact (odd_new (H := upd _ p6 _) upd_same (.inr (.inr ⟨_, rfl⟩))).same u7
        · exact (odd_new (H := upd _ p7 _) upd_same (.inr (.inl ⟨_, rfl⟩))).same u8
        · exact (odd_new (H := upd _ p9 _) upd_same (.inl ⟨_, rfl⟩)).same t10
      · rintro j x σ H9 hx ⟨y, rfl, tg9, ht, od⟩
        have oz : ∀ (H' : Hp), GxR.Tabbed T H9 H' → ∃ y, [some (V.ref a), some (V.ref p), y2, y3, y4, some x, none] = [some (V.ref a), some (.ref p), y2, y3, y4, y, none] ∧ GxR.TabG H' T ∧ H' tp = some (.tup [V.non, .bl true, .bl false, .int 0, .int 7, .int (-1), .ref p1, .ref p2, .ref p3, .str "", .ref p4, .ref p5, .ref p6, .ref p7, .ref p9]) ∧
            ∀ x ∈ [V.non, .bl true, .bl false, .int 0, .int 7, .int (-1), .ref p1, .ref p2, .ref p3, .str "", .ref p4, .ref p5, .ref p6, .ref p7, .ref p9], Odd H' x := fun H' tb => by
          obtain ⟨ps, e, ok⟩ := id tg9
          exact ⟨_, rfl, tb.1, (tb.2 tp (ne_of ht e (by intro z; cases z))).trans ht, fun z hz => (od z hz).tab tg9 tb.2⟩
        have oz0 := oz H9 ⟨tg9, fun _ _ => rfl⟩
        refine ⟨_, rfl, x, rfl, tg9, ?_⟩
        rcases od x (List.mem_of_getElem? hx) with rfl | ⟨b, rfl⟩ | ⟨z, rfl⟩ | rfl | ⟨ad, o, rfl, ho, ⟨xs, rfl⟩ | ⟨xs, rfl⟩ | ⟨kvs, rfl⟩⟩
        · exact .inr ⟨_, .base .non, by decide +kernel, false, false, rfl, rfl, _, rfl, iteNS rfl oz0⟩
        · exact .inr ⟨_, .base (.bl b), by decide +kernel, false, false, rfl, rfl, _, rfl, iteNS rfl oz0⟩
        · exact .inr ⟨_, .base (.int z), by decide +kernel, false, false, rfl, rfl, _, rfl, iteNS rfl oz0⟩
        · exact .inl ⟨_, rfl, Nat.zero_le _, fun H' tb => ⟨false, false, rfl, rfl, _, rfl, iteNS rfl (oz H' tb)⟩⟩
        · exact .inr ⟨_, .base (.lst ho), by decide +kernel, false, false, rfl, rfl, _, rfl, iteNS rfl oz0⟩
        · exact .inr ⟨_, .base (.tup ho), by decide +kernel, false, false, rfl, rfl, _, rfl, iteNS rfl oz0⟩
        · exact .inr ⟨_, .base (.dK ho), by decide +kernel, false, false, rfl, rfl, _, rfl, iteNS rfl oz0⟩
      · rintro σ H9 ⟨y, rfl, tg9, ht, od⟩
        exact q H9
end
/-! ### the law's end, with the top's facts -/
theorem end_T {l : PySem.W.OpenLaw} {n k : Nat} {q : Program} {loose : List Str} {XP : (Str → Option Value) → Heap → Prop} {YP : World → Heap → Prop} {d : PySem.DefRec} {K : Params → PySem.W.Frag} {CX : World → CXT} {x : Str}
    (hn : l.most = some n) (hn2 : n ≤ sizeLine) (hdf : d.params.defaults = []) (hr : Room k callerA)
    (hY : ∀ (w : World) (h : Heap), YP w h → (K w.params).In h)
    (F : ∀ (w : World) (s0 : Shared) (mg mb : Str → Option Value) (fa : Addr) (h : Heap), PySem.W.Ground q loose [] XP w s0 mg mb h → (K w.params).In h → mg d.name = some (.ref fa) → LamX.LawAtS l w (K w.params) (CX w) k n x mg fa h)
    (hCX : ∀ (w : World) (H : Hp) (s : Shared) (e : Value) (s' : Shared), CX w [] H s (fun _ _ _ => False) e s' → False) :
    PySem.W.WalkO q loose XP YP l.row.toRowW d [] (fun f vs => PySem.call f vs) := by
  refine Att.attach_callB hn hdf fun w s0 s1 mg mb fa o pm cd doc a vs ns G Y ho hd hcd hmg hobj hints hlen hbits hg => ?_
  have KX := hY w _ Y
  obtain ⟨fd, cs, sp, hT, nT, C, hb, hsp, hF⟩ := F w s0 mg mb fa _ G KX hmg
  exact LamX.law_callTs KX G.T.g G.T.b G.T.builtins G.T.nolimit hg hT nT C G.T.bmain hobj hints (Nat.le_trans hlen hn2) hr hF hb (fun H hH hS => hsp H a ns hlen hbits hH hS) fun H e s' => hCX w H s1 e s'
theorem tab_is {K : PySem.W.Frag} {x : Str} {f c T : Addr} {oc occ : Value} {od odc : Option Addr} {sl slc : Array (Option Value)} {fd : FuncData} {vs : Array Value}
    (a : PySem.W.nsIn K mainGlobals x = some (some (.ref f))) (l : K.lookup f = some ⟨oc, od, .func fd, sl⟩) (hc : fd.code = .ref c) (lc : K.lookup c = some ⟨occ, odc, .fields vs, slc⟩) (hv : (vs[11]? : Option Value) = some (.ref T)) :
    PySem.W.tabIn K x = some (c, T) := by
  unfold PySem.W.tabIn
  simp only [a, l, hc, lc, hv]
theorem all_mk {l : PySem.W.OpenLaw} {q : Program} {loose : List Str} {XP : (Str → Option Value) → Heap → Prop} {w : World} {s0 : Shared} {K : PySem.W.Frag} {h : Heap} {mg mb : Str → Option Value} {fa f1 f2 f3 f4 f5 f6 f7 cN T : Addr} {dN : PySem.DefRec}
    (G : PySem.W.Ground q loose [] XP w s0 mg mb h) (X : K.In h) (hfa : mg "law" = some (.ref fa))
    {od1 an1 od2 an2 od3 an3 od4 an4 od5 an5 od6 an6 od7 an7 : Option Addr} {sl1 sl2 sl3 sl4 sl5 sl6 sl7 : Array (Option Value)}
    {oc1 kV1 dc1 pm1 cd1 ct1 oc2 kV2 dc2 pm2 cd2 ct2 oc3 kV3 dc3 pm3 ct3 oc4 kV4 dc4 pm4 cd4 ct4 oc5 kV5 dc5 pm5 cd5 ct5 oc6 kV6 dc6 pm6 cd6 ct6 oc7 kV7 dc7 pm7 cd7 ct7 : Value} {tL tN : Tok}
    (a1 : PySem.W.nsIn K mainGlobals "_law_pen" = some (some (.ref f1))) (l1 : K.lookup f1 = some ⟨oc1, od1, .func (PySem.W.fnOf "_law_pen" "_law_pen" (defArgs sPen) (defBody sPen) (defScope sPen) .none kV1 dc1 pm1 an1 cd1 ct1), sl1⟩) (c1 : PySem.W.codeIn K cd1 "_law_pen" = true) (k1 : PySem.W.keepIn K (.ref f1) = true)
    (a2 : PySem.W.nsIn K mainGlobals "_law_take" = some (some (.ref f2))) (l2 : K.lookup f2 = some ⟨oc2, od2, .func (PySem.W.fnOf "_law_take" "_law_take" (defArgs sTake) (defBody sTake) (defScope sTake) .none kV2 dc2 pm2 an2 cd2 ct2), sl2⟩) (c2 : PySem.W.codeIn K cd2 "_law_take" = true) (k2 : PySem.W.keepIn K (.ref f2) = true)
    (a3 : PySem.W.nsIn K mainGlobals "is_name" = some (some (.ref f3))) (l3 : K.lookup f3 = some ⟨oc3, od3, .func (PySem.W.fnOf "is_name" "is_name" (defArgs sName) (defBody sName) (defScope sName) .none kV3 dc3 pm3 an3 (.ref cN) ct3), sl3⟩) (c3 : PySem.W.codeIn K (.ref cN) "is_name" = true) (k3 : PySem.W.keepIn K (.ref f3) = true)
    {occ : Value} {odc : Option Addr} {vsc : Array Value} {slc : Array (Option Value)} (lc : K.lookup cN = some ⟨occ, odc, .fields vsc, slc⟩) (hv : (vsc[11]? : Option Value) = some (.ref T)) (nT : K.lookup T = none) (r3 : (PyProof.Rows.recsOf q).find? (fun e => e.name == ("is_name" : Str)) = some dN)
    (a4 : PySem.W.nsIn K mainGlobals "_law_same" = some (some (.ref f4))) (l4 : K.lookup f4 = some ⟨oc4, od4, .func (PySem.W.fnOf "_law_same" "_law_same" (defArgs sSame) (defBody sSame) (defScope sSame) .none kV4 dc4 pm4 an4 cd4 ct4), sl4⟩) (c4 : PySem.W.codeIn K cd4 "_law_same" = true) (k4 : PySem.W.keepIn K (.ref f4) = true)
    (a5 : PySem.W.nsIn K mainGlobals "_law_is_name" = some (some (.ref f5))) (l5 : K.lookup f5 = some ⟨oc5, od5, .func (PySem.W.fnOf "_law_is_name" "_law_is_name" (defArgs sOwn) (defBody sOwn) (defScope sOwn) .none kV5 dc5 pm5 an5 cd5 ct5), sl5⟩) (c5 : PySem.W.codeIn K cd5 "_law_is_name" = true) (k5 : PySem.W.keepIn K (.ref f5) = true)
    (a6 : PySem.W.nsIn K mainGlobals "_law_bent" = some (some (.ref f6))) (l6 : K.lookup f6 = some ⟨oc6, od6, .func (PySem.W.fnOf "_law_bent" "_law_bent" (defArgs sBent) (defBody sBent) (defScope sBent) .none kV6 dc6 pm6 an6 cd6 ct6), sl6⟩) (c6 : PySem.W.codeIn K cd6 "_law_bent" = true) (k6 : PySem.W.keepIn K (.ref f6) = true)
    (a7 : PySem.W.nsIn K mainGlobals "law" = some (some (.ref f7))) (l7 : K.lookup f7 = some ⟨oc7, od7, .func (PySem.W.fnOf "law" "law" (defArgs sLaw) (defBody sLaw) (defScope sLaw) .none kV7 dc7 pm7 an7 cd7 ct7), sl7⟩) (c7 : PySem.W.codeIn K cd7 "law" = true) (k7 : PySem.W.keepIn K (.ref f7) = true)
    (zL : PySem.W.nsIn K mainGlobals "LETTERS" = some (some (.str abc tL))) (zN : PySem.W.nsIn K mainGlobals "LONGEST_NAME" = some (some (.int 8 tN)))
    (z1 : PySem.W.nsIn K mainGlobals "len" = some none) (z2 : PySem.W.nsIn K mainGlobals "abs" = some none) (z3 : PySem.W.nsIn K mainGlobals "list" = some none) (z4 : PySem.W.nsIn K mainGlobals "range" = some none)
    (z5 : PySem.W.nsIn K mainGlobals "isinstance" = some none) (z6 : PySem.W.nsIn K mainGlobals "str" = some none) (z7 : PySem.W.nsIn K mainGlobals "all" = some none) :
    LamX.LawAtS l w K CX0 3 63 "_law_script" mg fa h := by
  have Gg := G.T.g
  have e := hfa.symm.trans (PySem.W.mg_of X Gg a7)
  cases e
  have n1 := PySem.W.mg_none_of X Gg z1
  have n2 := PySem.W.mg_none_of X Gg z2
  have F1 := fun_mk (st := sPen) l1 c1 k1
  have F2 := fun_mk (st := sTake) l2 c2 k2
  have F3 := fun_mk (st := sName) l3 c3 k3
  have F4 := fun_mk (st := sSame) l4 c4 k4
  have F5 := fun_mk (st := sOwn) l5 c5 k5
  have F6 := fun_mk (st := sBent) l6 c6 k6
  have F7 := fun_mk (st := sLaw) l7 c7 k7
  have b1 := F1.binds (ps := ["_law_script"]) fun _ _ _ _ _ _ us hl => match us, hl with | [_], _ => rfl
  have b2 := F2.binds (ps := ["_law_pen_here", "_law_many"]) fun _ _ _ _ _ _ us hl => match us, hl with | [_, _], _ => rfl
  have b3 := F3.binds (ps := ["thing"]) fun _ _ _ _ _ _ us hl => match us, hl with | [_], _ => rfl
  have b4 := F4.binds (ps := ["_law_found", "_law_due"]) fun _ _ _ _ _ _ us hl => match us, hl with | [_, _], _ => rfl
  have b5 := F5.binds (ps := ["_law_thing"]) fun _ _ _ _ _ _ us hl => match us, hl with | [_], _ => rfl
  have b6 := F6.binds (ps := ["_law_pen_here", "_law_word"]) fun _ _ _ _ _ _ us hl => match us, hl with | [_, _], _ => rfl
  have t3 := tab_is a3 l3 rfl lc hv
  obtain ⟨hd3, tb3⟩ := PySem.W.tab_of G.T X r3 t3
  refine ⟨PySem.W.fnOf "law" "law" (defArgs sLaw) (defBody sLaw) (defScope sLaw) .none kV7 dc7 pm7 an7 cd7 ct7, [(cN, T)], spLaw K T, fun p hp => ?_, fun p hp => ?_, fun p hp => ?_, fun s v => .of_eq rfl, fun H a ns _ _ hT hS => ?_, fun base _ _ TB => ?_⟩
  · rw [List.mem_singleton.mp hp]
    exact tb3
  · rw [List.mem_singleton.mp hp]
    exact nT
  · rw [List.mem_singleton.mp hp]
    exact hd3
  · exact ⟨a, ns, rfl, hS, ⟨#[], hT (cN, T) (List.mem_singleton.mpr rfl), trivial⟩, fun _ => rfl⟩
  · have tb := TB (cN, T) (List.mem_singleton.mpr rfl)
    have TT : TakeT l.prog w K mg base f2 _ := ⟨ok_take F2 n1 n2, PySem.W.mg_of X Gg a2, k2, b2⟩
    exact ok_law F7 (ok_pen F1 (PySem.W.mg_none_of X Gg z3)) (PySem.W.mg_of X Gg a1) k1 b1 TT (ok_bent F6 TT n1) (PySem.W.mg_of X Gg a6) k6 b6 (ok_same F4) (PySem.W.mg_of X Gg a4) k4 b4
      (ok_name l3 c3 ⟨tb.code, tb.bm, tb.gP⟩ (PySem.W.mg_none_of X Gg z5) (PySem.W.mg_none_of X Gg z6) n1 (PySem.W.mg_none_of X Gg z7) ⟨_, PySem.W.mg_of X Gg zL⟩ ⟨_, PySem.W.mg_of X Gg zN⟩) (PySem.W.mg_of X Gg a3) k3 b3
      (ok_own F5 n1) (PySem.W.mg_of X Gg a5) k5 b5 (PySem.W.mg_none_of X Gg z4)
end Shelf
open PySem PySem.W PyProof.Rows
set_option maxHeartbeats 0 in
theorem PySem.Challenge.cw_shelfcounts_k01_names_known_holds : PySem.Challenge.rw_shelfcounts_k01_names_known.Holds := by
  w_on; o_law; k_head; (case hw => w_witness2)
  k_fill
  refine Shelf.end_T (l := PySem.Challenge.rw_shelfcounts_k01_names_known) (n := 63) (k := 3) (x := "_law_script") (CX := fun _ => L2.CX0) rfl (by decide) rfl ⟨rfl, by decide, by decide⟩ (fun w h Y => PySem.W.kIn_of Y) ?F (fun _ _ _ _ _ h => h)
  case F =>
    intro w s0 mg mb fa h G KX hmg
    refine' Shelf.all_mk G KX hmg ?a1 ?l1 ?c1 ?k1 ?a2 ?l2 ?c2 ?k2 ?a3 ?l3 ?c3 ?k3 ?lc ?hv ?nT ?r3 ?a4 ?l4 ?c4 ?k4 ?a5 ?l5 ?c5 ?k5 ?a6 ?l6 ?c6 ?k6 ?a7 ?l7 ?c7 ?k7 ?zL ?zN ?z1 ?z2 ?z3 ?z4 ?z5 ?z6 ?z7
    (case a1 => k_is); (case l1 => k_is); (case c1 => k_is); (case k1 => k_is); (case a2 => k_is); (case l2 => k_is); (case c2 => k_is); (case k2 => k_is)
    (case a3 => k_is); (case l3 => k_is); (case c3 => k_is); (case k3 => k_is); (case lc => k_is); (case hv => rfl); (case nT => kernel_rfl); (case r3 => rfl)
    (case a4 => k_is); (case l4 => k_is); (case c4 => k_is); (case k4 => k_is); (case a5 => k_is); (case l5 => k_is); (case c5 => k_is); (case k5 => k_is)
    (case a6 => k_is); (case l6 => k_is); (case c6 => k_is); (case k6 => k_is); (case a7 => k_is); (case l7 => k_is); (case c7 => k_is); (case k7 => k_is)
    (case zL => k_is); (case zN => k_is); (case z1 => k_is); (case z2 => k_is); (case z3 => k_is); (case z4 => k_is); (case z5 => k_is); (case z6 => k_is); (case z7 => k_is)

import PyProof.Rows.All
import Wide.All
import OpenK.AllK
import Wide.FinOn
import HandS.ForMost
import HandS.AnyAll
import HandS.IsInst
import HandS.Style
import HandS.EndTab
import HandS.Codes
import HandS.GenOver
import HandS.Strs
import HandS.Zip
import HandS.Walk
import HandS.More
import KE.KEqSeq
import HandS.SortKw
import HandS.Keys
import HandS.ExcValue
import HandS.ExcIs
import HandS.ForExc
import HandS.Lambda
import HandS.TupAny
import HandS.DictComp
import KE.SortKeyHeap
import KE.KRevSl
import PyProof.DictUpdate
import PyProof.DictDisplay
import PyProof.DictValues
import HandS.SetTxt0
import HandS.Set
import KE.KDictList
import PyProof.MeetsDict
import PySem.Challenge.RW_shelfcounts_k53_what_is_none_is_refused
import HandS.Conv
import HandS.Text
set_option Elab.async false
set_option linter.all false
set_option maxRecDepth 100000
namespace Shelf
open PySem PySem.Spec PyProof.Rows L2
def topS (i : Nat) : Stmt := PySem.Challenge.pw_shelfcounts_k53_what_is_none_is_refused.main.body.getD i (.Pass ⟨0, 0, 0, 0⟩)
abbrev sName : Stmt := topS 3
abbrev sWhole : Stmt := topS 4
abbrev sIsEntry : Stmt := topS 10
abbrev sFits : Stmt := topS 11
abbrev sIsEntryOf : Stmt := topS 12
abbrev sDay : Stmt := topS 13
abbrev sGood : Stmt := topS 14
abbrev sPlacesOf : Stmt := topS 15
abbrev sOrd : Stmt := topS 16
abbrev sWithMoment : Stmt := topS 17
abbrev sHouseOf : Stmt := topS 41
abbrev sRising : Stmt := topS 42
abbrev sOwnEnts : Stmt := topS 43
abbrev sInOrder : Stmt := topS 44
abbrev sStart : Stmt := topS 51
abbrev sStanding : Stmt := topS 52
abbrev sEntered : Stmt := topS 53
abbrev sToStand : Stmt := topS 54
abbrev sIsClosed : Stmt := topS 55
abbrev sInClosed : Stmt := topS 56
abbrev sAllowed : Stmt := topS 57
abbrev sTakenBack : Stmt := topS 58
abbrev sClosedBy : Stmt := topS 59
abbrev sIsDay : Stmt := topS 60
abbrev sPen : Stmt := topS 62
abbrev sDraw : Stmt := topS 63
abbrev sWords : Stmt := topS 64
abbrev sLName : Stmt := topS 65
abbrev sLStand : Stmt := topS 66
abbrev sMoment : Stmt := topS 67
abbrev sMany : Stmt := topS 68
abbrev sEntry : Stmt := topS 69
abbrev sSame : Stmt := topS 70
abbrev sOwn : Stmt := topS 71
abbrev sLStanding : Stmt := topS 72
abbrev sAsked : Stmt := topS 73
abbrev sLClosedOnes : Stmt := topS 74
abbrev sLMomFor : Stmt := topS 75
abbrev sLDone : Stmt := topS 76
abbrev sLDeed : Stmt := topS 77
abbrev sLState : Stmt := topS 78
abbrev sLModel : Stmt := topS 79
abbrev sToldBy : Stmt := topS 80
abbrev sOddN : Stmt := topS 81
abbrev sOddP : Stmt := topS 82
abbrev sOddE : Stmt := topS 83
abbrev sBegun : Stmt := topS 84
abbrev sDays : Stmt := topS 85
abbrev sLaw : Stmt := topS 86
/-! ### what all builders share -/
theorem same_new {H : Hp} {p : Addr} {o : HO} (h : H p = none) : Same H (upd H p o) := fun b x e => (upd_ne (ne_of_none e h)).trans e
/-- all but the object at p is as it was -/
def But (p : Addr) (H H' : Hp) : Prop := ∀ b o, H b = some o → b ≠ p → H' b = some o
theorem But.refl (p : Addr) (H : Hp) : But p H H := fun _ _ e _ => e
theorem But.of {p : Addr} {H H' : Hp} (h : Same H H') : But p H H' := fun b o e _ => h b o e
theorem But.tr {p : Addr} {H H1 H2 : Hp} (a : But p H H1) (b : But p H1 H2) : But p H H2 := fun c o e n => b c o (a c o e n) n
theorem But.to {p : Addr} {H H1 : Hp} (a : But p H H1) {l : Addr} {o : HO} (h : H l = none) (n : H p ≠ none) : But p H (upd H1 l o) := fun c u e nc => (upd_ne (ne_of_none e h)).trans (a c u e nc)
theorem dp_ints {K : PySem.W.Frag} {H : Hp} : ∀ ns : List Int, DpAll K H (ns.map V.int) (ns.map PyData.int)
  | [] => .nil
  | n :: r => .cons (.int n) (dp_ints r)
theorem mem_cut {α : Type} {xs : List α} {lo hi : Nat} : ∀ x ∈ (xs.drop lo).take hi, x ∈ xs := fun x h => List.mem_of_mem_drop (List.mem_of_mem_take h)
theorem cut_ints (ns : List Int) (lo hi : Option Int) : ∃ ms : List Int, cutV (ns.map V.int) lo hi = ms.map V.int := by
  unfold cutV
  rw [← List.map_drop, ← List.map_take]
  exact ⟨_, rfl⟩
abbrev sc (l : List Nat) : Str := ⟨l.toArray⟩
theorem sc_list (z : Str) : sc z.cps.toList = z := rfl
theorem sc_len (l : List Nat) : (sc l).length = l.length := by
  show l.toArray.size = l.length
  simp
theorem sc_app (a b : List Nat) : (sc a ++ sc b : Str) = sc (a ++ b) := by
  have h : TL.tl (sc a ++ sc b) = TL.tl (sc (a ++ b)) := by
    rw [TL.tl_append]
  have h2 := congrArg sc h
  exact h2
theorem sc_take (l : List Nat) {k : Nat} (hk : k ≤ l.length) : cutS (sc l) none (some (k : Int)) = sc (l.take k) := by
  unfold cutS
  rw [HT.sIx_none, HT.sIx_nat, sc_len, Nat.min_eq_left hk]
  show sc ((l.toArray.toList.drop 0).take (k - 0)) = sc (l.take k)
  simp
theorem sc_drop (l : List Nat) {k : Nat} (hk : k ≤ l.length) : cutS (sc l) (some (k : Int)) none = sc (l.drop k) := by
  unfold cutS
  rw [HT.sIx_none, HT.sIx_nat, sc_len, Nat.min_eq_left hk]
  show sc ((l.toArray.toList.drop k).take (l.length - k)) = sc (l.drop k)
  rw [List.take_of_length_le (by simp)]
theorem sc_join (ls : List (List Nat)) : Txt.join "" (ls.map sc) = sc ls.flatten := by
  have h : ∀ l : List (List Nat), TL.joinL [] l = l.flatten := by
    intro l
    induction l with
    | nil => rfl
    | cons p r ih =>
      cases r with
      | nil => show p = [p].flatten; simp
      | cons q r => show p ++ ([] ++ TL.joinL [] (q :: r)) = _; rw [List.nil_append, ih]; rfl
  have e := TL.tl_join "" (ls.map sc)
  rw [show TL.tl ("" : Str) = [] from rfl, h, List.map_map] at e
  rw [TL.join_eq]
  have e2 : ls.map (TL.tl ∘ sc) = ls := by
    have : (TL.tl ∘ sc) = id := funext fun l => by show l.toArray.toList = l; simp
    rw [this, List.map_id]
  rw [e2] at e
  exact congrArg sc e
abbrev abc : Str := "abcdefghijklmnopqrstuvwxyz"
def Lc (i : Nat) : Nat := abc.cps.toList.getD i 0
theorem abc_len : abc.cps.toList.length = 26 := by decide +kernel
theorem at_abc {r : Int} (h0 : 0 ≤ r) (h1 : r < 26) : atI abc.cps.toList r = some (Lc r.toNat) := by
  have h : r.toNat < abc.cps.toList.length := by rw [abc_len]; omega
  have e : ((r.toNat : Nat) : Int) = r := by omega
  have q := atI_nat (List.getElem?_eq_getElem h)
  rw [e] at q
  rw [q, Lc, List.getD_eq_getElem?_getD, List.getElem?_eq_getElem h]
  rfl
theorem Lc_in {i : Nat} (h : i < 26) : Lc i ∈ abc.cps.toList := by
  rw [Lc, List.getD_eq_getElem?_getD, List.getElem?_eq_getElem (by rw [abc_len]; exact h)]
  exact List.getElem_mem _
/-! ### the names that a law draws -/
theorem flat_one : ∀ B : List Nat, (B.map fun c => [c]).flatten = B
  | [] => rfl
  | b :: r => by rw [List.map_cons, List.flatten_cons, flat_one r]; rfl
theorem sum_one : ∀ B : List Nat, (((B.map fun c => [c]).map sc).map (·.length)).sum = B.length
  | [] => rfl
  | b :: r => by
    rw [List.map_cons, List.map_cons, List.map_cons, List.sum_cons, sum_one r, List.length_cons, sc_len]
    exact Nat.add_comm _ _
theorem yesT {σ : L2.St} {H : Hp} {A B : Hp → Prop} (h : A H) : tYes σ H fun b H3 => if b = true then A H3 else B H3 := iteT (A := A H) (B := B H) h
theorem small_sz {n : Nat} (h : n ≤ 1000) : n ≤ sizeLine := Nat.le_of_lt (small1000 h)
theorem at_ex {α : Type} {xs : List α} {r : Int} (h0 : 0 ≤ r) (h1 : r < (xs.length : Int)) : ∃ v, atI xs r = some v ∧ v ∈ xs := by
  have h : r.toNat < xs.length := by omega
  have e : ((r.toNat : Nat) : Int) = r := by omega
  have q := atI_nat (List.getElem?_eq_getElem h)
  rw [e] at q
  exact ⟨_, q, List.getElem_mem h⟩
structure DefT (P : Program) (w : World) (K : PySem.W.Frag) (mg : Str → Option Value) (base : Heap) (x : Str) (k : Nat) (f : Addr) (fd : FuncData) (ps : List Str) (sp : Sp) : Prop where
  ok : FnOk P w K mg base CX0 k f fd ps sp
  g : mg x = some (.ref f)
  kp : PySem.W.keepIn K (.ref f) = true
  b : Binds K fd ps []
inductive Ent where
  | come (nm : Str) (mo : Int) (g pl : Str) (many price : Int)
  | go (nm : Str) (mo : Int) (g pl : Str) (many : Int)
  | move (nm : Str) (mo : Int) (g one other : Str) (many : Int)
  | some_ (nm : Str) (mo : Int) (g one other : Str)
  | swap (nm : Str) (mo : Int) (one other : Str)
  | count (nm : Str) (mo : Int) (g pl : Str) (many : Int) (hand : Str)
  | look (nm : Str) (mo : Int) (g pl : Str)
namespace Ent
def word : Ent → Str
  | come .. => "come" | go .. => "go" | move .. => "move" | some_ .. => "some" | swap .. => "swap" | count .. => "count" | look .. => "look"
def name : Ent → Str
  | come n .. => n | go n .. => n | move n .. => n | some_ n .. => n | swap n .. => n | count n .. => n | look n .. => n
def moment : Ent → Int
  | come _ m .. => m | go _ m .. => m | move _ m .. => m | some_ _ m .. => m | swap _ m .. => m | count _ m .. => m | look _ m .. => m
def rest : Ent → List V
  | come _ _ g p m r => [.str g, .str p, .int m, .int r]
  | go _ _ g p m => [.str g, .str p, .int m]
  | move _ _ g o t m => [.str g, .str o, .str t, .int m]
  | some_ _ _ g o t => [.str g, .str o, .str t]
  | swap _ _ o t => [.str o, .str t]
  | count _ _ g p m h => [.str g, .str p, .int m, .str h]
  | look _ _ g p => [.str g, .str p]
def vals (e : Ent) : List V := .str e.word :: .str e.name :: .int e.moment :: e.rest
/-- its parts are drawn from these places, goods and hands -/
def From (PL GL HL : List Str) : Ent → Prop
  | come _ _ g p m r => g ∈ GL ∧ p ∈ PL ∧ 1 ≤ m ∧ m ≤ 1000000000 ∧ 0 ≤ r ∧ r ≤ 1000000000
  | go _ _ g p m => g ∈ GL ∧ p ∈ PL ∧ 1 ≤ m ∧ m ≤ 1000000000
  | move _ _ g o t m => g ∈ GL ∧ o ∈ PL ∧ t ∈ PL ∧ (PL.Nodup → o ≠ t) ∧ 1 ≤ m ∧ m ≤ 1000000000
  | some_ _ _ g o t => g ∈ GL ∧ o ∈ PL ∧ (t = "" ∨ (t ∈ PL ∧ (PL.Nodup → o ≠ t)))
  | swap _ _ o t => o ∈ PL ∧ t ∈ PL ∧ (PL.Nodup → o ≠ t)
  | count _ _ g p m h => g ∈ GL ∧ p ∈ PL ∧ 0 ≤ m ∧ m ≤ 1000000000 ∧ h ∈ HL
  | look _ _ g p => g ∈ GL ∧ p ∈ PL
end Ent
def words7 : List Str := ["come", "go", "move", "some", "swap", "count", "look"]
abbrev words10 : List Str := ["come", "go", "move", "some", "swap", "count", "look", "count", "swap", "move"]
theorem Ent.word_in (e : Ent) : e.word ∈ words7 := by
  cases e <;> simp [Ent.word, words7]
abbrev StrsAt (H : Hp) (l : Addr) (ys : List Str) : Prop := H l = some (.lst (ys.map V.str))
theorem But.free {H H' : Hp} {p l : Addr} (b : But p H H') (h : H' l = none) (hp : H' p ≠ none) : H l = none := by
  cases e : H l with
  | none => rfl
  | some o =>
    have nl : l ≠ p := fun z => hp (z ▸ h)
    rw [b l o e nl] at h
    cases h
theorem at_strs {ys : List Str} {r : Int} (h0 : 0 ≤ r) (h1 : r < (ys.length : Int)) : ∃ y, atI (ys.map V.str) r = some (.str y) ∧ ys[r.toNat]? = some y ∧ y ∈ ys := by
  have h : r.toNat < ys.length := by omega
  have e : ((r.toNat : Nat) : Int) = r := by omega
  have q := atI_nat (xs := ys.map V.str) (j := r.toNat) (v := .str ys[r.toNat]) (by rw [List.getElem?_map, List.getElem?_eq_getElem h]; rfl)
  rw [e] at q
  exact ⟨_, q, List.getElem?_eq_getElem h, List.getElem_mem h⟩
theorem cut_take {xs : List V} {k : Nat} : cutV xs none (some (k : Int)) = xs.take k := by
  unfold cutV
  rw [HT.sIx_none, HT.sIx_nat]
  show (xs.drop 0).take (min k xs.length - 0) = xs.take k
  rw [List.drop_zero, Nat.sub_zero]
  by_cases h : k ≤ xs.length
  · rw [Nat.min_eq_left h]
  · rw [Nat.min_eq_right (by omega), List.take_length, List.take_of_length_le (by omega)]
theorem at_ints {ns : List Int} {r : Int} (h0 : 0 ≤ r) (h1 : r < (ns.length : Int)) : ∃ y, atI (ns.map V.int) r = some (.int y) ∧ y ∈ ns := by
  have h : r.toNat < ns.length := by omega
  have e : ((r.toNat : Nat) : Int) = r := by omega
  have q := atI_nat (xs := ns.map V.int) (j := r.toNat) (v := .int ns[r.toNat]) (by rw [List.getElem?_map, List.getElem?_eq_getElem h]; rfl)
  rw [e] at q
  exact ⟨_, q, List.getElem_mem h⟩
/-! ### the pen, a list -/
structure PenAt (H : Hp) (p c : Addr) (n : Nat) : Prop where
  ex : ∃ (ns : List Int) (a l : Int), H p = some (.lst [.ref c, .int a, .int l]) ∧ H c = some (.lst (ns.map V.int)) ∧ 0 ≤ a ∧ a ≤ n ∧ 0 ≤ l
theorem PenAt.same {H H' : Hp} {p c : Addr} {n : Nat} (P : PenAt H p c n) (h : Same H H') : PenAt H' p c n := by
  obtain ⟨ns, a, l, h1, h2, r⟩ := P.ex
  exact ⟨ns, a, l, h _ _ h1, h _ _ h2, r⟩
theorem PenAt.there {H : Hp} {p c : Addr} {n : Nat} (P : PenAt H p c n) : H p ≠ none := by
  obtain ⟨ns, a, l, h1, _⟩ := P.ex
  rw [h1]
  exact fun z => nomatch z
theorem PenAt.cells {H : Hp} {p c : Addr} {n : Nat} (P : PenAt H p c n) : H c ≠ none := by
  obtain ⟨ns, a, l, _, h1, _⟩ := P.ex
  rw [h1]
  exact fun z => nomatch z
theorem PenAt.upd {H : Hp} {p c l : Addr} {n : Nat} {o : HO} (P : PenAt H p c n) (h1 : l ≠ p) (h2 : l ≠ c) : PenAt (L2.upd H l o) p c n := by
  obtain ⟨ns, a, x, g1, g2, r⟩ := P.ex
  exact ⟨ns, a, x, (upd_ne h1.symm).trans g1, (upd_ne h2.symm).trans g2, r⟩
theorem PenAt.mono {H : Hp} {p c : Addr} {n m : Nat} (P : PenAt H p c n) (h : n ≤ m) : PenAt H p c m := by
  obtain ⟨ns, a, l, g1, g2, g3, g4, g5⟩ := P.ex
  exact ⟨ns, a, l, g1, g2, g3, by omega, g5⟩
theorem PenAt.tup {H : Hp} {p c b : Addr} {n : Nat} {xs : List V} (P : PenAt H p c n) (h : H b = some (.tup xs)) : b ≠ p := by
  obtain ⟨ns, a, l, g1, _⟩ := P.ex
  exact ne_of h g1 (by intro z; cases z)
theorem PenAt.strs {H : Hp} {p c b : Addr} {n : Nat} {ys : List Str} (P : PenAt H p c n) (h : H b = some (.lst (ys.map V.str))) : b ≠ p := by
  obtain ⟨ns, a, l, g1, _⟩ := P.ex
  refine ne_of h g1 fun z => ?_
  cases ys with
  | nil => cases z
  | cons y r => cases z
theorem PenAt.refs {H : Hp} {p c b : Addr} {n : Nat} {as : List Addr} (P : PenAt H p c n) (h : H b = some (.lst (as.map V.ref))) : b ≠ p := by
  obtain ⟨ns, a, l, g1, _⟩ := P.ex
  refine ne_of h g1 fun z => ?_
  cases as with
  | nil => cases z
  | cons y r =>
    cases r with
    | nil => cases z
    | cons y2 r2 => cases z
def spPen (K : PySem.W.Frag) : Sp := fun vs H Q _ => ∃ (a : Addr) (ns : List Int), vs = [.ref a] ∧ SqL K H a (ns.map V.int) ∧
  ∀ (p c : Addr) (H' : Hp), H p = none → H c = none → PenAt H' p c 0 → Same H H' → Q (.ref p) H'
def spDraw : Sp := fun vs H Q _ => ∃ (p c : Addr) (n : Nat) (m : Int), vs = [.ref p, .int m] ∧ PenAt H p c n ∧ n ≤ 100000 ∧ 1 ≤ m ∧ m ≤ 1000000000 ∧
  ∀ (r : Int) (H' : Hp), 0 ≤ r → r < m → PenAt H' p c (n + 1) → But p H H' → Q (.int r) H'
section
variable {P : Program} {w : World} {K : PySem.W.Frag} {mg : Str → Option Value} {base : Heap}
abbrev sPenN : List Str := ["_law_script"]
theorem sc_sPen : FnScope sPenN ["_law_script"] (defScope sPen) := ⟨rfl, rfl, rfl, by decide +kernel, rfl, by decide +kernel, by decide +kernel⟩
theorem ok_pen {f : Addr} {fd : FuncData} (F : Fun K "_law_pen" "_law_pen" sPen f fd) (mli : mg "list" = none) : FnOk P w K mg base CX0 1 f fd ["_law_script"] (spPen K) := by
  refine F.ok sc_sPen (fun vs H Q E h => ?_) (fun cdv A outer s H vs Q E hr h => ?_)
  · obtain ⟨a, ns, rfl, _⟩ := h
    rfl
  · obtain ⟨a, ns, rfl, hS, q⟩ := h
    have nd := sc_sPen.nd
    refine ⟨_, pss_one (ps_ret (pe_lst (pa_cons (pe_callTy call_list_of (by rfl) mli (by decide +kernel) (pa_cons (pe_slice sl_list (pv 0) po_none (po_some pe_int)) pa_nil)) (pa_cons pe_int (pa_cons pe_int pa_nil))))), ?_⟩
    refine ⟨_, rfl, 63, rfl, a, _, rfl, hS, fun t nt => ?_⟩
    have s1 := @same_new _ _ (.lst (cutV (ns.map V.int) none (some 63))) nt
    refine ⟨t, _, rfl, .inl (SqL.of upd_same), fun c nc => ?_⟩
    have s2 := @same_new _ _ (.lst (cutV (ns.map V.int) none (some 63))) nc
    obtain ⟨ms, em⟩ := cut_ints ns none (some 63)
    refine ⟨(by show 3 ≤ sizeLine; decide), fun p np => ?_⟩
    have s3 := @same_new _ _ (.lst [V.ref c, .int 0, .int 0]) np
    exact q p c _ (s1.free (s2.free np)) (s1.free nc) ⟨ms, 0, 0, upd_same, s3 _ _ (by rw [upd_same, em]), Int.le_refl _, Int.le_refl _, Int.le_refl _⟩ (s1.trans (s2.trans s3))
abbrev sDrawN : List Str := ["_law_pen_here", "_law_many_here", "_law_digit", "_law_at", "_law_cell", "_law_number"]
theorem sc_sDraw : FnScope sDrawN ["_law_pen_here", "_law_many_here"] (defScope sDraw) := ⟨rfl, rfl, rfl, by decide +kernel, rfl, by decide +kernel, by decide +kernel⟩
set_option maxHeartbeats 1000000 in
theorem ok_draw {f : Addr} {fd : FuncData} (F : Fun K "_law_draw" "_law_draw" sDraw f fd) (ml : mg "len" = none) (ma : mg "abs" = none) : FnOk P w K mg base CX0 1 f fd ["_law_pen_here", "_law_many_here"] spDraw := by
  refine F.ok sc_sDraw (fun vs H Q E h => ?_) (fun cdv A outer s H vs Q E hr h => ?_)
  · obtain ⟨p, c, n, m, rfl, _⟩ := h
    rfl
  · obtain ⟨p, c, n, m, rfl, pen, hn, m1, m2, q⟩ := h
    have nd := sc_sDraw.nd
    have nd := sc_sDraw.nd
    refine ⟨_, pss_cons (ps_if (pt_cmpR op_gt (pe_ix ix_list (pv 0) pe_int (fun _ _ => rfl)) pe_int (nomark _)) (pss_cons (ps_set (i := 2) nd rfl (Or.inl rfl) (pe_op op_mod (pe_ix ix_list (pv 0) pe_int (fun _ _ => rfl)) (pv 1)))
        (pss_cons (ps_asg (pe_op op_fdiv (pe_ix ix_list (pv 0) pe_int (fun _ _ => rfl)) (pv 1)) (pg_sub (pv 0) pe_int set_list))
        (pss_one (ps_ret (pv 2))))) pss_nil)
      (pss_cons (ps_set (i := 3) nd rfl (Or.inl rfl) (pe_ix ix_list (pv 0) pe_int (fun _ _ => rfl)))
      (pss_cons (ps_asg (pe_op op_add (pv 3) pe_int) (pg_sub (pv 0) pe_int set_list))
      (pss_cons (ps_set (i := 4) nd rfl (Or.inl rfl) (pe_op op_add (pe_op op_add (pe_op op_mul (pe_op op_mul pe_int (pv 3)) (pv 3)) (pe_op op_mul pe_int (pv 3))) pe_int))
      (C8.pss_cut (ps_if (pt_cmpR op_gt (pe_callB call_len_seq (by rfl) ml PySem.boot_len (pa_cons (pe_ix ix_list (pv 0) pe_int (fun _ _ => rfl)) pa_nil)) pe_int (nomark _)) (pss_cons (ps_set (i := 4) nd rfl (Or.inl rfl) (pe_ix ix_list (pe_ix ix_list (pv 0) pe_int (fun _ _ => rfl)) (pe_op op_mod (pv 3) (pe_callB call_len_seq (by rfl) ml PySem.boot_len (pa_cons (pe_ix ix_list (pv 0) pe_int (fun _ _ => rfl)) pa_nil))) (fun _ _ => rfl)))
        (pss_one (ps_if (PW.pt (pw_and (pt_cmpR op_lt (pv 3) (pe_callB call_len_seq (by rfl) ml PySem.boot_len (pa_cons (pe_ix ix_list (pv 0) pe_int (fun _ _ => rfl)) pa_nil)) (nomark _)) (pw_and1 (pt_cmpR op_ge (pe_callB call_abs (by rfl) ma (by decide +kernel) (pa_cons (pv 4) pa_nil)) (pe_op op_pow pe_int pe_int) (nomark _))))) (pss_cons (ps_asg (pe_op op_fdiv (pe_callB call_abs (by rfl) ma (by decide +kernel) (pa_cons (pv 4) pa_nil)) (pv 1)) (pg_sub (pv 0) pe_int set_list))
          (pss_one (ps_ret (pe_op op_mod (pe_callB call_abs (by rfl) ma (by decide +kernel) (pa_cons (pv 4) pa_nil)) (pv 1))))) pss_nil))) pss_nil)
      (pss_cons (ps_set (i := 5) nd rfl (Or.inl rfl) (pe_op op_mod (pe_op op_add (pe_op op_pow (pe_op op_add (pe_op op_add (pe_op op_mod (pv 4) pe_int) (pe_op op_mul pe_int (pv 3))) pe_int) pe_int) (pe_op op_mul pe_int (pv 3))) pe_int))
      (pss_cons (ps_set (i := 5) nd rfl (Or.inl rfl) (pe_op op_mod (pe_op op_pow (pe_op op_add (pe_op op_mul (pv 5) (pe_op op_add (pe_op op_add (pe_op op_mod (pv 5) pe_int) (pe_op op_mul pe_int (pv 3))) pe_int)) pe_int) pe_int) pe_int))
      (pss_one (ps_ret (pe_op op_mod (pe_op op_fdiv (pv 5) pe_int) (pv 1)))))))))), ?_⟩
    obtain ⟨ns, a, l, g1, g2, g3, g4, g5⟩ := pen.ex
    have npc : p ≠ c := ne_of g1 g2 fun z => by
      cases ns with
      | nil => cases z
      | cons y r => cases z
    have ix : ∀ (xs : List V), xs.length = 3 → ∀ j : Nat, j < 3 → ixN xs.length (j : Int) = some j := fun xs h j hj => by
      rw [h]
      have : j = 0 ∨ j = 1 ∨ j = 2 := by omega
      rcases this with rfl | rfl | rfl <;> decide
    refine ⟨_, rfl, p, _, 2, _, rfl, rfl, SqL.of g1, atI_nat (j := 2) rfl, l, 0, rfl, rfl, _, rfl, ite2 (fun e => ?_) (fun e => ?_)⟩
    · have e' : 0 < l := of_decide_eq_true e
      refine ⟨_, rfl, p, _, 2, _, rfl, rfl, SqL.of g1, atI_nat (j := 2) rfl, _, rfl, l, m, rfl, rfl, (by show (0 : Int) < m; omega), ?_⟩
      refine ⟨_, rfl, p, _, 2, _, rfl, rfl, SqL.of g1, atI_nat (j := 2) rfl, _, rfl, l, m, rfl, rfl, ⟨by omega, by omega⟩, _, rfl, p, _, 2, 2, rfl, rfl, g1, ix _ rfl 2 (by decide), _, rfl, ?_⟩
      exact q _ _ (Int.emod_nonneg _ (by omega)) (Int.emod_lt_of_pos _ (by omega)) ⟨ns, a, l / m, upd_same, (upd_ne npc.symm).trans g2, g3, by omega, Int.ediv_nonneg (by omega) (by omega)⟩ fun b o z nb => (upd_ne nb).trans z
    · refine ⟨_, rfl, p, _, 1, _, rfl, rfl, SqL.of g1, atI_nat (j := 1) rfl, ?_⟩
      refine ⟨_, rfl, a, 1, rfl, rfl, _, rfl, p, _, 1, 1, rfl, rfl, g1, ix _ rfl 1 (by decide), ?_⟩
      have k1 : (upd H p (.lst [V.ref c, .int (a + 1), .int l])) p = some (.lst [V.ref c, .int (a + 1), .int l]) := upd_same
      have k2 : (upd H p (.lst [V.ref c, .int (a + 1), .int l])) c = some (.lst (ns.map V.int)) := (upd_ne npc.symm).trans g2
      have bt : But p H (upd H p (.lst [V.ref c, .int (a + 1), .int l])) := fun b o z nb => (upd_ne nb).trans z
      show tSeq _ _ _ _ (upd H p (.lst [V.ref c, .int (a + 1), .int l]))
      generalize upd H p (.lst [V.ref c, .int (a + 1), .int l]) = H1 at k1 k2 bt
      refine ⟨_, rfl, 70001, a, rfl, rfl, .inl ⟨by decide, by decide⟩, _, rfl, _, a, rfl, rfl, .inr ⟨by omega, by omega⟩, _, rfl, 523, a, rfl, rfl, .inl ⟨by decide, by decide⟩, _, _, rfl, rfl, _, 41, rfl, rfl, ?_⟩
      refine ⟨fun σ' H' => ∃ x : Int, σ' = [some (.ref p), some (.int m), none, some (.int a), some (.int x), none] ∧ H' = H1, ?_, ?_⟩
      · refine ⟨_, rfl, p, _, 0, _, rfl, rfl, SqL.of k1, atI_nat (j := 0) rfl, c, _, rfl, .inl (SqL.of k2), _, 0, rfl, rfl, _, rfl, ite2 (fun e2 => ?_) (fun e2 => ⟨_, rfl, rfl⟩)⟩
        have hlen : 0 < ns.length := by
          have : (0 : Int) < ((ns.map V.int).length : Int) := of_decide_eq_true e2
          rw [List.length_map] at this
          omega
        have b1 := Int.emod_nonneg a (show (ns.length : Int) ≠ 0 by omega)
        have b2 := Int.emod_lt_of_pos a (show (0 : Int) < ns.length by omega)
        obtain ⟨x, hx, _⟩ := at_ints (ns := ns) b1 b2
        refine ⟨_, rfl, p, _, 0, _, rfl, rfl, SqL.of k1, atI_nat (j := 0) rfl, _, rfl, _, rfl, p, _, 0, _, rfl, rfl, SqL.of k1, atI_nat (j := 0) rfl, c, _, rfl, .inl (SqL.of k2), a, _, rfl, rfl, (by show (0 : Int) < ((ns.map V.int).length : Int); rw [List.length_map]; omega), c, _, _, .int x, rfl, rfl, SqL.of k2, (by rw [List.length_map]; exact hx), ?_⟩
        refine ⟨_, rfl, _, rfl, p, _, 0, _, rfl, rfl, SqL.of k1, atI_nat (j := 0) rfl, c, _, rfl, .inl (SqL.of k2), a, _, rfl, rfl, _, rfl, ite2 (fun _ => ?_) (fun _ => iteF ⟨_, rfl, rfl⟩)⟩
        have absn : (0 : Int) ≤ if x < 0 then -x else x := by split <;> omega
        refine ⟨_, rfl, x, rfl, 10, 18, rfl, rfl, ⟨by decide, by decide, by decide⟩, _, _, rfl, rfl, _, rfl, ite2 (fun _ => ?_) (fun _ => ⟨_, rfl, rfl⟩)⟩
        refine ⟨_, rfl, x, rfl, _, rfl, _, m, rfl, rfl, ⟨by omega, by omega⟩, _, rfl, p, _, 2, 2, rfl, rfl, k1, ix _ rfl 2 (by decide), ?_⟩
        refine ⟨_, rfl, x, rfl, _, rfl, _, m, rfl, rfl, (by show (0 : Int) < m; omega), ?_⟩
        exact q _ _ (Int.emod_nonneg _ (by omega)) (Int.emod_lt_of_pos _ (by omega)) ⟨ns, a + 1, (if x < 0 then -x else x) / m, upd_same, (upd_ne npc.symm).trans k2, by omega, by omega, Int.ediv_nonneg absn (by omega)⟩ fun b o z nb => (upd_ne nb).trans (bt b o z nb)
      · rintro σ' H' ⟨x, rfl, rfl⟩
        have b1 := Int.emod_nonneg x (show (2147483629 : Int) ≠ 0 by decide)
        have b2 := Int.emod_lt_of_pos x (show (0 : Int) < 2147483629 by decide)
        refine ⟨_, rfl, x, _, rfl, rfl, (by show (0 : Int) < 2147483629; decide), _, rfl, 60029, a, rfl, rfl, .inl ⟨by decide, by decide⟩, _, _, rfl, rfl, _, 17, rfl, rfl, _, 3, rfl, rfl, ⟨by decide, by decide, ?_⟩, _, rfl, 11, a, rfl, rfl, .inl ⟨by decide, by decide⟩, _, _, rfl, rfl, _, 2147483587, rfl, rfl, (by show (0 : Int) < 2147483587; decide), ?_⟩
        · generalize x % 2147483629 = y at b1 b2
          show (y + 60029 * a + 17).natAbs < 2 ^ 64
          omega
        · generalize (x % 2147483629 + 60029 * a + 17) ^ (3 : Int).toNat + 11 * a = z
          have d1 := Int.emod_nonneg z (show (2147483587 : Int) ≠ 0 by decide)
          have d2 := Int.emod_lt_of_pos z (show (0 : Int) < 2147483587 by decide)
          obtain ⟨o, ho⟩ : ∃ o, z % 2147483587 = o := ⟨_, rfl⟩
          rw [ho] at d1 d2
          show tSeq _ _ _ [some (.ref p), some (.int m), none, some (.int a), some (.int x), some (.int (z % 2147483587))] _
          rw [ho]
          have f1 := Int.emod_nonneg o (show (65521 : Int) ≠ 0 by decide)
          have f2 := Int.emod_lt_of_pos o (show (0 : Int) < 65521 by decide)
          refine ⟨_, rfl, _, rfl, o, 65521, rfl, rfl, (by show (0 : Int) < 65521; decide), _, rfl, 2, a, rfl, rfl, .inl ⟨by decide, by decide⟩, _, _, rfl, rfl, _, 3, rfl, rfl, o, _, rfl, rfl, .inr ⟨by omega, by omega⟩, _, 104729, rfl, rfl, _, 2, rfl, rfl, ⟨by decide, by decide, ?_⟩, _, 2147483563, rfl, rfl, (by show (0 : Int) < 2147483563; decide), ?_⟩
          · show (o * (o % 65521 + 2 * a + 3) + 104729).natAbs < 2 ^ 64
            have h1 : 0 ≤ o * (o % 65521 + 2 * a + 3) := Int.mul_nonneg d1 (by omega)
            have h2 : o * (o % 65521 + 2 * a + 3) ≤ 2147483587 * 300000 := Int.mul_le_mul (by omega) (by omega) (by omega) (by decide)
            omega
          · refine ⟨_, rfl, _, 64, rfl, rfl, ⟨by decide, by decide⟩, _, rfl, _, m, rfl, rfl, (by show (0 : Int) < m; omega), ?_⟩
            exact q _ _ (Int.emod_nonneg _ (by omega)) (Int.emod_lt_of_pos _ (by omega)) ⟨ns, a + 1, l, k1, k2, by omega, by omega, g5⟩ bt
end
/-! ### is_name -/
def signB (c : Nat) : Bool := decide (c ∈ abc.cps.toList)
def nameB (z : Str) : Bool := decide (1 ≤ z.length) && decide (z.length ≤ 8) && z.cps.toList.all signB
theorem nameB_in {z : Str} (h1 : (1 : Int) ≤ (z.length : Int)) (h2 : (z.length : Int) ≤ 8) : nameB z = z.cps.toList.all signB := by
  unfold nameB
  rw [decide_eq_true (show 1 ≤ z.length by omega), decide_eq_true (show z.length ≤ 8 by omega)]
  rfl
theorem nameB_long {z : Str} (h : ¬ (z.length : Int) ≤ 8) : nameB z = false := by
  unfold nameB
  rw [decide_eq_false (show ¬ z.length ≤ 8 by omega), Bool.and_false]
  rfl
theorem nameB_short {z : Str} (h : ¬ (1 : Int) ≤ (z.length : Int)) : nameB z = false := by
  unfold nameB
  rw [decide_eq_false (show ¬ 1 ≤ z.length by omega)]
  rfl
/-! ### names of numbers -/
def cdC (t k : Nat) : List Nat := Lc ((t + k) % 26) :: (if 25 < k then [Lc (k / 26)] else [])
def nmC (B : List Nat) (sp t k : Nat) : List Nat := if k % 3 = 2 then cdC t k else B.take sp ++ cdC t k ++ B.drop sp
structure WdOk (B : List Nat) (sp t : Nat) : Prop where
  le : B.length ≤ 6
  no : B.length = 0 ∨ 2 ≤ B.length
  ab : ∀ c ∈ B, c ∈ abc.cps.toList
  sp : sp ≤ B.length
  t : t < 26
structure WdAt (H : Hp) (w : Addr) (B : List Nat) (sp t : Nat) : Prop where
  at_ : H w = some (.tup [.str (sc B), .int (sp : Int), .int (t : Int)])
  ok : WdOk B sp t
theorem cdC_in {t k : Nat} (hk : k < 676) : ∀ c ∈ cdC t k, c ∈ abc.cps.toList := by
  intro c hc
  unfold cdC at hc
  rcases List.mem_cons.mp hc with rfl | h
  · exact Lc_in (Nat.mod_lt _ (by decide))
  · by_cases z : 25 < k
    · rw [if_pos z] at h
      rw [List.mem_singleton.mp h]
      exact Lc_in (by omega)
    · rw [if_neg z] at h
      exact nomatch h
theorem cdC_len (t k : Nat) : 1 ≤ (cdC t k).length ∧ (cdC t k).length ≤ 2 := by
  unfold cdC
  rw [List.length_cons]
  split <;> simp
theorem nmC_in {B : List Nat} {sp t k : Nat} (ok : WdOk B sp t) (hk : k < 676) : ∀ c ∈ nmC B sp t k, c ∈ abc.cps.toList := by
  intro c hc
  unfold nmC at hc
  split at hc
  · exact cdC_in hk c hc
  · rcases List.mem_append.mp hc with h | h
    · rcases List.mem_append.mp h with h | h
      · exact ok.ab c (List.mem_of_mem_take h)
      · exact cdC_in hk c h
    · exact ok.ab c (List.mem_of_mem_drop h)
theorem nmC_len {B : List Nat} {sp t k : Nat} (ok : WdOk B sp t) : (nmC B sp t k).length = (if k % 3 = 2 then 0 else B.length) + (cdC t k).length := by
  unfold nmC
  split
  · rw [Nat.zero_add]
  · rw [List.length_append, List.length_append, List.length_take, List.length_drop]
    have := ok.sp
    omega
theorem nmC_name {B : List Nat} {sp t k : Nat} (ok : WdOk B sp t) (hk : k < 676) : nameB (sc (nmC B sp t k)) = true := by
  have l := nmC_len ok (k := k)
  have c := cdC_len t k
  have b := ok.le
  have e : (sc (nmC B sp t k)).length = (nmC B sp t k).length := sc_len _
  unfold nameB
  rw [e, Bool.and_eq_true, Bool.and_eq_true]
  refine ⟨⟨decide_eq_true ?_, decide_eq_true ?_⟩, List.all_eq_true.mpr fun c hc => decide_eq_true (nmC_in ok hk c ?_)⟩
  · omega
  · split at l <;> omega
  · simpa using hc
theorem cdC_inj {t k j : Nat} (hk : k < 676) (hj : j < 676) (h : cdC t k = cdC t j) : k = j := by
  have inj : ∀ i < 26, ∀ j < 26, Lc i = Lc j → i = j := by decide +kernel
  unfold cdC at h
  obtain ⟨h1, h2⟩ := List.cons.inj h
  have m := inj _ (Nat.mod_lt _ (by decide)) _ (Nat.mod_lt _ (by decide)) h1
  by_cases z1 : 25 < k
  · by_cases z2 : 25 < j
    · rw [if_pos z1, if_pos z2] at h2
      have d := inj (k / 26) (by omega) (j / 26) (by omega) (List.cons.inj h2).1
      omega
    · rw [if_pos z1, if_neg z2] at h2
      exact nomatch h2
  · by_cases z2 : 25 < j
    · rw [if_neg z1, if_pos z2] at h2
      exact nomatch h2
    · omega
theorem nmC_inj {B : List Nat} {sp t k j : Nat} (ok : WdOk B sp t) (hk : k < 676) (hj : j < 676) (h : nmC B sp t k = nmC B sp t j) : k = j := by
  have l1 := nmC_len ok (k := k)
  have l2 := nmC_len ok (k := j)
  rw [h] at l1
  have c1 := cdC_len t k
  have c2 := cdC_len t j
  have key : cdC t k = cdC t j := by
    rcases ok.no with b0 | b2
    · have e : B = [] := List.length_eq_zero_iff.mp b0
      subst e
      unfold nmC at h
      simp only [List.take_nil, List.drop_nil, List.append_nil, List.nil_append, ite_self] at h
      exact h
    · have same : (k % 3 = 2 ↔ j % 3 = 2) := by
        by_cases z1 : k % 3 = 2 <;> by_cases z2 : j % 3 = 2 <;> simp only [z1, z2, if_true, if_false, iff_self] at l1 l2 ⊢
        · omega
        · omega
      unfold nmC at h
      by_cases z : k % 3 = 2
      · rw [if_pos z, if_pos (same.mp z)] at h
        exact h
      · rw [if_neg z, if_neg fun q => z (same.mpr q), List.append_assoc, List.append_assoc] at h
        have := List.append_cancel_left h
        exact List.append_cancel_right this
  exact cdC_inj hk hj key
def spWords : Sp := fun vs H Q _ => ∃ (p c : Addr) (n : Nat), vs = [.ref p] ∧ PenAt H p c n ∧ n ≤ 90000 ∧
  ∀ (w : Addr) (B : List Nat) (sp t : Nat) (H' : Hp), H w = none → WdAt H' w B sp t → PenAt H' p c (n + 9) → But p H H' → Q (.ref w) H'
def spLName : Sp := fun vs H Q _ => ∃ (w : Addr) (B : List Nat) (sp t k : Nat), vs = [.ref w, .int (k : Int)] ∧ WdAt H w B sp t ∧ k < 676 ∧ Q (.str (sc (nmC B sp t k))) H
section
variable {P : Program} {w : World} {K : PySem.W.Frag} {mg : Str → Option Value} {base : Heap}
abbrev sLNameN : List Str := ["_law_words_here", "_law_number", "_law_base", "_law_spot", "_law_turn", "_law_letters", "_law_code"]
theorem sc_sLName : FnScope sLNameN ["_law_words_here", "_law_number"] (defScope sLName) := ⟨rfl, rfl, rfl, by decide +kernel, rfl, by decide +kernel, by decide +kernel⟩
theorem ok_lname {f : Addr} {fd : FuncData} (F : Fun K "_law_name" "_law_name" sLName f fd) : FnOk P w K mg base CX0 1 f fd ["_law_words_here", "_law_number"] spLName := by
  refine F.ok sc_sLName (fun vs H Q E h => ?_) (fun cdv A outer s H vs Q E hr h => ?_)
  · obtain ⟨w, B, sp, t, k, rfl, _⟩ := h
    rfl
  · obtain ⟨wd, B, sp, t, k, rfl, hw, hk, q⟩ := h
    have nd := sc_sLName.nd
    have nd := sc_sLName.nd
    refine ⟨_, pss_cons (ps_asg (pv 0) (pg_tup (by rfl) (pgs_cons (pg_name (i := 2) nd rfl (Or.inl rfl)) (pgs_cons (pg_name (i := 3) nd rfl (Or.inl rfl)) (pgs_cons (pg_name (i := 4) nd rfl (Or.inl rfl)) pgs_nil)))))
      (pss_cons (ps_set (i := 5) nd rfl (Or.inl rfl) pe_str)
      (pss_cons (ps_set (i := 6) nd rfl (Or.inl rfl) (pe_ix ix_str (pv 5) (pe_op op_mod (pe_op op_add (pv 4) (pv 1)) pe_int) (fun _ _ => rfl)))
      (C8.pss_cut (ps_if (pt_cmpR op_gt (pv 1) pe_int (nomark _)) (pss_one (ps_set (i := 6) nd rfl (Or.inl rfl) (pe_op op_add_str (pv 6) (pe_ix ix_str (pv 5) (pe_op op_fdiv (pv 1) pe_int) (fun _ _ => rfl))))) pss_nil)
      (pss_cons (ps_if (pt_cmpR op_eq (pe_op op_mod (pv 1) pe_int) pe_int (nomark _)) (pss_one (ps_ret (pv 6))) pss_nil)
      (pss_one (ps_ret (pe_op op_add_str (pe_op op_add_str (pe_slice sl_str (pv 2) po_none (po_some (pv 3))) (pv 6)) (pe_slice sl_str (pv 2) (po_some (pv 3)) po_none)))))))), ?_⟩
    have ok := hw.ok
    have bl := ok.le
    have bsp := ok.sp
    refine ⟨_, rfl, wd, _, rfl, SqT.of hw.at_, rfl, _, _, rfl, _, _, rfl, _, _, rfl, rfl, ?_⟩
    have i1 : 0 ≤ ((t : Int) + (k : Int)) % 26 := Int.emod_nonneg _ (by decide)
    have i2 : ((t : Int) + (k : Int)) % 26 < 26 := Int.emod_lt_of_pos _ (by decide)
    have q1 : (((t : Int) + (k : Int)) % 26).toNat = (t + k) % 26 := by omega
    refine ⟨_, rfl, _, rfl, _, rfl, (t : Int), (k : Int), rfl, rfl, _, 26, rfl, rfl, (by show (0 : Int) < 26; decide), abc, _, _, rfl, rfl, (by decide +kernel), at_abc i1 i2, ?_⟩
    refine ⟨fun σ' H' => σ' = [some (.ref wd), some (.int (k : Int)), some (.str (sc B)), some (.int (sp : Int)), some (.int (t : Int)), some (.str abc), some (.str (sc (cdC t k)))] ∧ H' = H, ?_, ?_⟩
    · refine ⟨_, rfl, (k : Int), 25, rfl, rfl, _, rfl, ite2 (fun e => ?_) (fun e => ?_)⟩
      · have e' : 25 < k := by have : (25 : Int) < (k : Int) := of_decide_eq_true e; omega
        have j1 : 0 ≤ (k : Int) / 26 := by omega
        have j2 : (k : Int) / 26 < 26 := by omega
        refine ⟨_, rfl, _, rfl, _, rfl, (k : Int), 26, rfl, rfl, ⟨by decide, by decide⟩, abc, _, _, rfl, rfl, (by decide +kernel), at_abc j1 j2, _, _, rfl, rfl, (by show 1 + 1 ≤ sizeLine; decide), ?_, rfl⟩
        have : ((⟨#[Lc (((t : Int) + (k : Int)) % 26).toNat]⟩ : Str) ++ ⟨#[Lc ((k : Int) / 26).toNat]⟩ : Str) = sc (cdC t k) := by
          rw [q1, show ((k : Int) / 26).toNat = k / 26 by omega]
          unfold cdC
          rw [if_pos e']
          exact sc_app [_] [_]
        rw [this]
        rfl
      · have e' : ¬ 25 < k := fun z => e (decide_eq_true (by omega))
        refine ⟨?_, rfl⟩
        have : (⟨#[Lc (((t : Int) + (k : Int)) % 26).toNat]⟩ : Str) = sc (cdC t k) := by
          rw [q1]
          unfold cdC
          rw [if_neg e']
        rw [this]
        rfl
    · rintro σ' H' ⟨rfl, rfl⟩
      have m3 : (k : Int) % 3 = ((k % 3 : Nat) : Int) := by omega
      refine ⟨_, rfl, (k : Int), 3, rfl, rfl, (by show (0 : Int) < 3; decide), rfl, _, rfl, ite2 (fun e => ?_) (fun e => ?_)⟩
      · have e' : k % 3 = 2 := by have := V.int.inj (of_decide_eq_true e); omega
        unfold nmC at q
        rw [if_pos e'] at q
        exact ⟨_, rfl, q⟩
      · have e' : ¬ k % 3 = 2 := fun z => e (decide_eq_true (congrArg V.int (by omega)))
        unfold nmC at q
        rw [if_neg e'] at q
        have c1 : cutS (sc B) none (some (sp : Int)) = sc (B.take sp) := sc_take B bsp
        have c2 : cutS (sc B) (some (sp : Int)) none = sc (B.drop sp) := sc_drop B bsp
        have l1 : (sc (B.take sp)).length ≤ 6 := by rw [sc_len, List.length_take]; omega
        have l2 : (sc (B.drop sp)).length ≤ 6 := by rw [sc_len, List.length_drop]; omega
        have l3 : (sc (cdC t k)).length ≤ 2 := by rw [sc_len]; exact (cdC_len t k).2
        have szB : (sc B).length ≤ sizeLine := by rw [sc_len]; exact small_sz (by omega)
        refine ⟨_, rfl, _, rfl, (sp : Int), rfl, sc B, rfl, szB, _, rfl, _, _, rfl, rfl, ?_, _, rfl, _, rfl, (sp : Int), rfl, sc B, rfl, szB, _, _, rfl, rfl, ?_, ?_⟩
        · rw [c1]
          exact small_sz (by omega)
        · rw [c1, c2, sc_app, sc_len, List.length_append]
          rw [sc_len] at l1 l3
          exact small_sz (by omega)
        · rw [c1, c2, sc_app, sc_app]
          exact q
abbrev sWordsN : List Str := ["_law_pen_here", "_law_size", "_law_base", "_law_k"]
theorem sc_sWords : FnScope sWordsN ["_law_pen_here"] (defScope sWords) := ⟨rfl, rfl, rfl, by decide +kernel, rfl, by decide +kernel, by decide +kernel⟩
set_option maxHeartbeats 1000000 in
theorem ok_words {f fT : Addr} {fd dT : FuncData} (F : Fun K "_law_words" "_law_words" sWords f fd) (T : DefT P w K mg base "_law_draw" 1 fT dT ["_law_pen_here", "_law_many_here"] spDraw) (mr : mg "range" = none) : FnOk P w K mg base CX0 2 f fd ["_law_pen_here"] spWords := by
  refine F.ok sc_sWords (fun vs H Q E h => ?_) (fun cdv A outer s H vs Q E hr h => ?_)
  · obtain ⟨p, c, n, rfl, _⟩ := h
    rfl
  · obtain ⟨p, c, n, rfl, pen, hn, q⟩ := h
    have nd := sc_sWords.nd
    have nd := sc_sWords.nd
    refine ⟨_, pss_cons (ps_set (i := 1) nd rfl (Or.inl rfl) (pe_ix ix_list (pe_lst (pa_cons pe_int (pa_cons pe_int (pa_cons pe_int (pa_cons pe_int pa_nil))))) (pe_call T.ok hr (by rfl) T.g T.kp T.b .nil pass0 (pa_cons (pv 0) (pa_cons pe_int pa_nil))) (fun _ _ => rfl)))
      (pss_cons (ps_set (i := 2) nd rfl (Or.inl rfl) (pe_join pe_str (pe_lc (own := [("_law_k", 3)]) (g := gName 3) (tt := tYes) rfl nd (pi_range1 rfl mr (pa_cons (pv 1) pa_nil)) (blkOk_by (N := sWordsN) (sc := defScope sWords) (by decide +kernel)) (fun _ _ _ _ _ => (pg_name (i := 3) nd rfl (Or.inl rfl))) (fun _ _ _ _ _ => pts_nil) (fun _ _ _ _ _ => (pe_ix ix_str pe_str (pe_call T.ok hr (by rfl) T.g T.kp T.b .nil pass0 (pa_cons (pv 0) (pa_cons pe_int pa_nil))) (fun _ _ => rfl))))))
      (pss_one (ps_ret (pe_tup (pa_cons (pv 2) (pa_cons (pe_call T.ok hr (by rfl) T.g T.kp T.b .nil pass0 (pa_cons (pv 0) (pa_cons (pe_op op_add (pv 1) pe_int) pa_nil))) (pa_cons (pe_call T.ok hr (by rfl) T.g T.kp T.b .nil pass0 (pa_cons (pv 0) (pa_cons pe_int pa_nil))) pa_nil))))))), ?_⟩
    refine ⟨(by show 4 ≤ sizeLine; decide), fun l nl => ?_⟩
    have sl := @same_new _ _ (.lst [V.int 0, .int 2, .int 3, .int 6]) nl
    refine ⟨_, rfl, p, c, n, 4, rfl, pen.same sl, by omega, by decide, by decide, fun r1 H1 a1 b1 pen1 bt1 => ?_⟩
    have nlp : l ≠ p := fun z => pen.there (z ▸ nl)
    obtain ⟨kk, hkk, mk⟩ := at_ints (ns := [0, 2, 3, 6]) (r := r1) a1 (by show r1 < 4; omega)
    have hk : kk = 0 ∨ kk = 2 ∨ kk = 3 ∨ kk = 6 := by simpa using mk
    refine ⟨l, _, _, _, rfl, rfl, SqL.of (bt1 l _ upd_same nlp), hkk, ?_⟩
    have bt1' : But p H H1 := (But.of sl).tr bt1
    refine ⟨⟨_, rfl⟩, _, rfl, kk, rfl, by omega, by omega, fun D nD => ?_⟩
    have nDp : D ≠ p := fun z => pen1.there (z ▸ nD)
    have nDc : D ≠ c := fun z => pen1.cells (z ▸ nD)
    have hDn : H D = none := bt1'.free nD pen1.there
    refine lc_range (lo := 0) (n := kk.toNat) (fun j H' => PenAt H' p c (n + 1 + j) ∧ But p H H' ∧ ∃ B : List Nat, H' D = some (.lst (((B.map fun c => [c]).map sc).map V.str)) ∧ B.length = j ∧ ∀ c ∈ B, c ∈ abc.cps.toList)
      ⟨pen1.same (same_new nD), bt1'.tr (.of (same_new nD)), [], upd_same, rfl, fun y hy => nomatch hy⟩ ?_ ?_
    · rintro j H6 hj ⟨pen6, bt6, B, hD6, ly, one⟩
      refine ⟨rfl, yesT ?_⟩
      refine ⟨_, rfl, p, c, _, 26, rfl, pen6, by omega, by decide, by decide, fun r H7 a7 b7 pen7 bt7 => ?_⟩
      have hD7 := bt7 D _ hD6 nDp
      refine ⟨abc, r, _, rfl, rfl, (by decide +kernel), at_abc a7 b7, _, hD7, (by simp only [List.length_map]; exact small1000 (by omega)), pen7.upd nDp nDc, fun b o e nb => (upd_ne (ne_of_none e hDn)).trans ((bt6.tr bt7) b o e nb), B ++ [Lc r.toNat], ?_, by simp [ly], ?_⟩
      · rw [upd_same, List.map_append, List.map_append, List.map_append]
        rfl
      · intro y hy
        rcases List.mem_append.mp hy with h | h
        · exact one y h
        · rw [List.mem_singleton.mp h]
          exact Lc_in (by omega)
    · rintro H6 ⟨pen6, bt6, B, hD6, ly, one⟩
      have bl : B.length ≤ 6 := by omega
      have ej : Txt.join "" ((B.map fun c => [c]).map sc) = sc B := by rw [sc_join, flat_one]
      refine ⟨"", D, (B.map fun c => [c]).map sc, rfl, rfl, .inl (SqL.of hD6), (by rw [sum_one]; simp only [List.length_map]; show B.length + B.length * 0 ≤ 16777216; omega), ?_⟩
      rw [ej]
      refine ⟨_, rfl, _, rfl, _, rfl, kk, 1, rfl, rfl, p, c, _, kk + 1, rfl, pen6, by omega, by omega, by omega, fun r4 H7 a4 b4 pen7 bt7 => ?_⟩
      refine ⟨_, rfl, p, c, _, 26, rfl, pen7, by omega, by decide, by decide, fun r5 H8 a5 b5 pen8 bt8 => ?_⟩
      refine ⟨(by show 3 ≤ sizeLine; decide), fun wd nw => ?_⟩
      have sw := @same_new _ _ (.tup [V.str (sc B), .int r4, .int r5]) nw
      have bt := bt6.tr (bt7.tr bt8)
      refine q wd B r4.toNat r5.toNat _ (bt.free nw pen8.there) ⟨?_, by omega, by omega, one, by omega, by omega⟩ ((pen8.mono (by omega)).same sw) (bt.tr (.of sw))
      rw [upd_same, Int.toNat_of_nonneg a4, Int.toNat_of_nonneg a5]
end
def TK (H H' : Hp) : Prop := ∀ a xs, H a = some (.tup xs) → H' a = some (.tup xs)
theorem TK.of {H H' : Hp} (s : Same H H') : TK H H' := fun a xs e => s a _ e
theorem TK.tr {H H1 H2 : Hp} (a : TK H H1) (b : TK H1 H2) : TK H H2 := fun c xs e => b c xs (a c xs e)
theorem TK.upd {H : Hp} {l : Addr} {o : HO} (n : ∀ xs, H l ≠ some (.tup xs)) : TK H (upd H l o) := fun a xs e => by
  by_cases z : a = l
  · rw [z] at e
    exact absurd e (n xs)
  · exact (upd_ne z).trans e
/-! ### places, goods, moments, amounts, entries -/
structure StOk (P G : List Str) : Prop where
  pd : P.Nodup
  gd : G.Nodup
  pn : ∀ y ∈ P, nameB y = true
  gn : ∀ y ∈ G, nameB y = true
  pl : 1 ≤ P.length ∧ P.length ≤ 6
  gl : 1 ≤ G.length ∧ G.length ≤ 3
  ps : sortedS P = true
  gs : sortedS G = true
structure StAt (H : Hp) (st a1 a2 : Addr) (P G : List Str) : Prop where
  at_ : H st = some (.tup [.ref a1, .ref a2])
  p : H a1 = some (.tup (P.map V.str))
  g : H a2 = some (.tup (G.map V.str))
theorem StAt.on {H H' : Hp} (k : TK H H') {st a1 a2 : Addr} {P G : List Str} (h : StAt H st a1 a2 P G) : StAt H' st a1 a2 P G := ⟨k _ _ h.at_, k _ _ h.p, k _ _ h.g⟩
theorem WdAt.on {H H' : Hp} (k : TK H H') {w : Addr} {B : List Nat} {sp t : Nat} (h : WdAt H w B sp t) : WdAt H' w B sp t := ⟨k _ _ h.at_, h.ok⟩
theorem TK.pen {H H' : Hp} {p c : Addr} {n : Nat} (pen : PenAt H p c n) (b : But p H H') : TK H H' := fun a xs e => b a _ e (pen.tup e)
def nmsC (B : List Nat) (sp t lo m : Nat) : List Str := (List.range m).map fun k => sc (nmC B sp t (lo + k))
theorem nmsC_names {B : List Nat} {sp t lo m : Nat} (ok : WdOk B sp t) (h : lo + m ≤ 676) : ∀ y ∈ nmsC B sp t lo m, nameB y = true := by
  intro y hy
  obtain ⟨k, hk, rfl⟩ := List.mem_map.mp hy
  have := List.mem_range.mp hk
  exact nmC_name ok (by omega)
theorem sc_inj {a b : List Nat} (h : sc a = sc b) : a = b := by
  have := congrArg (fun z : Str => z.cps.toList) h
  simpa using this
theorem nmsC_nodup {B : List Nat} {sp t lo m : Nat} (ok : WdOk B sp t) (h : lo + m ≤ 676) : (nmsC B sp t lo m).Nodup := by
  unfold nmsC
  refine List.pairwise_map.mpr (List.Pairwise.imp_of_mem (fun {a b} ha hb hne z => hne ?_) (List.nodup_range (n := m)))
  have h1 := List.mem_range.mp ha
  have h2 := List.mem_range.mp hb
  have := nmC_inj ok (by omega) (by omega) (sc_inj z)
  omega
def spLStand : Sp := fun vs H Q _ => ∃ (p c : Addr) (n : Nat) (w : Addr) (B : List Nat) (sp t : Nat), vs = [.ref p, .ref w] ∧ PenAt H p c n ∧ n ≤ 90000 ∧ WdAt H w B sp t ∧
  ∀ (st a1 a2 : Addr) (P G : List Str) (H' : Hp), H st = none → StAt H' st a1 a2 P G → StOk P G → (∀ y ∈ P ++ G, ∃ k, k < 300 ∧ y = sc (nmC B sp t k)) → PenAt H' p c (n + 3) → But p H H' → Q (.ref st) H'
def spMoment : Sp := fun vs H Q _ => ∃ (p c : Addr) (n : Nat), vs = [.ref p] ∧ PenAt H p c n ∧ n ≤ 90000 ∧ ∀ (r : Int) (H' : Hp), 0 ≤ r → r ≤ 9999 → PenAt H' p c (n + 4) → But p H H' → Q (.int r) H'
def spMany : Sp := fun vs H Q _ => ∃ (p c : Addr) (n : Nat), vs = [.ref p] ∧ PenAt H p c n ∧ n ≤ 90000 ∧ ∀ (r : Int) (H' : Hp), 1 ≤ r → r ≤ 1000000000 → PenAt H' p c (n + 3) → But p H H' → Q (.int r) H'
section
variable {P : Program} {w : World} {K : PySem.W.Frag} {mg : Str → Option Value} {base : Heap}
abbrev sMomentN : List Str := ["_law_pen_here", "_law_way", "_law_few"]
theorem sc_sMoment : FnScope sMomentN ["_law_pen_here"] (defScope sMoment) := ⟨rfl, rfl, rfl, by decide +kernel, rfl, by decide +kernel, by decide +kernel⟩
theorem ok_moment {f fT : Addr} {fd dT : FuncData} (F : Fun K "_law_moment" "_law_moment" sMoment f fd) (T : DefT P w K mg base "_law_draw" 1 fT dT ["_law_pen_here", "_law_many_here"] spDraw) : FnOk P w K mg base CX0 2 f fd ["_law_pen_here"] spMoment := by
  refine F.ok sc_sMoment (fun vs H Q E h => ?_) (fun cdv A outer s H vs Q E hr h => ?_)
  · obtain ⟨p, c, n, rfl, _⟩ := h
    rfl
  · obtain ⟨p, c, n, rfl, pen, hn, q⟩ := h
    have nd := sc_sMoment.nd
    have nd := sc_sMoment.nd
    refine ⟨_, pss_cons (ps_set (i := 1) nd rfl (Or.inl rfl) (pe_call T.ok hr (by rfl) T.g T.kp T.b .nil pass0 (pa_cons (pv 0) (pa_cons pe_int pa_nil))))
      (pss_cons (ps_set (i := 2) nd rfl (Or.inl rfl) (pe_op op_add (pe_op op_mul pe_int (pe_call T.ok hr (by rfl) T.g T.kp T.b .nil pass0 (pa_cons (pv 0) (pa_cons pe_int pa_nil)))) (pe_call T.ok hr (by rfl) T.g T.kp T.b .nil pass0 (pa_cons (pv 0) (pa_cons pe_int pa_nil)))))
      (pss_cons (ps_if (pt_cmpR op_lt (pv 1) pe_int (nomark _)) (pss_one (ps_ret (pv 2))) pss_nil)
      (pss_cons (ps_if (pt_cmpR op_eq (pv 1) pe_int (nomark _)) (pss_one (ps_ret (pe_ix ix_list (pe_lst (pa_cons pe_int (pa_cons pe_int (pa_cons pe_int (pa_cons pe_int (pa_cons pe_int (pa_cons pe_int (pa_cons pe_int (pa_cons pe_int pa_nil))))))))) (pe_call T.ok hr (by rfl) T.g T.kp T.b .nil pass0 (pa_cons (pv 0) (pa_cons pe_int pa_nil))) (fun _ _ => rfl)))) pss_nil)
      (pss_one (ps_ret (pe_call T.ok hr (by rfl) T.g T.kp T.b .nil pass0 (pa_cons (pv 0) (pa_cons pe_int pa_nil)))))))), ?_⟩
    refine ⟨_, rfl, p, c, n, 4, rfl, pen, by omega, by decide, by decide, fun r1 H1 a1 b1 pen1 bt1 => ?_⟩
    refine ⟨_, rfl, p, c, _, 4, rfl, pen1, by omega, by decide, by decide, fun r2 H2 a2 b2 pen2 bt2 => ⟨100, r2, rfl, rfl, .inl ⟨by decide, by decide⟩, _, rfl, p, c, _, 2, rfl, pen2, by omega, by decide, by decide, fun r3 H3 a3 b3 pen3 bt3 => ?_⟩⟩
    have bt := bt1.tr (bt2.tr bt3)
    refine ⟨_, _, rfl, rfl, ?_⟩
    refine ⟨_, rfl, r1, 2, rfl, rfl, _, rfl, ite2 (fun _ => ?_) (fun _ => ?_)⟩
    · exact ⟨_, rfl, q _ H3 (by omega) (by omega) (pen3.mono (by omega)) bt⟩
    · refine ⟨_, rfl, rfl, _, rfl, ite2 (fun _ => ?_) (fun _ => ?_)⟩
      · refine ⟨(by show 8 ≤ sizeLine; decide), fun l nl => ?_⟩
        have sl := @same_new _ _ (.lst (([0, 99, 100, 199, 200, 9899, 9900, 9999] : List Int).map V.int)) nl
        refine ⟨_, rfl, p, c, _, 8, rfl, pen3.same sl, by omega, by decide, by decide, fun r4 H4 a4 b4 pen4 bt4 => ?_⟩
        obtain ⟨mo, h1, h2⟩ := at_ints (ns := [0, 99, 100, 199, 200, 9899, 9900, 9999]) (r := r4) a4 (by show r4 < 8; omega)
        refine ⟨l, _, _, _, rfl, rfl, SqL.of (bt4 l _ upd_same fun z => pen3.there (z ▸ nl)), h1, ?_⟩
        have : 0 ≤ mo ∧ mo ≤ 9999 := by
          simp only [List.mem_cons, List.not_mem_nil, or_false] at h2
          rcases h2 with rfl | rfl | rfl | rfl | rfl | rfl | rfl | rfl <;> decide
        exact q _ H4 this.1 this.2 pen4 (bt.tr ((But.of sl).tr bt4))
      · exact ⟨_, rfl, p, c, _, 10000, rfl, pen3, by omega, by decide, by decide, fun r4 H4 a4 b4 pen4 bt4 => q _ H4 a4 (by omega) pen4 (bt.tr bt4)⟩
abbrev sManyN : List Str := ["_law_pen_here", "_law_way", "_law_some"]
theorem sc_sMany : FnScope sManyN ["_law_pen_here"] (defScope sMany) := ⟨rfl, rfl, rfl, by decide +kernel, rfl, by decide +kernel, by decide +kernel⟩
theorem ok_many {f fT : Addr} {fd dT : FuncData} (F : Fun K "_law_many" "_law_many" sMany f fd) (T : DefT P w K mg base "_law_draw" 1 fT dT ["_law_pen_here", "_law_many_here"] spDraw) : FnOk P w K mg base CX0 2 f fd ["_law_pen_here"] spMany := by
  refine F.ok sc_sMany (fun vs H Q E h => ?_) (fun cdv A outer s H vs Q E hr h => ?_)
  · obtain ⟨p, c, n, rfl, _⟩ := h
    rfl
  · obtain ⟨p, c, n, rfl, pen, hn, q⟩ := h
    have nd := sc_sMany.nd
    have nd := sc_sMany.nd
    refine ⟨_, pss_cons (ps_set (i := 1) nd rfl (Or.inl rfl) (pe_call T.ok hr (by rfl) T.g T.kp T.b .nil pass0 (pa_cons (pv 0) (pa_cons pe_int pa_nil))))
      (pss_cons (ps_set (i := 2) nd rfl (Or.inl rfl) (pe_op op_mod (pe_op op_add (pe_op op_mul (pe_call T.ok hr (by rfl) T.g T.kp T.b .nil pass0 (pa_cons (pv 0) (pa_cons pe_int pa_nil))) pe_int) (pe_call T.ok hr (by rfl) T.g T.kp T.b .nil pass0 (pa_cons (pv 0) (pa_cons pe_int pa_nil)))) (pe_op op_pow pe_int pe_int)))
      (pss_one (ps_ret (pe_op op_add pe_int (pe_ix ix_list (pe_lst (pa_cons (pe_op op_mod (pv 2) pe_int) (pa_cons (pe_op op_mod (pv 2) pe_int) (pa_cons (pe_op op_sub (pe_op op_sub (pe_op op_pow pe_int pe_int) pe_int) (pe_op op_mod (pv 2) pe_int)) (pa_cons (pv 2) pa_nil))))) (pv 1) (fun _ _ => rfl)))))), ?_⟩
    refine ⟨_, rfl, p, c, n, 4, rfl, pen, by omega, by decide, by decide, fun r1 H1 a1 b1 pen1 bt1 => ?_⟩
    refine ⟨_, rfl, p, c, _, 40009, rfl, pen1, by omega, by decide, by decide, fun r2 H2 a2 b2 pen2 bt2 => ⟨r2, 40013, rfl, rfl, .inr ⟨by decide, by decide⟩, _, rfl, p, c, _, 40013, rfl, pen2, by omega, by decide, by decide, fun r3 H3 a3 b3 pen3 bt3 => ?_⟩⟩
    refine ⟨_, _, rfl, rfl, 10, 9, rfl, rfl, ⟨by decide, by decide, by decide⟩, _, _, rfl, rfl, (by show (0 : Int) < 10 ^ (9 : Int).toNat; decide), ?_⟩
    have e9 : (10 : Int) ^ (9 : Int).toNat = 1000000000 := by decide
    have s1 : 0 ≤ (r2 * 40013 + r3) % 10 ^ (9 : Int).toNat := Int.emod_nonneg _ (by decide)
    have s2 : (r2 * 40013 + r3) % 10 ^ (9 : Int).toNat < 1000000000 := by rw [e9]; exact Int.emod_lt_of_pos _ (by decide)
    show gName 2 (V.int ((r2 * 40013 + r3) % 10 ^ (9 : Int).toNat)) _ _ _
    generalize (r2 * 40013 + r3) % 10 ^ (9 : Int).toNat = sm at s1 s2
    refine ⟨_, rfl, sm, 9, rfl, rfl, (by show (0 : Int) < 9; decide), _, rfl, sm, 3, rfl, rfl, (by show (0 : Int) < 3; decide), 10, 9, rfl, rfl, ⟨by decide, by decide, by decide⟩, _, 1, rfl, rfl, _, rfl, sm, 2, rfl, rfl, (by show (0 : Int) < 2; decide), _, _, rfl, rfl, _, rfl, (by show 4 ≤ sizeLine; decide), fun l nl => ?_⟩
    have m1 := Int.emod_nonneg sm (show (9 : Int) ≠ 0 by decide)
    have m2 := Int.emod_lt_of_pos sm (show (0 : Int) < 9 by decide)
    have m3 := Int.emod_nonneg sm (show (3 : Int) ≠ 0 by decide)
    have m4 := Int.emod_lt_of_pos sm (show (0 : Int) < 3 by decide)
    have m5 := Int.emod_nonneg sm (show (2 : Int) ≠ 0 by decide)
    have m6 := Int.emod_lt_of_pos sm (show (0 : Int) < 2 by decide)
    have sl := @same_new _ _ (.lst (([sm % 9, sm % 3, 10 ^ (9 : Int).toNat - 1 - sm % 2, sm] : List Int).map V.int)) nl
    obtain ⟨mo, h1, h2⟩ := at_ints (ns := [sm % 9, sm % 3, 10 ^ (9 : Int).toNat - 1 - sm % 2, sm]) (r := r1) a1 (by show r1 < 4; omega)
    have rg : 0 ≤ mo ∧ mo ≤ 999999999 := by
      rw [e9] at h2
      simp only [List.mem_cons, List.not_mem_nil, or_false] at h2
      rcases h2 with rfl | rfl | rfl | rfl <;> omega
    refine ⟨_, rfl, l, _, _, _, rfl, rfl, SqL.of upd_same, h1, 1, mo, rfl, rfl, ?_⟩
    exact q _ _ (by omega) (by omega) (pen3.same sl) ((bt1.tr (bt2.tr bt3)).tr (.of sl))
abbrev sLStandN : List Str := ["_law_pen_here", "_law_words_here", "_law_apart", "_law_places", "_law_k", "_law_goods"]
theorem sc_sLStand : FnScope sLStandN ["_law_pen_here", "_law_words_here"] (defScope sLStand) := ⟨rfl, rfl, rfl, by decide +kernel, rfl, by decide +kernel, by decide +kernel⟩
set_option maxHeartbeats 1000000 in
theorem ok_lstand {f fT fN : Addr} {fd dT dN : FuncData} (F : Fun K "_law_stand" "_law_stand" sLStand f fd) (T : DefT P w K mg base "_law_draw" 1 fT dT ["_law_pen_here", "_law_many_here"] spDraw) (NM : DefT P w K mg base "_law_name" 1 fN dN ["_law_words_here", "_law_number"] spLName)
    (mr : mg "range" = none) (ms : mg "sorted" = none) (mt : mg "tuple" = none) : FnOk P w K mg base CX0 2 f fd ["_law_pen_here", "_law_words_here"] spLStand := by
  refine F.ok sc_sLStand (fun vs H Q E h => ?_) (fun cdv A outer s H vs Q E hr h => ?_)
  · obtain ⟨p, c, n, wd, B, sp, t, rfl, _⟩ := h
    rfl
  · obtain ⟨p, c, n, wd, B, sp, t, rfl, pen, hn, hw, q⟩ := h
    have nd := sc_sLStand.nd
    have nd := sc_sLStand.nd
    refine ⟨_, pss_cons (ps_set (i := 2) nd rfl (Or.inr rfl) (pe_op op_mul pe_int (pe_call T.ok hr (by rfl) T.g T.kp T.b .nil pass0 (pa_cons (pv 0) (pa_cons pe_int pa_nil)))))
      (pss_cons (ps_setLc (i := 3) (own := [("_law_k", 4)]) (g := gName 4) (tt := tYes) (te := tCall spLName [] E0 (tCons (tVar 1) (tCons (tVar 4) tNil))) rfl nd rfl rfl (sw_true rfl rfl rfl (by decide +kernel)) (pi_range1 rfl mr (pa_cons (pe_op op_add pe_int (pe_call T.ok hr (by rfl) T.g T.kp T.b .nil pass0 (pa_cons (pv 0) (pa_cons pe_int pa_nil)))) pa_nil)) (blkOk_by (N := sLStandN) (sc := defScope sLStand) (by decide +kernel)) (fun _ _ _ _ _ => (pg_name (i := 4) nd rfl (Or.inl rfl))) (fun _ _ _ _ _ => pts_nil) (fun _ _ _ _ _ => (pe_call NM.ok hr (by rfl) NM.g NM.kp NM.b .nil pass0 (pa_cons (pv 1) (pa_cons (pv 4) pa_nil)))))
      (pss_cons (ps_setLc (i := 5) (own := [("_law_k", 4)]) (g := gName 4) (tt := tYes) (te := tCall spLName [] E0 (tCons (tVar 1) (tCons (tOp (rI0 fun i j => .int (i + j)) (tVar 2) (tVar 4)) tNil))) rfl nd rfl rfl (sw_true rfl rfl rfl (by decide +kernel)) (pi_range1 rfl mr (pa_cons (pe_op op_add pe_int (pe_call T.ok hr (by rfl) T.g T.kp T.b .nil pass0 (pa_cons (pv 0) (pa_cons pe_int pa_nil)))) pa_nil)) (blkOk_by (N := sLStandN) (sc := defScope sLStand) (by decide +kernel)) (fun _ _ _ _ _ => (pg_name (i := 4) nd rfl (Or.inl rfl))) (fun _ _ _ _ _ => pts_nil) (fun _ _ _ _ _ => (pe_call NM.ok hr (by rfl) NM.g NM.kp NM.b .nil pass0 (pa_cons (pv 1) (pa_cons (pe_op op_add (pv 2) (pv 4)) pa_nil)))))
      (pss_one (ps_ret (pe_tup (pa_cons (pe_callTy call_tuple_of (by rfl) mt (by decide +kernel) (pa_cons (pe_callB cr_sortedS (by rfl) ms (by decide +kernel) (pa_cons (pv 3) pa_nil)) pa_nil)) (pa_cons (pe_callTy call_tuple_of (by rfl) mt (by decide +kernel) (pa_cons (pe_callB cr_sortedS (by rfl) ms (by decide +kernel) (pa_cons (pv 5) pa_nil)) pa_nil)) pa_nil))))))), ?_⟩
    refine ⟨_, rfl, p, c, n, 2, rfl, pen, by omega, by decide, by decide, fun r1 H1 a1 b1 pen1 bt1 => ?_⟩
    refine ⟨9, r1, rfl, rfl, .inl ⟨by decide, by decide⟩, ?_⟩
    have hw1 := hw.on (TK.pen pen bt1)
    refine ⟨_, rfl, p, c, _, 6, rfl, pen1, by omega, by decide, by decide, fun r2 H2 a2 b2 pen2 bt2 => ?_⟩
    have hw2 := hw1.on (TK.pen pen1 bt2)
    have bt12 := bt1.tr bt2
    refine ⟨1, r2, rfl, rfl, 1 + r2, rfl, by omega, by omega, fun D nD => ?_⟩
    have sD := @same_new _ _ (.lst []) nD
    have nDp : D ≠ p := fun z => pen2.there (z ▸ nD)
    have nDc : D ≠ c := fun z => pen2.cells (z ▸ nD)
    refine lc_range (lo := 0) (n := (1 + r2).toNat) (fun j H' => Same H2 H' ∧ H' D = some (.lst ((nmsC B sp t 0 j).map V.str))) ⟨sD, upd_same⟩ ?_ ?_
    · rintro j H6 hj ⟨sm, hD6⟩
      refine ⟨rfl, yesT ⟨_, rfl, _, rfl, wd, B, sp, t, j, ?_, hw2.on (TK.of sm), by omega, ?_⟩⟩
      · rw [Int.zero_add]
        rfl
      · refine ⟨_, hD6, (by unfold nmsC; simp only [List.length_map, List.length_range]; exact small1000 (by omega)), fun b o e => (upd_ne (ne_of_none e nD)).trans (sm b o e), ?_⟩
        rw [upd_same]
        unfold nmsC
        rw [List.range_succ, List.map_append, List.map_append]
        simp only [List.map_cons, List.map_nil, Nat.zero_add]
    · rintro H6 ⟨sm6, hD6⟩
      have hw6 := hw2.on (TK.of sm6)
      have pen6 := pen2.same sm6
      refine ⟨_, rfl, p, c, _, 3, rfl, pen6, by omega, by decide, by decide, fun r3 H7 a3 b3 pen7 bt7 => ?_⟩
      have hw7 := hw6.on (TK.pen pen6 bt7)
      have hD7 := bt7 D _ hD6 nDp
      refine ⟨1, r3, rfl, rfl, 1 + r3, rfl, by omega, by omega, fun E2 nE => ?_⟩
      have sE := @same_new _ _ (.lst []) nE
      have eL : ∀ j : Nat, ((9 * r1 : Int) + (0 + (j : Int))) = ((9 * r1.toNat + j : Nat) : Int) := fun j => by omega
      refine lc_range (lo := 0) (n := (1 + r3).toNat) (fun j H' => Same H7 H' ∧ H' E2 = some (.lst ((nmsC B sp t (9 * r1.toNat) j).map V.str))) ⟨sE, upd_same⟩ ?_ ?_
      · rintro j H8 hj ⟨sm, hE8⟩
        refine ⟨rfl, yesT ⟨_, rfl, _, rfl, _, rfl, 9 * r1, 0 + (j : Int), rfl, rfl, wd, B, sp, t, 9 * r1.toNat + j, ?_, hw7.on (TK.of sm), by omega, ?_⟩⟩
        · show [V.ref wd, V.int ((9 * r1 : Int) + (0 + (j : Int)))] = _
          rw [eL]
        · refine ⟨_, hE8, (by unfold nmsC; simp only [List.length_map, List.length_range]; exact small1000 (by omega)), fun b o e => (upd_ne (ne_of_none e nE)).trans (sm b o e), ?_⟩
          rw [upd_same]
          unfold nmsC
          rw [List.range_succ, List.map_append, List.map_append]
          rfl
      · rintro H8 ⟨sm8, hE8⟩
        have hD8 := sm8 _ _ hD7
        have l1 : (nmsC B sp t 0 (1 + r2).toNat).length = (1 + r2).toNat := by unfold nmsC; rw [List.length_map, List.length_range]
        have l2 : (nmsC B sp t (9 * r1.toNat) (1 + r3).toNat).length = (1 + r3).toNat := by unfold nmsC; rw [List.length_map, List.length_range]
        have o1 := nmsC_names hw.ok (lo := 0) (m := (1 + r2).toNat) (by omega)
        have o2 := nmsC_names hw.ok (lo := 9 * r1.toNat) (m := (1 + r3).toNat) (by omega)
        have o3 := nmsC_nodup hw.ok (lo := 0) (m := (1 + r2).toNat) (by omega)
        have o4 := nmsC_nodup hw.ok (lo := 9 * r1.toNat) (m := (1 + r3).toNat) (by omega)
        refine ⟨_, rfl, D, _, rfl, SqL.of hD8, by omega, fun P1 d1 pm1 so1 nd1 => ⟨d1, _, rfl, .inl ⟨SqL.of upd_same, fun t1 nt1 => ?_⟩⟩⟩
        have s1 : Same H8 (upd (upd H8 d1 (.lst (P1.map V.str))) t1 (.tup (P1.map V.str))) := (same_new nd1).trans (same_new nt1)
        have hp1 : (upd (upd H8 d1 (.lst (P1.map V.str))) t1 (.tup (P1.map V.str))) t1 = some (.tup (P1.map V.str)) := upd_same
        generalize upd (upd H8 d1 (.lst (P1.map V.str))) t1 (.tup (P1.map V.str)) = H9 at s1 hp1
        refine ⟨_, rfl, E2, _, rfl, SqL.of (s1 _ _ hE8), by omega, fun G1 d2 pm2 so2 nd2 => ⟨d2, _, rfl, .inl ⟨SqL.of upd_same, fun t2 nt2 => ?_⟩⟩⟩
        have s2 : Same H9 (upd (upd H9 d2 (.lst (G1.map V.str))) t2 (.tup (G1.map V.str))) := (same_new nd2).trans (same_new nt2)
        have hp2 : (upd (upd H9 d2 (.lst (G1.map V.str))) t2 (.tup (G1.map V.str))) t2 = some (.tup (G1.map V.str)) := upd_same
        generalize upd (upd H9 d2 (.lst (G1.map V.str))) t2 (.tup (G1.map V.str)) = H10 at s2 hp2
        refine ⟨(by show 2 ≤ sizeLine; decide), fun st nst => ?_⟩
        have s3 := @same_new _ _ (.tup [V.ref t1, .ref t2]) nst
        have s68 : Same H7 (upd H10 st (.tup [V.ref t1, .ref t2])) := sm8.trans (s1.trans (s2.trans s3))
        have bt : But p H (upd H10 st (.tup [V.ref t1, .ref t2])) := (bt12.tr (.of sm6)).tr (bt7.tr (.of s68))
        refine q st t1 t2 P1 G1 _ ?_ ⟨upd_same, s3 _ _ (s2 _ _ hp1), s3 _ _ hp2⟩ ⟨pm1.nodup_iff.mpr o3, pm2.nodup_iff.mpr o4, fun y hy => o1 y (pm1.mem_iff.mp hy), fun y hy => o2 y (pm2.mem_iff.mp hy), ?_, ?_, so1, so2⟩ (fun y hy => by
          rcases List.mem_append.mp hy with h | h
          · obtain ⟨j, hj, rfl⟩ := List.mem_map.mp (pm1.mem_iff.mp h)
            have := List.mem_range.mp hj
            exact ⟨0 + j, by omega, rfl⟩
          · obtain ⟨j, hj, rfl⟩ := List.mem_map.mp (pm2.mem_iff.mp h)
            have := List.mem_range.mp hj
            exact ⟨9 * r1.toNat + j, by omega, rfl⟩) ((pen7.mono (by omega)).same s68) bt
        · have nsp : st ≠ p := fun z => (pen7.same (sm8.trans (s1.trans s2))).there (z ▸ nst)
          cases e : H st with
          | none => rfl
          | some o => exact absurd ((((bt12.tr (.of sm6)).tr (bt7.tr (.of (sm8.trans (s1.trans s2))))) st o e nsp).symm.trans nst) (by intro z; cases z)
        · rw [pm1.length_eq, l1]; omega
        · rw [pm2.length_eq, l2]; omega
end
/-! ### an entry of any kind -/
def spEntry : Sp := fun vs H Q _ => ∃ (p c : Addr) (n : Nat) (w : Addr) (B : List Nat) (sp t : Nat) (st a1 a2 : Addr) (P G : List Str) (k : Nat), vs = [.ref p, .ref w, .ref st, .int (k : Int)] ∧ PenAt H p c n ∧ n ≤ 80000 ∧ WdAt H w B sp t ∧ StAt H st a1 a2 P G ∧ StOk P G ∧ k < 676 ∧
  ∀ (tp : Addr) (e : Ent) (H' : Hp), H tp = none → H' tp = some (.tup e.vals) → e.name = sc (nmC B sp t k) → 0 ≤ e.moment → e.moment ≤ 9999 → e.From P G (nmsC B sp t 0 3) → PenAt H' p c (n + 12) → But p H H' → Q (.ref tp) H'
theorem hand_in {B : List Nat} {sp t j : Nat} (h : j < 3) : sc (nmC B sp t j) ∈ nmsC B sp t 0 3 := List.mem_map.mpr ⟨j, List.mem_range.mpr h, by rw [Nat.zero_add]⟩
/-- a heap with something new, by what is known of it -/
theorem newH {T : Hp → Prop} {H : Hp} {p : Addr} {o : HO} (n : H p = none) (h : ∀ H', Same H H' → H' p = some o → T H') : T (upd H p o) := h _ (same_new n) upd_same
theorem newH2 {α : Type} {T : Hp → α → Prop} {H : Hp} {p : Addr} {o : HO} {x : α} (n : H p = none) (h : ∀ H', Same H H' → H' p = some o → T H' x) : T (upd H p o) x := h _ (same_new n) upd_same
section
variable {P : Program} {w : World} {K : PySem.W.Frag} {mg : Str → Option Value} {base : Heap}
abbrev sEntryN : List Str := ["_law_pen_here", "_law_words_here", "_law_stand_here", "_law_number", "_law_places", "_law_goods", "_law_kind", "_law_at", "_law_one", "_law_other", "_law_good", "_law_name_here", "_law_moment_here", "_law_many_here", "_law_few", "_law_made"]
theorem sc_sEntry : FnScope sEntryN ["_law_pen_here", "_law_words_here", "_law_stand_here", "_law_number"] (defScope sEntry) := ⟨rfl, rfl, rfl, by decide +kernel, rfl, by decide +kernel, by decide +kernel⟩
set_option maxHeartbeats 4000000 in
theorem ok_entry {f fT fN fO fM : Addr} {fd dT dN dO dM : FuncData} (F : Fun K "_law_entry" "_law_entry" sEntry f fd) (T : DefT P w K mg base "_law_draw" 1 fT dT ["_law_pen_here", "_law_many_here"] spDraw) (NM : DefT P w K mg base "_law_name" 1 fN dN ["_law_words_here", "_law_number"] spLName)
    (MO : DefT P w K mg base "_law_moment" 2 fO dO ["_law_pen_here"] spMoment) (MY : DefT P w K mg base "_law_many" 2 fM dM ["_law_pen_here"] spMany) (ml : mg "len" = none) (mi : mg "int" = none) (mx : mg "max" = none) : FnOk P w K mg base CX0 3 f fd ["_law_pen_here", "_law_words_here", "_law_stand_here", "_law_number"] spEntry := by
  refine F.ok sc_sEntry (fun vs H Q E h => ?_) (fun cdv A outer s H vs Q E hr h => ?_)
  · obtain ⟨p, c, n, wd, B, sp, t, st, a1, a2, Ps, G, k, rfl, _⟩ := h
    rfl
  · obtain ⟨p, c, n, wd, B, sp, t, st, a1, a2, Ps, G, k, rfl, pen, hn, hw, hs, so, hk, q⟩ := h
    have nd := sc_sEntry.nd
    have hr1 : Room 1 _ := hr.mono (by decide)
    have nd := sc_sEntry.nd
    have hr1 : Room 1 _ := hr.mono (by decide)
    refine ⟨_, pss_cons (ps_asg (pv 2) (pg_tup (by rfl) (pgs_cons (pg_name (i := 4) nd rfl (Or.inl rfl)) (pgs_cons (pg_name (i := 5) nd rfl (Or.inl rfl)) pgs_nil))))
      (pss_cons (ps_set (i := 6) nd rfl (Or.inl rfl) (pe_call T.ok hr1 (by rfl) T.g T.kp T.b .nil pass0 (pa_cons (pv 0) (pa_cons (pe_ix ix_list (pe_lst (pa_cons pe_int (pa_cons pe_int pa_nil))) (pe_callTy call_int1 (by rfl) mi (by decide +kernel) (pa_cons (pe_cmpR op_gt (pe_callB call_len_seq (by rfl) ml PySem.boot_len (pa_cons (pv 4) pa_nil)) pe_int (nomark _)) pa_nil)) (fun _ _ => rfl)) pa_nil))))
      (pss_cons (ps_set (i := 7) nd rfl (Or.inl rfl) (pe_call T.ok hr1 (by rfl) T.g T.kp T.b .nil pass0 (pa_cons (pv 0) (pa_cons (pe_callB call_len_seq (by rfl) ml PySem.boot_len (pa_cons (pv 4) pa_nil)) pa_nil))))
      (pss_cons (ps_set (i := 8) nd rfl (Or.inl rfl) (pe_ix ix_tup (pv 4) (pv 7) (fun _ _ => rfl)))
      (pss_cons (ps_set (i := 9) nd rfl (Or.inl rfl) (pe_ix ix_tup (pv 4) (pe_op op_mod (pe_op op_add (pe_op op_add (pv 7) pe_int) (pe_call T.ok hr1 (by rfl) T.g T.kp T.b .nil pass0 (pa_cons (pv 0) (pa_cons (pe_callB (call_max2 rfl) (by rfl) mx (by decide +kernel) (pa_cons pe_int (pa_cons (pe_op op_sub (pe_callB call_len_seq (by rfl) ml PySem.boot_len (pa_cons (pv 4) pa_nil)) pe_int) pa_nil))) pa_nil)))) (pe_callB call_len_seq (by rfl) ml PySem.boot_len (pa_cons (pv 4) pa_nil))) (fun _ _ => rfl)))
      (pss_cons (ps_set (i := 10) nd rfl (Or.inl rfl) (pe_ix ix_tup (pv 5) (pe_call T.ok hr1 (by rfl) T.g T.kp T.b .nil pass0 (pa_cons (pv 0) (pa_cons (pe_callB call_len_seq (by rfl) ml PySem.boot_len (pa_cons (pv 5) pa_nil)) pa_nil))) (fun _ _ => rfl)))
      (pss_cons (ps_set (i := 11) nd rfl (Or.inl rfl) (pe_call NM.ok hr1 (by rfl) NM.g NM.kp NM.b .nil pass0 (pa_cons (pv 1) (pa_cons (pv 3) pa_nil))))
      (pss_cons (ps_set (i := 12) nd rfl (Or.inl rfl) (pe_call MO.ok hr (by rfl) MO.g MO.kp MO.b .nil pass0 (pa_cons (pv 0) pa_nil)))
      (pss_cons (ps_set (i := 13) nd rfl (Or.inl rfl) (pe_call MY.ok hr (by rfl) MY.g MY.kp MY.b .nil pass0 (pa_cons (pv 0) pa_nil)))
      (pss_cons (ps_set (i := 14) nd rfl (Or.inl rfl) (pe_call T.ok hr1 (by rfl) T.g T.kp T.b .nil pass0 (pa_cons (pv 0) (pa_cons pe_int pa_nil))))
      (pss_cons (ps_set (i := 15) nd rfl (Or.inl rfl) (pe_lst (pa_cons (pe_tup (pa_cons pe_str (pa_cons (pv 11) (pa_cons (pv 12) (pa_cons (pv 10) (pa_cons (pv 8) (pa_cons (pv 13) (pa_cons (pe_op op_mul (pv 14) (pe_op op_fdiv (pe_op op_pow pe_int pe_int) pe_int)) pa_nil)))))))) (pa_cons (pe_tup (pa_cons pe_str (pa_cons (pv 11) (pa_cons (pv 12) (pa_cons (pv 10) (pa_cons (pv 8) (pa_cons (pv 13) pa_nil))))))) pa_nil))))
      (pss_cons (ps_set (i := 15) nd rfl (Or.inl rfl) (pe_op op_cat (pv 15) (pe_lst (pa_cons (pe_tup (pa_cons pe_str (pa_cons (pv 11) (pa_cons (pv 12) (pa_cons (pv 10) (pa_cons (pv 8) (pa_cons (pe_ix ix_list (pe_lst (pa_cons pe_int (pa_cons (pe_op op_sub (pv 13) pe_int) (pa_cons (pv 13) pa_nil)))) (pv 14) (fun _ _ => rfl)) (pa_cons (pe_call NM.ok hr1 (by rfl) NM.g NM.kp NM.b .nil pass0 (pa_cons (pv 1) (pa_cons (pv 14) pa_nil))) pa_nil)))))))) pa_nil))))
      (pss_cons (ps_set (i := 15) nd rfl (Or.inl rfl) (pe_op op_cat (pv 15) (pe_lst (pa_cons (pe_tup (pa_cons pe_str (pa_cons (pv 11) (pa_cons (pv 12) (pa_cons (pv 10) (pa_cons (pv 8) pa_nil)))))) (pa_cons (pe_tup (pa_cons pe_str (pa_cons (pv 11) (pa_cons (pv 12) (pa_cons (pv 10) (pa_cons (pv 8) (pa_cons pe_str pa_nil))))))) pa_nil)))))
      (pss_cons (ps_set (i := 15) nd rfl (Or.inl rfl) (pe_op op_cat (pv 15) (pe_lst (pa_cons (pe_tup (pa_cons pe_str (pa_cons (pv 11) (pa_cons (pv 12) (pa_cons (pv 10) (pa_cons (pv 8) (pa_cons (pv 9) (pa_cons (pv 13) pa_nil)))))))) (pa_cons (pe_tup (pa_cons pe_str (pa_cons (pv 11) (pa_cons (pv 12) (pa_cons (pv 10) (pa_cons (pv 8) (pa_cons (pv 9) pa_nil))))))) pa_nil)))))
      (pss_one (ps_ret (pe_ix ix_list (pe_op op_cat (pv 15) (pe_lst (pa_cons (pe_tup (pa_cons pe_str (pa_cons (pv 11) (pa_cons (pv 12) (pa_cons (pv 8) (pa_cons (pv 9) pa_nil)))))) pa_nil))) (pv 6) (fun _ _ => rfl))))))))))))))))), ?_⟩
    have lp := so.pl
    have lg := so.gl
    have cP : (Ps.map V.str).length = Ps.length := List.length_map _
    have cG : (G.map V.str).length = G.length := List.length_map _
    refine ⟨_, rfl, st, _, rfl, SqT.of hs.at_, rfl, _, _, rfl, _, _, rfl, rfl, ?_⟩
    -- the kind
    refine ⟨_, rfl, (by show 2 ≤ sizeLine; decide), fun l nl => ?_⟩
    have sl := @same_new _ _ (.lst [V.int 5, .int 8]) nl
    refine ⟨_, rfl, a1, _, rfl, .inr (SqT.of (sl _ _ hs.p)), _, 1, rfl, rfl, .inr ⟨_, rfl, ?_⟩⟩
    obtain ⟨mk, hm1, hm2⟩ : ∃ mk : Int, atI [V.int 5, .int 8] (if decide (((Ps.map V.str).length : Int) > 1) = true then 1 else 0) = some (.int mk) ∧ (mk = 5 ∨ (mk = 8 ∧ 1 < Ps.length)) := by
      by_cases z : ((Ps.map V.str).length : Int) > 1
      · rw [decide_eq_true z]
        exact ⟨8, atI_nat (j := 1) rfl, .inr ⟨rfl, by rw [cP] at z; omega⟩⟩
      · rw [decide_eq_false z]
        exact ⟨5, atI_nat (j := 0) rfl, .inl rfl⟩
    refine ⟨l, _, _, _, rfl, rfl, SqL.of upd_same, hm1, p, c, n, mk, rfl, pen.same sl, by omega, by omega, by omega, fun r1 H1 b1 d1 pen1 bt1 => ?_⟩
    have bt1' : But p H H1 := (But.of sl).tr bt1
    have hs1 := hs.on (TK.pen pen bt1')
    have hw1 := hw.on (TK.pen pen bt1')
    -- the places
    refine ⟨_, rfl, _, rfl, a1, _, rfl, .inr (SqT.of hs1.p), p, c, _, _, rfl, pen1, by omega, by rw [cP]; omega, by rw [cP]; omega, fun r2 H2 b2 d2 pen2 bt2 => ?_⟩
    rw [cP] at d2
    have hs2 := hs1.on (TK.pen pen1 bt2)
    have hw2 := hw1.on (TK.pen pen1 bt2)
    obtain ⟨one, ho1, ho2, ho3⟩ := at_strs (ys := Ps) (r := r2) b2 d2
    refine ⟨_, rfl, _, rfl, a1, _, _, _, rfl, rfl, SqT.of hs2.p, ho1, ?_⟩
    refine ⟨_, rfl, _, rfl, r2, 1, rfl, rfl, _, rfl, _, rfl, a1, _, rfl, .inr (SqT.of hs2.p), _, 1, rfl, rfl, 1, _, rfl, ?_⟩
    generalize hmx : (if ((Ps.map V.str).length : Int) - 1 > 1 then ((Ps.map V.str).length : Int) - 1 else 1) = mxv
    have hmx' : 1 ≤ mxv ∧ mxv ≤ 6 ∧ (1 < Ps.length → mxv = (Ps.length : Int) - 1) := by
      rw [← hmx, cP]
      split <;> omega
    refine ⟨p, c, _, mxv, rfl, pen2, by omega, by omega, by omega, fun r3 H3 b3 d3 pen3 bt3 => ?_⟩
    have hs3 := hs2.on (TK.pen pen2 bt3)
    have hw3 := hw2.on (TK.pen pen2 bt3)
    have j1 := Int.emod_nonneg (r2 + 1 + r3) (show (Ps.length : Int) ≠ 0 by omega)
    have j2 := Int.emod_lt_of_pos (r2 + 1 + r3) (show (0 : Int) < Ps.length by omega)
    obtain ⟨oth, hq1, hq2, hq3⟩ := at_strs (ys := Ps) (r := (r2 + 1 + r3) % (Ps.length : Int)) j1 j2
    refine ⟨_, _, rfl, rfl, _, rfl, a1, _, rfl, .inr (SqT.of hs3.p), _, _, rfl, rfl, (by rw [cP]; show (0 : Int) < (Ps.length : Int); omega), a1, _, _, _, rfl, rfl, SqT.of hs3.p, (by rw [cP]; exact hq1), ?_⟩
    have apart : 1 < Ps.length → one ≠ oth := fun l1 z => by
      have lt1 : r2.toNat < Ps.length := by omega
      have lt2 : ((r2 + 1 + r3) % (Ps.length : Int)).toNat < Ps.length := by omega
      have := (List.getElem?_inj lt1 so.pd).mp (ho2.trans (by rw [z]; exact hq2.symm))
      have e1 := hmx'.2.2 l1
      have : (r2 + 1 + r3) % (Ps.length : Int) = r2 := by omega
      by_cases w : r2 + 1 + r3 < Ps.length
      · rw [Int.emod_eq_of_lt (by omega) w] at this
        omega
      · have : (r2 + 1 + r3 - Ps.length) % (Ps.length : Int) = (r2 + 1 + r3) % (Ps.length : Int) := Int.sub_emod_right _ _
        rw [Int.emod_eq_of_lt (by omega) (by omega)] at this
        omega
    -- the good, the name, the moment, the amounts
    refine ⟨_, rfl, _, rfl, _, rfl, a2, _, rfl, .inr (SqT.of hs3.g), p, c, _, _, rfl, pen3, by omega, by rw [cG]; omega, by rw [cG]; omega, fun r4 H4 b4 d4 pen4 bt4 => ?_⟩
    rw [cG] at d4
    have hs4 := hs3.on (TK.pen pen3 bt4)
    have hw4 := hw3.on (TK.pen pen3 bt4)
    obtain ⟨gd, hg1, hg2, hg3⟩ := at_strs (ys := G) (r := r4) b4 d4
    refine ⟨a2, _, _, _, rfl, rfl, SqT.of hs4.g, hg1, ?_⟩
    refine ⟨_, rfl, _, rfl, wd, B, sp, t, k, rfl, hw4, hk, ?_⟩
    refine ⟨_, rfl, p, c, _, rfl, pen4, by omega, fun mo H5 m0 m1 pen5 bt5 => ?_⟩
    have hw5 := hw4.on (TK.pen pen4 bt5)
    refine ⟨_, rfl, p, c, _, rfl, pen5, by omega, fun my H6 y0 y1 pen6 bt6 => ?_⟩
    have hw6 := hw5.on (TK.pen pen5 bt6)
    refine ⟨_, rfl, p, c, _, 3, rfl, pen6, by omega, by decide, by decide, fun fw H7 f0 f1 pen7 bt7 => ?_⟩
    have hw7 := hw6.on (TK.pen pen6 bt7)
    have btA : But p H H7 := bt1'.tr (bt2.tr (bt3.tr (bt4.tr (bt5.tr (bt6.tr bt7)))))
    have pen7' : PenAt H7 p c (n + 12) := pen7.mono (by omega)
    generalize hnm : sc (nmC B sp t k) = nme
    rw [hnm] at q
    -- come, go
    show tSeq _ _ _ [some (.ref p), some (.ref wd), some (.ref st), some (.int (k : Int)), some (.ref a1), some (.ref a2), some (.int r1), some (.int r2), some (.str one), some (.str oth), some (.str gd), some (.str nme), some (.int mo), some (.int my), some (.int fw), none] H7
    have e9 : (10 : Int) ^ (9 : Int).toNat = 1000000000 := by decide
    refine ⟨_, rfl, _, rfl, _, rfl, _, rfl, _, rfl, _, rfl, 10, 9, rfl, rfl, ⟨by decide, by decide, by decide⟩, ?_⟩
    dsimp only
    rw [e9]
    refine ⟨1000000000, 2, rfl, rfl, ⟨by decide, by decide⟩, ?_⟩
    have e5 : (1000000000 : Int) / 2 = 500000000 := by decide
    dsimp only
    rw [e5]
    refine ⟨fw, 500000000, rfl, rfl, .inl ⟨by omega, by omega⟩, (by show 7 ≤ sizeLine; decide), fun t1 n1 => ?_⟩
    have x1 : H t1 = none := btA.free n1 pen7.there
    refine newH2 n1 fun Ha sa g1 => ?_
    refine ⟨_, rfl, _, rfl, _, rfl, _, rfl, _, rfl, (by show 6 ≤ sizeLine; decide), fun t2 n2 => ?_⟩
    have x2 : H t2 = none := btA.free (sa.free n2) pen7.there
    refine newH n2 fun Hb sb g2 => ?_
    refine ⟨(by show 2 ≤ sizeLine; decide), fun L1 nL1 => ?_⟩
    refine newH2 nL1 fun H8 sc8 gL1 => ?_
    have sA : Same H7 H8 := sa.trans (sb.trans sc8)
    replace g1 := sc8 _ _ (sb _ _ g1)
    replace g2 := sc8 _ _ g2
    clear sa sb sc8
    -- count
    obtain ⟨cv, hc1, hc2⟩ := at_ints (ns := [0, my - 1, my]) (r := fw) f0 (by show fw < 3; omega)
    have cvr : 0 ≤ cv ∧ cv ≤ 1000000000 := by
      simp only [List.mem_cons, List.not_mem_nil, or_false] at hc2
      rcases hc2 with rfl | rfl | rfl <;> omega
    refine ⟨_, rfl, _, rfl, _, rfl, _, rfl, _, rfl, _, rfl, my, 1, rfl, rfl, _, rfl, (by show 3 ≤ sizeLine; decide), fun lc nlc => ?_⟩
    have sa := @same_new H8 lc (HO.lst [V.int 0, V.int (my - 1), V.int my]) nlc
    have glc : (upd H8 lc (HO.lst [V.int 0, V.int (my - 1), V.int my])) lc = some (HO.lst [V.int 0, V.int (my - 1), V.int my]) := upd_same
    generalize upd H8 lc (HO.lst [V.int 0, V.int (my - 1), V.int my]) = Ha at sa glc ⊢
    refine ⟨_, rfl, lc, _, _, _, rfl, rfl, SqL.of glc, hc1, _, rfl, _, rfl, wd, B, sp, t, fw.toNat, ?_, (hw7.on (TK.of sA)).on (TK.of sa), by omega, (by show 7 ≤ sizeLine; decide), fun t3 n3 => ?_⟩
    · rw [Int.toNat_of_nonneg f0]
      rfl
    have x3 : H t3 = none := btA.free (sA.free (sa.free n3)) pen7.there
    have sb := @same_new Ha t3 (HO.tup [V.str "count", V.str nme, V.int mo, V.str gd, V.str one, V.int cv, V.str (sc (nmC B sp t fw.toNat))]) n3
    have g3 : (upd Ha t3 (HO.tup [V.str "count", V.str nme, V.int mo, V.str gd, V.str one, V.int cv, V.str (sc (nmC B sp t fw.toNat))])) t3 = some (HO.tup [V.str "count", V.str nme, V.int mo, V.str gd, V.str one, V.int cv, V.str (sc (nmC B sp t fw.toNat))]) := upd_same
    generalize upd Ha t3 (HO.tup [V.str "count", V.str nme, V.int mo, V.str gd, V.str one, V.int cv, V.str (sc (nmC B sp t fw.toNat))]) = Hb at sb g3 ⊢
    refine ⟨(by show 1 ≤ sizeLine; decide), fun L2 nL2 => ?_⟩
    have sc9 := @same_new Hb L2 (HO.lst [V.ref t3]) nL2
    have gL2 : (upd Hb L2 (HO.lst [V.ref t3])) L2 = some (HO.lst [V.ref t3]) := upd_same
    generalize upd Hb L2 (HO.lst [V.ref t3]) = Hc at sc9 gL2 ⊢
    have s9 := sa.trans (sb.trans sc9)
    refine ⟨L1, L2, _, _, rfl, rfl, s9 _ _ gL1, gL2, (by show 2 + 1 ≤ sizeLine; decide), fun L3 nL3 => ?_⟩
    have sd := @same_new Hc L3 (HO.lst ([V.ref t1, V.ref t2] ++ [V.ref t3])) nL3
    have gL3 : (upd Hc L3 (HO.lst ([V.ref t1, V.ref t2] ++ [V.ref t3]))) L3 = some (HO.lst ([V.ref t1, V.ref t2] ++ [V.ref t3])) := upd_same
    generalize upd Hc L3 (HO.lst ([V.ref t1, V.ref t2] ++ [V.ref t3])) = H9 at sd gL3 ⊢
    have sB := s9.trans sd
    replace g1 := sB _ _ g1
    replace g2 := sB _ _ g2
    replace g3 := sd _ _ (sc9 _ _ g3)
    replace sA := sA.trans sB
    clear sa sb sc9 sd s9 sB glc gL1 gL2
    -- look, some
    refine ⟨_, rfl, _, rfl, _, rfl, _, rfl, _, rfl, (by show 5 ≤ sizeLine; decide), fun t4 n4 => ?_⟩
    have x4 : H t4 = none := btA.free (sA.free n4) pen7.there
    have sa := @same_new H9 t4 (HO.tup [V.str "look", V.str nme, V.int mo, V.str gd, V.str one]) n4
    have g4 : (upd H9 t4 (HO.tup [V.str "look", V.str nme, V.int mo, V.str gd, V.str one])) t4 = some (HO.tup [V.str "look", V.str nme, V.int mo, V.str gd, V.str one]) := upd_same
    generalize upd H9 t4 (HO.tup [V.str "look", V.str nme, V.int mo, V.str gd, V.str one]) = Ha at sa g4 ⊢
    refine ⟨_, rfl, _, rfl, _, rfl, _, rfl, (by show 6 ≤ sizeLine; decide), fun t5 n5 => ?_⟩
    have x5 : H t5 = none := btA.free (sA.free (sa.free n5)) pen7.there
    have sb := @same_new Ha t5 (HO.tup [V.str "some", V.str nme, V.int mo, V.str gd, V.str one, V.str ""]) n5
    have g5 : (upd Ha t5 (HO.tup [V.str "some", V.str nme, V.int mo, V.str gd, V.str one, V.str ""])) t5 = some (HO.tup [V.str "some", V.str nme, V.int mo, V.str gd, V.str one, V.str ""]) := upd_same
    generalize upd Ha t5 (HO.tup [V.str "some", V.str nme, V.int mo, V.str gd, V.str one, V.str ""]) = Hb at sb g5 ⊢
    refine ⟨(by show 2 ≤ sizeLine; decide), fun L4 nL4 => ?_⟩
    have sc9 := @same_new Hb L4 (HO.lst [V.ref t4, V.ref t5]) nL4
    have gL4 : (upd Hb L4 (HO.lst [V.ref t4, V.ref t5])) L4 = some (HO.lst [V.ref t4, V.ref t5]) := upd_same
    generalize upd Hb L4 (HO.lst [V.ref t4, V.ref t5]) = Hc at sc9 gL4 ⊢
    have s9 := sa.trans (sb.trans sc9)
    refine ⟨L3, L4, _, _, rfl, rfl, s9 _ _ gL3, gL4, (by show 3 + 2 ≤ sizeLine; decide), fun L5 nL5 => ?_⟩
    have sd := @same_new Hc L5 (HO.lst ([V.ref t1, V.ref t2] ++ [V.ref t3] ++ [V.ref t4, V.ref t5])) nL5
    have gL5 : (upd Hc L5 (HO.lst ([V.ref t1, V.ref t2] ++ [V.ref t3] ++ [V.ref t4, V.ref t5]))) L5 = some (HO.lst ([V.ref t1, V.ref t2] ++ [V.ref t3] ++ [V.ref t4, V.ref t5])) := upd_same
    generalize upd Hc L5 (HO.lst ([V.ref t1, V.ref t2] ++ [V.ref t3] ++ [V.ref t4, V.ref t5])) = H10 at sd gL5 ⊢
    have sB := s9.trans sd
    replace g1 := sB _ _ g1
    replace g2 := sB _ _ g2
    replace g3 := sB _ _ g3
    replace g4 := sd _ _ (sc9 _ _ (sb _ _ g4))
    replace g5 := sd _ _ (sc9 _ _ g5)
    replace sA := sA.trans sB
    clear sa sb sc9 sd s9 sB gL3 gL4
    -- move, some
    refine ⟨_, rfl, _, rfl, _, rfl, _, rfl, _, rfl, _, rfl, _, rfl, (by show 7 ≤ sizeLine; decide), fun t6 n6 => ?_⟩
    have x6 : H t6 = none := btA.free (sA.free n6) pen7.there
    have sa := @same_new H10 t6 (HO.tup [V.str "move", V.str nme, V.int mo, V.str gd, V.str one, V.str oth, V.int my]) n6
    have g6 : (upd H10 t6 (HO.tup [V.str "move", V.str nme, V.int mo, V.str gd, V.str one, V.str oth, V.int my])) t6 = some (HO.tup [V.str "move", V.str nme, V.int mo, V.str gd, V.str one, V.str oth, V.int my]) := upd_same
    generalize upd H10 t6 (HO.tup [V.str "move", V.str nme, V.int mo, V.str gd, V.str one, V.str oth, V.int my]) = Ha at sa g6 ⊢
    refine ⟨_, rfl, _, rfl, _, rfl, _, rfl, _, rfl, (by show 6 ≤ sizeLine; decide), fun t7 n7 => ?_⟩
    have x7 : H t7 = none := btA.free (sA.free (sa.free n7)) pen7.there
    have sb := @same_new Ha t7 (HO.tup [V.str "some", V.str nme, V.int mo, V.str gd, V.str one, V.str oth]) n7
    have g7 : (upd Ha t7 (HO.tup [V.str "some", V.str nme, V.int mo, V.str gd, V.str one, V.str oth])) t7 = some (HO.tup [V.str "some", V.str nme, V.int mo, V.str gd, V.str one, V.str oth]) := upd_same
    generalize upd Ha t7 (HO.tup [V.str "some", V.str nme, V.int mo, V.str gd, V.str one, V.str oth]) = Hb at sb g7 ⊢
    refine ⟨(by show 2 ≤ sizeLine; decide), fun L6 nL6 => ?_⟩
    have sc9 := @same_new Hb L6 (HO.lst [V.ref t6, V.ref t7]) nL6
    have gL6 : (upd Hb L6 (HO.lst [V.ref t6, V.ref t7])) L6 = some (HO.lst [V.ref t6, V.ref t7]) := upd_same
    generalize upd Hb L6 (HO.lst [V.ref t6, V.ref t7]) = Hc at sc9 gL6 ⊢
    have s9 := sa.trans (sb.trans sc9)
    refine ⟨L5, L6, _, _, rfl, rfl, s9 _ _ gL5, gL6, (by show 5 + 2 ≤ sizeLine; decide), fun L7 nL7 => ?_⟩
    have sd := @same_new Hc L7 (HO.lst ([V.ref t1, V.ref t2] ++ [V.ref t3] ++ [V.ref t4, V.ref t5] ++ [V.ref t6, V.ref t7])) nL7
    have gL7 : (upd Hc L7 (HO.lst ([V.ref t1, V.ref t2] ++ [V.ref t3] ++ [V.ref t4, V.ref t5] ++ [V.ref t6, V.ref t7]))) L7 = some (HO.lst ([V.ref t1, V.ref t2] ++ [V.ref t3] ++ [V.ref t4, V.ref t5] ++ [V.ref t6, V.ref t7])) := upd_same
    generalize upd Hc L7 (HO.lst ([V.ref t1, V.ref t2] ++ [V.ref t3] ++ [V.ref t4, V.ref t5] ++ [V.ref t6, V.ref t7])) = H11 at sd gL7 ⊢
    have sB := s9.trans sd
    replace g1 := sB _ _ g1
    replace g2 := sB _ _ g2
    replace g3 := sB _ _ g3
    replace g4 := sB _ _ g4
    replace g5 := sB _ _ g5
    replace g6 := sd _ _ (sc9 _ _ (sb _ _ g6))
    replace g7 := sd _ _ (sc9 _ _ g7)
    replace sA := sA.trans sB
    clear sa sb sc9 sd s9 sB gL5 gL6
    -- swap, and which
    refine ⟨_, rfl, _, rfl, _, rfl, _, rfl, _, rfl, (by show 5 ≤ sizeLine; decide), fun t8 n8 => ?_⟩
    have x8 : H t8 = none := btA.free (sA.free n8) pen7.there
    have sa := @same_new H11 t8 (HO.tup [V.str "swap", V.str nme, V.int mo, V.str one, V.str oth]) n8
    have g8 : (upd H11 t8 (HO.tup [V.str "swap", V.str nme, V.int mo, V.str one, V.str oth])) t8 = some (HO.tup [V.str "swap", V.str nme, V.int mo, V.str one, V.str oth]) := upd_same
    generalize upd H11 t8 (HO.tup [V.str "swap", V.str nme, V.int mo, V.str one, V.str oth]) = Ha at sa g8 ⊢
    refine ⟨(by show 1 ≤ sizeLine; decide), fun L8 nL8 => ?_⟩
    have sb := @same_new Ha L8 (HO.lst [V.ref t8]) nL8
    have gL8 : (upd Ha L8 (HO.lst [V.ref t8])) L8 = some (HO.lst [V.ref t8]) := upd_same
    generalize upd Ha L8 (HO.lst [V.ref t8]) = Hb at sb gL8 ⊢
    have s9 := sa.trans sb
    refine ⟨L7, L8, _, _, rfl, rfl, s9 _ _ gL7, gL8, (by show 7 + 1 ≤ sizeLine; decide), fun L9 nL9 => ?_⟩
    have sd := @same_new Hb L9 (HO.lst ([V.ref t1, V.ref t2] ++ [V.ref t3] ++ [V.ref t4, V.ref t5] ++ [V.ref t6, V.ref t7] ++ [V.ref t8])) nL9
    have gL9 : (upd Hb L9 (HO.lst ([V.ref t1, V.ref t2] ++ [V.ref t3] ++ [V.ref t4, V.ref t5] ++ [V.ref t6, V.ref t7] ++ [V.ref t8]))) L9 = some (HO.lst ([V.ref t1, V.ref t2] ++ [V.ref t3] ++ [V.ref t4, V.ref t5] ++ [V.ref t6, V.ref t7] ++ [V.ref t8])) := upd_same
    generalize upd Hb L9 (HO.lst ([V.ref t1, V.ref t2] ++ [V.ref t3] ++ [V.ref t4, V.ref t5] ++ [V.ref t6, V.ref t7] ++ [V.ref t8])) = Hz at sd gL9 ⊢
    have sB := s9.trans sd
    replace g8 := sd _ _ (sb _ _ g8)
    have penZ := pen7'.same (sA.trans sB)
    have btZ := btA.tr (.of (sA.trans sB))
    refine ⟨_, rfl, L9, [V.ref t1, V.ref t2] ++ [V.ref t3] ++ [V.ref t4, V.ref t5] ++ [V.ref t6, V.ref t7] ++ [V.ref t8], r1, ?_⟩
    have w8 : r1 = 0 ∨ r1 = 1 ∨ r1 = 2 ∨ r1 = 3 ∨ r1 = 4 ∨ ((r1 = 5 ∨ r1 = 6 ∨ r1 = 7) ∧ 1 < Ps.length) := by omega
    rcases w8 with rfl | rfl | rfl | rfl | rfl | ⟨rfl | rfl | rfl, l1⟩
    · exact ⟨_, rfl, rfl, SqL.of gL9, atI_nat (j := 0) rfl, q t1 (Ent.come nme mo gd one my (fw * 500000000)) _ x1 (sB _ _ g1) rfl m0 m1 ⟨hg3, ho3, y0, y1, (by omega), (by omega)⟩ penZ btZ⟩
    · exact ⟨_, rfl, rfl, SqL.of gL9, atI_nat (j := 1) rfl, q t2 (Ent.go nme mo gd one my) _ x2 (sB _ _ g2) rfl m0 m1 ⟨hg3, ho3, y0, y1⟩ penZ btZ⟩
    · exact ⟨_, rfl, rfl, SqL.of gL9, atI_nat (j := 2) rfl, q t3 (Ent.count nme mo gd one cv (sc (nmC B sp t fw.toNat))) _ x3 (sB _ _ g3) rfl m0 m1 ⟨hg3, ho3, cvr.1, cvr.2, hand_in (by omega)⟩ penZ btZ⟩
    · exact ⟨_, rfl, rfl, SqL.of gL9, atI_nat (j := 3) rfl, q t4 (Ent.look nme mo gd one) _ x4 (sB _ _ g4) rfl m0 m1 ⟨hg3, ho3⟩ penZ btZ⟩
    · exact ⟨_, rfl, rfl, SqL.of gL9, atI_nat (j := 4) rfl, q t5 (Ent.some_ nme mo gd one "") _ x5 (sB _ _ g5) rfl m0 m1 ⟨hg3, ho3, .inl rfl⟩ penZ btZ⟩
    · exact ⟨_, rfl, rfl, SqL.of gL9, atI_nat (j := 5) rfl, q t6 (Ent.move nme mo gd one oth my) _ x6 (sB _ _ g6) rfl m0 m1 ⟨hg3, ho3, hq3, fun _ => apart l1, y0, y1⟩ penZ btZ⟩
    · exact ⟨_, rfl, rfl, SqL.of gL9, atI_nat (j := 6) rfl, q t7 (Ent.some_ nme mo gd one oth) _ x7 (sB _ _ g7) rfl m0 m1 ⟨hg3, ho3, .inr ⟨hq3, fun _ => apart l1⟩⟩ penZ btZ⟩
    · exact ⟨_, rfl, rfl, SqL.of gL9, atI_nat (j := 7) rfl, q t8 (Ent.swap nme mo one oth) _ x8 g8 rfl m0 m1 ⟨ho3, hq3, fun _ => apart l1⟩ penZ btZ⟩
end
/-! ### generator expressions whose element reads the module's names and the def's cells -/
section
variable {X : Cx} {pins : List (Addr × Obj)} {σ : L2.St} {H : Hp} {s : Shared}
/-- walking u makes one new object and reads fp alone; n items, the i-th one as Pf says -/
def GSrc (X : Cx) (T : Addr) (u : Value) (s1 : Shared) (n : Nat) (Pf : Nat → Value → Prop) : Prop :=
  ∀ (Q : Value → Shared → Prop) (E : Value → Shared → Prop),
    (∀ (o : Obj) (fp : List Addr) (St : Nat → Heap → Prop),
      (∀ A' : Around, A'.handled = none → Walks X.prog X.w A' s1.heap.objs.size fp [s1.heap.objs.size] n Pf St) →
      St 0 (s1.heap.push o) → (∀ b ∈ fp, b ≤ s1.heap.objs.size ∧ b ≠ T) →
      Q (.ref s1.heap.objs.size) { s1 with heap := s1.heap.push o }) →
    wpAny (model X.prog X.w) X.A (pyIter u) Q E s1
/-- the tests and the element at the item v: nothing that stood is changed -/
structure GElt (X : Cx) (T : Addr) (scope : Scope) (x : Str) (ifs : List Expr) (elt : Expr) (s1 : Shared) (Pf : Nat → Value → Prop) (pz : Nat → Bool) (F : Nat → Value → Prop) : Prop where
  run : ∀ (ce : Env) (A' : Around) (E' : Value → Shared → Prop) (i : Nat) (v : Value) (s2 : Shared) (m2 : Str → Option Value),
    ce.scope = scope → ce.globals = mainGlobals → ce.cells = cloFrom X.env.cells scope.names [] → A'.handled = none → Pf i v → s2.heap.Ns ce.locals m2 → m2 x = some v →
    (∀ b u, b ≠ T → s1.heap.get? b = some u → s2.heap.get? b = some u) →
    wpAny (model X.prog X.w) A' (forIn ifs true fun c r => if r = true then do let ok ← isTrue c ce (eval c ce); pure (ForInStep.yield ok) else pure (ForInStep.yield r)) (fun ok s3 => ok = pz i ∧ Keeps s2 s3) E' s2 ∧
    (pz i = true → wpAny (model X.prog X.w) A' (eval elt ce) (fun y s3 => F i y ∧ Keeps s2 s3) E' s2)
/-- the generator g is ready to be walked in s5 -/
def GReady (X : Cx) (pins : List (Addr × Obj)) (σ : L2.St) (H1 : Hp) (T : Addr) (n : Nat) (pz : Nat → Bool) (F : Nat → Value → Prop) (g : Addr) (s5 : Shared) : Prop :=
  ∃ (fp wr : List Addr) (G : Array GenState → Array GenState → Prop) (St : Nat → Shared → Prop),
    WalksS X.prog X.w X.A.in1 g fp wr G (passing pz n 0).length (fun j y => ∃ i, (passing pz n 0)[j]? = some i ∧ F i y) St ∧ St 0 s5 ∧
    ∀ s', Moved wr G s5 s' → ∃ H2, GxR.Tabbed T H1 H2 ∧ Inv X pins σ H2 s'
theorem gen_mk {c T : Addr} {elt iter : Expr} {x : Str} {px gpos : Pos} {ifs : List Expr} {scope : Scope} {te : TE} {k : Nat} {Q' : Value → Shared → Prop} {R : V → Hp → Prop}
    (hr : Room k X.A) (TB : GxR.TabB X.base X.mg c T) (hcode : X.env.code = .ref c) (S : GxR.GenS X.env scope x) (hi : PE X iter te)
    (hs : ∀ v, genFold iter X.env v = pure v) (I : Inv X pins σ H s) (h : te σ H fun v H1 => GxR.TabG H1 T ∧ R v H1)
    (hQ : ∀ v u H1 s1, Inv X pins σ H1 s1 → RelV v u → GxR.TabG H1 T → R v H1 → ∃ n Pf pz F, GSrc X T u s1 n Pf ∧ GElt X T scope x ifs elt s1 Pf pz F ∧
      ∀ g s5, GReady X pins σ H1 T n pz F g s5 → Q' (.ref g) s5) :
    wpAny (model X.prog X.w) X.A (eval (.GeneratorExp elt [⟨.Name x px, iter, ifs, 0⟩] scope gpos) X.env) Q' X.xe s := by
  refine wpAny_GeneratorExp_walksQ hr.hd S.co (closure_ok S.free) S.cell S.dot S.loc S.kind (Nat.lt_of_le_of_lt (by omega : X.A.depth ≤ X.A.depth + 3 * k + 5) hr.dp) ?_ hs
  refine thn (hi.run pins s σ H _ I h) fun u s1 ⟨v, H1, J, rv, ⟨ps, hT, hok⟩, hR⟩ => ?_
  obtain ⟨n, Pf, pz, F, src, el, fin⟩ := hQ v u H1 s1 J rv ⟨ps, hT, hok⟩ hR
  refine src _ _ fun o fp St W st0 hfp => ?_
  have gT : s1.heap.get? T = some (PySem.W.tabObj ps) := J.hok T _ hT
  have ltT := Heap.lt_size gT
  have sz : (s1.heap.push o).objs.size = s1.heap.objs.size + 1 := Heap.size_push ..
  have cd : PySem.W.CodeHd (s1.heap.push o) c T := TB.code.keeps fun b z e => Heap.get?_push_of_some _ (J.bk b z e)
  have pT : (s1.heap.push o).get? T = some (PySem.W.tabObj ps) := Heap.get?_push_of_some _ gT
  have lim : (s1.heap.push o).NoLimit := J.nolimit.push o
  obtain ⟨mc, nsC, _⟩ := id J.nolimit
  have ltC : cStatics < s1.heap.objs.size := nsC.lt
  have neC : cStatics ≠ T := fun e => by
    obtain ⟨oo, es, ep, go, dd, _⟩ := nsC
    rw [e, gT] at go
    cases go
    cases dd
  refine ⟨lim, ?_⟩
  -- behind the code object: the generator is made and handed on
  have on : ∀ (code : Value) (h3 : Heap) (tk : Nat) (ps' : Array Value), Heap.ExtBut T (s1.heap.push o) h3 → (s1.heap.push o).objs.size ≤ h3.objs.size →
      h3.get? T = some (PySem.W.tabObj ps') → (∃ more, ps' = ps ++ more) → TriplesOk ps'.toList →
      wpAny (model X.prog X.w) X.A (builtinsFor X.env.globals X.env.builtins) (fun bi s4 =>
        ∃ I' fp' wr n0 P' St' pz' F', Value.ref s1.heap.objs.size = .ref I' ∧ (∀ A' : Around, A'.handled = none → Walks X.prog X.w A' I' fp' wr n0 P' St') ∧ St' 0 s4.heap ∧ (∀ b ∈ fp', b < s4.heap.objs.size) ∧
          s4.heap.NoLimit ∧ cStatics ∉ wr ∧
          (∀ href : Heap, (∀ b z, s4.heap.get? b = some z → href.get? b = some z) →
            QuietGen X.prog X.w (genEnv scope (cloFrom X.env.cells scope.names []) s4.heap.objs.size code bi X.env) x ifs elt (List.range s4.heap.objs.size) wr P' pz' F' href) ∧
          (∀ a h5 tk5 gs, gs.bare = true → s4.heap.objs.size < a → h5.objs.size = a + 1 → (∀ b z, s4.heap.get? b = some z → h5.get? b = some z) →
            WalksS X.prog X.w X.A.in4 a (a :: s4.heap.objs.size :: List.range s4.heap.objs.size) (s4.heap.objs.size :: wr) (GenOnlyQ s4.gens.size) (passing pz' n0 0).length
              (fun j y => ∃ i, (passing pz' n0 0)[j]? = some i ∧ F' i y) (GenAt X.prog X.w X.A.in4 a s4.gens.size s4.heap.objs.size (List.range s4.heap.objs.size) wr pz' n0 F') →
            GenAt X.prog X.w X.A.in4 a s4.gens.size s4.heap.objs.size (List.range s4.heap.objs.size) wr pz' n0 F' 0 { s4 with gens := s4.gens.push gs, toks := tk5, heap := h5 } →
            Q' (.ref a) { s4 with gens := s4.gens.push gs, toks := tk5, heap := h5 })) X.xe { s1 with heap := h3, toks := tk } := by
    intro code h3 tk ps' ext ge3 gT3 mo ok3
    have stay : ∀ b z, b ≠ T → s1.heap.get? b = some z → h3.get? b = some z := fun b z nb e => ext b z nb (Heap.get?_push_of_some _ e)
    have glo : ∀ h4 : Heap, (∀ b z, b ≠ T → s1.heap.get? b = some z → h4.get? b = some z) → h4.Ns mainGlobals X.mg := fun h4 st => by
      obtain ⟨oo, es, ep, go, r⟩ := J.mod.glob
      exact ⟨oo, es, ep, st _ _ TB.gP (J.bk _ _ go), r⟩
    obtain ⟨bm, ob, e1, e2, _, e4, e5, e6, e7, e8⟩ := TB.bm
    refine wpAny_builtinsFor (m := X.mg) (by rw [J.ok.glob]; exact glo h3 stay) e1 e2 (stay _ _ e4 (J.bk _ _ e5)) e6 e7 e8 ?_
    refine ⟨s1.heap.objs.size, fp, [s1.heap.objs.size], n, Pf, St, pz, F, rfl, W, ?_, fun b hb => ?_, lim.extBut ext neC, fun z => ?_, fun href keepR => ⟨?_, ?_⟩, ?_⟩
    · exact (W X.A hr.hd).frame _ _ _ st0 fun b hb z e => ext b z (hfp b hb).2 e
    · have l1 := (hfp b hb).1
      have l2 := ge3
      rw [sz] at l2
      exact Nat.lt_of_lt_of_le (Nat.lt_succ_of_le l1) l2
    · rw [List.mem_singleton] at z
      exact absurd z (Nat.ne_of_lt ltC)
    · intro A' E' i v2 s2 m2 hA hP hn hm hk
      refine (el.run (genEnv scope (cloFrom X.env.cells scope.names []) h3.objs.size code builtinsNs X.env) A' E' i v2 s2 m2 rfl J.ok.glob rfl hA hP hn hm fun b z nb e => ?_).1
      have hb := Heap.lt_size e
      refine hk b (List.mem_range.mpr ?_) (fun q => ?_) z (keepR b z (stay b z nb e))
      · have := ge3
        rw [sz] at this
        exact Nat.lt_of_lt_of_le (Nat.lt_succ_of_lt hb) this
      · rw [List.mem_singleton] at q
        exact absurd q (Nat.ne_of_lt hb)
    · intro A' E' i v2 s2 m2 hA hP hz hn hm hk
      refine (el.run (genEnv scope (cloFrom X.env.cells scope.names []) h3.objs.size code builtinsNs X.env) A' E' i v2 s2 m2 rfl J.ok.glob rfl hA hP hn hm fun b z nb e => ?_).2 hz
      have hb := Heap.lt_size e
      refine hk b (List.mem_range.mpr ?_) (fun q => ?_) z (keepR b z (stay b z nb e))
      · have := ge3
        rw [sz] at this
        exact Nat.lt_of_lt_of_le (Nat.lt_succ_of_lt hb) this
      · rw [List.mem_singleton] at q
        exact absurd q (Nat.ne_of_lt hb)
    · intro g h5 tk5 gs bare ltg sz5 keep5 W5 at5
      refine fin g _ ⟨_, _, _, _, W5.in4_1, at5, fun s' mv => ?_⟩
      obtain ⟨more, em⟩ := mo
      have out : ∀ b z, s1.heap.get? b = some z → b ∉ h3.objs.size :: [s1.heap.objs.size] := fun b z e hb => by
        have l1 := Heap.lt_size e
        have l3 := ge3
        rw [sz] at l3
        rcases List.mem_cons.mp hb with q | q
        · rw [q] at l1
          exact Nat.lt_irrefl _ (Nat.lt_trans l1 l3)
        · rw [List.mem_singleton] at q
          rw [q] at l1
          exact Nat.lt_irrefl _ l1
      have K5 := GxR.inv_tab (more := more) (h' := s'.heap) (g' := s'.gens) (d' := s'.drawn) (t' := s'.toks) J hT
        (fun b z nb e => mv.heap b z (out b z e) (keep5 b z (stay b z nb e))) (by rw [← em]; exact mv.heap T _ (out T _ gT) (keep5 T _ gT3)) (AllBare.movedS (J.bare.push bare) mv)
      rw [GxR.sh_eta s1 s' mv.os] at K5
      exact ⟨upd H1 T (.tbl (ps ++ more)), ⟨⟨_, upd_same, by rw [← em]; exact ok3⟩, fun b nb => upd_ne nb⟩, K5⟩
  cases among : codeAmong gpos ps.toList with
  | some cv =>
    refine wpAny_genexprCode_hit hcode (cd.code pT hok) among ?_
    exact on cv _ s1.toks ps (Heap.ExtBut.refl _ _) (Nat.le_refl _) pT ⟨#[], (Array.append_empty).symm⟩ hok
  | none =>
    refine wpAny_genexprCodeX hcode (cd.code pT hok) (cd.tab pT) among fun c' h' tk hx hge hlt isC _ tab' _ => ?_
    obtain ⟨_, _, _, _, _, _, _, _, _, _, _, _, _, _, _, _, _, _, _, ok', _⟩ := isC
    exact on _ h' tk _ hx (Nat.le_trans hge (Nat.le_of_lt hlt)) tab'.2 ⟨_, rfl⟩ ok'
/-- a text's signs as what is walked -/
theorem gsrc_str {T : Addr} {a : Str} {t : Tok} {s1 : Shared} (hT : T < s1.heap.objs.size) : GSrc X T (.str a t) s1 a.cps.size (SignAt a) := fun Q E h =>
  wpAny_pyIter_str fun o St W st0 => h o _ St W st0 fun b hb => by
    rw [List.mem_singleton] at hb
    subst hb
    exact ⟨Nat.le_refl _, Nat.ne_of_gt hT⟩
theorem pass_all (n : Nat) : passing (fun _ => true) n 0 = List.range n := by
  simp [passing]
/-- all(test for x in e), e a text -/
def tAllT (T : Addr) (pb : Nat → Bool) (te : TE) : TE := fun σ H Q => te σ H fun v H1 => GxR.TabG H1 T ∧ ∃ a : Str, v = .str a ∧ ∀ H2, GxR.Tabbed T H1 H2 → Q (.bl (a.cps.toList.all pb)) H2
theorem pe_allT {c T : Addr} {elt iter : Expr} {x : Str} {px p pos gpos : Pos} {scope : Scope} {pb : Nat → Bool} {te : TE} {k : Nat}
    (hr : Room k X.A) (hg : Gl X "all") (hm : X.mg "all" = none) (TB : GxR.TabB X.base X.mg c T) (hcode : X.env.code = .ref c) (S : GxR.GenS X.env scope x) (hi : PE X iter te)
    (hel : ∀ pins s1 σ H1 a, Inv X pins σ H1 s1 → GElt X T scope x [] elt s1 (SignAt a) (fun _ => true) (fun i y => ∃ cc, a.cps[i]? = some cc ∧ y = .bool (pb cc)))
    (hs : ∀ v, genFold iter X.env v = pure v)
    (he : starEach [.GeneratorExp elt [⟨.Name x px, iter, [], 0⟩] scope gpos] X.env = (false, eval (.GeneratorExp elt [⟨.Name x px, iter, [], 0⟩] scope gpos) X.env) :: starEach [] X.env := by rfl) :
    PE X (.Call (.Name "all" p) [.GeneratorExp elt [⟨.Name x px, iter, [], 0⟩] scope gpos] [] pos) (tAllT T pb te) := by
  refine ⟨fun pins s σ H Q I h => wpAny_Call_Name_kw (ld_blt I hg hm (show bootBuiltins "all" = some (.builtin "all") by decide +kernel) ?_)⟩
  refine PyProof.Rows.callWith_builtin1 ?_ he (by rfl)
  rw [he]
  refine Calls.spliced_cons (gen_mk hr TB hcode S hi hs I h fun v u H1 s1 J rv tg hR => ?_)
  obtain ⟨a, rfl, hR⟩ := hR
  obtain ⟨t, rfl⟩ := id rv
  refine ⟨_, _, fun _ => true, _, gsrc_str ?_, hel pins s1 σ H1 a J, fun g s5 rdy => ?_⟩
  · obtain ⟨ps, e, _⟩ := tg
    exact J.hok.lt e
  obtain ⟨fp, wr, G, St, W, st0, back⟩ := rdy
  rw [pass_all] at W
  refine Calls.spliced_nil (call_all_walkS (W.self 0 _ _ _ st0 ⟨g, fp, wr, G, _, _, St, GxR.trF pb a.cps.toList, rfl, W, st0, ?_, fun s' mv => ?_⟩))
  · intro j y sj Qj Ej hy hq
    obtain ⟨i, ij, cc, hc, rfl⟩ := hy
    obtain ⟨hj, ej⟩ := List.getElem?_eq_some_iff.mp ij
    rw [List.getElem_range] at ej
    subst ej
    refine wpAny_truthy_bool ?_
    rw [← GxR.trF_some (pb := pb) (show a.cps.toList[j]? = some cc by rw [Array.getElem?_toList]; exact hc)]
    exact hq
  · obtain ⟨H2, tab, K2⟩ := back s' mv
    refine ⟨.bl _, H2, K2, rfl, ?_⟩
    rw [List.length_range, GxR.all_signs a pb]
    exact hR H2 tab
end
/-- what is_name is told: a text, or what is of another built-in kind -/
def spName (K : PySem.W.Frag) (T : Addr) : Sp := fun vs H Q _ => ∃ v : V, vs = [v] ∧ GxR.TabG H T ∧
  ((∃ z : Str, v = .str z ∧ z.length ≤ sizeLine ∧ ∀ H2, GxR.Tabbed T H H2 → Q (.bl (nameB z)) H2) ∨
   ∃ t : String, TyX K H v (.type t) ∧ kitB t "str" = some false ∧ Q (.bl false) H)
section
variable {P : Program} {w : World} {K : PySem.W.Frag} {mg : Str → Option Value} {base : Heap}
theorem scName : FnScope ["thing"] ["thing"] (defScope sName) := ⟨rfl, rfl, rfl, by decide +kernel, rfl, by decide +kernel, by decide +kernel⟩
theorem ok_name {f c T : Addr} {oc kV doc pm ct : Value} {od an : Option Addr} {osl : Array (Option Value)}
    (lk : K.lookup f = some ⟨oc, od, .func (PySem.W.fnOf "is_name" "is_name" (defArgs sName) (defBody sName) (defScope sName) .none kV doc pm an (.ref c) ct), osl⟩) (cdI : PySem.W.codeIn K (.ref c) "is_name" = true)
    (TB : GxR.TabB base mg c T) (mi : mg "isinstance" = none) (mst : mg "str" = none) (ml : mg "len" = none) (ma : mg "all" = none) (mL : ∃ t, mg "LETTERS" = some (.str abc t)) (mN : ∃ t, mg "LONGEST_NAME" = some (.int 8 t)) :
    FnOk P w K mg base CX0 1 f (PySem.W.fnOf "is_name" "is_name" (defArgs sName) (defBody sName) (defScope sName) .none kV doc pm an (.ref c) ct) ["thing"] (spName K T) := by
  refine fn_of lk cdI scName (fun vs H Q E h => ?_) (fun A outer s H vs Q E hr h => ?_)
  · obtain ⟨v, rfl, _⟩ := h
    rfl
  · obtain ⟨v, rfl, tg, h⟩ := h
    obtain ⟨tL, mL⟩ := mL
    obtain ⟨tN, mN⟩ := mN
    refine ⟨_, pss_cons (ps_if (pt_not (pt_val (pe_callB call_isi (by rfl) mi (by decide +kernel) (pa_cons (pv 0) (pa_cons (pe_bltn (v := .ty "str") (u := .type "str") (by rfl) mst (by decide +kernel) rfl) pa_nil)))))
        (pss_one (ps_ret pe_bl)) pss_nil)
      (pss_one (ps_ret (pe_and (pe_chain op_le op_le pe_int (pe_callB call_len_str (by rfl) ml PySem.boot_len (pa_cons (pv 0) pa_nil)) (pe_glob (v := .int 8) rfl mN ⟨_, rfl⟩))
        (pe_one (pe_allT (T := T) (c := c) (pb := signB) hr (by rfl) ma TB rfl ⟨rfl, rfl, by decide +kernel, rfl, rfl, by intro y hy e; simp only [List.mem_cons, List.not_mem_nil, or_false] at hy; rcases hy with rfl | rfl | rfl <;> cases e⟩ (pv 0) ?_ (fun _ => rfl)))))), ?_⟩
    · intro pins s1 σ H1 a J
      refine ⟨fun ce A' E' i v s2 m2 e1 e2 e3 hA hP hn hm hk => ⟨?_, fun _ => ?_⟩⟩
      · simp only [List.forIn_nil]
        exact wpAny_pure ⟨rfl, GxR.keeps_refl _⟩
      · obtain ⟨cc, u, hc, rfl⟩ := hP
        refine wpAny_Compare1 ?_
        refine wpAny_Name (wpAny_loadName_local (by rw [e1]) (show ce.scope.names.lookup _ = some .local by rw [e1]; rfl) hn hm ?_) (by decide)
        refine Calls.Name_function_global (by rw [e1]) (show ce.scope.names.lookup _ = some .globalImplicit by rw [e1]; rfl) ?_
        have G : s2.heap.Ns mainGlobals mg := by
          obtain ⟨oo, es, ep, go, r⟩ := J.mod.glob
          exact ⟨oo, es, ep, hk _ _ TB.gP (J.bk _ _ go), r⟩
        refine Calls.loadGlobal_global (by rw [e2]; exact G) mL ?_
        exact PyProof.Rows.in_str ⟨⟨cc, hc, congrArg Value.bool (PySem.StrLaws.found_one abc cc)⟩, GxR.keeps_refl _⟩
    · refine ⟨v, rfl, ?_⟩
      rcases h with ⟨z, rfl, hz, q⟩ | ⟨t, ty, kt, q⟩
      · refine ⟨_, _, _, _, true, rfl, .ty "str", .base (.str z), kit_ty (by decide +kernel), _, rfl, iteF ?_⟩
        refine ⟨_, rfl, z, rfl, hz, 1, _, rfl, rfl, _, rfl, ite2 (fun e1 => ?_) (fun e1 => ?_)⟩
        · refine ⟨_, 8, rfl, rfl, _, rfl, ite2 (fun e2 => ?_) (fun e2 => ?_)⟩
          · refine ⟨_, rfl, tg, z, rfl, fun H2 tb => ?_⟩
            have e3 := q H2 tb
            rw [nameB_in (of_decide_eq_true e1) (of_decide_eq_true e2)] at e3
            exact e3
          · have e3 := q H ⟨tg, fun _ _ => rfl⟩
            rw [nameB_long fun h => e2 (decide_eq_true h)] at e3
            exact e3
        · have e3 := q H ⟨tg, fun _ _ => rfl⟩
          rw [nameB_short fun h => e1 (decide_eq_true h)] at e3
          exact ⟨_, rfl, iteF e3⟩
      · exact ⟨_, _, _, _, false, rfl, .ty "str", ty, kit_ty kt, _, rfl, iteT q⟩
end
/-! ### defs that are called while nothing is being shown: the guards are known -/
structure FnG (P : Program) (w : World) (K : PySem.W.Frag) (mg : Str → Option Value) (base : Heap) (k : Nat) (f : Addr) (fd : FuncData) (ps : List Str) (sp : Sp) : Prop where
  many : ∀ vs H Q E, sp vs H Q E → vs.length = ps.length
  goes : ∀ (B : Around) (st : List Env) (s : Shared) (H : Hp) (as : Args) (us : List Value) (vs : List V) (Q : VK) (E : XK), B.guards = some [] → Room k B → Env0 P w K mg base B st s H →
    BindsTo s fd as (ps.zip us) → Vals vs us → sp vs H Q E → codeAny (model P w) B (.call (.ref f) as) (CR CX0 st P w H s Q E) s
section
variable {P : Program} {w : World} {K : PySem.W.Frag} {mg : Str → Option Value} {base : Heap}
theorem FnG.of {k : Nat} {f : Addr} {fd : FuncData} {ps : List Str} {sp : Sp} (F : FnOk P w K mg base CX0 k f fd ps sp) : FnG P w K mg base k f fd ps sp :=
  ⟨F.len, fun B st s H as us vs Q E _ => F.run B st s H as us vs Q E⟩
theorem Fun.okG {x qual : Str} {st : Stmt} {f : Addr} {fd : FuncData} {N ps : List Str} {k : Nat} {sp : Sp} (F : Fun K x qual st f fd) (S : FnScope N ps (defScope st)) (many : ∀ vs H Q E, sp vs H Q E → vs.length = ps.length)
    (body : ∀ (cdv : Value) (B : Around) (fs : List Env) (s : Shared) (H : Hp) (vs : List V) (Q : VK) (E : XK), B.guards = some [] → Room k (B.deeper (envOfC qual (defScope st) s.heap.objs.size f cdv)) → sp vs H Q E →
      ∃ t, PSs (cxOf CX0 P w K mg base N qual (defScope st) f cdv B fs s H E).nox (defBody st) t ∧ t { nx := fun _ H' => Q .non H', rt := Q } (start N vs) H) : FnG P w K mg base (k + 1) f fd ps sp := by
  obtain ⟨oc, od, kV, doc, pm, an, cdv, ct, osl, rfl, lk, hcd⟩ := F.ex
  refine ⟨many, fun B fs s H as us vs Q E hg hr e0 hb r hsp => ?_⟩
  have old : ∀ b o, base.get? b = some o → s.heap.get? b = some o := fun b o e => (e0.bs b o e).1
  have KX := e0.mod.kin.keeps old
  obtain ⟨t, pt, ht⟩ := body cdv B fs s H vs Q E hg (hr.deeper _) hsp
  refine codeAny_call_function hr.depth (KX _ _ lk) rfl S.co S.gen rfl (PySem.W.codeRec_of KX hcd) (hb _ _ _ _ ?_)
  refine wpAny_newFunctionEnv_cells S.kind ?_ ?_
  · rintro ⟨n, v⟩ hy
    have hn := (List.of_mem_zip hy).1
    exact (S.par n hn).imp id fun q => ⟨q, PySem.W.cellsFrom_some _ _ _ (.inl q)⟩
  · rintro env rfl s1 x
    have I := inv_start (CX := CX0) (E := E) S hr.hd e0 (many _ _ _ _ hsp) r x
    refine ⟨(e0.mod.nolimit.keeps old).keeps x.toInCall.keep, codeAny_func (wpAny_mono (pt.nox.run [] s1 _ H _ I ht) ?_ fun e s' hs => hs)⟩
    rintro fl s' hs
    cases fl with
    | ret u =>
      obtain ⟨v, σ', H', J, rv, q⟩ := hs
      exact ⟨v, H', J.os, J.bare, J.base, J.hok, rv, q⟩
    | next =>
      obtain ⟨σ', H', J, q⟩ := hs
      exact ⟨.non, H', J.os, J.bare, J.base, J.hok, rfl, q⟩
    | brk =>
      obtain ⟨_, _, _, q⟩ := hs
      exact False.elim q
    | cont =>
      obtain ⟨_, _, _, q⟩ := hs
      exact False.elim q
end
/-- f(e, ..): a def of this kind -/
theorem pe_callG {X : Cx} {k : Nat} {f : Addr} {fd : FuncData} {ps : List Str} {sp : Sp} {x : Str} {p pos : Pos} {e : Expr} {es : List Expr} {t : TA} (F : FnG X.prog X.w X.K X.mg X.base k f fd ps sp) (hG : X.A.guards = some []) (hr : Room k X.A) (hg : Gl X x) (hm : X.mg x = some (.ref f))
    (hk : PySem.W.keepIn X.K (.ref f) = true) (hb : Binds X.K fd ps []) (ha : PA X (e :: es) t) (hdb : (x == ("__debug__" : Str)) = false := by decide) (he : starEach (e :: es) X.env = (false, eval e X.env) :: starEach es X.env := by rfl)
    (hpl : (backTo pos (starEach es X.env)).any (·.1) = false := by rfl) : PE X (.Call (.Name x p) (e :: es) [] pos) (tCall sp [] E0 t) := by
  refine ⟨fun pins s σ H Q I h => wpAny_Call_Name_kw (ld_glob I hg hm ?_ hdb)⟩
  refine PySem.W.callWith_K (h₀ := X.base) I.ok.mod.kin hk (thn (ha.run pos pins s σ H _ I h) ?_) he hpl
  rintro us s1 ⟨vs, H1, I1, r, q⟩
  rw [List.append_nil] at q
  have hl : us.length = ps.length := r.length.symm.trans (F.many _ _ _ _ q)
  have bd := hb s1 us I1.kIn (by rw [List.append_nil]; exact hl)
  rw [List.append_nil] at bd
  refine ⟨I1.kIn, wpAny_call (codeAny_mono (F.goes X.A X.stack s1 H1 ⟨us, []⟩ us vs Q E0 hG hr I1.env0 bd r q) ?_)⟩
  rintro r2 s2 hq
  cases r2 with
  | error e => exact False.elim hq
  | ok fl =>
    cases fl with
    | ret u => exact I1.after hq
    | next => exact False.elim hq
    | brk => exact False.elim hq
    | cont => exact False.elim hq
/-! ### the top's call of the law, for a law that shows things -/
def topH (K : PySem.W.Frag) (a : Addr) (o : Obj) (xs : List V) (cs : List (Addr × Addr)) : Hp := fun b =>
  if b ∈ cs.map (·.2) then some (.tbl #[]) else if b = a ∧ K.lookup a = none then some (.frz o (.lst xs)) else none
section
variable {P : Program} {w : World} {K : PySem.W.Frag} {mg mb : Str → Option Value} {a : Addr} {o : Obj} {cs : List (Addr × Addr)} {s₁ : Shared} {vs : List Value} {ns : List Int}
theorem topH_tab {xs : List V} {p : Addr × Addr} (hp : p ∈ cs) : topH K a o xs cs p.2 = some (.tbl #[]) := if_pos (List.mem_map.mpr ⟨p, hp, rfl⟩)
theorem topH_cases {xs : List V} {b : Addr} {u : HO} (h : topH K a o xs cs b = some u) : (b ∈ cs.map (·.2) ∧ u = .tbl #[]) ∨ (b = a ∧ K.lookup a = none ∧ u = .frz o (.lst xs)) := by
  unfold topH at h
  split at h
  · rename_i hb
    exact .inl ⟨hb, (Option.some.inj h).symm⟩
  · split at h
    · rename_i hb
      exact .inr ⟨hb.1, hb.2, (Option.some.inj h).symm⟩
    · cases h
theorem top_call {fa : Addr} {k : Nat} {fd : FuncData} {x : Str} {sp : Sp}
    (KX : K.In s₁.heap) (hns : s₁.heap.Ns mainGlobals mg) (hb : s₁.heap.Ns builtinsNs mb) (hbb : ∀ x : Str, x ≠ "__name__" → mb x = bootBuiltins x) (hlim : s₁.heap.NoLimit) (hg : s₁.gens = #[])
    (hT : ∀ p ∈ cs, s₁.heap.get? p.2 = some { cls := .none, data := .fields #[] }) (nT : ∀ p ∈ cs, K.lookup p.2 = none) (C : ∀ p ∈ cs, PySem.W.CodeHd s₁.heap p.1 p.2)
    (hbm : ∃ (bm : Addr) (ob : Obj), mg "__builtins__" = some (.ref bm) ∧ bm ≠ builtinsNs ∧ s₁.heap.get? bm = some ob ∧ ob.cls = .type "module" ∧ ob.dict = some builtinsNs ∧ ob.data = .plain)
    (ha : s₁.heap.get? a = some { cls := .type "list", data := .seq vs.toArray }) (hi : IntsAre vs ns) (hl : ns.length ≤ sizeLine) (hr : Room k callerA)
    (F : ∀ base : Heap, K.In base → base.Ns mainGlobals mg → (∀ p ∈ cs, LamX.TabB base mg p.1 p.2) → FnG P w K mg base k fa fd [x] sp) (hbind : ∀ (s : Shared) (u : Value), BindsTo s fd ⟨[u], []⟩ [(x, u)])
    (hsp : ∀ H : Hp, (∀ p ∈ cs, H p.2 = some (.tbl #[])) → SqL K H a (ns.map V.int) → sp [.ref a] H (fun v _ => v = .bl true) fun _ _ _ => False) :
    codeAny (model P w) callerA (.call (.ref fa) ⟨[.ref a], []⟩) (fun r s' => r = .ok (.ret (.bool true)) ∧ OldK s₁.heap s'.heap ∧ s'.os = s₁.os ∧ AllBare s'.gens) s₁ := by
  have tabAt : ∀ b : Addr, b ∈ cs.map (·.2) → s₁.heap.get? b = some { cls := .none, data := .fields #[] } := fun b hb => by
    obtain ⟨p, hp, rfl⟩ := List.mem_map.mp hb
    exact hT p hp
  have naT : a ∉ cs.map (·.2) := fun z => by
    have q := (tabAt a z).symm.trans ha
    cases q
  have rv := vals_ints hi
  let H : Hp := topH K a { cls := .type "list", data := .seq vs.toArray } (ns.map V.int) cs
  have hH : ∀ p ∈ cs, H p.2 = some (.tbl #[]) := fun p hp => topH_tab hp
  -- what is tracked is a list or a table
  have free : ∀ {b : Addr} {ob : Obj}, s₁.heap.get? b = some ob → (∀ us n, ob.data ≠ .seq us n) → ob.data ≠ .fields #[] → H b = none := fun {b ob} e h1 h2 => by
    cases q : H b with
    | none => rfl
    | some u =>
      rcases topH_cases q with ⟨hb, _⟩ | ⟨rfl, _, _⟩
      · rw [tabAt b hb] at e
        cases e
        exact absurd rfl h2
      · rw [ha] at e
        cases e
        exact absurd rfl (h1 _ _)
  have dic : ∀ {b : Addr} {m : Str → Option Value}, s₁.heap.Ns b m → (hidT s₁.heap H).Ns b m := fun {b m} ⟨ob, es, ep, e, d, r⟩ =>
    ⟨ob, es, ep, hidT_get e (free e (fun us n z => by rw [d] at z; cases z) fun z => by rw [d] at z; cases z), d, r⟩
  have hK : K.In (hidT s₁.heap H) := fun b ob e => hidT_get (KX b ob e) (by
    cases q : H b with
    | none => rfl
    | some u =>
      rcases topH_cases q with ⟨hb, _⟩ | ⟨rfl, n, _⟩
      · obtain ⟨p, hp, rfl⟩ := List.mem_map.mp hb
        rw [nT p hp] at e
        cases e
      · rw [n] at e
        cases e)
  have hok : HOk P w H s₁.heap := fun b u q => by
    rcases topH_cases q with ⟨hb, rfl⟩ | ⟨rfl, _, rfl⟩
    · exact tabAt b hb
    · exact ⟨ha, by rw [List.length_map]; exact hl, vs, _, rv, ha⟩
  have hS : SqL K H a (ns.map V.int) := by
    cases hk : K.lookup a with
    | some ob =>
      have e := (KX a ob hk).symm.trans ha
      cases e
      exact .inr ⟨_, vs.toArray, _, hk, rfl, rfl, rfl, by rw [List.size_toArray, hi.length]; exact hl, by simpa using rv⟩
    | none => exact .inl (.inr ⟨{ cls := .type "list", data := .seq vs.toArray }, (if_neg naT).trans (if_pos ⟨rfl, hk⟩)⟩)
  have hM : L2.Mod K mg (hidT s₁.heap H) := ⟨hK, dic hns, ⟨mb, dic hb, hbb⟩, let ⟨mc, h1, h2⟩ := hlim; ⟨mc, dic h1, h2⟩⟩
  have TB : ∀ p ∈ cs, LamX.TabB (hidT s₁.heap H) mg p.1 p.2 := fun p hp => by
    have hTp := hT p hp
    obtain ⟨og, eg, pg, g1, g2, _⟩ := hns
    refine ⟨?_, ?_, fun z => ?_⟩
    · obtain ⟨ob, us, file, tf, flags, tg, inF, text, tt, e1, r1, r2, r3, r4⟩ := C p hp
      refine ⟨ob, us, file, tf, flags, tg, inF, text, tt, hidT_get e1 (free e1 (fun us n z => ?_) fun z => ?_), r1, r2, r3, r4⟩
      · rw [r2] at z
        cases z
      · rw [r2] at z
        cases z
        simp at r3
    · obtain ⟨bm, ob, b1, b2, b3, b4, b5, b6⟩ := hbm
      refine ⟨bm, ob, b1, b2, fun z => ?_, fun z => ?_, hidT_get b3 (free b3 (fun us n z => by rw [b6] at z; cases z) fun z => by rw [b6] at z; cases z), b4, b5, b6⟩
      · rw [z, g1] at b3
        cases b3
        rw [g2] at b6
        cases b6
      · rw [z, hTp] at b3
        cases b3
        cases b6
    · rw [z, hTp] at g1
      cases g1
      cases g2
  have e0 : Env0 P w K mg (hidT s₁.heap H) callerA [] s₁ H := ⟨rfl, hM, fun b ob e => of_hidT e, Nat.le_of_eq (hidT_size _ _), trivial, (fun b hb => nomatch (show b ∈ ([] : List Addr) from hb)), hok, .of_eq hg⟩
  refine codeAny_mono ((F _ hK (dic hns) TB).goes callerA [] s₁ H ⟨[.ref a], []⟩ [.ref a] [.ref a] _ _ rfl hr e0 (hbind s₁ (.ref a)) (.cons rfl .nil) (hsp H hH hS)) ?_
  rintro r s' h
  cases r with
  | error e => exact False.elim h
  | ok fl =>
    cases fl with
    | next => exact False.elim h
    | brk => exact False.elim h
    | cont => exact False.elim h
    | ret u =>
      obtain ⟨v, H', os, bare, un, hok', r', rfl⟩ := h
      obtain rfl : u = Value.bool true := r'
      have stays : ∀ b ob, b ∉ cs.map (·.2) → s₁.heap.get? b = some ob → s'.heap.get? b = some ob := fun b ob nb e => by
        cases q : H b with
        | none => exact un.keep b ob e q (fun z => nomatch (show b ∈ ([] : List Addr) from z)) (by simp)
        | some u =>
          rcases topH_cases q with ⟨z, _⟩ | ⟨rfl, _, rfl⟩
          · exact absurd z nb
          · rw [ha] at e
            cases e
            exact (hok' _ _ (un.frzs _ _ _ q)).1
      have grown : ∀ b ∈ cs.map (·.2), ∃ p ∈ cs, b = p.2 ∧ ∃ more : Array Value, s'.heap.get? b = some { cls := .none, data := .fields more } := fun b hb => by
        obtain ⟨p, hp, rfl⟩ := List.mem_map.mp hb
        obtain ⟨more, z⟩ := un.tbls p.2 #[] (hH p hp)
        exact ⟨p, hp, rfl, _, hok' p.2 _ z⟩
      refine ⟨rfl, ⟨fun b ob e => ?_, fun b ob e => ?_⟩, os, bare⟩
      · by_cases hb : b ∈ cs.map (·.2)
        · obtain ⟨p, hp, rfl, more, hm⟩ := grown b hb
          rw [hT p hp] at e
          cases e
          exact .inr (.inl ⟨((C p hp).tab (hT p hp)).isCodeTable, rfl, #[], more, rfl, by rw [Array.empty_append]; exact hm⟩)
        · exact .inl (stays b ob hb e)
      · by_cases hb : b ∈ cs.map (·.2)
        · obtain ⟨p, hp, rfl, more, hm⟩ := grown b hb
          exact ⟨_, hm⟩
        · exact ⟨ob, stays b ob hb e⟩
end
/-- what is known of a law that shows things -/
def LawG (l : PySem.W.OpenLaw) (w : World) (K : PySem.W.Frag) (k n : Nat) (x : Str) (mg : Str → Option Value) (fa : Addr) (h : Heap) : Prop :=
  ∃ (fd : FuncData) (cs : List (Addr × Addr)) (sp : Sp), ((∀ p ∈ cs, h.get? p.2 = some { cls := .none, data := .fields #[] }) ∧ (∀ p ∈ cs, K.lookup p.2 = none) ∧ ∀ p ∈ cs, PySem.W.CodeHd h p.1 p.2) ∧ (∀ (s : Shared) (u : Value), BindsTo s fd ⟨[u], []⟩ [(x, u)]) ∧
    (∀ (H : Hp) (a : Addr) (ns : List Int), ns.length ≤ n → (∀ p ∈ cs, H p.2 = some (.tbl #[])) → SqL K H a (ns.map V.int) → sp [.ref a] H (fun v _ => v = .bl true) fun _ _ _ => False) ∧
    ∀ base : Heap, K.In base → base.Ns mainGlobals mg → (∀ p ∈ cs, LamX.TabB base mg p.1 p.2) → FnG l.prog w K mg base k fa fd [x] sp
theorem end_G {l : PySem.W.OpenLaw} {n k : Nat} {q : Program} {loose : List Str} {XP : (Str → Option Value) → Heap → Prop} {YP : World → Heap → Prop} {d : PySem.DefRec} {K : Params → PySem.W.Frag} {x : Str}
    (hn : l.most = some n) (hn2 : n ≤ sizeLine) (hdf : d.params.defaults = []) (hr : Room k callerA)
    (hY : ∀ (w : World) (h : Heap), YP w h → (K w.params).In h)
    (F : ∀ (w : World) (s0 : Shared) (mg mb : Str → Option Value) (fa : Addr) (h : Heap), PySem.W.Ground q loose [] XP w s0 mg mb h → (K w.params).In h → mg d.name = some (.ref fa) → LawG l w (K w.params) k n x mg fa h) :
    PySem.W.WalkO q loose XP YP l.row.toRowW d [] (fun f vs => PySem.call f vs) := by
  refine Att.attach_callB hn hdf fun w s0 s1 mg mb fa o pm cd doc a vs ns G Y ho hd hcd hmg hobj hints hlen hbits hg => ?_
  have KX := hY w _ Y
  obtain ⟨fd, cs, sp, ⟨hT, nT, C⟩, hb, hsp, hF⟩ := F w s0 mg mb fa _ G KX hmg
  exact top_call KX G.T.g G.T.b G.T.builtins G.T.nolimit hg hT nT C G.T.bmain hobj hints (Nat.le_trans hlen hn2) hr hF hb (fun H hH hS => hsp H a ns hlen hH hS)
/-! ### repr of data -/
theorem cr_repr {X : Cx} (hG : X.A.guards = some []) (hu : X.A.units + 64 < cLine) : CallR X (.builtin "repr") (fun vs H Q => ∃ (a : Addr) (d : PyData), vs = [.ref a] ∧ Dp X.K H (.ref a) d ∧ d.showable = true ∧ d.hasDict = false ∧ d.depth ≤ 60 ∧ d.shown.length ≤ sizeLine ∧ Q (.str d.shown) H) := by
  rintro pins s σ H vs us Q I r ⟨a, d, rfl, hd, sh, nd, dp, sz, q⟩
  rw [Vals.ref1 r]
  obtain ⟨as, rd⟩ := Dp.reads I d (.ref a) (.ref a) hd rfl
  exact repr_of_reads' rd sh (PyData.noDict_hsm nd) hG (by omega) (fun _ _ e => e) (fun h' u tk hk => ⟨.str d.shown, H, I.kept hk, ⟨_, rfl⟩, q⟩) sz
/-! ### sorted(xs, key=f), f a def whose answers are data -/
mutual
theorem Dp.on {K : PySem.W.Frag} {H H' : Hp} (s : Same H H') : ∀ {v : V} {d : PyData}, Dp K H v d → Dp K H' v d
  | _, _, .non => .non
  | _, _, .bl b => .bl b
  | _, _, .int i => .int i
  | _, _, .str x => .str x
  | _, _, .lst h r => .lst (h.imp (fun z => z.imp (s _ _) fun ⟨o, e⟩ => ⟨o, s _ _ e⟩) id) (DpAll.on s r)
  | _, _, .tup h r => .tup (h.imp (fun z => z.imp (s _ _) fun ⟨o, e⟩ => ⟨o, s _ _ e⟩) id) (DpAll.on s r)
theorem DpAll.on {K : PySem.W.Frag} {H H' : Hp} (s : Same H H') : ∀ {vs : List V} {ds : List PyData}, DpAll K H vs ds → DpAll K H' vs ds
  | _, _, .nil => .nil
  | _, _, .cons h r => .cons (Dp.on s h) (DpAll.on s r)
end
theorem DpAll.snoc {K : PySem.W.Frag} {H : Hp} {v : V} {d : PyData} : ∀ {vs : List V} {ds : List PyData}, DpAll K H vs ds → Dp K H v d → DpAll K H (vs ++ [v]) (ds ++ [d])
  | _, _, .nil, h => .cons h .nil
  | _, _, .cons a r, h => .cons a (DpAll.snoc r h)
theorem DpAll.len {K : PySem.W.Frag} {H : Hp} : ∀ {vs : List V} {ds : List PyData}, DpAll K H vs ds → vs.length = ds.length
  | _, _, .nil => rfl
  | _, _, .cons _ r => congrArg Nat.succ (DpAll.len r)
theorem vals_snoc {v : V} {u : Value} : ∀ {vs : List V} {us : List Value}, Vals vs us → RelV v u → Vals (vs ++ [v]) (us ++ [u])
  | _, _, .nil, h => .cons h .nil
  | _, _, .cons a r, h => .cons a (vals_snoc r h)
theorem vals_get {vs : List V} {us : List Value} (h : Vals vs us) : ∀ {i : Nat} {u : Value}, us[i]? = some u → ∃ v, vs[i]? = some v ∧ RelV v u := by
  induction h with
  | nil => intro i u e; cases e
  | cons a r ih =>
    intro i u e
    cases i with
    | zero => exact ⟨_, rfl, by rw [← Option.some.inj e]; exact a⟩
    | succ n => exact ih (i := n) e
theorem each_dp {X : Cx} {pins : List (Addr × Obj)} {σ : L2.St} {H : Hp} {s : Shared} (I : Inv X pins σ H s) : ∀ {vs : List V} {ds : List PyData} {us : List Value}, DpAll X.K H vs ds → Vals vs us → PySem.W.EachIs (fun v d => ∃ as, Reads s.heap v d as) us ds
  | _, _, _, .nil, .nil => .nil
  | _, _, _, .cons h r, .cons a t => .cons (Dp.reads I _ _ _ h a) (each_dp I r t)
theorem each_pairs : ∀ {es : List (V × PyData)} {us : List Value}, Vals (es.map (·.1)) us → PySem.W.EachIs (fun v (e : V × PyData) => RelV e.1 v) us es
  | [], _, .nil => .nil
  | _ :: _, _, .cons a t => .cons a (each_pairs t)
theorem pairs_each : ∀ {es : List (V × PyData)} {us : List Value}, PySem.W.EachIs (fun v (e : V × PyData) => RelV e.1 v) us es → Vals (es.map (·.1)) us
  | [], _, .nil => .nil
  | _ :: _, _, .cons a t => .cons a (pairs_each t)
abbrev keyed (es : List (V × PyData)) : List (V × PyData) := es.mergeSort (PySem.W.dataLe false fun e => e.2)
def rSortK (K : PySem.W.Frag) (f : Addr) (sp : Sp) : List V → List V → Hp → VK → Prop := fun vs zs H Q => ∃ (l : Addr) (es : List (V × PyData)), vs = [.ref l] ∧ zs = [.ref f] ∧ SqL K H l (es.map (·.1)) ∧ PySem.W.AllAlike (es.map (·.2)) ∧ PySem.W.Sortable (es.map (·.2)) ∧ (∀ e ∈ es, e.2.depth ≤ 60) ∧
  (∀ e ∈ es, ∀ H1, Same H H1 → ∀ Q1 : VK, (∀ v H2, Same H1 H2 → Dp K H2 v e.2 → Q1 v H2) → sp [e.1] H1 Q1 E0) ∧ ∀ (p : Addr) (H1 : Hp), H p = none → Same H H1 → H1 p = some (.lst ((keyed es).map (·.1))) → Q (.ref p) H1
theorem cr_sortK {X : Cx} {k : Nat} {f : Addr} {fd : FuncData} {p1 : Str} {sp : Sp} (F : FnOk X.prog X.w X.K X.mg X.base CX0 k f fd [p1] sp) (hr : Room (k + 2) X.A) (hb : Binds X.K fd [p1] []) : CallRK X (.builtin "sorted") [Str.ofString "key"] (rSortK X.K f sp) := by
  rintro pins s σ H vs zs us ws Q I r rz ⟨l, es, rfl, rfl, hs, al, so, dp, key, q⟩
  obtain rfl := Vals.ref1 r
  obtain rfl := Vals.ref1 rz
  obtain ⟨its, rv, hl, hz⟩ := I.list hs
  have hlen : its.length = es.length := by rw [← rv.length, List.length_map]
  have hZ : its.length ≤ sizeLine := by rw [← rv.length]; exact hz
  have rB : Room k X.A.in1.in1 := hr.in1.in1
  have uB : X.A.in1.in1.units + 64 < cLine := rB.units
  refine PySem.W.sorted_of_sort (vs := its) hl.isList hZ (PyProof.Rows.ksk_s1 _ _) (fun _ => PyProof.Rows.ksk_l1 _ _) fun E' => ?_
  show wpAny _ X.A.in1.in1 (Builtin.«list.sort» ⟨[.ref (s.heap.objs.size + 1)], [(Str.ofString "key", .ref f)]⟩) _ _ _
  rw [PyProof.Rows.ksk_t1]
  generalize ha : s.heap.objs.size + 1 = a
  have ho : (PySem.W.copyHeap s.heap its).get? a = some (seqObj "list" its.toArray 0) := by rw [← ha]; exact PySem.W.copyHeap_at s.heap its
  obtain ⟨e1, ho1⟩ : ∃ e1, ((PySem.W.copyHeap s.heap its).update a (Obj.mapSeq fun _ => (#[] : Array Value))).get? a = some (seqObj "list" #[] e1) := ⟨_, get?_update_seq ho fun _ => #[]⟩
  have hsz0 : a < (PySem.W.copyHeap s.heap its).objs.size := Heap.lt_size ho
  unfold PyProof.Rows.ksk_tree
  refine wpAny_bind (listItems_at ho rfl ?_)
  refine wpAny_bind (listUpdate_at ho rfl ?_ (by rw [List.size_toArray]; exact hZ) (Nat.zero_le _))
  refine wpAny_bind (seqEpoch_at ho1 rfl ?_)
  refine wpAny_bind (wpAny_newTuple ?_ hZ)
  refine wpAny_bind (wpAny_newList ?_ (Nat.zero_le _))
  refine wpAny_holding ?_
  generalize hk : (((PySem.W.copyHeap s.heap its).update a (Obj.mapSeq fun _ => (#[] : Array Value))).push (seqObj "tuple" its.toArray 0)).objs.size = kS
  generalize hg : (((PySem.W.copyHeap s.heap its).update a (Obj.mapSeq fun _ => (#[] : Array Value))).push (seqObj "tuple" its.toArray 0)).push (seqObj "list" #[] 0) = g
  have size_g : s.heap.objs.size < kS := by
    rw [← hk, size_push', Heap.size_update]
    omega
  have hka : kS ≠ a := by
    rw [← hk, size_push', Heap.size_update]
    omega
  have old : ∀ b o, s.heap.get? b = some o → g.get? b = some o := fun b o e => by
    rw [← hg]
    refine Heap.get?_push_of_some _ (Heap.get?_push_of_some _ ((Heap.get?_update_ne _ _ _ _ (Nat.ne_of_lt ?_)).trans (PySem.W.copyHeap_old e)))
    exact Nat.lt_of_lt_of_le (Heap.lt_size e) (by omega)
  have ga : g.get? a = some (seqObj "list" #[] e1) := by
    rw [← hg]
    exact Heap.get?_push_of_some _ (Heap.get?_push_of_some _ ho1)
  have gk : g.get? kS = some (seqObj "list" #[] 0) := by
    rw [← hg, ← hk]
    exact Heap.get?_push_size _ rfl
  have fa : ∀ {H1 : Hp}, H1 a = none → FpOk X pins H1 a := fun n => I.fpOk (by omega) n
  have fk : ∀ {H1 : Hp}, H1 kS = none → FpOk X pins H1 kS := fun n => I.fpOk (by omega) n
  -- the two lists of the sort are held as pins
  have pin : ∀ {H1 : Hp} {s1 : Shared} {kA : Array Value} {n : Nat}, Inv X pins σ H1 s1 → H1 a = none → H1 kS = none → s1.heap.get? a = some (seqObj "list" #[] e1) → s1.heap.get? kS = some (seqObj "list" kA n) → Inv X (pins ++ [(a, seqObj "list" #[] e1), (kS, seqObj "list" kA n)]) σ H1 s1 := fun {H1 s1 kA n} J na nk ea ek => by
    refine J.pins_of fun p hp => ?_
    rcases List.mem_append.mp hp with h | h
    · exact J.pin p (List.mem_append_right _ h)
    · rcases List.mem_cons.mp h with rfl | h
      · exact ⟨ea, na, (fa na).2.1, (fa na).2.2.1, fun v z => by cases z⟩
      · rw [List.mem_singleton.mp h]
        exact ⟨ek, nk, (fk nk).2.1, (fk nk).2.2.1, fun v z => by cases z⟩
  have I0 : Inv X pins σ H { s with heap := g } := I.kept (t' := s.toks) old
  have na0 : H a = none := I.hok.fresh (by omega)
  have nk0 : H kS = none := I.hok.fresh (by omega)
  unfold PyProof.Rows.ksk_rest
  refine wpAny_bind (wpAny_rule ?_)
  first
    | rw [List.forIn_toArray]
    | (rw [← Array.forIn_toList]; simp only [List.toList_toArray])
  refine wpAny_bind (PyProof.Rows.ksk_fold (fun i s' => ∃ H1 kA n kv, Same H H1 ∧ Inv X (pins ++ [(a, seqObj "list" #[] e1), (kS, seqObj "list" kA n)]) σ H1 s' ∧ Vals kv kA.toList ∧ DpAll X.K H1 kv ((es.take i).map (·.2))) its 0 _
    ⟨H, #[], 0, [], fun _ _ e => e, pin I0 na0 nk0 ga gk, .nil, .nil⟩ ?step ?done)
  case step =>
    rintro j u s1 hu ⟨H1, kA, n, kv, sm, J, vk, dk⟩
    rw [Nat.zero_add] at dk ⊢
    obtain ⟨v, hv, rel⟩ := vals_get rv hu
    rw [List.getElem?_map] at hv
    obtain ⟨e, he, rfl⟩ := Option.map_eq_some_iff.mp hv
    have pa := J.pin (a, seqObj "list" #[] e1) (by simp)
    have pk := J.pin (kS, seqObj "list" kA n) (by simp)
    have hj : j < its.length := (List.getElem?_eq_some_iff.mp hu).1
    have ck : kA.size ≤ its.length := by
      have h1 : kv.length = kA.size := vk.length.trans Array.length_toList
      have h2 := DpAll.len dk
      rw [List.length_map, List.length_take] at h2
      omega
    have E1 := J.env0
    have sp1 := key e (List.mem_of_getElem? he) H1 sm (fun v H2 => Same H1 H2 ∧ Dp X.K H2 v e.2) fun v H2 h1 h2 => ⟨h1, h2⟩
    refine wpAny_bind (wpAny_attempt ?_)
    refine wpAny_call (codeAny_mono (F.run X.A.in1.in1 X.stack s1 H1 ⟨[u], []⟩ [u] [e.1] _ E0 rB ⟨E1.frames, E1.mod, E1.bs, E1.bsz, E1.funs, E1.frf, E1.hok, E1.bare⟩ (hb s1 [u] J.kIn rfl) (.cons rel .nil) sp1) ?_)
    rintro r s2 hq
    cases r with
    | error e => exact False.elim hq
    | ok fl =>
      cases fl with
      | next => exact False.elim hq
      | brk => exact False.elim hq
      | cont => exact False.elim hq
      | ret x =>
        obtain ⟨v2, H2, J2, rel2, sm2, dp2⟩ := J.after hq
        have pa2 := J2.pin (a, seqObj "list" #[] e1) (by simp)
        have pk2 := J2.pin (kS, seqObj "list" kA n) (by simp)
        have J3 : Inv X pins σ H2 s2 := J2.unpinned
        obtain ⟨c2, hc2⟩ : ∃ c2, (s2.heap.update kS (Obj.mapSeq (·.push x))).get? kS = some (seqObj "list" (kA.push x) c2) := ⟨_, get?_update_seq pk2.1 (·.push x)⟩
        have sb := Heap.SameBut.update s2.heap kS (Obj.mapSeq (·.push x))
        show wpAny _ _ _ _ _ _
        refine wpAny_bind (listUpdate_at pk2.1 rfl ?_ (Nat.le_trans ck hZ) (Nat.le_trans (Nat.le_of_eq (Array.size_push ..)) (Nat.succ_le_succ (Nat.le_trans ck hZ))))
        have J4 : Inv X pins σ H2 { s2 with heap := s2.heap.update kS (Obj.mapSeq (·.push x)), toks := s2.toks } := J3.turnedL (ch := [kS]) (fun b o hb e => (sb.2 b (fun z => hb (by simp [z]))).trans e) fun b hb => by rw [List.mem_singleton.mp hb]; exact fk pk2.2.1
        refine wpAny_pure ⟨rfl, H2, kA.push x, c2, kv ++ [v2], fun b o e => sm2 b o (sm b o e), pin J4 pa2.2.1 pk2.2.1 ((sb.2 a hka.symm).trans pa2.1) hc2, ?_, ?_⟩
        · rw [Array.toList_push]
          exact vals_snoc vk rel2
        · rw [List.take_add_one, he, List.map_append]
          exact DpAll.snoc (DpAll.on sm2 dk) dp2
  case done =>
    rintro s1 ⟨H1, kA, n, kv, sm, J, vk, dk⟩
    have pa := J.pin (a, seqObj "list" #[] e1) (by simp)
    have pk := J.pin (kS, seqObj "list" kA n) (by simp)
    have J1 : Inv X pins σ H1 s1 := J.unpinned
    rw [Nat.zero_add, hlen, List.take_length] at dk
    have hk1 := each_dp J dk vk
    have sz : kA.size = its.length := by
      have h1 : kv.length = kA.size := vk.length.trans Array.length_toList
      have h2 := DpAll.len dk
      rw [List.length_map] at h2
      omega
    have hu : ∀ d, d ∈ es.map (·.2) → X.A.in1.in1.units + d.depth < cLine := fun d hd => by
      obtain ⟨e, he, rfl⟩ := List.mem_map.mp hd
      have := dp e he
      omega
    obtain ⟨G, g1, g2⟩ := L2.restrict s1.heap fun b => decide (b ≠ kS)
    have kp : PySem.W.KeepsBut a G s1.heap := fun b o _ e => by
      by_cases z : b = kS
      · rw [g2 b (decide_eq_false fun h => h z)] at e
        cases e
      · rw [g1 b (decide_eq_true z)] at e
        exact e
    refine wpAny_bind (listItems_at pk.1 rfl ?_)
    refine PySem.W.keyH_end (κ := PySem.W.dataKind s1.heap (es.map (·.2))) (h₁ := G) kp (g2 kS (decide_eq_false fun h => h rfl)) pk.1 pa.1 hka (PySem.W.SortsAt.data hk1 al so hu) sz hZ fun h3 tk3 c k3 n3 => ⟨rfl, ?_⟩
    have ko : PySem.W.KeyedOut false (es.map (·.2)) its (PySem.W.sortVals (PySem.W.dataKind s1.heap (es.map (·.2))) false kA.toList its) := ⟨s1.heap, kA.toList, al, rfl, hk1⟩
    have out := pairs_each (PySem.W.keyedOut_each (fun e : V × PyData => e.2) ko (each_pairs rv))
    have J2 : Inv X pins σ H1 { s1 with heap := h3, toks := tk3 } := J1.turnedL (ch := [a, kS]) (fun b o hb e => k3 b o (fun z => hb (by simp [z])) ((g1 b (decide_eq_true fun z => hb (by simp [z]))).trans e)) fun b hb => by
      rcases List.mem_cons.mp hb with rfl | h
      · exact fa pa.2.1
      · rw [List.mem_singleton.mp h]
        exact fk pk.2.1
    have lo : ((keyed es).map (·.1)).length ≤ sizeLine := by
      rw [List.length_map, List.length_mergeSort, ← hlen]
      exact hZ
    refine ⟨.ref a, upd H1 a (.lst ((keyed es).map (·.1))), J2.take (it := a) (fun b o _ e => e) (fa pa.2.1) ⟨lo, _, c, out, n3⟩, rfl, q a _ na0 (fun b o e => (upd_ne (ne_of_none e na0)).trans (sm b o e)) upd_same⟩
/-! ### generator expressions whose parts may call: the generator's own frame as a context -/
abbrev gxc (X : Cx) (A' : Around) (s : Shared) (H : Hp) (ce : Env) (fp : List Addr) : Cx :=
  { X with A := A', s_0 := s, H_0 := H, env := ce, outer := X.stack, stack := ce :: X.stack, ex := fp, fn := fun _ => false, calm := true, pn := [], xe := fun _ _ => False }
abbrev genE (X : Cx) (scope : Scope) (C : Addr) (code : Value) : Env := genEnv scope (cloFrom X.env.cells scope.names []) C code builtinsNs X.env
structure GOk (N : List Str) (sc scope : Scope) (own : List (Str × Nat)) : Prop where
  blk : BlkOk N sc scope own
  co : scope.isCoroutine = false
  cell : ∀ y ∈ scope.names, y.2 ≠ .cell
  dot : scope.names.lookup (".0" : Str) = some NameKind.local
section
variable {X : Cx} {pins : List (Addr × Obj)} {σ : L2.St} {H : Hp} {s : Shared}
theorem gx_free {N : List Str} {scope : Scope} {own : List (Str × Nat)} (I : Inv X pins σ H s) (ok : GOk N X.env.scope scope own) : ∀ y ∈ scope.names, y.2 = .free → ∃ c, X.env.cells.lookup y.1 = some c := fun y hy e => by
  rcases ok.blk.free y hy e with k | k
  · exact I.ok.has _ (.inl k)
  · exact I.ok.has _ (.inr k)
/-- the generator's frame and the generator itself have come -/
theorem gx_start {scope : Scope} {own : List (Str × Nat)} {fp : List Addr} {A' : Around} {code it : Value} {h' : Heap} {oG : Obj} {g' : Array GenState} {t' : Nat} (I : Inv X pins σ H s) (ok : GOk X.N X.env.scope scope own) (hN : X.N.Nodup)
    (hfp : ∀ b ∈ fp, FpOk X pins H b ∧ b < s.heap.objs.size) (hA : A'.handled = none) (hfr : A'.frames = some (genE X scope s.heap.objs.size code :: X.stack))
    (hn : h'.Ns s.heap.objs.size (fun y => if y = ".0" then some it else none)) (hs : Heap.SameBut s.heap.objs.size (s.heap.push { cls := .type "frame", data := .dict #[] }) h')
    (hG : ∀ v, oG.data ≠ .cell v) (hb : AllBare g') (fG : oG.isFreed = false) :
    Inv (gxc X A' s H (genE X scope s.heap.objs.size code) fp) [(h'.objs.size, oG)] (wipe σ (own.map (·.2))) H { s with gens := g', toks := t', heap := h'.push oG } := by
  have sz : h'.objs.size = s.heap.objs.size + 1 := by rw [hs.1, Heap.size_push]
  have k1 : ∀ b o, s.heap.get? b = some o → h'.get? b = some o := fun b o e => hs.extBut b o (Nat.ne_of_lt (Heap.lt_size e)) (Heap.get?_push_of_some _ e)
  have kp : ∀ b o, s.heap.get? b = some o → (h'.push oG).get? b = some o := fun b o e => Heap.get?_push_of_some _ (k1 b o e)
  have fr := gx_free I ok
  have cm : ∀ {y c}, (cloFrom X.env.cells scope.names []).lookup y = some c → X.env.cells.lookup y = some c ∧ c < s.heap.objs.size ∧ (y, NameKind.free) ∈ scope.names := fun {y c} e => by
    rcases cloFrom_mem (PySem.mem_of_lookup e) with hm | ⟨h1, rfl⟩
    · cases hm
    · obtain ⟨c, hc⟩ := fr _ h1 rfl
      rw [hc]
      obtain ⟨w, z⟩ := I.cell _ _ hc
      exact ⟨rfl, z.lt, h1⟩
  have has : ∀ {y}, (y, NameKind.free) ∈ scope.names → ∃ c, (cloFrom X.env.cells scope.names []).lookup y = some c := fun {y} hy => mem_lookup (cloFrom_has (cells := X.env.cells) (acc := []) hy)
  have uq : ∀ {y k}, (y, k) ∈ scope.names → scope.names.lookup y = some k := fun {y k} h => ok.blk.uniq _ h
  have okG : (gxc X A' s H (genE X scope s.heap.objs.size code) fp).Ok := by
    refine ⟨I.ok.mod, ok.blk.kind, I.ok.glob, rfl, Nat.le_refl _, fun y z c e1 e2 => I.ok.inj y z c (cm e1).1 (cm e2).1, fun y hy => ?_, fun y c z _ => (nomatch z), fun _ => hA, hfr, .inr ⟨rfl, rfl⟩,
      fun b hb => ⟨Nat.ne_of_lt (hfp b hb).2, fun y c e z => (hfp b hb).1.2.2.2.2.1 y c (cm e).1 z⟩, I.bs, Nat.le_trans I.ok.bsz I.sz, fun b o e hb => ?_, fun b hb z => ?_, I.stack, I.stkFree⟩
    · rcases hy with hy | hy
      · exact absurd rfl (ok.cell _ (PySem.mem_of_lookup (show scope.names.lookup y = some .cell from hy)))
      · exact has (PySem.mem_of_lookup (show scope.names.lookup y = some .free from hy))
    · rcases (hfp b hb).1.2.2.2.1 with z | z
      · exact I.ok.noex b o e z
      · exact absurd (Nat.lt_of_lt_of_le (Heap.lt_size e) (Nat.le_trans I.ok.bsz z)) (Nat.lt_irrefl _)
    · rcases List.mem_cons.mp (I.stkSub b z) with z | z
      · exact (hfp b hb).1.2.1 z
      · exact (hfp b hb).1.2.2.1 z
  refine ⟨okG, rfl, hb, Un.kept kp, ⟨_, hn.push oG, fun i y v e1 e2 e3 => ?_⟩, fun y c e => ?_, I.hok.fresh (Nat.le_refl _), fun y c e => I.freeC y c (cm e).1, fun p hp => ?_, I.hok.kept kp, by rw [wipe_length]; exact I.len⟩
  · obtain ⟨e2, hne⟩ := wipe_some e2
    have key : scope.names.lookup y = some .free := by
      have no : ∀ k, scope.names.lookup y = some k → ¬ (k = .local ∨ k = .cell) := fun k hk hh => by
        rcases ok.blk.own _ (PySem.mem_of_lookup hk) hh with e' | e'
        · obtain ⟨p, hp, hpy⟩ := List.mem_map.mp e'
          have e4 := ok.blk.ix p hp
          have : p.1 = y := hpy
          rw [this] at e4
          exact hne (List.mem_map.mpr ⟨p, hp, nodup_ix hN e4 e1⟩)
        · exact e' (List.mem_of_getElem? e1)
      rcases (show Vis scope y from e3) with e3 | e3 | e3
      · exact absurd (.inl rfl) (no _ e3)
      · exact absurd (.inr rfl) (no _ e3)
      · exact e3
    obtain ⟨m, _, hl⟩ := I.loc
    have fy := PySem.mem_of_lookup key
    have hvis : Vis X.env.scope y := (ok.blk.free _ fy rfl).elim (fun k => .inr (.inl k)) (fun k => .inr (.inr k))
    obtain ⟨u, r, q⟩ := hl i y v e1 e2 hvis
    refine ⟨u, r, .inr ⟨.inr key, ?_⟩⟩
    obtain ⟨c, h1⟩ := has fy
    rcases q with ⟨k, _⟩ | ⟨_, c', e', z⟩
    · have k : X.env.scope.names.lookup y = some .local := k
      rcases ok.blk.free _ fy rfl with k' | k' <;> rw [show X.env.scope.names.lookup y = _ from k'] at k <;> cases k
    · have h2 := (cm h1).1
      rw [h2] at e'
      cases e'
      exact ⟨c, h1, z.keeps kp⟩
  · obtain ⟨v, z⟩ := I.cell y c (cm e).1
    exact ⟨v, z.keeps kp⟩
  · have hp' : p = (h'.objs.size, oG) := by simpa using hp
    subst hp'
    have nl : s.heap.objs.size ≤ h'.objs.size := by omega
    refine ⟨Heap.get?_push_size _ fG, I.hok.fresh nl, by show h'.objs.size ≠ s.heap.objs.size; omega, fun z => ?_, hG⟩
    rcases List.mem_cons.mp (I.stkSub _ z) with z | z
    · have := I.lt
      rw [← z] at this
      exact Nat.lt_irrefl _ (Nat.lt_of_lt_of_le this nl)
    · exact I.nofs nl z
end
/-! ### the generator's turns -/
abbrev gxl (X : Cx) (Ag : Around) (elt tg iter : Expr) (ifs : List Expr) (scope : Scope) (gpos : Pos) (it : Addr) (ce : Env) (s3 : Shared) (H3 : Hp) (fp : List Addr) : Cx :=
  gxc X (Ag.over (.compLoop (.GeneratorExp elt [⟨tg, iter, ifs, 0⟩] scope gpos) 0 (.ref it) .none ce) []) s3 H3 ce fp
/-- what stands between two turns: at most m turns are left, the i-th is next -/
def GTurns (J : It) (g : TG) (tt : TT) (te : TE) (vs : List Nat) (σ : L2.St) (W : Nat → Nat → Hp → Prop) (Out : Nat → Nat → V → Hp → Prop) (Fin : Hp → Prop) : Prop :=
  ∀ i m H, W i m H → (J.stop i H ∧ Fin H) ∨ (J.go i H ∧ ∀ x H', J.yld i H x H' → g x (wipe σ vs) H' fun σ2 H2 => wipe σ2 vs = wipe σ vs ∧ tt σ2 H2 fun b H3 =>
    if b = true then te σ2 H3 fun y H4 => Out i m y H4 else ∃ m', m' < m ∧ W (i + 1) m' H3)
def gxY (IG : Hp → Shared → Prop) (tn : Nat → Heap → Prop) (fp : List Addr) (W : Nat → Nat → Hp → Prop) (Out : Nat → Nat → V → Hp → Prop) (gn : Nat) : Protocol := fun n _ v s kap =>
  ∃ i m y H, RelV y v ∧ IG H s ∧ tn (i + 1) s.heap ∧ (∀ b ∈ fp, H b = none) ∧ Out i m y H ∧ gn < s.gens.size ∧ m ≤ n ∧
    ∀ m', m' < m → W (i + 1) m' H → ∀ s'' : Shared, IG H s'' → tn (i + 1) s''.heap → gn < s''.gens.size → kap (.send .none) s''
def gxR (IG : Hp → Shared → Prop) (Fin : Hp → Prop) : Nat → Shared → Shared → Prop := fun _ _ s1 => ∃ H, IG H s1 ∧ Fin H
section
variable {X : Cx} {σ : L2.St} {Ag : Around} {tg elt iter : Expr} {ifs : List Expr} {scope : Scope} {gpos : Pos} {it a : Addr} {oG : Obj} {ce : Env} {fp : List Addr} {s3 : Shared} {H3 : Hp} {tn : Nat → Heap → Prop} {J : It} {vs : List Nat} {gn : Nat}
  {g : TG} {tt : TT} {te : TE} {W : Nat → Nat → Hp → Prop} {Out : Nat → Nat → V → Hp → Prop} {Fin : Hp → Prop}
theorem gx_stat {σ' : L2.St} {H' : Hp} {s' : Shared} {A' : Around} (I' : Inv (gxc X A' s3 H3 ce fp) [(a, oG)] σ' H' s') (na : a ∉ fp) (hn : ∀ b ∈ fp, H' b = none) : ∀ b ∈ fp, FpOk (gxc X A' s3 H3 ce fp) [(a, oG)] H' b := fun b hb => by
  refine ⟨hn b hb, (I'.ok.exf b hb).1, I'.ok.exfs b hb, .inl hb, fun x c e => (I'.ok.exf b hb).2 x c e, fun p hp z => ?_⟩
  have hp' : p = (a, oG) := by simpa using hp
  subst hp'
  have z' : a = b := z
  exact na (z' ▸ hb)
theorem gx_seg (T : Turn X.prog X.w X.K tg J fp it tn) (na : a ∉ fp) (hco : ce.scope.isCoroutine = false)
    (pg : PG (gxl X Ag elt tg iter ifs scope gpos it ce s3 H3 fp) tg g)
    (pt : PTs (gxl X Ag elt tg iter ifs scope gpos it ce s3 H3 fp) ifs tt)
    (pe : PE (gxl X Ag elt tg iter ifs scope gpos it ce s3 H3 fp) elt te)
    (turn : GTurns J g tt te vs σ W Out Fin) (IG : Hp → Shared → Prop)
    (hIG : IG = fun H s => Inv (gxl X Ag elt tg iter ifs scope gpos it ce s3 H3 fp) [(a, oG)] (wipe σ vs) H s) :
    ∀ (m n i : Nat) (H : Hp) (s s0 : Shared), m < n → IG H s → tn i s.heap → (∀ b ∈ fp, H b = none) → W i m H → gn < s.gens.size →
      Seg (model X.prog X.w) Ag (fun n s0 r s1 => r = .ok .next ∧ gxR IG Fin n s0 s1) (gxY IG tn fp W Out gn) n s0
        (.compLoop (.GeneratorExp elt [⟨tg, iter, ifs, 0⟩] scope gpos) 0 (.ref it) .none ce)
        ((model X.prog X.w).den (.compLoop (.GeneratorExp elt [⟨tg, iter, ifs, 0⟩] scope gpos) 0 (.ref it) .none ce)) [] s := by
  intro m
  induction m using Nat.strongRecOn with
  | ind m ih =>
  intro n i H s s0 hmn I0 st n0 w0 hg
  have I : Inv (gxl X Ag elt tg iter ifs scope gpos it ce s3 H3 fp) [(a, oG)] (wipe σ vs) H s := by
    rw [hIG] at I0
    exact I0
  show Seg _ Ag _ _ _ s0 _ ((compTurn (.GeneratorExp elt [⟨tg, iter, ifs, 0⟩] scope gpos) 0 (.ref it) .none ce).onRaise (leaving ce)) [] s
  rw [compTurn_gen, Sem.onRaise_eq_wrap]
  refine seg_bind_wrap (wpAny_standAt ?_)
  rcases turn i m H w0 with ⟨stop, fin⟩ | ⟨go, step⟩
  · refine seg_bind_wrap (thnF (T.done (gxl X Ag elt tg iter ifs scope gpos it ce s3 H3 fp) rfl rfl rfl rfl i [(a, oG)] s _ H (fun _ _ => False) I (gx_stat I na n0) st stop) fun r s6 ⟨hr, I6⟩ => ?_)
    subst hr
    exact seg_end (.ok .next) ⟨rfl, H, by rw [hIG]; exact I6, fin⟩
  · refine seg_bind_wrap (GenW.wpAny_gsz hg (thnF (T.item (gxl X Ag elt tg iter ifs scope gpos it ce s3 H3 fp) rfl rfl rfl rfl i [(a, oG)] s _ H (fun _ _ => False) I (gx_stat I na n0) st go) fun r s6 ⟨u, hr, h6⟩ hg6 => ?_))
    subst hr
    refine seg_bind_wrap (GenW.wpAny_gsz hg6 (thnF h6 fun _ s7 ⟨x, H7, I7, r7, y7, st7, n7⟩ hg7 => ?_))
    have I7' := I7.pinned (gx_stat I7 na n7) (T.obj _ _ st7)
    refine seg_bind_wrap (GenW.wpAny_gsz hg7 (thnF (pg.run _ s7 _ H7 x u _ I7' r7 (step x H7 y7)) fun _ s8 ⟨σ8, H8, I8, hw8, q8⟩ hg8 => ?_))
    refine seg_bind_wrap (GenW.wpAny_gsz hg8 (thnF (pt.run _ s8 σ8 H8 _ I8 q8) fun b s9 ⟨H9, I9, q9⟩ hg9 => ?_))
    have hl : (wipe σ vs).length = σ8.length := by rw [← hw8, wipe_length]
    have back : ∀ {s' : Shared} {H' : Hp}, Inv (gxl X Ag elt tg iter ifs scope gpos it ce s3 H3 fp) ([(a, oG)] ++ pinsAt fp s7.heap) σ8 H' s' →
        IG H' s' ∧ tn (i + 1) s'.heap ∧ ∀ b ∈ fp, H' b = none := fun {s' H'} I' => by
      have pin' : ∀ b ∈ fp, ∀ o, s7.heap.get? b = some o → s'.heap.get? b = some o ∧ H' b = none := fun b hb o e =>
        let z := I'.pin (b, o) (List.mem_append_right _ (List.mem_append_right _ (mem_pinsAt hb e)))
        ⟨z.1, z.2.1⟩
      refine ⟨?_, T.keep _ _ _ st7 fun b hb o e => (pin' b hb o e).1, fun b hb => ?_⟩
      · rw [hIG]
        refine I'.unpinned.weak hl fun j v e => ?_
        rw [← hw8] at e
        exact (wipe_some e).1
      · obtain ⟨o, e, _⟩ := T.obj _ _ st7 b hb
        exact (pin' b hb o e).2
    cases b with
    | false =>
      simp only [Bool.false_eq_true, if_false] at q9 ⊢
      obtain ⟨m', hm, w'⟩ := q9
      obtain ⟨b1, b2, b3⟩ := back I9
      exact seg_again rfl (ih m' hm n (i + 1) H9 s9 s0 (Nat.lt_trans hm hmn) b1 b2 b3 w' hg9)
    | true =>
      simp only [if_true] at q9 ⊢
      have hy : ∀ v, yieldOut ce v = yieldValue v := fun v => by simp only [yieldOut, hco, Bool.false_eq_true, if_false]
      simp only [hy]
      rw [Sem.bind_eq_wrap', Sem.bind_eq_wrap', Sem.wrap_wrap, Sem.wrap_wrap]
      obtain ⟨n', rfl⟩ : ∃ n', n = n' + 1 := ⟨n - 1, by omega⟩
      refine seg_wrap (GenW.wpAny_gsz hg9 (thnF (pe.run _ s9 σ8 H9 _ I9 q9) fun z s10 ⟨yv, H10, I10, r10, out⟩ hg10 => ?_))
      obtain ⟨b1, b2, b3⟩ := back I10
      refine seg_at (seg_yield rfl rfl rfl ⟨i, m, yv, H10, r10, b1, b2, b3, out, hg10, by omega, fun m' hm w' s'' I'' st'' hg'' => ?_⟩)
      exact seg_again rfl (ih m' hm n' (i + 1) H10 s'' s'' (by omega) I'' st'' b3 w' hg'')
theorem gx_seg0 (T : Turn X.prog X.w X.K tg J fp it tn) {n : Nat} {s0 s : Shared} {R : GenEnd} {Y : Protocol} (st : tn 0 s.heap)
    (loop : Seg (model X.prog X.w) Ag R Y n s0 (.compLoop (.GeneratorExp elt [⟨tg, iter, ifs, 0⟩] scope gpos) 0 (.ref it) .none ce)
        ((model X.prog X.w).den (.compLoop (.GeneratorExp elt [⟨tg, iter, ifs, 0⟩] scope gpos) 0 (.ref it) .none ce)) [] s) :
    Seg (model X.prog X.w) Ag R Y n s0 (.compStart (.GeneratorExp elt [⟨tg, iter, ifs, 0⟩] scope gpos) 0 (.ref it) .none ce)
      ((model X.prog X.w).den (.compStart (.GeneratorExp elt [⟨tg, iter, ifs, 0⟩] scope gpos) 0 (.ref it) .none ce)) [] s := by
  show Seg _ Ag _ _ _ s0 _ ((compStart (.GeneratorExp elt [⟨tg, iter, ifs, 0⟩] scope gpos) 0 (.ref it) .none ce).onRaise (leaving ce)) [] s
  unfold compStart
  rw [Sem.onRaise_eq_wrap]
  show Seg _ Ag _ _ _ s0 _ ((ask >>= _).wrap _ _ _ _) [] s
  refine seg_bind_wrap (wpAny_askSetting ?_)
  split
  · exact seg_again rfl loop
  · refine seg_bind_wrap (wpAny_rule ?_)
    show Seg _ Ag _ _ _ s0 _ ((standAt iter.pos >>= _).wrap _ _ _ _) [] s
    exact seg_bind_wrap (wpAny_standAt (seg_bind_wrap (T.self _ 0 s _ _ st (seg_again rfl loop))))
end
/-! ### the generator asked for its next -/
structure IGok (X : Cx) (pins : List (Addr × Obj)) (σ : L2.St) (a : Addr) (gn : Nat) (IG : Hp → Shared → Prop) : Prop where
  bare : ∀ {H s}, IG H s → AllBare s.gens
  gens : ∀ {H s g'}, IG H s → AllBare g' → IG H { s with gens := g' }
  kept : ∀ {H : Hp} {s : Shared} {h' : Heap} {tk : Nat}, IG H s → (∀ b o, s.heap.get? b = some o → h'.get? b = some o) → IG H { s with heap := h', toks := tk }
  isgen : ∀ {H s}, IG H s → s.heap.IsGen a gn
  nolim : ∀ {H s}, IG H s → s.heap.NoLimit
  back : ∀ {H s}, IG H s → Inv X pins σ H s
def GRun (X : Cx) (Ac : Around) (IG : Hp → Shared → Prop) (tn : Nat → Heap → Prop) (fp : List Addr) (W : Nat → Nat → Hp → Prop) (Out : Nat → Nat → V → Hp → Prop) (Fin : Hp → Prop) (gn i m n : Nat) (H : Hp) (s : Shared) : Prop :=
  IG H s ∧ tn i s.heap ∧ (∀ b ∈ fp, H b = none) ∧ W i m H ∧ ∃ gs, s.gens[gn]? = some gs ∧ m < n ∧ ∀ s'' : Shared, IG H s'' → tn i s''.heap → gn < s''.gens.size →
    gs.Goes (model X.prog X.w) Ac.in1 (fun n s0 r s1 => r = .ok .next ∧ gxR IG Fin n s0 s1) (gxY IG tn fp W Out gn) n (.send .none) s''
theorem bare_set {s : Shared} {gn : Nat} {x : GenState} (h : AllBare s.gens) (hx : x.bare = true) : AllBare (s.setGen gn x).gens := by
  intro y hy
  have hy' : y ∈ s.gens.setIfInBounds gn x := hy
  rcases Array.mem_or_eq_of_mem_setIfInBounds hy' with h1 | h1
  · exact h y h1
  · rw [h1]; exact hx
section
variable {X : Cx} {pins : List (Addr × Obj)} {σ : L2.St} {Ac : Around} {IG : Hp → Shared → Prop} {tn : Nat → Heap → Prop} {fp : List Addr} {W : Nat → Nat → Hp → Prop} {Out : Nat → Nat → V → Hp → Prop} {Fin : Hp → Prop} {a : Addr} {gn : Nat}
theorem GRun.lt {i m n : Nat} {H : Hp} {s : Shared} (G : GRun X Ac IG tn fp W Out Fin gn i m n H s) : gn < s.gens.size := by
  obtain ⟨_, _, _, _, gs, h, _⟩ := G
  exact (Array.getElem?_eq_some_iff.mp h).1
/-- what a consumer lays beside it changes nothing -/
theorem GRun.kept (ig : IGok X pins σ a gn IG) (hk : ∀ i h h', tn i h → (∀ b o, h.get? b = some o → h'.get? b = some o) → tn i h') {i m n : Nat} {H : Hp} {s : Shared} {h' : Heap} {tk : Nat} (G : GRun X Ac IG tn fp W Out Fin gn i m n H s)
    (k : ∀ b o, s.heap.get? b = some o → h'.get? b = some o) : GRun X Ac IG tn fp W Out Fin gn i m n H { s with heap := h', toks := tk } := by
  obtain ⟨g1, g2, g3, g4, gs, g5, g6, g7⟩ := G
  exact ⟨ig.kept g1 k, hk _ _ _ g2 k, g3, g4, gs, g5, g6, g7⟩
theorem gx_next {E : Value → Shared → Prop} {Q : Option Value → Shared → Prop} {i m n : Nat} {H : Hp} {s : Shared} (ig : IGok X pins σ a gn IG) (hA : Ac.handled = none) (hd : Ac.depth < recursionLimit) (G : GRun X Ac IG tn fp W Out Fin gn i m n H s)
    (hout : ∀ v y H' s' i' m', RelV y v → Out i' m' y H' → IG H' s' → (∀ m'', m'' < m' → W (i' + 1) m'' H' → GRun X Ac IG tn fp W Out Fin gn (i' + 1) m'' (n - 1) H' s') → Q (some v) s')
    (hfin : ∀ H' s', Fin H' → IG H' s' → Q none s') : wpAny (model X.prog X.w) Ac (pyNext (.ref a)) Q E s := by
  have lt := G.lt
  obtain ⟨g1, g2, g3, g4, gs, g5, g6, g7⟩ := G
  have run : IG H (s.setGen gn .running) := ig.gens g1 (bare_set (ig.bare g1) rfl)
  refine wpAny_pyNext_genexpQ (P := gxR IG Fin) hA (ig.nolim g1) hd (ig.isgen g1) g5 (g7 _ run g2 (by rw [GenW.setGen_size]; exact lt)) (fun v s1 gs' hb hv => ?_) fun s1 hp h' hk => ?_
  · obtain ⟨i', m', y, H', r, I1, st1, nf, out, hg1, hmn, kap⟩ := hv
    have I2 : IG H' (s1.setGen gn gs') := ig.gens I1 (bare_set (ig.bare I1) hb)
    refine hout v y H' _ i' m' r out I2 fun m'' hm w' => ⟨I2, st1, nf, w', gs', ?_, by omega, fun s'' J'' st'' hg'' => ?_⟩
    · show (s1.gens.setIfInBounds gn gs')[gn]? = some gs'
      rw [Array.getElem?_setIfInBounds_self_of_lt hg1]
    · have q := kap m'' hm w' s'' J'' st'' hg''
      cases n with
      | zero => exact q.elim
      | succ n => exact q
  · obtain ⟨H', I1, fin⟩ := hp
    exact hfin H' _ fin (ig.kept (tk := (s1.setGen gn .finished).toks) (ig.gens I1 (bare_set (ig.bare I1) rfl)) hk)
end
/-! ### the generator made -/
section
variable {X : Cx} {pins : List (Addr × Obj)} {σ : L2.St} {H : Hp} {s : Shared}
theorem over_gen {Ag : Around} {stack : List Env} {elt tg iter : Expr} {ifs : List Expr} {scope : Scope} {gpos : Pos} {it : Value} {ce : Env} (hf : Ag.frames = some stack) :
    (Ag.over (.compLoop (.GeneratorExp elt [⟨tg, iter, ifs, 0⟩] scope gpos) 0 it .none ce) []).frames = some (ce :: stack) := by
  show pushEnvs [ce] (pushEnvs [] Ag.frames) = _
  rw [hf]
  rfl
theorem room_gen {Ag : Around} {k : Nat} {elt tg iter : Expr} {ifs : List Expr} {scope : Scope} {gpos : Pos} {it : Value} {ce : Env} (h1 : Ag.handled = none) (h2 : Ag.depth + 1 + 3 * k + 5 < recursionLimit) (h3 : Ag.units + 3 + 16 * k + 200 < cLine) :
    Room k (Ag.over (.compLoop (.GeneratorExp elt [⟨tg, iter, ifs, 0⟩] scope gpos) 0 it .none ce) []) := by
  refine ⟨h1, ?_, ?_⟩
  · show Ag.depth + 0 + 1 + 3 * k + 5 < _
    omega
  · show Ag.units + 0 + 3 + 16 * k + 200 < _
    omega
/-- a generator expression is made; Ac: where it will be asked -/
theorem gx_mk {c T : Addr} {elt tg iter : Expr} {ifs : List Expr} {scope : Scope} {own : List (Str × Nat)} {gpos : Pos} {wi : TI} {g : TG} {tt : TT} {te : TE} {k : Nat} {Q' : Value → Shared → Prop} {Outf : (Nat → Nat → Hp → Prop) → Nat → Nat → V → Hp → Prop} {Fin : Hp → Prop}
    (Ac : Around) (hA : Ac.handled = none) (hfr : Ac.frames = some X.stack) (hd : Ac.depth ≤ X.A.depth) (hu : Ac.units ≤ X.A.units + 8) (hr : Room (k + 1) X.A) (hc : X.calm = true) (hN : X.N.Nodup) (TB : GxR.TabB X.base X.mg c T) (hcode : X.env.code = .ref c) (ok : GOk X.N X.env.scope scope own) (hi : PI X tg iter wi)
    (hg : ∀ (A' : Around) (s3 : Shared) (H3 : Hp) (C : Addr) (code : Value) (fp : List Addr), PG (gxc X A' s3 H3 (genE X scope C code) fp) tg g)
    (ht : ∀ (A' : Around) (s3 : Shared) (H3 : Hp) (C : Addr) (code : Value) (fp : List Addr), Room k A' → PTs (gxc X A' s3 H3 (genE X scope C code) fp) ifs tt)
    (he : ∀ (A' : Around) (s3 : Shared) (H3 : Hp) (C : Addr) (code : Value) (fp : List Addr), Room k A' → PE (gxc X A' s3 H3 (genE X scope C code) fp) elt te)
    (hs : ∀ v, genFold iter X.env v = pure v) (I : Inv X pins σ H s)
    (h : wi σ H fun J H1 => GxR.TabG H1 T ∧ ∀ H2, GxR.Tabbed T H1 H2 → ∃ W, (∃ m, W 0 m H2) ∧ GTurns J g tt te (own.map (·.2)) σ W (Outf W) Fin)
    (hQ : ∀ (IG : Hp → Shared → Prop) (tn : Nat → Heap → Prop) (fp : List Addr) W (a : Addr) (gn m : Nat) (H2 : Hp) (s5 : Shared), IGok X pins σ a gn IG → (∀ i h h', tn i h → (∀ b o, h.get? b = some o → h'.get? b = some o) → tn i h') →
      GRun X Ac IG tn fp W (Outf W) Fin gn 0 m (m + 1) H2 s5 → Q' (.ref a) s5) :
    wpAny (model X.prog X.w) X.A (eval (.GeneratorExp elt [⟨tg, iter, ifs, 0⟩] scope gpos) X.env) Q' X.xe s := by
  have free := gx_free I ok
  refine wpAny_GeneratorExp_make ok.co (closure_ok free) ok.cell ok.dot ok.blk.kind (Nat.lt_of_le_of_lt (by omega : X.A.depth ≤ X.A.depth + 3 * (k + 1) + 5) hr.dp) ?_ hs
  refine thn (hi.run pins s σ H _ I h) fun xv s1 h1 => thn h1 fun itv s2 h2 => ?_
  obtain ⟨it, fp, tn, J, H1, rfl, J1, TU, st2, f2, ⟨ps, hT, hok⟩, q⟩ := h2
  have gT : s2.heap.get? T = some (PySem.W.tabObj ps) := J1.hok T _ hT
  have cd : PySem.W.CodeHd s2.heap c T := TB.code.keeps J1.bk
  refine ⟨J1.nolimit, ?_⟩
  have lts : ∀ b ∈ fp, b < s2.heap.objs.size := fun b hb => by
    obtain ⟨o, e, _⟩ := TU.obj _ _ st2 b hb
    exact Heap.lt_size e
  have nfT : ∀ b ∈ fp, b ≠ T := fun b hb z => by
    have := (f2 b hb).1
    rw [z, hT] at this
    cases this
  -- behind the code object
  have on : ∀ (code : Value) (h3 : Heap) (tk : Nat) (more : Array Value), Heap.ExtBut T s2.heap h3 → s2.heap.objs.size ≤ h3.objs.size → h3.get? T = some (PySem.W.tabObj (ps ++ more)) → TriplesOk (ps ++ more).toList →
      wpAny (model X.prog X.w) X.A (builtinsFor X.env.globals X.env.builtins) (fun bi s4 =>
        ∀ h', h'.Ns s4.heap.objs.size (fun y => if y = ".0" then some (.ref it) else none) → Heap.SameBut s4.heap.objs.size (s4.heap.push { cls := .type "frame", data := .dict #[] }) h' →
          Q' (.ref h'.objs.size) { s4 with
            gens := s4.gens.push (.fresh (.compStart (.GeneratorExp elt [⟨tg, iter, ifs, 0⟩] scope gpos) 0 (.ref it) .none (genEnv scope (cloFrom X.env.cells scope.names []) s4.heap.objs.size code bi X.env))),
            toks := s4.toks + 1 + 1 + 1,
            heap := h'.push { cls := .type "generator", data := .fields #[.int s4.gens.size 0, .str "<genexpr>" (s4.toks + 1), .str (X.env.qual ++ "<genexpr>") (s4.toks + 1 + 1)] } }) X.xe { s2 with heap := h3, toks := tk } := by
    intro code h3 tk more ext ge3 gT3 ok3
    have J3 : Inv X pins σ (upd H1 T (.tbl (ps ++ more))) { s2 with heap := h3, toks := tk } := GxR.inv_tab (g' := s2.gens) (d' := s2.drawn) J1 hT ext gT3 J1.bare
    have tb : GxR.Tabbed T H1 (upd H1 T (.tbl (ps ++ more))) := ⟨⟨_, upd_same, ok3⟩, fun b nb => upd_ne nb⟩
    obtain ⟨W, ⟨m0, w0⟩, turn⟩ := q _ tb
    obtain ⟨bm, ob, e1, e2, _, e4, e5, e6, e7, e8⟩ := TB.bm
    refine wpAny_builtinsFor (m := X.mg) (by rw [J3.ok.glob]; exact J3.mod.glob.keeps J3.bk) e1 e2 (ext _ _ e4 (J1.bk _ _ e5)) e6 e7 e8 ?_
    intro h' hn hsb
    have f3 : ∀ b ∈ fp, FpOk X pins (upd H1 T (.tbl (ps ++ more))) b ∧ b < h3.objs.size := fun b hb => by
      refine ⟨⟨?_, (f2 b hb).2⟩, Nat.lt_of_lt_of_le (lts b hb) ge3⟩
      rw [upd_ne (nfT b hb)]
      exact (f2 b hb).1
    have st3 : tn 0 h3 := TU.keep _ _ _ st2 fun b hb o e => ext b o (nfT b hb) e
    have nf3 : ∀ b ∈ fp, (upd H1 T (.tbl (ps ++ more))) b = none := fun b hb => (f3 b hb).1.1
    generalize hH3 : upd H1 T (.tbl (ps ++ more)) = H3 at J3 w0 f3 nf3
    generalize hs3 : ({ s2 with heap := h3, toks := tk } : Shared) = s3 at J3 hn hsb ⊢
    have eh : s3.heap = h3 := by rw [← hs3]
    have szh : h'.objs.size = s3.heap.objs.size + 1 := by rw [hsb.1, Heap.size_push]
    have kp : ∀ b o, s3.heap.get? b = some o → h'.get? b = some o := fun b o e => hsb.extBut b o (Nat.ne_of_lt (Heap.lt_size e)) (Heap.get?_push_of_some _ e)
    generalize hoG : ({ cls := .type "generator", data := .fields #[.int s3.gens.size 0, .str "<genexpr>" (s3.toks + 1), .str (X.env.qual ++ "<genexpr>") (s3.toks + 1 + 1)] } : Obj) = oG
    have na : h'.objs.size ∉ fp := fun z => by
      have := (f3 _ z).2
      rw [← eh] at this
      exact Nat.lt_irrefl _ (Nat.lt_of_lt_of_le this (by rw [szh]; exact Nat.le_succ _))
    have start := gx_start (A' := Ac.in1.over (.compLoop (.GeneratorExp elt [⟨tg, iter, ifs, 0⟩] scope gpos) 0 (.ref it) .none (genE X scope s3.heap.objs.size code)) []) (code := code) (it := .ref it) (oG := oG)
      (g' := s3.gens.push (.fresh (.compStart (.GeneratorExp elt [⟨tg, iter, ifs, 0⟩] scope gpos) 0 (.ref it) .none (genE X scope s3.heap.objs.size code)))) (t' := s3.toks + 1 + 1 + 1) J3 ok hN (fun b hb => ⟨(f3 b hb).1, by rw [eh]; exact (f3 b hb).2⟩) hA (over_gen hfr) hn hsb
      (fun v => by rw [← hoG]; exact fun z => nomatch z) (J3.bare.push rfl) (by rw [← hoG]; rfl)
    have rm : Room k (Ac.in1.over (.compLoop (.GeneratorExp elt [⟨tg, iter, ifs, 0⟩] scope gpos) 0 (.ref it) .none (genE X scope s3.heap.objs.size code)) []) :=
      room_gen hA (by have := hr.dp; show Ac.depth + 1 + 3 * k + 5 < _; omega) (by have := hr.un; show Ac.units + 1 + 3 + 16 * k + 200 < _; omega)
    refine hQ (fun H' s' => Inv (gxl X Ac.in1 elt tg iter ifs scope gpos it (genE X scope s3.heap.objs.size code) s3 H3 fp) [(h'.objs.size, oG)] (wipe σ (own.map (·.2))) H' s') tn fp W h'.objs.size s3.gens.size m0 H3 _ ?_ (fun i h h' st kk => TU.keep _ _ _ st fun b _ o e => kk b o e) ?_
    · refine ⟨fun I' => I'.bare, fun I' hb => ⟨I'.ok, I'.os, hb, I'.base, I'.loc, I'.cell, I'.free, I'.freeC, I'.pin, I'.hok, I'.len⟩, fun I' kk => I'.kept kk, fun I' => ?_, fun I' => I'.nolimit, fun I' => ?_⟩
      · have z := (I'.pin (h'.objs.size, oG) (by simp)).1
        rw [← hoG] at z
        exact ⟨_, _, _, z, rfl, rfl, rfl⟩
      · exact J3.call' (ch := fp) I'.os I'.base I'.hok I'.bare fun b hb => ⟨(f3 b hb).1.2.2.2.1, (f3 b hb).1.2.1, (f3 b hb).1.2.2.2.2.1, (f3 b hb).1.2.2.2.2.2⟩
    · refine ⟨start, TU.keep _ _ _ st3 fun b hb o e => Heap.get?_push_of_some _ (kp b o (by rw [eh]; exact e)), nf3, w0, _, Array.getElem?_push_size .., Nat.lt_succ_self _, fun s'' I'' st'' hg'' => ⟨rfl, ?_⟩⟩
      exact gx_seg0 TU st'' (gx_seg TU na ok.co (hg _ s3 H3 _ code fp) (ht _ s3 H3 _ code fp rm) (he _ s3 H3 _ code fp rm) turn _ rfl m0 (m0 + 1) 0 H3 s'' s'' (Nat.lt_succ_self _) I'' st'' nf3 w0 hg'')
  cases among : codeAmong gpos ps.toList with
  | some cv =>
    refine wpAny_genexprCode_hit hcode (cd.code gT hok) among ?_
    exact on cv s2.heap s2.toks #[] (Heap.ExtBut.refl _ _) (Nat.le_refl _) (by rw [Array.append_empty]; exact gT) (by rw [Array.append_empty]; exact hok)
  | none =>
    refine wpAny_genexprCodeX hcode (cd.code gT hok) (cd.tab gT) among fun c' h' tk hx hge hlt isC _ tab' _ => ?_
    obtain ⟨_, _, _, _, _, _, _, _, _, _, _, _, _, _, _, _, _, _, _, ok', _⟩ := isC
    exact on _ h' tk _ hx (Nat.le_trans hge (Nat.le_of_lt hlt)) tab'.2 ok'
end
/-! ### all(..) of a generator expression -/
def tAllG (T : Addr) (wi : TI) (g : TG) (tt : TT) (te : TE) (vs : List Nat) : TE := fun σ H Q => wi σ H fun J H1 => GxR.TabG H1 T ∧ ∀ H2, GxR.Tabbed T H1 H2 → ∃ W : Nat → Nat → Hp → Prop, (∃ m, W 0 m H2) ∧
  GTurns J g tt te vs σ W (fun i m y H' => ∃ k, y = .bl k ∧ (if k = true then ∃ m', m' < m ∧ W (i + 1) m' H' else Q (.bl false) H')) (fun H' => Q (.bl true) H')
section
variable {X : Cx} {pins : List (Addr × Obj)} {σ : L2.St}
theorem all_loop {IG : Hp → Shared → Prop} {tn : Nat → Heap → Prop} {fp : List Addr} {W : Nat → Nat → Hp → Prop} {a : Addr} {gn : Nat} {Q : VK} {R : Result → Shared → Prop} (ig : IGok X pins σ a gn IG) (hA : X.A.handled = none) (hd : X.A.depth < recursionLimit)
    (hR : ∀ b H s, Q (.bl b) H → IG H s → R (.ok (.ret (.bool b))) s) : ∀ (n i m : Nat) (H : Hp) (s : Shared),
    GRun X X.A.in1 IG tn fp W (fun i m y H' => ∃ k, y = .bl k ∧ (if k = true then ∃ m', m' < m ∧ W (i + 1) m' H' else Q (.bl false) H')) (fun H' => Q (.bl true) H') gn i m n H s →
    codeAny (model X.prog X.w) X.A (.builtin "all.loop" ⟨[.ref a], []⟩) R s := by
  intro n
  induction n with
  | zero =>
    intro i m H s G
    obtain ⟨_, _, _, _, gs, _, h, _⟩ := G
    exact absurd h (Nat.not_lt_zero _)
  | succ n ih =>
    intro i m H s G
    refine codeAny_builtin F.entry_all_loop ?_
    rw [Around.under_plainId F.plain_all_loop _]
    show wpAny _ X.A.in1 (pyNext (.ref a) >>= _) _ _ s
    refine wpAny_bind (gx_next ig hA hd G (fun v y H' s' i' m' r out I' cont => ?_) fun H' s' fin I' => ?_)
    · obtain ⟨k, rfl, hk⟩ := out
      obtain rfl : v = .bool k := r
      refine wpAny_bind (wpAny_holding (wpAny_truthy_bool ?_))
      refine wpAny_bind (wpAny_letGo ?_)
      cases k with
      | true =>
        obtain ⟨m'', hm, w'⟩ := hk
        exact wpAny_pure ⟨plainId_quiet F.plain_all_loop _, ih (i' + 1) m'' H' s' (cont m'' hm w')⟩
      | false =>
        refine wpAny_bind (wpAny_rule (wpAny_pure ?_))
        exact hR false H' s' hk I'
    · refine wpAny_bind (wpAny_rule (wpAny_pure ?_))
      exact hR true H' s' fin I'
theorem pe_allG {c T : Addr} {elt tg iter : Expr} {ifs : List Expr} {scope : Scope} {own : List (Str × Nat)} {gpos p pos : Pos} {wi : TI} {g : TG} {tt : TT} {te : TE} {k : Nat}
    (hr : Room (k + 1) X.A) (hgl : Gl X "all") (hm : X.mg "all" = none) (hc : X.calm = true) (hN : X.N.Nodup) (TB : GxR.TabB X.base X.mg c T) (hcode : X.env.code = .ref c) (ok : GOk X.N X.env.scope scope own) (hi : PI X tg iter wi)
    (hg : ∀ (A' : Around) (s3 : Shared) (H3 : Hp) (C : Addr) (code : Value) (fp : List Addr), PG (gxc X A' s3 H3 (genE X scope C code) fp) tg g)
    (ht : ∀ (A' : Around) (s3 : Shared) (H3 : Hp) (C : Addr) (code : Value) (fp : List Addr), Room k A' → PTs (gxc X A' s3 H3 (genE X scope C code) fp) ifs tt)
    (he : ∀ (A' : Around) (s3 : Shared) (H3 : Hp) (C : Addr) (code : Value) (fp : List Addr), Room k A' → PE (gxc X A' s3 H3 (genE X scope C code) fp) elt te)
    (hs : ∀ v, genFold iter X.env v = pure v := by intro _; rfl)
    (hst : starEach [.GeneratorExp elt [⟨tg, iter, ifs, 0⟩] scope gpos] X.env = (false, eval (.GeneratorExp elt [⟨tg, iter, ifs, 0⟩] scope gpos) X.env) :: starEach [] X.env := by rfl) :
    PE X (.Call (.Name "all" p) [.GeneratorExp elt [⟨tg, iter, ifs, 0⟩] scope gpos] [] pos) (tAllG T wi g tt te (own.map (·.2))) := by
  refine ⟨fun pins s σ H Q I h => wpAny_Call_Name_kw (ld_blt I hgl hm (show bootBuiltins "all" = some (.builtin "all") by decide +kernel) ?_)⟩
  refine PyProof.Rows.callWith_builtin1 ?_ hst (by rfl)
  rw [hst]
  have hA := I.ok.hd hc
  have hf := I.ok.frames
  refine Calls.spliced_cons (gx_mk (Outf := fun W i m y H' => ∃ k, y = .bl k ∧ (if k = true then ∃ m', m' < m ∧ W (i + 1) m' H' else Q (.bl false) H')) (Fin := fun H' => Q (.bl true) H')
    X.A.in1 hA hf (Nat.le_refl _) (by show X.A.units + 1 ≤ _; omega) hr hc hN TB hcode ok hi hg ht he hs I h ?_)
  · intro IG tn fp W a gn m H2 s5 ig hk G
    refine Calls.spliced_nil ?_
    refine call_function_tree F.kind_all F.plain_all F.entry_all (F.args_all1 _) ?_
    unfold Builtin.«all»
    refine wpAny_bind (m := oneArg "all" _) (wpAny_pure ?_)
    refine wpAny_bind (wpAny_pyIter_gen (ig.isgen G.1) ?_)
    exact wpAny_pure ⟨plainId_quiet F.plain_all_loop _, all_loop ig hA (Nat.lt_of_le_of_lt (by omega : X.A.depth ≤ X.A.depth + 3 * (k + 1) + 5) hr.dp) (fun b H s q I' => ⟨.bl b, H, ig.back I', rfl, q⟩) _ _ _ _ _ G⟩
end
/-! ### len(set(t)) of a tuple of texts -/
/-- the texts, each once -/
def once : List Str → List Str := fun xs => xs.foldl (fun acc x => if acc.contains x = true then acc else acc ++ [x]) []
theorem once_snoc (xs : List Str) (x : Str) : once (xs ++ [x]) = if (once xs).contains x = true then once xs else once xs ++ [x] := by
  unfold once
  rw [List.foldl_append]
  rfl
theorem once_le (l : List Str) : (once l).length ≤ l.length := by
  have more : ∀ (l acc : List Str), (l.foldl (fun acc x => if acc.contains x = true then acc else acc ++ [x]) acc).length ≤ acc.length + l.length := by
    intro l
    induction l with
    | nil => intro acc; exact Nat.le_refl _
    | cons x r ih =>
      intro acc
      refine Nat.le_trans (ih _) ?_
      show (if acc.contains x = true then acc else acc ++ [x]).length + r.length ≤ acc.length + (r.length + 1)
      by_cases h : acc.contains x = true
      · rw [if_pos h]; omega
      · rw [if_neg h, List.length_append]; show acc.length + 1 + r.length ≤ _; omega
  have h := more l []
  have z : (once l).length ≤ ([] : List Str).length + l.length := h
  simpa using z
section
variable {prog : Program} {w : World} {A : Around}
theorem set_texts_loop {R : Result → Shared → Prop} {it : Addr} {fp wr : List Addr} {G : Array GenState → Array GenState → Prop} {n : Nat} {P : Nat → Value → Prop} {St : Nat → Shared → Prop} (W : WalksS prog w A.in1 it fp wr G n P St) (S : Addr) (nS : S ∉ fp) (xs : List Str)
    (len : xs.length = n) (big : n + 1 < scanBound) (val : ∀ i v, P i v → ∃ t, v = .str (xs.getD i Str.empty) t) :
    ∀ (k i : Nat) (s : Shared), n - i = k → i ≤ n → St i s → s.heap.SetOf (PySem.strKind prog w) S (fun x => (once (xs.take i)).contains x) (once (xs.take i)).length →
      (∀ s', Moved (S :: wr) G s s' → s'.heap.SetOf (PySem.strKind prog w) S (fun x => (once xs).contains x) (once xs).length → R (.ok (.ret .none)) s') →
      codeAny (model prog w) A (.builtin "set.update.loop" ⟨[.ref S, .ref it], []⟩) R s := by
  have nW : S ∉ wr := fun h => nS (W.sub _ h)
  have up : ∀ b ∈ wr, b ∈ S :: wr := fun b hb => List.mem_cons_of_mem _ hb
  have stay : ∀ {s s' : Shared} {f : Str → Bool} {c : Nat}, Moved wr G s s' → s.heap.SetOf (PySem.strKind prog w) S f c → s'.heap.SetOf (PySem.strKind prog w) S f c := fun mv ⟨o, es, ep, t, ho, r⟩ => ⟨o, es, ep, t, mv.heap S _ nW ho, r⟩
  have most := once_le
  intro k
  induction k with
  | zero =>
    intro i s hk hi st hS hR
    obtain rfl : i = n := by omega
    refine codeAny_builtin PyProof.Rows.F.entry_set_update_loop ?_
    rw [Around.under_plainId PyProof.Rows.F.plain_set_update_loop _]
    show wpAny _ A.in1 (pyNext (.ref it) >>= _) _ _ s
    refine wpAny_bind (W.done s _ _ st fun s' mv => ?_)
    rw [List.take_of_length_le (Nat.le_of_eq len)] at hS
    exact wpAny_pure (hR s' (mv.mono up) (stay mv hS))
  | succ k ih =>
    intro i s hk hi st hS hR
    have lt : i < n := by omega
    refine codeAny_builtin PyProof.Rows.F.entry_set_update_loop ?_
    rw [Around.under_plainId PyProof.Rows.F.plain_set_update_loop _]
    show wpAny _ A.in1 (pyNext (.ref it) >>= _) _ _ s
    refine wpAny_bind (W.item i s _ _ lt st fun v s' hP st' mv => ?_)
    obtain ⟨t, rfl⟩ := val i v hP
    show wpAny _ A.in1 (holding [Value.str (xs.getD i Str.empty) t] (setAdd S (.str (xs.getD i Str.empty) t)) >>= _) _ _ s'
    refine wpAny_bind (wpAny_holding ?_)
    unfold setAdd
    refine wpAny_holding (wpAny_bind ((PySem.strKind prog w).pyHash (k := xs.getD i Str.empty) (strKind_is _ _ _ _) ?_))
    have small : (once (xs.take i)).length + 1 < scanBound := by
      have h := most (xs.take i)
      rw [List.length_take] at h
      omega
    refine wpAny_setAddHashed_of (knd := PySem.strKind prog w) (s := { s' with toks := s'.toks + 1 }) (strKind_is _ _ _ _) rfl (show s'.heap.SetOf _ S _ _ from stay mv hS) small fun h' sb hS2 => ?_
    have hx : xs.take (i + 1) = xs.take i ++ [xs.getD i Str.empty] := by
      have hl : i < xs.length := by omega
      rw [List.take_add_one, List.getElem?_eq_getElem hl, List.getD_eq_getElem?_getD, List.getElem?_eq_getElem hl]
      rfl
    have hS3 : h'.SetOf (PySem.strKind prog w) S (fun x => (once (xs.take (i + 1))).contains x) (once (xs.take (i + 1))).length := by
      rw [hx, once_snoc]
      revert hS2
      generalize xs.getD i Str.empty = z
      generalize once (xs.take i) = L
      intro hS2
      by_cases e : L.contains z = true
      · rw [if_pos e] at hS2 ⊢
        refine SetOf_congr hS2 (fun y => ?_) rfl
        by_cases q : y = z
        · rw [q, e]; rfl
        · rw [decide_eq_false q, Bool.or_false]
      · rw [if_neg e] at hS2 ⊢
        refine SetOf_congr hS2 (fun y => ?_) (by rw [List.length_append]; rfl)
        rw [List.contains_append]
        by_cases q : y = z
        · rw [q, decide_eq_true rfl]; simp
        · rw [decide_eq_false q]; simp [q]
    refine wpAny_pure ⟨plainId_quiet PyProof.Rows.F.plain_set_update_loop _, ih (i + 1) _ (by omega) lt (W.frame _ s' _ _ st' (Nat.le_succ _) fun b hb o e => ?_) hS3 fun s'' mv'' hS'' => ?_⟩
    · rw [sb.2 b (fun z : b = S => nS (by rw [← z]; exact hb))]
      exact e
    · refine hR s'' (Moved.trans W.gtrans ((mv.mono up).then_heap (Nat.le_succ _) fun b o hb e => ?_) mv'') hS''
      rw [sb.2 b (fun z : b = S => hb (by rw [z]; exact List.mem_cons_self))]
      exact e
abbrev set0 (led : Bool) : Obj := { cls := .type "set", dict := none, data := .set #[] 0 (.fresh 0 0 led) }
set_option maxHeartbeats 3200000 in
theorem set_of_texts {E : Value → Shared → Prop} {s : Shared} {l : Addr} {items : Array Value} {xs : List Str} {Q : Value → Shared → Prop} (hh : A.handled = none) (hl : s.heap.IsTuple l items) (hi : PyProof.Rows.StrsAre items.toList xs) (big : xs.length + 1 < scanBound)
    (h : ∀ (h' : Heap) (tk : Nat), h'.SetOf (PySem.strKind prog w) s.heap.objs.size (fun x => (once xs).contains x) (once xs).length →
      (∀ b o, b < s.heap.objs.size → s.heap.get? b = some o → h'.get? b = some o) → Q (.ref s.heap.objs.size) { s with heap := h', toks := tk }) :
    wpAny (model prog w) A (call (.type "set") [.ref l]) Q E s := by
  obtain ⟨c, tl, hmro⟩ := PySem.F.called_set.mro
  have hmade := PySem.F.called_set.made
  have hsub := PySem.F.called_set.sub
  refine wpAny_call (codeAny_of_tree ?_)
  show wpAny _ _ (callAny (.type "set") _) _ _ _
  refine wpAny_pure ⟨Code.quiet_builtin _ (by decide +kernel), codeAny_builtin PySem.F.entry_type_call ?_⟩
  rw [Around.under_plain (weight_type_call_type "set" [.ref l] []) rfl]
  have h1 := PySem.F.called_set.notType
  have h2 := PySem.F.called_set.canCreate
  have hct := PySem.F.typeCall_set_1 (.ref l)
  repeat (any_goals (first | assumption | wp_step))
  refine codeAny_mono (code_set_new_1 (.ref l) (E := E) (Q₁ := fun obj s₁ => ∃ led : Bool, obj = .ref s.heap.objs.size ∧ s₁ = { s with heap := s.heap.push { cls := .type "set", dict := none, data := .set #[] 0 (.fresh 0 0 led) } }) fun led => ⟨led, rfl, rfl⟩) fun r s₁ hr => ?_
  cases r with
  | error e => exact hr
  | ok fl =>
    cases fl with
    | ret obj =>
      obtain ⟨led, rfl, rfl⟩ := hr
      have fresh : (set0 led).isFreed = false := rfl
      have hS : (s.heap.push (set0 led)).get? s.heap.objs.size = some (set0 led) := Heap.get?_push_size _ fresh
      have hT : Shared.TypeIs { s with heap := s.heap.push (set0 led) } (.ref s.heap.objs.size) "set" := ⟨_, hS, rfl⟩
      have hli := PySem.F.called_set.init.lookup
      have hbi := PySem.F.called_set.init.bind (.ref s.heap.objs.size)
      repeat (any_goals (first | assumption | wp_step))
      refine codeAny_mono (codeAny_call_builtin (R := wants (fun r s₂ => r = .none ∧ ∃ h' tk, s₂ = { s with heap := h', toks := tk } ∧
          h'.SetOf (PySem.strKind prog w) s.heap.objs.size (fun x => (once xs).contains x) (once xs).length ∧
          (∀ b o, b < s.heap.objs.size → s.heap.get? b = some o → h'.get? b = some o)) E) PySem.F.called_set.init.plain PySem.F.entry_set_init (check_set_init_1 hT ?_)) fun r₂ s₂ hr₂ => ?_
      · obtain ⟨⟨ocls, odict, odata, oslots⟩, hol, hcl, nl, hdl⟩ := hl
        simp only at hcl hdl
        subst hcl; subst hdl
        have hol' : (s.heap.push (set0 led)).get? l = some { cls := .type "tuple", dict := odict, data := .seq items nl, slots := oslots } := Heap.get?_push_of_some _ hol
        have hsls := PySem.F.sub_tuple_set
        have hslf := PySem.F.sub_tuple_frozenset
        have hne : (Value.type "tuple" == Value.type "dict") = false := by decide
        have hl1 : (s.heap.push (set0 led)).IsTuple l items := ⟨_, hol', rfl, nl, rfl⟩
        unfold Builtin.«set.__init__» noKeywords Builtin.Frozenset.updateFrom
        generalize hPI : pyIter = PI
        wp_walk
        subst hPI
        refine wpAny_pyIter_tuple hl1 ?_
        refine wpAny_bind (wpAny_runValue ?_)
        have ltl : l < s.heap.objs.size := Heap.lt_size hol
        have szP : (s.heap.push (set0 led)).objs.size = s.heap.objs.size + 1 := Heap.size_push ..
        have hh3 : A.in1.in1.in1.handled = none := hh
        have neI : l ≠ (s.heap.push (set0 led)).objs.size := by rw [szP]; exact Nat.ne_of_lt (Nat.lt_succ_of_lt ltl)
        have len : xs.length = items.size := by rw [← StrsAre.len_eq hi, Array.length_toList]
        refine set_texts_loop ((Walks.tuple hh3 _ l neI items).toS) s.heap.objs.size ?n xs len (by rw [← len]; exact big)
          (fun i v hv => SS.strs_at hi i v (by rw [Array.getElem?_toList]; exact hv)) (items.size - 0) 0 _ (by omega) (Nat.zero_le _) ⟨⟨_, Heap.get?_push_size _ rfl, rfl, rfl⟩, (hl1.push _)⟩ ?z ?r
        case n =>
          rw [szP]
          simp only [List.mem_cons, List.not_mem_nil, or_false, not_or]
          exact ⟨Nat.ne_of_lt (Nat.lt_succ_self _), Nat.ne_of_gt ltl⟩
        case z =>
          refine PyProof.Rows.SetOf_congr ((PyProof.Rows.setObjOf_fresh (knd := PySem.strKind prog w) led).setOf (Heap.get?_push_of_some _ hS) (by unfold scanBound; omega)) (fun _ => rfl) rfl
        case r =>
          intro s' mv hS'
          obtain ⟨h', g', d', tk', os'⟩ := s'
          obtain rfl : g' = s.gens := mv.gens
          obtain rfl : d' = s.drawn := mv.drawn
          obtain rfl : os' = s.os := mv.os
          refine wpAny_pure ?_
          show wpAny _ _ (ret Value.none) _ _ _
          refine wpAny_pure ⟨rfl, h', tk', rfl, hS', fun b o hb e => mv.heap b o ?_ (Heap.get?_push_of_some _ (Heap.get?_push_of_some _ e))⟩
          rw [szP]
          simp only [List.mem_cons, List.not_mem_nil, or_false, not_or]
          exact ⟨Nat.ne_of_lt hb, Nat.ne_of_lt (Nat.lt_succ_of_lt hb)⟩
      · cases r₂ with
        | error e => exact hr₂
        | ok fl₂ =>
          cases fl₂ with
          | ret r =>
            obtain ⟨rfl, h', tk, rfl, hS', hk'⟩ := hr₂
            repeat (any_goals (first | assumption | wp_step))
            exact h _ _ hS' hk'
          | _ => exact hr₂.elim
    | _ => exact hr.elim
end
def tLenSetX (K : PySem.W.Frag) (ta : TE) : TE := fun σ H Q => ta σ H fun x H1 => ∃ l, ∃ xs : List Str, x = .ref l ∧ SqT K H1 l (xs.map V.str) ∧ xs.length ≤ 1000 ∧ Q (.int (once xs).length) H1
theorem pe_lenSetX {X : Cx} {a : Expr} {ta : TE} {p p2 q pos : Pos} (hc : X.calm = true) (hg : Gl X "len") (hm : X.mg "len" = none) (hg2 : Gl X "set") (hm2 : X.mg "set" = none) (ha : PE X a ta)
    (na : starEach [a] X.env = (false, eval a X.env) :: starEach [] X.env := by rfl) : PE X (.Call (.Name "len" p) [.Call (.Name "set" p2) [a] [] q] [] pos) (tLenSetX X.K ta) := by
  refine ⟨fun pins s σ H Q I h => Call_ (ld_blt I hg hm boot_len (PyProof.Rows.callWith_builtin1 (PyProof.Rows.args_cons ?_ rfl) rfl rfl))⟩
  refine Call_ (ld_blt I hg2 hm2 boot_set (PyProof.Rows.callWith_type1 (PyProof.Rows.args_cons (thn (ha.run pins s σ H _ I h) fun v s1 ⟨x, H1, I1, r1, q1⟩ => PyProof.Rows.args_nil ?_) na) na rfl))
  obtain ⟨l, xs, rfl, hq, le, q1⟩ := q1
  cases r1
  obtain ⟨its, r, pl, hz⟩ := I1.tuple hq
  refine set_of_texts (I1.ok.hd hc) pl (by simpa using strsAre_of r) (by unfold scanBound; omega) fun h' tk hS hk => PyProof.Rows.args_nil ?_
  obtain ⟨o, es, ep, t, ho, hex, hd, _, _, _, hf, hn⟩ := hS
  have I2 : Inv X pins σ H1 { s1 with heap := h', toks := tk } := I1.kept fun b o e => hk b o (Heap.lt_size e) e
  have most := once_le xs
  exact call_len_set ho hex hd hf (by rw [hn] <;> omega) ⟨.int (once xs).length, H1, I2.tok _, ⟨_, by rw [hn]⟩, q1⟩
/-! ### data that can be compared up to the first place where they differ -/
namespace Cs
open PySem PySem.SeqAt PySem.W PyProof.Rows
mutual
def cmpOk : PyData → PyData → Bool
  | .none, .none => true
  | .bool _, .bool _ => true
  | .int _, .int _ => true
  | .str _, .str _ => true
  | .tuple xs, .tuple ys => cmpAll xs ys
  | _, _ => false
def cmpAll : List PyData → List PyData → Bool
  | x :: xs, y :: ys => cmpOk x y && (!PyData.eqv x y || cmpAll xs ys)
  | [], _ => true
  | _ :: _, [] => true
end
theorem cmp_cons {x y : PyData} {xs ys : List PyData} (h : cmpAll (x :: xs) (y :: ys) = true) : cmpOk x y = true ∧ (PyData.eqv x y = true → cmpAll xs ys = true) := by
  rw [cmpAll, Bool.and_eq_true] at h
  refine ⟨h.1, fun e => ?_⟩
  have := h.2
  rw [e] at this
  simpa using this
abbrev lx := PyProof.Rows.lexLt itemOrd
mutual
theorem toks : ∀ (x y : PyData), cmpOk x y = true → (PyData.eqv x y = true → keyToks x = keyToks y) ∧ (PyData.eqv x y = false → ∀ l m, lx (keyToks x ++ l) (keyToks y ++ m) = lx (keyToks x) (keyToks y))
  | .tuple xs, y, h => by
    cases y with
    | tuple ys =>
      have t := toksA xs ys (by simpa [cmpOk] using h)
      simp only [keyToks, PyData.eqv]
      exact t
    | _ => exact absurd h (by simp [cmpOk])
  | .none, y, h => toks_eqv _ y (by cases y <;> first | rfl | exact absurd h (by simp [cmpOk]))
  | .bool a, y, h => toks_eqv _ y (by cases y <;> first | rfl | exact absurd h (by simp [cmpOk]))
  | .int a, y, h => toks_eqv _ y (by cases y <;> first | rfl | exact absurd h (by simp [cmpOk]))
  | .str a, y, h => toks_eqv _ y (by cases y <;> first | rfl | exact absurd h (by simp [cmpOk]))
  | .list _, y, h => absurd h (by cases y <;> simp [cmpOk])
  | .dict _, y, h => absurd h (by cases y <;> simp [cmpOk])
theorem toksA : ∀ (xs ys : List PyData), cmpAll xs ys = true → (PyData.eqvAll xs ys = true → keyToksAll xs = keyToksAll ys) ∧ (PyData.eqvAll xs ys = false → ∀ l m, lx (keyToksAll xs ++ l) (keyToksAll ys ++ m) = lx (keyToksAll xs) (keyToksAll ys))
  | [], ys, _ => toksAll_eqv [] ys (by cases ys <;> rfl)
  | x :: xs, [], _ => toksAll_eqv (x :: xs) [] rfl
  | x :: xs, y :: ys, h => by
    obtain ⟨c1, c2⟩ := cmp_cons h
    obtain ⟨a1, a2⟩ := toks x y c1
    rw [eqv_all_cons, toks_all_cons, toks_all_cons]
    by_cases hx : PyData.eqv x y = true
    · obtain ⟨b1, b2⟩ := toksA xs ys (c2 hx)
      rw [hx, a1 hx, Bool.true_and]
      refine ⟨fun e => by rw [b1 e], fun e l m => ?_⟩
      have k1 : ∀ (u v : List (Int ⊕ List Nat)), lx (Sum.inl 1 :: (keyToks y ++ u)) (Sum.inl 1 :: (keyToks y ++ v)) = lx u v := fun u v => (lex_self (O := itemOrd) _ _ _).trans (lex_pre _ _ _)
      rw [List.cons_append, List.cons_append, List.append_assoc, List.append_assoc, k1, k1]
      exact b2 e l m
    · have hx' : PyData.eqv x y = false := Bool.eq_false_iff.mpr hx
      rw [hx', Bool.false_and]
      refine ⟨fun e => (nomatch e), fun _ l m => ?_⟩
      have k1 : ∀ (u v : List (Int ⊕ List Nat)), lx (Sum.inl 1 :: (keyToks x ++ u)) (Sum.inl 1 :: (keyToks y ++ v)) = lx (keyToks x) (keyToks y) := fun u v => (lex_self (O := itemOrd) _ _ _).trans (a2 hx' _ _)
      rw [List.cons_append, List.cons_append, List.append_assoc, List.append_assoc, k1, k1]
end
theorem lt_yes {x y : PyData} {xs ys : List PyData} (h : cmpOk x y = true) (e : PyData.eqv x y = true) : lx (keyToksAll (x :: xs)) (keyToksAll (y :: ys)) = lx (keyToksAll xs) (keyToksAll ys) := by
  rw [toks_all_cons, toks_all_cons, (toks x y h).1 e]
  exact (lex_self (O := itemOrd) _ _ _).trans (lex_pre _ _ _)
theorem lt_no {x y : PyData} {xs ys : List PyData} (h : cmpOk x y = true) (e : PyData.eqv x y = false) : lx (keyToksAll (x :: xs)) (keyToksAll (y :: ys)) = dataLt x y := by
  rw [toks_all_cons, toks_all_cons]
  exact (lex_self (O := itemOrd) _ _ _).trans ((toks x y h).2 e _ _)
theorem first_toks : ∀ (xs ys : List PyData), cmpAll xs ys = true →
    firstLt (pairEq xs ys) (fun j => dataLt (xs.getD j .none) (ys.getD j .none)) (decide (xs.length < ys.length)) (List.range (min xs.length ys.length)) = lx (keyToksAll xs) (keyToksAll ys)
  | [], ys, _ => firstLt_toks [] ys (by cases ys <;> rfl)
  | x :: xs, [], _ => firstLt_toks (x :: xs) [] rfl
  | x :: xs, y :: ys, h => by
    obtain ⟨h1, h2⟩ := cmp_cons h
    have em : min (x :: xs).length (y :: ys).length = min xs.length ys.length + 1 := Nat.add_min_add_right _ _ 1
    have ed : decide ((x :: xs).length < (y :: ys).length) = decide (xs.length < ys.length) := decide_eq_decide.mpr (by rw [List.length_cons, List.length_cons]; omega)
    rw [em, ed, List.range_succ_eq_map]
    by_cases hx : PyData.eqv x y = true
    · have ih := first_toks xs ys (h2 hx)
      rw [firstLt_yes (show pairEq (x :: xs) (y :: ys) 0 = true from hx), firstLt_map, lt_yes h1 hx, ← ih]
      rfl
    · have hx' : PyData.eqv x y = false := Bool.eq_false_iff.mpr hx
      rw [firstLt_no (show pairEq (x :: xs) (y :: ys) 0 = false from hx'), lt_no h1 hx']
      rfl
theorem not_none {x y : PyData} (h : cmpOk x y = true) (e : PyData.eqv x y = false) : x ≠ .none := by
  rintro rfl
  cases y with
  | none => exact nomatch e
  | _ => exact absurd h (by simp [cmpOk])
/-- tuple.__lt__, where items behind the first place that differs aren't asked -/
theorem tup_lt (l b : Addr) (us vs : Array Value) (n m : Nat) (du dv : Option Addr) (su sv : Array (Option Value)) (e r : Nat → Bool) :
    Meets (Builtin.«tuple.__lt__» ⟨[.ref l, .ref b], []⟩) (fun A R s => s.heap.get? l = some { cls := .type "tuple", dict := du, data := .seq us n, slots := su } ∧ s.heap.get? b = some { cls := .type "tuple", dict := dv, data := .seq vs m, slots := sv } ∧
      (∀ j (h1 : j < us.size) (h2 : j < vs.size), EqAt A.in1 s us[j] vs[j] (e j)) ∧ (∀ j (h1 : j < us.size) (h2 : j < vs.size), (∀ i < j, e i = true) → e j = false → RcLt A.in1 s us[j] vs[j] (r j)) ∧
      R (.ok (.ret (.bool (firstLt e r (decide (us.size < vs.size)) (List.range (min us.size vs.size)))))) s) :=
  .of_wp fun prog w A R s h => by
    obtain ⟨hp, g, d, tk, os⟩ := s
    obtain ⟨hl, hb, he, hr, h⟩ := h
    have ft := AutoSeq1.sub_tuple_tuple
    have lz : (us.toList.zip vs.toList).length = min us.size vs.size := by simp
    wp_walk using AutoSeq1.wpAny_loadPart' hl, AutoSeq1.wpAny_loadPart' hb, wpAny_forIn_list _ (fun rest c s' => c.1 = none ∧ s' = ⟨hp, g, d, tk, os⟩ ∧ ∃ i, (∀ k < i, e k = true) ∧ rest = (us.toList.zip vs.toList).drop i ∧
      R (.ok (.ret (.bool (firstLt e r (decide (us.size < vs.size)) ((List.range (min us.size vs.size)).drop i))))) ⟨hp, g, d, tk, os⟩) _
    case turn =>
      rintro ⟨y, x⟩ rest c s' ⟨hc, rfl, i, al, hz, hR⟩
      have lt : i < (us.toList.zip vs.toList).length := Nat.lt_of_not_le fun q => by rw [List.drop_of_length_le q] at hz; cases hz
      have lm : i < min us.size vs.size := by omega
      have i1 : i < us.size := by omega
      have i2 : i < vs.size := by omega
      rw [List.drop_eq_getElem_cons lt] at hz
      injection hz with pq hrest
      obtain rfl : y = us[i] := by simpa using congrArg Prod.fst pq
      obtain rfl : x = vs[i] := by simpa using congrArg Prod.snd pq
      rw [show (List.range (min us.size vs.size)).drop i = i :: (List.range (min us.size vs.size)).drop (i + 1) by simp [List.drop_eq_getElem_cons, lm]] at hR
      refine wpAny_bind (he i i1 i2 prog w _ _ ?_)
      by_cases hy : e i = true
      · rw [firstLt_yes hy] at hR
        rw [hy]
        wp_walk
        exact ⟨rfl, rfl, i + 1, fun k hk => if z : k = i then z ▸ hy else al k (by omega), hrest, hR⟩
      · have hy' : e i = false := Bool.eq_false_iff.mpr hy
        rw [firstLt_no hy'] at hR
        rw [hy']
        have step : ∀ (E' : Value → Shared → Prop) (Q' : Value → Shared → Prop), Q' (.bool (r i)) ⟨hp, g, d, tk, os⟩ → wpAny (model prog w) A.in1 (richCompare .Lt us[i] vs[i]) Q' E' ⟨hp, g, d, tk, os⟩ := fun E' Q' q' => hr i i1 i2 al hy' prog w E' Q' q'
        revert step
        generalize richCompare .Lt us[i] vs[i] = cmp
        intro step
        wp_walk
        refine step _ _ ?_
        wp_walk
        exact ⟨_, rfl, hR⟩
    case fin =>
      rintro ⟨c1, c2⟩ s' ⟨hc, rfl, i, al, hz, hR⟩
      simp only at hc
      subst hc
      have ge : min us.size vs.size ≤ i := Nat.le_of_not_lt fun q => by rw [List.drop_eq_getElem_cons (by omega)] at hz; cases hz
      rw [List.drop_of_length_le (by simpa using ge)] at hR
      wp_walk
      exact ⟨_, rfl, by simpa [Builtin.Tuple.tupleCompareSizes, firstLt] using hR⟩
    case h => exact ⟨rfl, rfl, 0, fun k hk => absurd hk (Nat.not_lt_zero _), rfl, by simpa using h⟩
theorem rc_tup {A : Around} {s : Shared} {l b : Addr} {us vs : Array Value} {e r : Nat → Bool} (hl : s.heap.IsTuple l us) (hb : s.heap.IsTuple b vs) (hu : A.units < cLine)
    (he : ∀ j (h1 : j < us.size) (h2 : j < vs.size), EqAt A.in1 s us[j] vs[j] (e j)) (hr : ∀ j (h1 : j < us.size) (h2 : j < vs.size), (∀ i < j, e i = true) → e j = false → RcLt A.in1 s us[j] vs[j] (r j)) :
    RcLt A s (.ref l) (.ref b) (firstLt e r (decide (us.size < vs.size)) (List.range (min us.size vs.size))) := fun prog w E Q h => by
  obtain ⟨⟨c1, d1, t1, s1⟩, ho, hc, n, hd⟩ := id hl
  obtain ⟨⟨c2, d2, t2, s2⟩, ho2, hc2, n2, hd2⟩ := id hb
  dsimp only at hc hd hc2 hd2
  subst hc hd hc2 hd2
  exact richCompare_meets_room (op := .Lt) ⟨_, ho, rfl⟩ ⟨_, ho2, rfl⟩ F.slot_tuple_lt F.entry_tuple_lt (F.args_tuple_lt_2 _ _) (tup_lt l b us vs n n2 d1 d2 s1 s2 e r) ⟨ho, ho2, he, hr, (fun x => nomatch x), h⟩ hu
mutual
theorem rc : ∀ (da db : PyData) (A : Around) (s : Shared) (a b : Value) (as bs : List Addr), Reads s.heap a da as → Reads s.heap b db bs → da.canLay0 = true → db.canLay0 = true → cmpOk da db = true → da ≠ .none → A.units + min da.depth db.depth < cLine → RcLt A s a b (dataLt da db)
  | .tuple xs, db, A, s, a, b, as, bs, ra, rb, la, lb, h, e, hu => by
    cases db with
    | tuple ys =>
      have hal : cmpAll xs ys = true := by simpa [cmpOk] using h
      cases ra with
      | @tuple l o us n _ as₁ h1 h2 h3 h4 =>
        cases rb with
        | @tuple l' o' vs n' _ bs₁ k1 k2 k3 k4 =>
          have n1 : us.size = xs.length := by simpa using ReadsAll.length _ _ _ h4
          have n2 : vs.size = ys.length := by simpa using ReadsAll.length _ _ _ k4
          have la' : PyData.canLayAll0 xs = true := by simpa [PyData.canLay0] using la
          have lb' : PyData.canLayAll0 ys = true := by simpa [PyData.canLay0] using lb
          rw [dataLt_tuple]
          show RcLt A s (.ref l) (.ref l') (lx (keyToksAll xs) (keyToksAll ys))
          rw [← first_toks xs ys hal, ← n1, ← n2]
          refine rc_tup ⟨_, h1, h2, _, h3⟩ ⟨_, k1, k2, _, k3⟩ (room_here hu) (fun j j1 j2 => ?_) fun j j1 j2 al hj => ?_
          · have := eqAt_readsAll xs ys A.in1 s us.toList vs.toList _ _ h4 k4 la' lb' (room_in hu) j (by simpa using j1) (by simpa using j2)
            simpa using this
          · have := rcA xs ys A.in1 s us.toList vs.toList _ _ h4 k4 la' lb' hal (room_in hu) j (by simpa using j1) (by simpa using j2) al hj
            simpa using this
    | _ => exact absurd h (by simp [cmpOk])
  | .none, _, _, _, _, _, _, _, _, _, _, _, _, hn, _ => absurd rfl hn
  | .bool x, db, A, s, a, b, as, bs, ra, rb, _, _, h, e, hu => rcLt_alike _ db A s a b as bs ra rb (by cases db <;> first | rfl | exact absurd h (by simp [cmpOk])) e hu
  | .int x, db, A, s, a, b, as, bs, ra, rb, _, _, h, e, hu => rcLt_alike _ db A s a b as bs ra rb (by cases db <;> first | rfl | exact absurd h (by simp [cmpOk])) e hu
  | .str x, db, A, s, a, b, as, bs, ra, rb, _, _, h, e, hu => rcLt_alike _ db A s a b as bs ra rb (by cases db <;> first | rfl | exact absurd h (by simp [cmpOk])) e hu
  | .list _, db, _, _, _, _, _, _, _, _, _, _, h, _, _ => absurd h (by cases db <;> simp [cmpOk])
  | .dict _, db, _, _, _, _, _, _, _, _, _, _, h, _, _ => absurd h (by cases db <;> simp [cmpOk])
theorem rcA : ∀ (xs ys : List PyData) (A : Around) (s : Shared) (us vs : List Value) (as bs : List Addr), ReadsAll s.heap us xs as → ReadsAll s.heap vs ys bs → PyData.canLayAll0 xs = true → PyData.canLayAll0 ys = true → cmpAll xs ys = true →
    A.units + min (PyData.depthAll xs) (PyData.depthAll ys) < cLine → ∀ j (h1 : j < us.length) (h2 : j < vs.length), (∀ i < j, pairEq xs ys i = true) → pairEq xs ys j = false → RcLt A s us[j] vs[j] (dataLt (xs.getD j .none) (ys.getD j .none))
  | [], _, _, _, _, _, _, _, ra, _, _, _, _, _, j, h1, _, _, _ => by cases ra; exact absurd h1 (Nat.not_lt_zero _)
  | _ :: _, [], _, _, _, _, _, _, _, rb, _, _, _, _, j, _, h2, _, _ => by cases rb; exact absurd h2 (Nat.not_lt_zero _)
  | x :: xs, y :: ys, A, s, _, _, _, _, ra, rb, la, lb, h, hu, j, h1, h2, al, hj => by
    have la' : x.canLay0 = true ∧ PyData.canLayAll0 xs = true := by simpa [PyData.canLayAll0] using la
    have lb' : y.canLay0 = true ∧ PyData.canLayAll0 ys = true := by simpa [PyData.canLayAll0] using lb
    cases ra with
    | cons r rs =>
      cases rb with
      | cons r' rs' =>
        cases j with
        | zero => exact rc x y A s _ _ _ _ r r' la'.1 lb'.1 (cmp_cons h).1 (not_none (cmp_cons h).1 hj) (room_head hu)
        | succ j => exact rcA xs ys A s _ _ _ _ rs rs' la'.2 lb'.2 ((cmp_cons h).2 (al 0 (Nat.succ_pos _))) (room_tail hu) j (Nat.lt_of_succ_lt_succ h1) (Nat.lt_of_succ_lt_succ h2) (fun i hi => al (i + 1) (Nat.succ_lt_succ hi)) hj
end
/-! as sorting compares -/
section
variable {prog : Program} {w : World} {A : Around} {E : Value → Shared → Prop} {s : Shared}
theorem alike_of {da db : PyData} (h : cmpOk da db = true) (hf : ∀ xs, da ≠ .tuple xs) : alike da db = true := by
  cases da with
  | tuple xs => exact absurd rfl (hf xs)
  | list _ => exact absurd h (by cases db <;> simp [cmpOk])
  | dict _ => exact absurd h (by cases db <;> simp [cmpOk])
  | _ => cases db <;> first | rfl | exact absurd h (by simp [cmpOk])
theorem one {f : Bool} {da db : PyData} {a b : Value} {as bs : List Addr} {Q : Bool → Shared → Prop} (hf : f = true → ∀ xs, da ≠ .tuple xs) (ra : Reads s.heap a da as) (rb : Reads s.heap b db bs) (la : da.canLay0 = true) (lb : db.canLay0 = true) (h : cmpOk da db = true) (hn : da ≠ .none)
    (hu : A.units + min da.depth db.depth < cLine) (hq : Q (dataLt da db) s) : wpAny (model prog w) A (oneLt' f a b) Q E s := by
  cases f with
  | true => exact oneLt_alike (fun _ => hf rfl) ra rb (alike_of h (hf rfl)) hn hu hq
  | false =>
    rw [oneLt'_eq, if_neg (by decide)]
    exact wpAny_bind (rc da db A s a b as bs ra rb la lb h hn hu prog w E _ (wpAny_truthy_bool hq))
theorem kat {b fin : Bool} {Q : Bool → Shared → Prop} : ∀ (xs ys : List PyData) (i : Nat) (us vs : List Value) (as bs : List Addr), ReadsAll s.heap us xs as → ReadsAll s.heap vs ys bs → PyData.canLayAll0 xs = true → PyData.canLayAll0 ys = true → cmpAll xs ys = true →
    A.units + min (PyData.depthAll xs) (PyData.depthAll ys) < cLine → (b = true → i = 0 → ∀ x r t, xs = x :: r → x ≠ .tuple t) → fin = decide (xs.length < ys.length) → Q (lx (keyToksAll xs) (keyToksAll ys)) s → KatLex prog w A b fin Q (us.zip vs) i s
  | [], ys, i, us, vs, as, bs, ra, rb, _, _, _, hu, hb, hf, hq => katLex_alike [] ys i us vs as bs ra rb (by cases ys <;> rfl) hu hb hf hq
  | x :: xs, [], i, us, vs, as, bs, ra, rb, _, _, _, hu, hb, hf, hq => katLex_alike (x :: xs) [] i us vs as bs ra rb rfl hu hb hf hq
  | x :: xs, y :: ys, i, _, _, _, _, ra, rb, la, lb, h, hu, hb, hf, hq => by
    have la' : x.canLay0 = true ∧ PyData.canLayAll0 xs = true := by simpa [PyData.canLayAll0] using la
    have lb' : y.canLay0 = true ∧ PyData.canLayAll0 ys = true := by simpa [PyData.canLayAll0] using lb
    obtain ⟨h1, h2⟩ := cmp_cons h
    have hf' : fin = decide (xs.length < ys.length) := by
      rw [hf, List.length_cons, List.length_cons]
      exact decide_eq_decide.mpr (by omega)
    cases ra with
    | cons r rs =>
      cases rb with
      | cons r' rs' =>
        rw [List.zip_cons_cons]
        refine kat_cons (eqAt_reads x y A s _ _ _ _ r r' la'.1 lb'.1 (room_head hu) prog w _ _ (kat_go (fun hx => ?_) fun hx => ?_))
        · rw [lt_yes h1 hx] at hq
          exact kat_yes (kat xs ys (i + 1) _ _ _ _ rs rs' la'.2 lb'.2 (h2 hx) (room_tail hu) (fun _ hi => absurd hi (Nat.succ_ne_zero i)) hf' hq)
        · rw [lt_no h1 hx] at hq
          refine kat_no (one (fun hbi t => ?_) r r' la'.1 lb'.1 h1 (not_none h1 hx) (room_head hu) hq)
          rw [Bool.and_eq_true] at hbi
          exact hb hbi.1 (by simpa using hbi.2) x xs t rfl
theorem dk_some {h : Heap} {ds : List PyData} (lay : ∀ d ∈ ds, d.canLay0 = true) {v : Value} {d : PyData} {as : List Addr} (hd : d ∈ ds) (r : Reads h v d as) : (dataKind h ds).keyOf v = some (keyToks d) := by
  cases e : (dataKind h ds).keyOf v with
  | none =>
    exfalso
    have q : ∃ d, d ∈ ds ∧ ∃ as, Reads h v d as := ⟨d, hd, as, r⟩
    have e' : (open Classical in if q : ∃ d, d ∈ ds ∧ ∃ as, Reads h v d as then some (keyToks q.choose) else none) = none := e
    rw [dif_pos q] at e'
    cases e'
  | some k =>
    obtain ⟨d', as', hd', r', rfl⟩ := dataKind_inv e
    rw [← readOf_eq (lay d hd) r, ← readOf_eq (lay d' hd') r']
    rfl
theorem sorts {vs : List Value} {ds : List PyData} {T : Value} (e : EachIs (fun v d => ∃ as, Reads s.heap v d as) vs ds) (lay : ∀ d ∈ ds, d.canLay0 = true) (cmp : ∀ d ∈ ds, ∀ d' ∈ ds, cmpOk d d' = true) (ht : ∀ d ∈ ds, ∃ x r, d = .tuple (x :: r) ∧ dataType x = T)
    (hu : ∀ d ∈ ds, A.units + d.depth < cLine) : SortsAt prog w A s (dataKind s.heap ds) vs := by
  refine ⟨fun v hv => ?_, tuples' (T != Value.type "tuple"), ?_, fun h2 E Q hq => ?_⟩
  · obtain ⟨d, hd, as, r⟩ := e.left v hv
    exact ⟨_, dk_some lay hd r⟩
  · intro E x y a b Q ha hb hq
    obtain ⟨d, as, hd, ra, rfl⟩ := dataKind_inv ha
    obtain ⟨d', as', hd', rb, rfl⟩ := dataKind_inv hb
    have cm := cmp d hd d' hd'
    have ld := lay d hd
    have ld' := lay d' hd'
    have rm : A.units + min d.depth d'.depth < cLine := Nat.lt_of_le_of_lt (Nat.add_le_add_left (Nat.min_le_left _ _) _) (hu d hd)
    obtain ⟨x1, r1, rfl, t1⟩ := ht d hd
    obtain ⟨x2, r2, rfl, t2⟩ := ht d' hd'
    have hq' : Q (dataLt (.tuple (x1 :: r1)) (.tuple (x2 :: r2))) s := hq
    rw [dataLt_tuple] at hq'
    cases ra with
    | @tuple l o xs n _ _ h1 h2 h3 h4 =>
      cases rb with
      | @tuple l' o' xs' n' _ _ k1 k2 k3 k4 =>
        have n1 : xs.size = (x1 :: r1).length := by simpa using SeqAt.ReadsAll.length _ _ _ h4
        have n2 : xs'.size = (x2 :: r2).length := by simpa using SeqAt.ReadsAll.length _ _ _ k4
        refine kat_lt h1 h3 k1 k3 (kat (x1 :: r1) (x2 :: r2) 0 _ _ _ _ h4 k4 (by simpa [PyData.canLay0] using ld) (by simpa [PyData.canLay0] using ld') (by simpa [cmpOk] using cm) (by have q := SeqAt.room_in rm; omega) (fun hb _ x r t ex => ?_) (by rw [n1, n2]) hq')
        obtain ⟨rfl, rfl⟩ := List.cons.inj ex
        rw [← t1] at hb
        exact dataType_tuple hb t
  · obtain ⟨fs, f1, f2, f3⟩ := each_katTups e fun d hd => let ⟨x, r, e, _⟩ := ht d hd; ⟨x, r, e⟩
    refine kat_kind (T := T) f1 (by omega) (fun f hf => ?_) (beq_self_eq_true _) hq
    obtain ⟨x, r, as, m1, m2⟩ := f3 f hf
    obtain ⟨x', r', ex, tx⟩ := ht _ m1
    obtain ⟨rfl, rfl⟩ := List.cons.inj (PyData.tuple.inj ex)
    rw [← tx]
    exact looks_reads m2
/-- sorted(..) of a list or a tuple, by the way its items are sorted -/
theorem sorted_seq {κ : Heap → PyProof.Rows.KeyKind} {x : Addr} {T : String} {o : Obj} {items : Array Value} {n : Nat} {Q : Value → Shared → Prop} (hT : T = "list" ∨ T = "tuple") (ho : s.heap.get? x = some o) (hc : o.cls = .type T) (hd : o.data = .seq items n) (hL : items.size ≤ sizeLine)
    (S : ∀ h', (∀ b ob, s.heap.get? b = some ob → h'.get? b = some ob) → SortsAt prog w A.in1.in1 { s with heap := h' } (κ h') items.toList)
    (hQ : ∀ (h1 h' h2 : Heap) (ep : Nat), (∀ b ob, s.heap.get? b = some ob → h2.get? b = some ob) → (∀ b ob, s.heap.get? b = some ob → h1.get? b = some ob) → (∀ b ob, h1.get? b = some ob → h'.get? b = some ob) → h'.get? h1.objs.size = some (seqObj "list" (sortVals (κ h2) false items.toList items.toList).toArray ep) → Q (.ref h1.objs.size) { s with heap := h' }) :
    wpAny (model prog w) A (call (.builtin "sorted") [.ref x]) Q E s := by
  refine Calls.call_function_entry kind_sorted plain_sorted entry_sorted (args_sorted1 _) ?_
  unfold Builtin.«sorted»
  refine wpAny_bind (m := checkCount "sorted" 1 1 _) (wpAny_pure (wpAny_bind (wpAny_collect_seq x hT ho hc hd (fun h1 k1 => ?_) hL)))
  have oL : (h1.push (seqObj "list" items.toList.toArray 0)).get? h1.objs.size = some (seqObj "list" items.toList.toArray 0) := Heap.get?_push_size _ rfl
  have lL : items.toList.length ≤ sizeLine := by rw [Array.length_toList]; exact hL
  have k2 : ∀ b ob, h1.get? b = some ob → (sortingHeap (h1.push (seqObj "list" items.toList.toArray 0)) h1.objs.size items.toList).get? b = some ob := fun b ob e =>
    sortingHeap_old (Nat.ne_of_lt (Heap.lt_size e)) (Heap.get?_push_of_some _ e)
  refine wpAny_bind (wpAny_newList (wpAny_bind (wpAny_holding (wpAny_call_entry slot_list_sort ⟨_, oL, rfl⟩ entry_list_sort (list_sort_vals oL (S _ fun b ob e => k2 b ob (k1 b ob e)) lL ⟨_, rfl, ?_⟩) (args_list_sort _)))))
  obtain ⟨ep, he⟩ := sortedHeap_at (out := (sortVals (κ (sortingHeap (h1.push (seqObj "list" items.toList.toArray 0)) h1.objs.size items.toList)) false items.toList items.toList).toArray) oL
  refine wpAny_pure ⟨_, rfl, hQ h1 _ _ ep (fun b ob e => k2 b ob (k1 b ob e)) k1 (fun b ob e => ?_) he⟩
  have lt := Heap.lt_size e
  rw [sortedHeap_old (Nat.ne_of_lt lt) (by rw [Heap.size_push]; exact Nat.lt_succ_of_lt lt)]
  exact Heap.get?_push_of_some _ e
end
end Cs
/-! ### entries that are entries -/
abbrev TB2 (T1 T2 : Addr) (H H' : Hp) : Prop := (∀ b o, H b = some o → b ≠ T1 → b ≠ T2 → H' b = some o) ∧ GxR.TabG H' T1 ∧ GxR.TabG H' T2
theorem TB2.tr {T1 T2 : Addr} {H H1 H2 : Hp} (a : TB2 T1 T2 H H1) (b : TB2 T1 T2 H1 H2) : TB2 T1 T2 H H2 := ⟨fun c o e n1 n2 => b.1 c o (a.1 c o e n1 n2) n1 n2, b.2⟩
theorem tabg_same {H H' : Hp} {T : Addr} (b : Same H H') (t : GxR.TabG H T) : GxR.TabG H' T := by
  obtain ⟨ps, e, ok⟩ := t
  exact ⟨ps, b T _ e, ok⟩
theorem TB2.same {T1 T2 : Addr} {H H' : Hp} (t1 : GxR.TabG H T1) (t2 : GxR.TabG H T2) (h : Same H H') : TB2 T1 T2 H H' := ⟨fun b o e _ _ => h b o e, tabg_same h t1, tabg_same h t2⟩
theorem TB2.one {T1 T2 : Addr} {H H' : Hp} (ne : T1 ≠ T2) (t2 : GxR.TabG H T2) (h : GxR.Tabbed T1 H H') : TB2 T1 T2 H H' := by
  obtain ⟨ps, e, ok⟩ := t2
  exact ⟨fun b o e n1 _ => (h.2 b n1).trans e, h.1, ps, (h.2 T2 ne.symm).trans e, ok⟩
theorem TB2.two {T1 T2 : Addr} {H H' : Hp} (ne : T1 ≠ T2) (t1 : GxR.TabG H T1) (h : GxR.Tabbed T2 H H') : TB2 T1 T2 H H' := by
  obtain ⟨ps, e, ok⟩ := t1
  exact ⟨fun b o e _ n2 => (h.2 b n2).trans e, ⟨ps, (h.2 T1 ne).trans e, ok⟩, h.1⟩
/-- what is no table stays -/
theorem TB2.keep {T1 T2 : Addr} {H H' : Hp} (h : TB2 T1 T2 H H') (t1 : GxR.TabG H T1) (t2 : GxR.TabG H T2) {a : Addr} {o : HO} (e : H a = some o) (n : ∀ ps, o ≠ .tbl ps) : H' a = some o := by
  obtain ⟨p1, e1, _⟩ := t1
  obtain ⟨p2, e2, _⟩ := t2
  exact h.1 a o e (ne_of e e1 (n p1)) (ne_of e e2 (n p2))
def nmV : V → Bool
  | .str z => nameB z
  | _ => false
def bnd (x : Str) : Int × Int := if x = "moment" then (0, 9999) else if x = "many" then (1, 1000000000) else (0, 1000000000)
def inB (x : Str) : V → Bool
  | .int i => decide ((bnd x).1 ≤ i) && decide (i ≤ (bnd x).2)
  | _ => false
def fitB (v : V) (x : Str) : Bool := if x = "name" then nmV v else if x = "end" then (decide (v = .str "") || nmV v) else inB x v
def Part (v : V) : Prop := (∃ z : Str, v = .str z ∧ z.length ≤ 1000) ∨ ∃ i, v = .int i
def sorts4 : List Str := ["moment", "many", "counted", "price"]
def sorts6 : List Str := ["name", "end", "moment", "many", "counted", "price"]
def spWhole : Sp := fun vs H Q _ => ∃ v : V, vs = [v] ∧ Part v ∧ Q (.bl (match v with | .int _ => true | _ => false)) H
def spFits (T1 : Addr) : Sp := fun vs H Q _ => ∃ (v : V) (x : Str), vs = [v, .str x] ∧ Part v ∧ x ∈ sorts6 ∧ GxR.TabG H T1 ∧ ∀ H', GxR.Tabbed T1 H H' → Q (.bl (fitB v x)) H'
namespace Ent
def sorts : Ent → List Str
  | come .. => ["name", "moment", "name", "name", "many", "price"]
  | go .. => ["name", "moment", "name", "name", "many"]
  | move .. => ["name", "moment", "name", "name", "name", "many"]
  | some_ .. => ["name", "moment", "name", "name", "end"]
  | swap .. => ["name", "moment", "name", "name"]
  | count .. => ["name", "moment", "name", "name", "counted", "name"]
  | look .. => ["name", "moment", "name", "name"]
def parts (e : Ent) : List V := .str e.name :: .int e.moment :: e.rest
def places : Ent → List Str
  | come _ _ _ p _ _ => [p]
  | go _ _ _ p _ => [p]
  | move _ _ _ o t _ => [o, t]
  | some_ _ _ _ o t => if t = "" then [o] else [o, t]
  | swap _ _ o t => [o, t]
  | count _ _ _ p _ _ => [p]
  | look _ _ _ p => [p]
def goodV : Ent → V
  | come _ _ g _ _ _ => .str g
  | go _ _ g _ _ => .str g
  | move _ _ g _ _ _ => .str g
  | some_ _ _ g _ _ => .str g
  | swap _ _ _ _ => .non
  | count _ _ g _ _ _ => .str g
  | look _ _ g _ => .str g
structure Fine (e : Ent) : Prop where
  fit : ∀ (i : Nat) (v : V) (x : Str), e.parts[i]? = some v → e.sorts[i]? = some x → Part v ∧ fitB v x = true
  apart : e.places.Nodup
theorem len_parts (e : Ent) : e.parts.length = e.sorts.length := by cases e <;> rfl
theorem sorts_in (e : Ent) : ∀ x ∈ e.sorts, x ∈ sorts6 := by
  cases e <;> (intro x hx; simp only [sorts, sorts6, List.mem_cons, List.not_mem_nil, or_false] at hx ⊢; rcases hx with rfl | rfl | rfl | rfl | rfl | rfl <;> simp) 
end Ent
def spPlaces : Sp := fun vs H Q _ => ∃ (a : Addr) (e : Ent), vs = [.ref a] ∧ H a = some (.tup e.vals) ∧ ∀ (tp : Addr) (H' : Hp), Same H H' → H' tp = some (.tup (e.places.map V.str)) → Q (.ref tp) H'
def spGood : Sp := fun vs H Q _ => ∃ (a : Addr) (e : Ent), vs = [.ref a] ∧ H a = some (.tup e.vals) ∧ Q e.goodV H
def spDay : Sp := fun vs H Q _ => ∃ m : Int, vs = [.int m] ∧ Q (.int (m / 100)) H
def spIsEntry (T1 T2 : Addr) : Sp := fun vs H Q _ => ∃ (a : Addr) (e : Ent), vs = [.ref a] ∧ H a = some (.tup e.vals) ∧ e.Fine ∧ GxR.TabG H T1 ∧ GxR.TabG H T2 ∧ ∀ H', TB2 T1 T2 H H' → Q (.bl true) H'
section
variable {P : Program} {w : World} {K : PySem.W.Frag} {mg : Str → Option Value} {base : Heap}
theorem scWhole : FnScope ["thing"] ["thing"] (defScope sWhole) := ⟨rfl, rfl, rfl, by decide +kernel, rfl, by decide +kernel, by decide +kernel⟩
theorem scFits : FnScope ["part", "sort", "low", "high"] ["part", "sort"] (defScope sFits) := ⟨rfl, rfl, rfl, by decide +kernel, rfl, by decide +kernel, by decide +kernel⟩
theorem scDay : FnScope ["moment"] ["moment"] (defScope sDay) := ⟨rfl, rfl, rfl, by decide +kernel, rfl, by decide +kernel, by decide +kernel⟩
theorem scGood : FnScope ["entry"] ["entry"] (defScope sGood) := ⟨rfl, rfl, rfl, by decide +kernel, rfl, by decide +kernel, by decide +kernel⟩
theorem scPlacesOf : FnScope ["entry", "word"] ["entry"] (defScope sPlacesOf) := ⟨rfl, rfl, rfl, by decide +kernel, rfl, by decide +kernel, by decide +kernel⟩
theorem at0 (e : Ent) : atI e.vals 0 = some (.str e.word) := atI_nat (j := 0) rfl
theorem at2 (e : Ent) : atI e.vals 2 = some (.int e.moment) := atI_nat (j := 2) rfl
theorem ok_whole {f : Addr} {fd : FuncData} (F : Fun K "is_whole" "is_whole" sWhole f fd) (mi : mg "isinstance" = none) (m1 : mg "int" = none) (m2 : mg "bool" = none) : FnOk P w K mg base CX0 1 f fd ["thing"] spWhole := by
  refine F.ok scWhole (fun vs H Q E h => ?_) (fun cdv A outer s H vs Q E hr h => ?_)
  · obtain ⟨v, rfl, _⟩ := h
    rfl
  · obtain ⟨v, rfl, pt, q⟩ := h
    refine ⟨_, pss_one (ps_ret (pe_and (pe_callB call_isi (by rfl) mi (by decide +kernel) (pa_cons (pv 0) (pa_cons (pe_bltn (v := .ty "int") (u := .type "int") (by rfl) m1 (by decide +kernel) rfl) pa_nil)))
      (pe_one (pe_not (pe_callB call_isi (by rfl) mi (by decide +kernel) (pa_cons (pv 0) (pa_cons (pe_bltn (v := .ty "bool") (u := .type "bool") (by rfl) m2 (by decide +kernel) rfl) pa_nil))))))), ?_⟩
    rcases pt with ⟨z, rfl, _⟩ | ⟨i, rfl⟩
    · exact ⟨_, rfl, _, _, _, _, false, rfl, .ty "int", .base (.str z), kit_ty (by decide +kernel), _, rfl, iteF q⟩
    · exact ⟨_, rfl, _, _, _, _, true, rfl, .ty "int", .base (.int i), kit_ty (by decide +kernel), _, rfl, iteT ⟨_, rfl, _, _, _, _, false, rfl, .ty "bool", .base (.int i), kit_ty (by decide +kernel), _, rfl, q⟩⟩
theorem ok_day {f : Addr} {fd : FuncData} (F : Fun K "day_of" "day_of" sDay f fd) (mM : ∃ t, mg "MOMENTS_IN_A_DAY" = some (.int 100 t)) : FnOk P w K mg base CX0 1 f fd ["moment"] spDay := by
  refine F.ok scDay (fun vs H Q E h => ?_) (fun cdv A outer s H vs Q E hr h => ?_)
  · obtain ⟨m, rfl, _⟩ := h
    rfl
  · obtain ⟨m, rfl, q⟩ := h
    obtain ⟨t, mM⟩ := mM
    refine ⟨_, pss_one (ps_ret (pe_op op_fdiv (pv 0) (pe_glob (v := .int 100) rfl mM ⟨_, rfl⟩))), ?_⟩
    exact ⟨_, rfl, m, 100, rfl, rfl, ⟨by decide, by decide⟩, q⟩
theorem at3 {e : Ent} (h : e.goodV ≠ .non) : atI e.vals 3 = some e.goodV := by
  cases e <;> first | exact atI_nat (j := 3) rfl | exact absurd rfl h
theorem sw_word (e : Ent) : e.word = "swap" ↔ e.goodV = .non := by
  have k1 : ("come" : Str) ≠ "swap" := by decide +kernel
  have k2 : ("go" : Str) ≠ "swap" := by decide +kernel
  have k3 : ("move" : Str) ≠ "swap" := by decide +kernel
  have k4 : ("some" : Str) ≠ "swap" := by decide +kernel
  have k6 : ("count" : Str) ≠ "swap" := by decide +kernel
  have k7 : ("look" : Str) ≠ "swap" := by decide +kernel
  cases e
  · exact ⟨fun h => absurd h k1, fun h => nomatch h⟩
  · exact ⟨fun h => absurd h k2, fun h => nomatch h⟩
  · exact ⟨fun h => absurd h k3, fun h => nomatch h⟩
  · exact ⟨fun h => absurd h k4, fun h => nomatch h⟩
  · exact ⟨fun _ => rfl, fun _ => rfl⟩
  · exact ⟨fun h => absurd h k6, fun h => nomatch h⟩
  · exact ⟨fun h => absurd h k7, fun h => nomatch h⟩
theorem ok_good {f : Addr} {fd : FuncData} (F : Fun K "good_of" "good_of" sGood f fd) : FnOk P w K mg base CX0 1 f fd ["entry"] spGood := by
  refine F.ok scGood (fun vs H Q E h => ?_) (fun cdv A outer s H vs Q E hr h => ?_)
  · obtain ⟨a, e, rfl, _⟩ := h
    rfl
  · obtain ⟨a, e, rfl, ha, q⟩ := h
    refine ⟨_, pss_cons (ps_if (pt_cmpR op_eq (pe_ix ix_tup (pv 0) pe_int (fun _ _ => rfl)) pe_str (nomark _)) (pss_one (ps_ret pe_non)) pss_nil) (pss_one (ps_ret (pe_ix ix_tup (pv 0) pe_int (fun _ _ => rfl)))), ?_⟩
    refine ⟨_, rfl, a, _, 0, _, rfl, rfl, SqT.of ha, at0 e, rfl, _, rfl, ite2 (fun z => ?_) (fun z => ?_)⟩
    · have z' : e.word = "swap" := V.str.inj (of_decide_eq_true z)
      rw [(sw_word e).mp z'] at q
      exact q
    · have z' : e.goodV ≠ .non := fun h => z (decide_eq_true (congrArg V.str ((sw_word e).mpr h)))
      exact ⟨_, rfl, a, _, 3, _, rfl, rfl, SqT.of ha, at3 z', q⟩
theorem ok_fits {f fN fW aB T1 : Addr} {fd dN dW : FuncData} (F : Fun K "fits" "fits" sFits f fd) (N : DefT P w K mg base "is_name" 1 fN dN ["thing"] (spName K T1)) (W : DefT P w K mg base "is_whole" 1 fW dW ["thing"] spWhole)
    (mB : mg "BOUNDS" = some (.ref aB)) (hB : ∀ x ∈ sorts4, ∃ aT, KDct K w aB x (.ref aT) ∧ ∀ H, SqT K H aT [.int (bnd x).1, .int (bnd x).2]) : FnOk P w K mg base CX0 2 f fd ["part", "sort"] (spFits T1) := by
  refine F.ok scFits (fun vs H Q E h => ?_) (fun cdv A outer s H vs Q E hr h => ?_)
  · obtain ⟨v, x, rfl, _⟩ := h
    rfl
  · obtain ⟨v, x, rfl, pt, hx, tg, q⟩ := h
    have nd := scFits.nd
    refine ⟨_, pss_cons (ps_if (pt_cmpR op_eq (pv 1) pe_str (nomark _)) (pss_one (ps_ret (pe_call N.ok hr (by rfl) N.g N.kp N.b .nil pass0 (pa_cons (pv 0) pa_nil)))) pss_nil)
      (pss_cons (ps_if (pt_cmpR op_eq (pv 1) pe_str (nomark _)) (pss_one (ps_ret (pe_or (pe_cmpR op_eq (pv 0) pe_str (nomark _)) (pe_one (pe_call N.ok hr (by rfl) N.g N.kp N.b .nil pass0 (pa_cons (pv 0) pa_nil)))))) pss_nil)
      (pss_cons (ps_asg (pe_ix ix_kdict (pe_glob (v := .ref aB) rfl mB rfl) (pv 1) (fun _ _ => rfl)) (pg_tup (by rfl) (pgs_cons (pg_name (i := 2) nd rfl (Or.inl rfl)) (pgs_cons (pg_name (i := 3) nd rfl (Or.inl rfl)) pgs_nil))))
      (pss_one (ps_ret (pe_and (pe_call W.ok hr (by rfl) W.g W.kp W.b .nil pass0 (pa_cons (pv 0) pa_nil)) (pe_one (pe_chain op_le op_le (pv 2) (pv 0) (pv 3)))))))), ?_⟩
    have same0 : GxR.Tabbed T1 H H := ⟨tg, fun _ _ => rfl⟩
    -- is_name of the part
    have nm : ∀ (Q1 : VK), (∀ H2, GxR.Tabbed T1 H H2 → Q1 (.bl (nmV v)) H2) → spName K T1 ([v] ++ []) H Q1 E0 := fun Q1 h1 => by
      rcases pt with ⟨z, rfl, lz⟩ | ⟨i, rfl⟩
      · exact ⟨_, rfl, tg, .inl ⟨z, rfl, small_sz lz, h1⟩⟩
      · exact ⟨_, rfl, tg, .inr ⟨"int", .base (.int i), by decide +kernel, h1 H same0⟩⟩
    refine ⟨_, rfl, rfl, _, rfl, ite2 (fun e => ?_) (fun e => ?_)⟩
    · have e' : x = "name" := V.str.inj (of_decide_eq_true e)
      refine ⟨_, rfl, nm _ fun H2 tb => ?_⟩
      have z := q H2 tb
      unfold fitB at z
      rw [if_pos e'] at z
      exact z
    · have e1 : ¬ x = "name" := fun h => e (decide_eq_true (congrArg V.str h))
      refine ⟨_, rfl, rfl, _, rfl, ite2 (fun e => ?_) (fun e => ?_)⟩
      · have e' : x = "end" := V.str.inj (of_decide_eq_true e)
        have fe : fitB v x = (decide (v = .str "") || nmV v) := by
          unfold fitB
          rw [if_neg e1, if_pos e']
        have fl : scal v (V.str "") = true := by
          rcases pt with ⟨z, rfl, _⟩ | ⟨i, rfl⟩ <;> rfl
        rw [fe] at q
        refine ⟨_, rfl, fl, decide (v = .str ""), rfl, ?_⟩
        cases hd : decide (v = V.str "") with
        | true =>
          rw [hd] at q
          exact iteT (q H same0)
        | false =>
          rw [hd] at q
          exact iteF ⟨_, rfl, nm _ fun H2 tb => q H2 tb⟩
      · have e2 : ¬ x = "end" := fun h => e (decide_eq_true (congrArg V.str h))
        have x4 : x ∈ sorts4 := by
          simp only [sorts6, sorts4, List.mem_cons, List.not_mem_nil, or_false] at hx ⊢
          rcases hx with h | h | h | h | h | h
          · exact absurd h e1
          · exact absurd h e2
          · exact .inl h
          · exact .inr (.inl h)
          · exact .inr (.inr (.inl h))
          · exact .inr (.inr (.inr h))
        obtain ⟨aT, kd, sq⟩ := hB x x4
        have fe : fitB v x = inB x v := by
          unfold fitB
          rw [if_neg e1, if_neg e2]
        rw [fe] at q
        have q0 := q H same0
        refine ⟨_, rfl, aB, x, _, rfl, rfl, kd, aT, _, rfl, sq H, rfl, _, _, rfl, _, _, rfl, rfl, _, rfl, v, rfl, pt, ?_⟩
        rcases pt with ⟨z, rfl, lz⟩ | ⟨i, rfl⟩
        · exact ⟨_, rfl, iteF q0⟩
        · refine ⟨_, rfl, iteT ⟨_, rfl, _, rfl, (bnd x).1, i, rfl, rfl, _, rfl, ite2 (fun a1 => ?_) (fun a1 => ?_)⟩⟩
          · refine ⟨_, rfl, i, (bnd x).2, rfl, rfl, ?_⟩
            have z : inB x (.int i) = decide (i ≤ (bnd x).2) := by
              show (decide ((bnd x).1 ≤ i) && decide (i ≤ (bnd x).2)) = _
              rw [a1, Bool.true_and]
            rw [z] at q0
            exact q0
          · have z : inB x (.int i) = false := by
              show (decide ((bnd x).1 ≤ i) && decide (i ≤ (bnd x).2)) = _
              rw [Bool.eq_false_iff.mpr a1, Bool.false_and]
            rw [z] at q0
            exact q0
end
/-! ### places_of, is_entry -/
theorem cut_mid {xs : List V} {i j : Nat} (h : j ≤ xs.length) (hi : i ≤ j) : cutV xs (some (i : Int)) (some (j : Int)) = (xs.drop i).take (j - i) := by
  unfold cutV
  rw [HT.sIx_nat, HT.sIx_nat, Nat.min_eq_left h, Nat.min_eq_left (Nat.le_trans hi h)]
theorem no_whole {n i j : Nat} (h : i ≤ n) (hi : 0 < i) : ¬ (HT.sIx n 0 (some (i : Int)) = 0 ∧ HT.sIx n n (some (j : Int)) = n) := by
  rw [HT.sIx_nat, Nat.min_eq_left h]
  omega
section
variable {P : Program} {w : World} {K : PySem.W.Frag} {mg : Str → Option Value} {base : Heap}
theorem bl_of {a b : Str} {k : Bool} (h : decide (V.str a = V.str b) = k) : V.bl (decide (V.str a = V.str b)) = V.bl k := congrArg V.bl h
theorem ok_placesOf {f : Addr} {fd : FuncData} (F : Fun K "places_of" "places_of" sPlacesOf f fd) : FnOk P w K mg base CX0 1 f fd ["entry"] spPlaces := by
  refine F.ok scPlacesOf (fun vs H Q E h => ?_) (fun cdv A outer s H vs Q E hr h => ?_)
  · obtain ⟨a, e, rfl, _⟩ := h
    rfl
  · obtain ⟨a, e, rfl, ha, q⟩ := h
    have nd := scPlacesOf.nd
    refine ⟨_, pss_cons (ps_set (i := 1) nd rfl (Or.inl rfl) (pe_ix ix_tup (pv 0) pe_int (fun _ _ => rfl)))
      (pss_cons (ps_if (pt_cmpR op_eq (pv 1) pe_str (nomark _)) (pss_one (ps_ret (pe_slice sl_tup (pv 0) (po_some pe_int) (po_some pe_int)))) pss_nil)
      (pss_cons (ps_if (PW.pt (pw_or (pt_cmpR op_eq (pv 1) pe_str (nomark _)) (pw_or1 (PW.pt (pw_and (pt_cmpR op_eq (pv 1) pe_str (nomark _)) (pw_and1 (pt_cmpR op_ne (pe_ix ix_tup (pv 0) pe_int (fun _ _ => rfl)) pe_str (nomark _)))))))) (pss_one (ps_ret (pe_slice sl_tup (pv 0) (po_some pe_int) (po_some pe_int)))) pss_nil)
      (pss_one (ps_ret (pe_slice sl_tup (pv 0) (po_some pe_int) (po_some pe_int)))))), ?_⟩
    refine ⟨_, rfl, a, _, 0, _, rfl, rfl, SqT.of ha, at0 e, ?_⟩
    have c1 : decide (V.str "come" = V.str "swap") = false := by decide +kernel
    have c2 : decide (V.str "go" = V.str "swap") = false := by decide +kernel
    have c3 : decide (V.str "move" = V.str "swap") = false := by decide +kernel
    have c4 : decide (V.str "some" = V.str "swap") = false := by decide +kernel
    have c6 : decide (V.str "count" = V.str "swap") = false := by decide +kernel
    have c7 : decide (V.str "look" = V.str "swap") = false := by decide +kernel
    have m1 : decide (V.str "come" = V.str "move") = false := by decide +kernel
    have m2 : decide (V.str "go" = V.str "move") = false := by decide +kernel
    have m4 : decide (V.str "some" = V.str "move") = false := by decide +kernel
    have m6 : decide (V.str "count" = V.str "move") = false := by decide +kernel
    have m7 : decide (V.str "look" = V.str "move") = false := by decide +kernel
    have s1 : decide (V.str "come" = V.str "some") = false := by decide +kernel
    have s2 : decide (V.str "go" = V.str "some") = false := by decide +kernel
    have s6 : decide (V.str "count" = V.str "some") = false := by decide +kernel
    have s7 : decide (V.str "look" = V.str "some") = false := by decide +kernel
    cases e with
    | come nme mo g pl many price =>
      refine ⟨_, rfl, rfl, false, bl_of c1, iteF ⟨_, rfl, rfl, false, bl_of m1, iteF ⟨_, rfl, rfl, false, bl_of s1, iteF ?_⟩⟩⟩
      exact ⟨_, rfl, 4, rfl, 5, rfl, a, _, rfl, SqT.of ha, no_whole (i := 4) (j := 5) (by show 4 ≤ 7; decide) (by decide), fun p np => q p _ (same_new np) (by rw [upd_same]; rfl)⟩
    | go nme mo g pl many =>
      refine ⟨_, rfl, rfl, false, bl_of c2, iteF ⟨_, rfl, rfl, false, bl_of m2, iteF ⟨_, rfl, rfl, false, bl_of s2, iteF ?_⟩⟩⟩
      exact ⟨_, rfl, 4, rfl, 5, rfl, a, _, rfl, SqT.of ha, no_whole (i := 4) (j := 5) (by show 4 ≤ 6; decide) (by decide), fun p np => q p _ (same_new np) (by rw [upd_same]; rfl)⟩
    | move nme mo g one other many =>
      refine ⟨_, rfl, rfl, false, bl_of c3, iteF ⟨_, rfl, rfl, true, bl_of (decide_eq_true rfl), iteT ?_⟩⟩
      exact ⟨_, rfl, 4, rfl, 6, rfl, a, _, rfl, SqT.of ha, no_whole (i := 4) (j := 6) (by show 4 ≤ 7; decide) (by decide), fun p np => q p _ (same_new np) (by rw [upd_same]; rfl)⟩
    | some_ nme mo g one other =>
      refine ⟨_, rfl, rfl, false, bl_of c4, iteF ⟨_, rfl, rfl, false, bl_of m4, iteF ⟨_, rfl, rfl, true, bl_of (decide_eq_true rfl), iteT ?_⟩⟩⟩
      refine ⟨_, rfl, a, _, 5, .str other, rfl, rfl, SqT.of ha, atI_nat (j := 5) rfl, rfl, !decide (V.str other = V.str ""), rfl, ?_⟩
      by_cases z : other = ""
      · rw [decide_eq_true (congrArg V.str z)]
        refine iteF ⟨_, rfl, 4, rfl, 5, rfl, a, _, rfl, SqT.of ha, no_whole (i := 4) (j := 5) (by show 4 ≤ 6; decide) (by decide), fun p np => q p _ (same_new np) ?_⟩
        rw [upd_same]
        show some (HO.tup [V.str one]) = some (HO.tup ((if other = "" then [one] else [one, other]).map V.str))
        rw [if_pos z]
        rfl
      · rw [decide_eq_false fun h => z (V.str.inj h)]
        refine iteT ⟨_, rfl, 4, rfl, 6, rfl, a, _, rfl, SqT.of ha, no_whole (i := 4) (j := 6) (by show 4 ≤ 6; decide) (by decide), fun p np => q p _ (same_new np) ?_⟩
        rw [upd_same]
        show some (HO.tup [V.str one, V.str other]) = some (HO.tup ((if other = "" then [one] else [one, other]).map V.str))
        rw [if_neg z]
        rfl
    | swap nme mo one other =>
      refine ⟨_, rfl, rfl, true, bl_of (decide_eq_true rfl), iteT ?_⟩
      exact ⟨_, rfl, 3, rfl, 5, rfl, a, _, rfl, SqT.of ha, no_whole (i := 3) (j := 5) (by show 3 ≤ 5; decide) (by decide), fun p np => q p _ (same_new np) (by rw [upd_same]; rfl)⟩
    | count nme mo g pl many hand =>
      refine ⟨_, rfl, rfl, false, bl_of c6, iteF ⟨_, rfl, rfl, false, bl_of m6, iteF ⟨_, rfl, rfl, false, bl_of s6, iteF ?_⟩⟩⟩
      exact ⟨_, rfl, 4, rfl, 5, rfl, a, _, rfl, SqT.of ha, no_whole (i := 4) (j := 5) (by show 4 ≤ 7; decide) (by decide), fun p np => q p _ (same_new np) (by rw [upd_same]; rfl)⟩
    | look nme mo g pl =>
      refine ⟨_, rfl, rfl, false, bl_of c7, iteF ⟨_, rfl, rfl, false, bl_of m7, iteF ⟨_, rfl, rfl, false, bl_of s7, iteF ?_⟩⟩⟩
      exact ⟨_, rfl, 4, rfl, 5, rfl, a, _, rfl, SqT.of ha, no_whole (i := 4) (j := 5) (by show 4 ≤ 5; decide) (by decide), fun p np => q p _ (same_new np) (by rw [upd_same]; rfl)⟩
theorem once_nodup : ∀ {xs : List Str}, xs.Nodup → once xs = xs := by
  intro xs
  have key : ∀ (l acc : List Str), (acc ++ l).Nodup → l.foldl (fun acc x => if acc.contains x = true then acc else acc ++ [x]) acc = acc ++ l := by
    intro l
    induction l with
    | nil => intro acc _; rw [List.append_nil]; rfl
    | cons x r ih =>
      intro acc h
      have nx : ¬ acc.contains x = true := fun z => by
        have hx : x ∈ acc := by simpa using z
        rw [List.nodup_append] at h
        exact h.2.2 x hx x List.mem_cons_self rfl
      rw [List.foldl_cons, if_neg nx]
      have e : acc ++ x :: r = (acc ++ [x]) ++ r := by rw [List.append_assoc]; rfl
      rw [e] at h ⊢
      exact ih _ h
  intro h
  exact key xs [] h
abbrev isN : List Str := ["thing", "sorts", "places", "part", "sort"]
theorem scIs : FnScope isN ["thing"] (defScope sIsEntry) := ⟨rfl, rfl, rfl, by decide +kernel, rfl, by decide +kernel, by decide +kernel⟩
theorem vals_cut (e : Ent) : cutV e.vals (some 1) none = e.parts := by
  have h : cutV e.vals (some ((1 : Nat) : Int)) none = e.parts := by
    unfold cutV
    rw [HT.sIx_nat, HT.sIx_none]
    have l : 1 ≤ e.vals.length := by show 1 ≤ _ + 1; omega
    rw [Nat.min_eq_left l]
    show (e.parts).take (e.parts.length + 1 - 1) = e.parts
    rw [Nat.add_sub_cancel]
    exact List.take_length
  exact h
theorem places_le (e : Ent) : e.places.length ≤ 2 := by
  cases e with
  | some_ n m g o t =>
    by_cases z : t = ""
    · rw [show Ent.places (.some_ n m g o t) = [o] from if_pos z]
      exact Nat.le_succ 1
    · rw [show Ent.places (.some_ n m g o t) = [o, t] from if_neg z]
      exact Nat.le_refl 2
  | move _ _ _ _ _ _ => exact Nat.le_refl 2
  | swap _ _ _ _ => exact Nat.le_refl 2
  | come _ _ _ _ _ _ => exact Nat.le_succ 1
  | go _ _ _ _ _ => exact Nat.le_succ 1
  | count _ _ _ _ _ _ => exact Nat.le_succ 1
  | look _ _ _ _ => exact Nat.le_succ 1
theorem ok_isEntry {f cE T1 T2 aF fF fP : Addr} {dF dP : FuncData} {oc kV doc pm ct : Value} {od an : Option Addr} {osl : Array (Option Value)} {es : Array DictEntry} {nE : Nat}
    (lk : K.lookup f = some ⟨oc, od, .func (PySem.W.fnOf "is_entry" "is_entry" (defArgs sIsEntry) (defBody sIsEntry) (defScope sIsEntry) .none kV doc pm an (.ref cE) ct), osl⟩) (cdI : PySem.W.codeIn K (.ref cE) "is_entry" = true)
    (TB : GxR.TabB base mg cE T2) (ne : T1 ≠ T2) (FI : DefT P w K mg base "fits" 2 fF dF ["part", "sort"] (spFits T1)) (PO : DefT P w K mg base "places_of" 1 fP dP ["entry"] spPlaces)
    (mi : mg "isinstance" = none) (mt : mg "tuple" = none) (ml : mg "len" = none) (mst : mg "str" = none) (ma : mg "all" = none) (mz : mg "zip" = none) (ms : mg "set" = none) (mF : mg "FORMS" = some (.ref aF)) (D : KDict K w aF es nE)
    (hF : ∀ e : Ent, ∃ aS, KDct K w aF e.word (.ref aS) ∧ ∀ H, SqT K H aS (e.sorts.map V.str)) :
    FnOk P w K mg base CX0 4 f (PySem.W.fnOf "is_entry" "is_entry" (defArgs sIsEntry) (defBody sIsEntry) (defScope sIsEntry) .none kV doc pm an (.ref cE) ct) ["thing"] (spIsEntry T1 T2) := by
  refine fn_of lk cdI scIs (fun vs H Q E h => ?_) (fun A outer s H vs Q E hr h => ?_)
  · obtain ⟨a, e, rfl, _⟩ := h
    rfl
  · obtain ⟨a, e, rfl, ha, fine, t1, t2, q⟩ := h
    have nd := scIs.nd
    have hr1 : Room 1 _ := hr.mono (by decide)
    refine ⟨_, pss_cons (ps_if (PW.pt (pw_or (pt_not (pt_val (pe_callB call_isi (by rfl) mi (by decide +kernel) (pa_cons (pv 0) (pa_cons (pe_bltn (v := .ty "tuple") (u := .type "tuple") (by rfl) mt (by decide +kernel) rfl) pa_nil)))))
          (pw_or1 (pt_cmpR op_eq (pe_callB call_len_seq (by rfl) ml PySem.boot_len (pa_cons (pv 0) pa_nil)) pe_int (nomark _))))) (pss_one (ps_ret pe_bl)) pss_nil)
      (pss_cons (ps_if (PW.pt (pw_or (pt_not (pt_val (pe_callB call_isi (by rfl) mi (by decide +kernel) (pa_cons (pe_ix ix_tup (pv 0) pe_int (fun _ _ => rfl)) (pa_cons (pe_bltn (v := .ty "str") (u := .type "str") (by rfl) mst (by decide +kernel) rfl) pa_nil)))))
          (pw_or1 (pt_cmpR (op_notIn_kd D) (pe_ix ix_tup (pv 0) pe_int (fun _ _ => rfl)) (pe_glob (v := .ref aF) rfl mF rfl) (by rfl))))) (pss_one (ps_ret pe_bl)) pss_nil)
      (pss_cons (ps_set (i := 1) nd rfl (Or.inl rfl) (pe_ix ix_kdict (pe_glob (v := .ref aF) rfl mF rfl) (pe_ix ix_tup (pv 0) pe_int (fun _ _ => rfl)) (fun _ _ => rfl)))
      (pss_cons (ps_if (pt_cmpR op_ne (pe_callB call_len_seq (by rfl) ml PySem.boot_len (pa_cons (pv 0) pa_nil)) (pe_op op_add (pe_callB call_len_seq (by rfl) ml PySem.boot_len (pa_cons (pv 1) pa_nil)) pe_int) (nomark _)) (pss_one (ps_ret pe_bl)) pss_nil)
      (pss_cons (ps_if (pt_not (pt_val (pe_allG (T := T2) (c := cE) (k := 2) (own := [("part", 3), ("sort", 4)]) (g := gTup K 2 (gCons (gName 3) (gCons (gName 4) gNil))) (tt := tYes) (te := tCall (spFits T1) [] E0 (tCons (tVar 3) (tCons (tVar 4) tNil)))
          hr (by rfl) ma rfl nd TB rfl ⟨blkOk_by (N := isN) (sc := defScope sIsEntry) (by decide +kernel), rfl, by decide +kernel, rfl⟩
          (RZ.pi_zipA (by rfl) mz (pa_cons (pe_slice sl_tup (pv 0) (po_some pe_int) po_none) (pa_cons (pv 1) pa_nil)))
          (fun _ _ _ _ _ _ => pg_tup (by rfl) (pgs_cons (pg_name (i := 3) nd rfl (Or.inl rfl)) (pgs_cons (pg_name (i := 4) nd rfl (Or.inl rfl)) pgs_nil)))
          (fun _ _ _ _ _ _ _ => pts_nil) (fun _ _ _ _ _ _ hr' => pe_call FI.ok hr' (by rfl) FI.g FI.kp FI.b .nil pass0 (pa_cons (pv 3) (pa_cons (pv 4) pa_nil)))))) (pss_one (ps_ret pe_bl)) pss_nil)
      (pss_cons (ps_set (i := 2) nd rfl (Or.inl rfl) (pe_call PO.ok hr1 (by rfl) PO.g PO.kp PO.b .nil pass0 (pa_cons (pv 0) pa_nil)))
      (pss_one (ps_ret (pe_cmpR op_eq (pe_lenSetX rfl (by rfl) ml (by rfl) ms (pv 2)) (pe_callB call_len_seq (by rfl) ml PySem.boot_len (pa_cons (pv 2) pa_nil)) (nomark _))))))))), ?_⟩
    obtain ⟨aS, kd, sq⟩ := hF e
    -- a tuple, not empty
    refine ⟨_, rfl, _, _, _, _, true, rfl, .ty "tuple", .base (.tup ha), kit_ty (by decide +kernel), _, rfl, iteF ?_⟩
    refine ⟨_, rfl, a, _, rfl, .inr (SqT.of ha), rfl, false, congrArg V.bl (decide_eq_false fun z => ?_), iteF ?_⟩
    · have z' : ((e.vals.length : Nat) : Int) = 0 := V.int.inj z
      have : e.vals.length = e.parts.length + 1 := rfl
      omega
    -- a word of the forms
    refine ⟨_, rfl, a, _, 0, _, rfl, rfl, SqT.of ha, at0 e, _, _, _, _, true, rfl, .ty "str", .base (.str e.word), kit_ty (by decide +kernel), _, rfl, iteF ?_⟩
    obtain ⟨es', n', u, hl, hlit, hns, ru⟩ := id kd
    refine ⟨_, rfl, a, _, 0, _, rfl, rfl, SqT.of ha, at0 e, e.word, some u, rfl, rfl, hns, _, rfl, iteF ?_⟩
    -- the sorts
    refine ⟨_, rfl, a, _, 0, _, rfl, rfl, SqT.of ha, at0 e, aF, e.word, _, rfl, rfl, kd, ?_⟩
    refine ⟨_, rfl, a, _, rfl, .inr (SqT.of ha), _, rfl, aS, _, rfl, .inr (sq H), _, 1, rfl, rfl, rfl, false, ?_, iteF ?_⟩
    · refine congrArg V.bl ?_
      have l1 : (e.vals.length : Int) = ((e.sorts.map V.str).length : Int) + 1 := by
        have : e.vals.length = e.parts.length + 1 := rfl
        rw [this, e.len_parts, List.length_map]
        rfl
      rw [l1, decide_eq_true rfl]
      rfl
    -- all fit
    refine ⟨_, rfl, 1, rfl, a, _, rfl, SqT.of ha, ?_, fun pp npp => ?_⟩
    · rintro ⟨z, _⟩
      rw [show HT.sIx e.vals.length 0 (some 1) = min 1 e.vals.length from HT.sIx_nat _ _ 1] at z
      have : e.vals.length = e.parts.length + 1 := rfl
      omega
    have sp := @same_new _ _ (.tup (cutV e.vals (some 1) none)) npp
    refine ⟨_, rfl, pp, aS, cutV e.vals (some 1) none, e.sorts.map V.str, rfl, .inr ⟨SqT.of upd_same, sq _, tabg_same sp t2, fun H2 tb2 => ?_⟩⟩
    have hpp : (upd H pp (.tup (cutV e.vals (some 1) none))) pp = some (.tup e.parts) := by rw [upd_same, vals_cut]
    have b0 : TB2 T1 T2 H H2 := (TB2.same t1 t2 sp).tr (.two ne (tabg_same sp t1) tb2)
    have b1 : TB2 T1 T2 (upd H pp (.tup (cutV e.vals (some 1) none))) H2 := .two ne (tabg_same sp t1) tb2
    have hp2 : H2 pp = some (.tup e.parts) := b1.keep (tabg_same sp t1) (tabg_same sp t2) hpp (by intro ps z; cases z)
    refine ⟨fun i m H' => m = e.parts.length - i ∧ i ≤ e.parts.length ∧ H' pp = some (.tup e.parts) ∧ TB2 T1 T2 H H', ⟨_, rfl, Nat.zero_le _, hp2, b0⟩, ?_⟩
    rintro i m H3 ⟨rfl, hi, hp3, b3⟩
    by_cases lt : i < e.parts.length
    · refine .inr ⟨⟨e.parts, e.sorts.map V.str, e.parts[i], .str (e.sorts[i]'(by rw [← e.len_parts]; exact lt)), SqT.of hp3, sq _, List.getElem?_eq_getElem lt, ?_⟩, fun v H4 y => ?_⟩
      · rw [List.getElem?_map, List.getElem?_eq_getElem (by rw [← e.len_parts]; exact lt)]
        rfl
      · obtain ⟨TT, x', y', rfl, nT, rfl, f1, f2⟩ := y
        have g1 := f1 e.parts (SqT.of hp3)
        have g2 := f2 (e.sorts.map V.str) (sq _)
        rw [List.getElem?_map] at g2
        obtain ⟨srt, hsrt, rfl⟩ := Option.map_eq_some_iff.mp g2
        obtain ⟨prt, fit⟩ := fine.fit i x' srt g1 hsrt
        have s4 := @same_new _ _ (.tup [x', V.str srt]) nT
        have b4 : TB2 T1 T2 H (upd H3 TT (.tup [x', V.str srt])) := b3.tr (.same b3.2.1 b3.2.2 s4)
        refine ⟨TT, _, rfl, SqT.of upd_same, rfl, _, _, rfl, _, _, rfl, rfl, rfl, yesT ?_⟩
        refine ⟨_, rfl, _, rfl, x', srt, rfl, prt, e.sorts_in srt (List.mem_of_getElem? hsrt), b4.2.1, fun H5 tb5 => ?_⟩
        have b5 : TB2 T1 T2 H H5 := b4.tr (.one ne b4.2.2 tb5)
        have b45 : TB2 T1 T2 (upd H3 TT (.tup [x', V.str srt])) H5 := .one ne b4.2.2 tb5
        rw [fit]
        exact ⟨true, rfl, iteT ⟨_, by omega, rfl, lt, b45.keep b4.2.1 b4.2.2 (s4 _ _ hp3) (by intro ps z; cases z), b5⟩⟩
    · have ei : i = e.parts.length := by omega
      refine .inl ⟨⟨e.parts, e.sorts.map V.str, SqT.of hp3, sq _, .inl (by omega)⟩, ?_⟩
      refine ⟨true, rfl, iteF ?_⟩
      -- unlike places
      have ha3 : H3 a = some (.tup e.vals) := b3.keep t1 t2 ha (by intro ps z; cases z)
      refine ⟨_, rfl, a, e, rfl, ha3, fun tp H4 s4 ht => ?_⟩
      refine ⟨_, rfl, tp, e.places, rfl, SqT.of ht, Nat.le_trans (places_le e) (by decide), _, rfl, tp, _, rfl, .inr (SqT.of ht), rfl, ?_⟩
      rw [once_nodup fine.apart, List.length_map, decide_eq_true rfl]
      exact q H4 (b3.tr (.same b3.2.1 b3.2.2 s4))
end
/-! ### what is drawn is fine -/
theorem name_len {y : Str} (h : nameB y = true) : 1 ≤ y.length ∧ y.length ≤ 8 := by
  unfold nameB at h
  rw [Bool.and_eq_true, Bool.and_eq_true, decide_eq_true_eq, decide_eq_true_eq] at h
  exact h.1
theorem name_ne {y : Str} (h : nameB y = true) : y ≠ "" := fun z => by
  have := (name_len h).1
  rw [z] at this
  exact absurd this (by decide +kernel)
theorem kmn : ¬ ("moment" : Str) = "name" := by decide +kernel
theorem kme : ¬ ("moment" : Str) = "end" := by decide +kernel
theorem kyn : ¬ ("many" : Str) = "name" := by decide +kernel
theorem kye : ¬ ("many" : Str) = "end" := by decide +kernel
theorem kym : ¬ ("many" : Str) = "moment" := by decide +kernel
theorem kcn : ¬ ("counted" : Str) = "name" := by decide +kernel
theorem kce : ¬ ("counted" : Str) = "end" := by decide +kernel
theorem kcm : ¬ ("counted" : Str) = "moment" := by decide +kernel
theorem kcy : ¬ ("counted" : Str) = "many" := by decide +kernel
theorem kpn : ¬ ("price" : Str) = "name" := by decide +kernel
theorem kpe : ¬ ("price" : Str) = "end" := by decide +kernel
theorem kpm : ¬ ("price" : Str) = "moment" := by decide +kernel
theorem kpy : ¬ ("price" : Str) = "many" := by decide +kernel
theorem ken : ¬ ("end" : Str) = "name" := by decide +kernel
theorem fit_name {y : Str} (h : nameB y = true) : Part (.str y) ∧ fitB (.str y) "name" = true := by
  refine ⟨.inl ⟨y, rfl, by have := (name_len h).2; omega⟩, ?_⟩
  unfold fitB
  rw [if_pos rfl]
  exact h
theorem fit_end {y : Str} (h : y = "" ∨ nameB y = true) : Part (.str y) ∧ fitB (.str y) "end" = true := by
  have e : fitB (.str y) "end" = (decide (V.str y = .str "") || nameB y) := by
    unfold fitB
    rw [if_neg ken, if_pos rfl]
    rfl
  rcases h with rfl | h
  · exact ⟨.inl ⟨_, rfl, Nat.zero_le _⟩, by rw [e, decide_eq_true rfl]; rfl⟩
  · exact ⟨.inl ⟨y, rfl, by have := (name_len h).2; omega⟩, by rw [e, h, Bool.or_true]⟩
theorem fit_moment {m : Int} (h0 : 0 ≤ m) (h1 : m ≤ 9999) : Part (.int m) ∧ fitB (.int m) "moment" = true := by
  refine ⟨.inr ⟨m, rfl⟩, ?_⟩
  unfold fitB inB bnd
  rw [if_neg kmn, if_neg kme, if_pos rfl]
  simp [h0, h1]
theorem fit_many {m : Int} (h0 : 1 ≤ m) (h1 : m ≤ 1000000000) : Part (.int m) ∧ fitB (.int m) "many" = true := by
  refine ⟨.inr ⟨m, rfl⟩, ?_⟩
  unfold fitB inB bnd
  rw [if_neg kyn, if_neg kye, if_neg kym, if_pos rfl]
  simp [h0, h1]
theorem fit_counted {m : Int} (h0 : 0 ≤ m) (h1 : m ≤ 1000000000) : Part (.int m) ∧ fitB (.int m) "counted" = true := by
  refine ⟨.inr ⟨m, rfl⟩, ?_⟩
  unfold fitB inB bnd
  rw [if_neg kcn, if_neg kce, if_neg kcm, if_neg kcy]
  simp [h0, h1]
theorem fit_price {m : Int} (h0 : 0 ≤ m) (h1 : m ≤ 1000000000) : Part (.int m) ∧ fitB (.int m) "price" = true := by
  refine ⟨.inr ⟨m, rfl⟩, ?_⟩
  unfold fitB inB bnd
  rw [if_neg kpn, if_neg kpe, if_neg kpm, if_neg kpy]
  simp [h0, h1]
theorem nd1 (x : Str) : [x].Nodup := List.nodup_cons.mpr ⟨fun z => (nomatch z), List.nodup_nil⟩
theorem zip_at {α β : Type} {xs : List α} {ys : List β} {i : Nat} {x : α} {y : β} (h1 : xs[i]? = some x) (h2 : ys[i]? = some y) : (x, y) ∈ xs.zip ys :=
  List.mem_of_getElem? (List.getElem?_zip_eq_some.mpr ⟨h1, h2⟩)
theorem fine_of {PL GL HL : List Str} {e : Ent} (h : e.From PL GL HL) (nd : PL.Nodup) (np : ∀ y ∈ PL, nameB y = true) (ng : ∀ y ∈ GL, nameB y = true) (nh : ∀ y ∈ HL, nameB y = true) (nn : nameB e.name = true) (m0 : 0 ≤ e.moment) (m1 : e.moment ≤ 9999) :
    e.Fine ∧ ∀ y ∈ e.places, nameB y = true := by
  have two : ∀ {o t : Str}, o ≠ t → [o, t].Nodup := fun h => List.nodup_cons.mpr ⟨fun z => h (List.mem_singleton.mp z), nd1 _⟩
  cases e with
  | come n m g p k r =>
    obtain ⟨h1, h2, h3, h4, h5, h6⟩ := h
    refine ⟨⟨fun i v x hv hx => ?_, nd1 _⟩, fun y hy => by rw [List.mem_singleton.mp hy]; exact np p h2⟩
    have hz := zip_at hv hx
    simp only [Ent.parts, Ent.sorts, Ent.rest, List.zip_cons_cons, List.zip_nil_left, List.mem_cons, List.not_mem_nil, or_false, Prod.mk.injEq] at hz
    rcases hz with ⟨rfl, rfl⟩ | ⟨rfl, rfl⟩ | ⟨rfl, rfl⟩ | ⟨rfl, rfl⟩ | ⟨rfl, rfl⟩ | ⟨rfl, rfl⟩
    · exact fit_name nn
    · exact fit_moment m0 m1
    · exact fit_name (ng g h1)
    · exact fit_name (np p h2)
    · exact fit_many h3 h4
    · exact fit_price h5 h6
  | go n m g p k =>
    obtain ⟨h1, h2, h3, h4⟩ := h
    refine ⟨⟨fun i v x hv hx => ?_, nd1 _⟩, fun y hy => by rw [List.mem_singleton.mp hy]; exact np p h2⟩
    have hz := zip_at hv hx
    simp only [Ent.parts, Ent.sorts, Ent.rest, List.zip_cons_cons, List.zip_nil_left, List.mem_cons, List.not_mem_nil, or_false, Prod.mk.injEq] at hz
    rcases hz with ⟨rfl, rfl⟩ | ⟨rfl, rfl⟩ | ⟨rfl, rfl⟩ | ⟨rfl, rfl⟩ | ⟨rfl, rfl⟩
    · exact fit_name nn
    · exact fit_moment m0 m1
    · exact fit_name (ng g h1)
    · exact fit_name (np p h2)
    · exact fit_many h3 h4
  | move n m g o t k =>
    obtain ⟨h1, h2, h3, h4, h5, h6⟩ := h
    refine ⟨⟨fun i v x hv hx => ?_, two (h4 nd)⟩, fun y hy => ?_⟩
    · have hz := zip_at hv hx
      simp only [Ent.parts, Ent.sorts, Ent.rest, List.zip_cons_cons, List.zip_nil_left, List.mem_cons, List.not_mem_nil, or_false, Prod.mk.injEq] at hz
      rcases hz with ⟨rfl, rfl⟩ | ⟨rfl, rfl⟩ | ⟨rfl, rfl⟩ | ⟨rfl, rfl⟩ | ⟨rfl, rfl⟩ | ⟨rfl, rfl⟩
      · exact fit_name nn
      · exact fit_moment m0 m1
      · exact fit_name (ng g h1)
      · exact fit_name (np o h2)
      · exact fit_name (np t h3)
      · exact fit_many h5 h6
    · simp only [Ent.places, List.mem_cons, List.not_mem_nil, or_false] at hy
      rcases hy with rfl | rfl
      · exact np _ h2
      · exact np _ h3
  | some_ n m g o t =>
    obtain ⟨h1, h2, h3⟩ := h
    refine ⟨⟨fun i v x hv hx => ?_, ?_⟩, fun y hy => ?_⟩
    · have hz := zip_at hv hx
      simp only [Ent.parts, Ent.sorts, Ent.rest, List.zip_cons_cons, List.zip_nil_left, List.mem_cons, List.not_mem_nil, or_false, Prod.mk.injEq] at hz
      rcases hz with ⟨rfl, rfl⟩ | ⟨rfl, rfl⟩ | ⟨rfl, rfl⟩ | ⟨rfl, rfl⟩ | ⟨rfl, rfl⟩
      · exact fit_name nn
      · exact fit_moment m0 m1
      · exact fit_name (ng g h1)
      · exact fit_name (np o h2)
      · exact fit_end (h3.imp id fun z => np t z.1)
    · show (if t = "" then [o] else [o, t]).Nodup
      by_cases z : t = ""
      · rw [if_pos z]; exact nd1 _
      · rw [if_neg z]; exact two ((h3.resolve_left z).2 nd)
    · have hy' : y ∈ (if t = "" then [o] else [o, t]) := hy
      by_cases z : t = ""
      · rw [if_pos z] at hy'
        rw [List.mem_singleton.mp hy']
        exact np o h2
      · rw [if_neg z] at hy'
        simp only [List.mem_cons, List.not_mem_nil, or_false] at hy'
        rcases hy' with rfl | rfl
        · exact np _ h2
        · exact np _ (h3.resolve_left z).1
  | swap n m o t =>
    obtain ⟨h1, h2, h3⟩ := h
    refine ⟨⟨fun i v x hv hx => ?_, two (h3 nd)⟩, fun y hy => ?_⟩
    · have hz := zip_at hv hx
      simp only [Ent.parts, Ent.sorts, Ent.rest, List.zip_cons_cons, List.zip_nil_left, List.mem_cons, List.not_mem_nil, or_false, Prod.mk.injEq] at hz
      rcases hz with ⟨rfl, rfl⟩ | ⟨rfl, rfl⟩ | ⟨rfl, rfl⟩ | ⟨rfl, rfl⟩
      · exact fit_name nn
      · exact fit_moment m0 m1
      · exact fit_name (np o h1)
      · exact fit_name (np t h2)
    · simp only [Ent.places, List.mem_cons, List.not_mem_nil, or_false] at hy
      rcases hy with rfl | rfl
      · exact np _ h1
      · exact np _ h2
  | count n m g p k hd =>
    obtain ⟨h1, h2, h3, h4, h5⟩ := h
    refine ⟨⟨fun i v x hv hx => ?_, nd1 _⟩, fun y hy => by rw [List.mem_singleton.mp hy]; exact np p h2⟩
    have hz := zip_at hv hx
    simp only [Ent.parts, Ent.sorts, Ent.rest, List.zip_cons_cons, List.zip_nil_left, List.mem_cons, List.not_mem_nil, or_false, Prod.mk.injEq] at hz
    rcases hz with ⟨rfl, rfl⟩ | ⟨rfl, rfl⟩ | ⟨rfl, rfl⟩ | ⟨rfl, rfl⟩ | ⟨rfl, rfl⟩ | ⟨rfl, rfl⟩
    · exact fit_name nn
    · exact fit_moment m0 m1
    · exact fit_name (ng g h1)
    · exact fit_name (np p h2)
    · exact fit_counted h3 h4
    · exact fit_name (nh hd h5)
  | look n m g p =>
    obtain ⟨h1, h2⟩ := h
    refine ⟨⟨fun i v x hv hx => ?_, nd1 _⟩, fun y hy => by rw [List.mem_singleton.mp hy]; exact np p h2⟩
    have hz := zip_at hv hx
    simp only [Ent.parts, Ent.sorts, Ent.rest, List.zip_cons_cons, List.zip_nil_left, List.mem_cons, List.not_mem_nil, or_false, Prod.mk.injEq] at hz
    rcases hz with ⟨rfl, rfl⟩ | ⟨rfl, rfl⟩ | ⟨rfl, rfl⟩ | ⟨rfl, rfl⟩
    · exact fit_name nn
    · exact fit_moment m0 m1
    · exact fit_name (ng g h1)
    · exact fit_name (np p h2)
/-! ### the order of entries, by the law -/
def Ent.rank : Ent → Int
  | .swap .. => 0 | .come .. => 1 | .go .. => 1 | .move .. => 1 | .some_ .. => 1 | .count .. => 2 | .look .. => 2
def ordV (e : Ent) : List V := [.int e.moment, .int e.rank, .str e.name]
def ordD (e : Ent) : PyData := .tuple [.int e.moment, .int e.rank, .str e.name]
theorem ord_dp {K : PySem.W.Frag} {H : Hp} {tp : Addr} {e : Ent} (h : H tp = some (.tup (ordV e))) : Dp K H (.ref tp) (ordD e) := .tup (SqT.of h) (.cons (.int _) (.cons (.int _) (.cons (.str _) .nil)))
theorem ord_alike (e g : Ent) : PySem.W.alike (ordD e) (ordD g) = true := rfl
def spOrd : Sp := fun vs H Q _ => ∃ (a : Addr) (e : Ent), vs = [.ref a] ∧ H a = some (.tup e.vals) ∧ ∀ (tp : Addr) (H' : Hp), Same H H' → H' tp = some (.tup (ordV e)) → Q (.ref tp) H'
def rankW (x : Str) : Int := 1 - (if decide (V.str x = V.str "swap") = true then 1 else 0) + (if inV (V.str x) [V.str "count", V.str "look"] = true then 1 else 0)
theorem rank_own (e : Ent) : rankW e.word = e.rank := by
  have h1 : rankW "come" = 1 := by decide +kernel
  have h2 : rankW "go" = 1 := by decide +kernel
  have h3 : rankW "move" = 1 := by decide +kernel
  have h4 : rankW "some" = 1 := by decide +kernel
  have h5 : rankW "swap" = 0 := by decide +kernel
  have h6 : rankW "count" = 2 := by decide +kernel
  have h7 : rankW "look" = 2 := by decide +kernel
  cases e
  · exact h1
  · exact h2
  · exact h3
  · exact h4
  · exact h5
  · exact h6
  · exact h7
section
variable {P : Program} {w : World} {K : PySem.W.Frag} {mg : Str → Option Value} {base : Heap}
theorem scOwn : FnScope ["_law_entry_here", "_law_rank"] ["_law_entry_here"] (defScope sOwn) := ⟨rfl, rfl, rfl, by decide +kernel, rfl, by decide +kernel, by decide +kernel⟩
theorem at1 (e : Ent) : atI e.vals 1 = some (.str e.name) := atI_nat (j := 1) rfl
theorem ok_own {f : Addr} {fd : FuncData} (F : Fun K "_law_order" "_law_order" sOwn f fd) (mi : mg "int" = none) : FnOk P w K mg base CX0 1 f fd ["_law_entry_here"] spOrd := by
  refine F.ok scOwn (fun vs H Q E h => ?_) (fun cdv A outer s H vs Q E hr h => ?_)
  · obtain ⟨a, e, rfl, _⟩ := h
    rfl
  · obtain ⟨a, e, rfl, ha, q⟩ := h
    refine ⟨_, pss_cons (ps_set (i := 1) scOwn.nd rfl (Or.inl rfl) (pe_op op_add (pe_op op_sub pe_int (pe_callTy call_int1 (by rfl) mi (by decide +kernel) (pa_cons (pe_cmpR op_eq (pe_ix ix_tup (pv 0) pe_int (fun _ _ => rfl)) pe_str (nomark _)) pa_nil)))
        (pe_callTy call_int1 (by rfl) mi (by decide +kernel) (pa_cons (pe_cmpR op_in_seq (pe_ix ix_tup (pv 0) pe_int (fun _ _ => rfl)) (pe_tup (pa_cons pe_str (pa_cons pe_str pa_nil))) (by rfl)) pa_nil))))
      (pss_one (ps_ret (pe_tup (pa_cons (pe_ix ix_tup (pv 0) pe_int (fun _ _ => rfl)) (pa_cons (pv 1) (pa_cons (pe_ix ix_tup (pv 0) pe_int (fun _ _ => rfl)) pa_nil)))))), ?_⟩
    refine ⟨_, rfl, a, _, 0, _, rfl, rfl, SqT.of ha, at0 e, rfl, .inr ⟨_, rfl, 1, _, rfl, rfl, _, rfl, a, _, 0, _, rfl, rfl, SqT.of ha, at0 e, (by show 2 ≤ sizeLine; decide), fun t nt => ?_⟩⟩
    have s1 := @same_new _ _ (.tup [V.str "count", .str "look"]) nt
    refine ⟨t, _, rfl, .inr (SqT.of upd_same), rfl, ?_, .inr ⟨_, rfl, _, _, rfl, rfl, ?_⟩⟩
    · rfl
    · refine ⟨_, rfl, a, _, 2, _, rfl, rfl, SqT.of (s1 _ _ ha), at2 e, _, rfl, _, rfl, a, _, 1, _, rfl, rfl, SqT.of (s1 _ _ ha), at1 e, (by show 3 ≤ sizeLine; decide), fun tp ntp => ?_⟩
      refine q tp _ (s1.trans (same_new ntp)) ?_
      rw [upd_same]
      exact congrArg (fun k => some (HO.tup [V.int e.moment, V.int k, V.str e.name])) (rank_own e)
end
section
variable {P : Program} {w : World} {K : PySem.W.Frag} {mg : Str → Option Value} {base : Heap}
theorem scOrd : FnScope ["entry"] ["entry"] (defScope sOrd) := ⟨rfl, rfl, rfl, by decide +kernel, rfl, by decide +kernel, by decide +kernel⟩
theorem ok_ord {f aR : Addr} {fd : FuncData} (F : Fun K "order_of" "order_of" sOrd f fd) (mR : mg "RANKS" = some (.ref aR)) (hR : ∀ e : Ent, KDct K w aR e.word (.int e.rank)) : FnOk P w K mg base CX0 1 f fd ["entry"] spOrd := by
  refine F.ok scOrd (fun vs H Q E h => ?_) (fun cdv A outer s H vs Q E hr h => ?_)
  · obtain ⟨a, e, rfl, _⟩ := h
    rfl
  · obtain ⟨a, e, rfl, ha, q⟩ := h
    refine ⟨_, pss_one (ps_ret (pe_tup (pa_cons (pe_ix ix_tup (pv 0) pe_int (fun _ _ => rfl)) (pa_cons (pe_ix ix_kdict (pe_glob (v := .ref aR) rfl mR rfl) (pe_ix ix_tup (pv 0) pe_int (fun _ _ => rfl)) (fun _ _ => rfl)) (pa_cons (pe_ix ix_tup (pv 0) pe_int (fun _ _ => rfl)) pa_nil))))), ?_⟩
    refine ⟨_, rfl, a, _, 2, _, rfl, rfl, SqT.of ha, at2 e, _, rfl, a, _, 0, _, rfl, rfl, SqT.of ha, at0 e, aR, e.word, _, rfl, rfl, hR e, _, rfl, a, _, 1, _, rfl, rfl, SqT.of ha, at1 e, (by show 3 ≤ sizeLine; decide), fun tp ntp => ?_⟩
    exact q tp _ (same_new ntp) upd_same
end
/-! ### houses -/
/-- each address holds its entry -/
inductive EntsAt (H : Hp) : List Addr → List Ent → Prop
  | nil : EntsAt H [] []
  | cons {a : Addr} {e : Ent} {as : List Addr} {es : List Ent} : H a = some (.tup e.vals) → EntsAt H as es → EntsAt H (a :: as) (e :: es)
theorem EntsAt.on {H H' : Hp} (k : TK H H') {as : List Addr} {es : List Ent} (h : EntsAt H as es) : EntsAt H' as es := by
  induction h with
  | nil => exact .nil
  | cons a _ ih => exact .cons (k _ _ a) ih
theorem EntsAt.len {H : Hp} {as : List Addr} {es : List Ent} (h : EntsAt H as es) : as.length = es.length := by
  induction h with
  | nil => rfl
  | cons _ _ ih => simp [ih]
theorem EntsAt.snoc {H : Hp} {a : Addr} {e : Ent} {as : List Addr} {es : List Ent} (h : EntsAt H as es) (q : H a = some (.tup e.vals)) : EntsAt H (as ++ [a]) (es ++ [e]) := by
  induction h with
  | nil => exact .cons q .nil
  | cons a _ ih => exact .cons a ih
theorem EntsAt.get {H : Hp} {as : List Addr} {es : List Ent} (h : EntsAt H as es) : ∀ {i : Nat} {a : Addr}, as[i]? = some a → ∃ e, es[i]? = some e ∧ H a = some (.tup e.vals) := by
  induction h with
  | nil => intro i a q; cases q
  | @cons a0 e0 as es q _ ih =>
    intro i a z
    cases i with
    | zero => exact ⟨e0, rfl, by rw [← Option.some.inj z]; exact q⟩
    | succ n => exact ih (i := n) z
structure HouseAt (H : Hp) (h : Addr) (P G : List Str) (es : List Ent) : Prop where
  ex : ∃ (hp hg he : Addr) (tps : List Addr), H h = some (.tup [.ref hp, .ref hg, .ref he]) ∧ H hp = some (.tup (P.map V.str)) ∧ H hg = some (.tup (G.map V.str)) ∧ H he = some (.tup (tps.map V.ref)) ∧ EntsAt H tps es
theorem HouseAt.on {H H' : Hp} (k : TK H H') {h : Addr} {P G : List Str} {es : List Ent} (x : HouseAt H h P G es) : HouseAt H' h P G es := by
  obtain ⟨hp, hg, he, tps, h1, h2, h3, h4, h5⟩ := x.ex
  exact ⟨hp, hg, he, tps, k _ _ h1, k _ _ h2, k _ _ h3, k _ _ h4, h5.on k⟩
/-- what holds of a house that a law makes -/
structure Good (P G : List Str) (es : List Ent) (m : Nat) : Prop where
  nd : P.Nodup
  ne : P ≠ []
  le : P.length ≤ 6
  nm : ∀ y ∈ P, nameB y = true
  ge : G ≠ []
  gl : G.length ≤ 3
  gn : ∀ y ∈ G, nameB y = true
  gd : G.Nodup
  many : es.length = m
  ents : ∀ e ∈ es, nameB e.name = true ∧ 0 ≤ e.moment ∧ e.moment ≤ 9999 ∧ ∃ HL : List Str, (∀ y ∈ HL, nameB y = true) ∧ e.From P G HL
theorem From.perm {e : Ent} {P P' G G' HL : List Str} (h : e.From P G HL) (p : P'.Perm P) (g : G'.Perm G) : e.From P' G' HL := by
  have nd : P'.Nodup → P.Nodup := fun z => p.nodup_iff.mp z
  cases e with
  | come n m gg pl k r => exact ⟨g.mem_iff.mpr h.1, p.mem_iff.mpr h.2.1, h.2.2⟩
  | go n m gg pl k => exact ⟨g.mem_iff.mpr h.1, p.mem_iff.mpr h.2.1, h.2.2⟩
  | move n m gg o t k => exact ⟨g.mem_iff.mpr h.1, p.mem_iff.mpr h.2.1, p.mem_iff.mpr h.2.2.1, fun z => h.2.2.2.1 (nd z), h.2.2.2.2⟩
  | some_ n m gg o t => exact ⟨g.mem_iff.mpr h.1, p.mem_iff.mpr h.2.1, h.2.2.imp id fun z => ⟨p.mem_iff.mpr z.1, fun q => z.2 (nd q)⟩⟩
  | swap n m o t => exact ⟨p.mem_iff.mpr h.1, p.mem_iff.mpr h.2.1, fun z => h.2.2 (nd z)⟩
  | count n m gg pl k hd => exact ⟨g.mem_iff.mpr h.1, p.mem_iff.mpr h.2.1, h.2.2⟩
  | look n m gg pl => exact ⟨g.mem_iff.mpr h.1, p.mem_iff.mpr h.2⟩
/-! the house as data -/
def dV : V → PyData
  | .str x => .str x
  | .int i => .int i
  | _ => .none
def entD (e : Ent) : PyData := .tuple (e.vals.map dV)
def houseD (P G : List Str) (es : List Ent) : PyData := .tuple [.tuple (P.map .str), .tuple (G.map .str), .tuple (es.map entD)]
theorem dp_strs {K : PySem.W.Frag} {H : Hp} : ∀ ys : List Str, DpAll K H (ys.map V.str) (ys.map PyData.str)
  | [] => .nil
  | y :: r => .cons (.str y) (dp_strs r)
theorem dp_ent {K : PySem.W.Frag} {H : Hp} {a : Addr} {e : Ent} (h : H a = some (.tup e.vals)) : Dp K H (.ref a) (entD e) := by
  refine .tup (SqT.of h) ?_
  cases e <;> (repeat' (first | exact .nil | refine .cons (.str _) ?_ | refine .cons (.int _) ?_))
theorem dp_ents {K : PySem.W.Frag} {H : Hp} {as : List Addr} {es : List Ent} (h : EntsAt H as es) : DpAll K H (as.map V.ref) (es.map entD) := by
  induction h with
  | nil => exact .nil
  | cons a _ ih => exact .cons (dp_ent a) ih
theorem HouseAt.dp {K : PySem.W.Frag} {H : Hp} {h : Addr} {P G : List Str} {es : List Ent} (x : HouseAt H h P G es) : Dp K H (.ref h) (houseD P G es) := by
  obtain ⟨hp, hg, he, tps, h1, h2, h3, h4, h5⟩ := x.ex
  exact .tup (SqT.of h1) (.cons (.tup (SqT.of h2) (dp_strs P)) (.cons (.tup (SqT.of h3) (dp_strs G)) (.cons (.tup (SqT.of h4) (dp_ents h5)) .nil)))
/-! its text isn't long -/
structure Short (d : PyData) (n k : Nat) : Prop where
  sh : d.showable = true
  nd : d.hasDict = false
  ls : d.leavesShort 13 = true
  bk : d.bulk ≤ n
  dp : d.depth ≤ k
theorem short_str {y : Str} (h : nameB y = true ∨ y = "" ∨ y ∈ words7) : Short (.str y) 8 0 := by
  have lo : y.cps.toList.all (fun c => decide (c < 16 ^ 8)) = true ∧ y.cps.size ≤ 8 := by
    rcases h with h | rfl | h
    · unfold nameB at h
      rw [Bool.and_eq_true, Bool.and_eq_true] at h
      have l8 : y.length ≤ 8 := of_decide_eq_true h.1.2
      refine ⟨List.all_eq_true.mpr fun c hc => decide_eq_true ?_, l8⟩
      have q : ∀ c ∈ abc.cps.toList, c < 16 ^ 8 := by decide +kernel
      exact q c (of_decide_eq_true (List.all_eq_true.mp h.2 c hc))
    · exact ⟨rfl, Nat.zero_le _⟩
    · simp only [words7, List.mem_cons, List.not_mem_nil, or_false] at h
      rcases h with rfl | rfl | rfl | rfl | rfl | rfl | rfl <;> exact ⟨by decide +kernel, by decide +kernel⟩
  exact ⟨rfl, rfl, lo.1, lo.2, Nat.zero_le _⟩
theorem short_int {i : Int} (h0 : 0 ≤ i) (h1 : i ≤ 1000000000) : Short (.int i) 8 0 := by
  have e : (PyData.shown (.int i)).length ≤ 13 := Nat.le_trans (toString_length_le h0 (k := 10) (by decide) (by omega)) (by decide)
  refine ⟨?_, rfl, decide_eq_true e, Nat.zero_le _, Nat.zero_le _⟩
  show decide (i.natAbs.log2 < 1920) = true
  refine decide_eq_true ?_
  by_cases z : i.natAbs = 0
  · rw [z]
    decide
  · exact Nat.lt_trans ((Nat.log2_lt z).mpr (show i.natAbs < 2 ^ 30 by omega)) (by decide)
theorem short_all {n k : Nat} : ∀ {ds : List PyData}, (∀ d ∈ ds, Short d n k) → PyData.showableAll ds = true ∧ PyData.hasDictAll ds = false ∧ PyData.leavesShortAll 13 ds = true ∧ PyData.bulkAll ds ≤ ds.length * (n + 1) ∧ PyData.depthAll ds ≤ k
  | [], _ => ⟨rfl, rfl, rfl, Nat.le_of_eq (by simp [PyData.bulkAll]), Nat.zero_le _⟩
  | d :: ds, h => by
    have h1 := h d List.mem_cons_self
    obtain ⟨a1, a2, a3, a4, a5⟩ := short_all fun x hx => h x (List.mem_cons_of_mem _ hx)
    refine ⟨?_, ?_, ?_, ?_, ?_⟩
    · rw [PyData.showableAll, h1.sh, a1]
      rfl
    · rw [PyData.hasDictAll, h1.nd, a2]
      rfl
    · rw [PyData.leavesShortAll, h1.ls, a3]
      rfl
    · rw [PyData.bulkAll, List.length_cons, Nat.succ_mul]
      have := h1.bk
      omega
    · rw [PyData.depthAll]
      exact Nat.max_le.mpr ⟨h1.dp, a5⟩
theorem short_tup {n k m : Nat} {ds : List PyData} (h : ∀ d ∈ ds, Short d n k) (l : ds.length * (n + 1) ≤ m) : Short (.tuple ds) m (k + 1) := by
  obtain ⟨a1, a2, a3, a4, a5⟩ := short_all h
  refine ⟨?_, ?_, ?_, ?_, ?_⟩
  · rw [PyData.showable]; exact a1
  · rw [PyData.hasDict]; exact a2
  · rw [PyData.leavesShort]; exact a3
  · rw [PyData.bulk]; omega
  · rw [PyData.depth]; omega
theorem Short.mono {d : PyData} {n k n' k' : Nat} (h : Short d n k) (hn : n ≤ n') (hk : k ≤ k') : Short d n' k' := ⟨h.sh, h.nd, h.ls, Nat.le_trans h.bk hn, Nat.le_trans h.dp hk⟩
theorem Short.fits {d : PyData} {n k : Nat} (h : Short d n k) (hn : n ≤ 100000) : d.shown.length ≤ sizeLine := by
  have q := PyData.shown_le_bulk 13 (by decide) d h.ls
  have := h.bk
  rw [sizeLine_eq]
  omega
theorem short_names {ys : List Str} (h : ∀ y ∈ ys, nameB y = true) (l : ys.length ≤ 31) : Short (.tuple (ys.map .str)) 300 1 := by
  refine short_tup (n := 8) (k := 0) (fun d hd => ?_) (by rw [List.length_map]; omega)
  obtain ⟨y, hy, rfl⟩ := List.mem_map.mp hd
  exact short_str (.inl (h y hy))
theorem short_ent {e : Ent} {P G HL : List Str} (nn : nameB e.name = true) (m0 : 0 ≤ e.moment) (m1 : e.moment ≤ 9999) (hP : ∀ y ∈ P, nameB y = true) (hG : ∀ y ∈ G, nameB y = true) (hH : ∀ y ∈ HL, nameB y = true) (h : e.From P G HL) : Short (entD e) 70 1 := by
  have w : ∀ {x : Str}, x ∈ words7 → Short (.str x) 8 0 := fun hx => short_str (.inr (.inr hx))
  have n : ∀ {x : Str}, nameB x = true → Short (.str x) 8 0 := fun hx => short_str (.inl hx)
  have mo : Short (.int e.moment) 8 0 := short_int m0 (by omega)
  refine short_tup (n := 8) (k := 0) (fun d hd => ?_) (by rw [List.length_map]; cases e <;> simp [Ent.vals, Ent.rest])
  obtain ⟨v, hv, rfl⟩ := List.mem_map.mp hd
  cases e with
  | come nm m g pl k r =>
    obtain ⟨h1, h2, h3, h4, h5, h6⟩ := h
    simp only [Ent.vals, Ent.rest, List.mem_cons, List.not_mem_nil, or_false] at hv
    rcases hv with rfl | rfl | rfl | rfl | rfl | rfl | rfl
    · exact w (Ent.word_in _)
    · exact n nn
    · exact mo
    · exact n (hG _ h1)
    · exact n (hP _ h2)
    · exact short_int (by omega) h4
    · exact short_int h5 h6
  | go nm m g pl k =>
    obtain ⟨h1, h2, h3, h4⟩ := h
    simp only [Ent.vals, Ent.rest, List.mem_cons, List.not_mem_nil, or_false] at hv
    rcases hv with rfl | rfl | rfl | rfl | rfl | rfl
    · exact w (Ent.word_in _)
    · exact n nn
    · exact mo
    · exact n (hG _ h1)
    · exact n (hP _ h2)
    · exact short_int (by omega) h4
  | move nm m g o t k =>
    obtain ⟨h1, h2, h3, h4, h5, h6⟩ := h
    simp only [Ent.vals, Ent.rest, List.mem_cons, List.not_mem_nil, or_false] at hv
    rcases hv with rfl | rfl | rfl | rfl | rfl | rfl | rfl
    · exact w (Ent.word_in _)
    · exact n nn
    · exact mo
    · exact n (hG _ h1)
    · exact n (hP _ h2)
    · exact n (hP _ h3)
    · exact short_int (by omega) h6
  | some_ nm m g o t =>
    obtain ⟨h1, h2, h3⟩ := h
    simp only [Ent.vals, Ent.rest, List.mem_cons, List.not_mem_nil, or_false] at hv
    rcases hv with rfl | rfl | rfl | rfl | rfl | rfl
    · exact w (Ent.word_in _)
    · exact n nn
    · exact mo
    · exact n (hG _ h1)
    · exact n (hP _ h2)
    · rcases h3 with rfl | h3
      · exact short_str (.inr (.inl rfl))
      · exact n (hP _ h3.1)
  | swap nm m o t =>
    obtain ⟨h1, h2, h3⟩ := h
    simp only [Ent.vals, Ent.rest, List.mem_cons, List.not_mem_nil, or_false] at hv
    rcases hv with rfl | rfl | rfl | rfl | rfl
    · exact w (Ent.word_in _)
    · exact n nn
    · exact mo
    · exact n (hP _ h1)
    · exact n (hP _ h2)
  | count nm m g pl k hd =>
    obtain ⟨h1, h2, h3, h4, h5⟩ := h
    simp only [Ent.vals, Ent.rest, List.mem_cons, List.not_mem_nil, or_false] at hv
    rcases hv with rfl | rfl | rfl | rfl | rfl | rfl | rfl
    · exact w (Ent.word_in _)
    · exact n nn
    · exact mo
    · exact n (hG _ h1)
    · exact n (hP _ h2)
    · exact short_int h3 h4
    · exact n (hH _ h5)
  | look nm m g pl =>
    obtain ⟨h1, h2⟩ := h
    simp only [Ent.vals, Ent.rest, List.mem_cons, List.not_mem_nil, or_false] at hv
    rcases hv with rfl | rfl | rfl | rfl | rfl
    · exact w (Ent.word_in _)
    · exact n nn
    · exact mo
    · exact n (hG _ h1)
    · exact n (hP _ h2)
theorem Good.short {P G : List Str} {es : List Ent} {m : Nat} (g : Good P G es m) (hm : m ≤ 31) : Short (houseD P G es) 10000 3 := by
  refine short_tup (n := 3000) (k := 2) (fun d hd => ?_) (by show 3 * 3001 ≤ 10000; decide)
  simp only [List.mem_cons, List.not_mem_nil, or_false] at hd
  rcases hd with rfl | rfl | rfl
  · exact (short_names g.nm (Nat.le_trans g.le (by decide))).mono (by decide) (by decide)
  · exact (short_names g.gn (Nat.le_trans g.gl (by decide))).mono (by decide) (by decide)
  · refine short_tup (n := 70) (k := 1) (fun d hd => ?_) (by rw [List.length_map, g.many]; omega)
    obtain ⟨e, he, rfl⟩ := List.mem_map.mp hd
    obtain ⟨e1, e2, e3, HL, e4, e5⟩ := g.ents e he
    exact short_ent e1 e2 e3 g.nm g.gn e4 e5
/-! ### along_tracks -/
/-- nothing but the tables has changed -/
def TabsG (Ts : List Addr) (H : Hp) : Prop := ∀ T ∈ Ts, GxR.TabG H T
structure TB1 (Ts : List Addr) (H H' : Hp) : Prop where
  tg : TabsG Ts H'
  kp : ∀ a o, H a = some o → (∀ ps, o ≠ .tbl ps) → H' a = some o
  free : ∀ a, H' a = none → H a = none
  oth : ∀ a o, H a = some o → a ∉ Ts → H' a = some o
theorem tabg_sm {H H' : Hp} {T : Addr} (sm : Same H H') (t : GxR.TabG H T) : GxR.TabG H' T := by
  obtain ⟨ps, e, ok⟩ := t
  exact ⟨ps, sm _ _ e, ok⟩
theorem tabs_sm {H H' : Hp} {Ts : List Addr} (sm : Same H H') (t : TabsG Ts H) : TabsG Ts H' := fun T hT => tabg_sm sm (t T hT)
theorem TB1.same {Ts : List Addr} {H H' : Hp} (t : TabsG Ts H) (sm : Same H H') : TB1 Ts H H' := ⟨tabs_sm sm t, fun a o e _ => sm a o e, fun a n => sm.free n, fun a o e _ => sm a o e⟩
theorem TB1.tr {Ts : List Addr} {H H1 H2 : Hp} (a : TB1 Ts H H1) (b : TB1 Ts H1 H2) : TB1 Ts H H2 := ⟨b.1, fun c o e n => b.2 c o (a.2 c o e n) n, fun c n => a.free c (b.free c n), fun c o e n => b.oth c o (a.oth c o e n) n⟩
theorem TB1.tab {Ts : List Addr} {T : Addr} {H H' : Hp} (t : GxR.Tabbed T H H') (g : TabsG Ts H) (hT : T ∈ Ts) : TB1 Ts H H' := by
  refine ⟨fun T' hT' => ?_, fun a o e n => ?_, fun a n => ?_, fun a o e n => (t.2 a fun z => n (z ▸ hT)).trans e⟩
  · by_cases z : T' = T
    · rw [z]
      exact t.1
    · obtain ⟨ps, e, ok⟩ := g T' hT'
      exact ⟨ps, (t.2 T' z).trans e, ok⟩
  · have na : a ≠ T := fun z => by
      obtain ⟨ps, e', _⟩ := g T hT
      rw [z, e'] at e
      exact n ps (Option.some.inj e).symm
    rw [t.2 a na]
    exact e
  · by_cases z : a = T
    · obtain ⟨ps, e, _⟩ := t.1
      rw [z, e] at n
      cases n
    · rw [← t.2 a z]
      exact n
theorem TB1.tk {Ts : List Addr} {H H' : Hp} (t : TB1 Ts H H') : TK H H' := fun a xs e => t.2 a _ e fun ps z => nomatch z
theorem TB1.lst {Ts : List Addr} {H H' : Hp} (t : TB1 Ts H H') {a : Addr} {xs : List V} (e : H a = some (.lst xs)) : H' a = some (.lst xs) := t.2 a _ e fun ps z => nomatch z
theorem TB1.dct {Ts : List Addr} {H H' : Hp} (t : TB1 Ts H H') {a : Addr} {kvs : List (Key × V)} (e : H a = some (.dK kvs)) : H' a = some (.dK kvs) := t.2 a _ e fun ps z => nomatch z
theorem tabs_upd {H : Hp} {Ts : List Addr} {l : Addr} {xs : List V} {o : HO} (t : TabsG Ts H) (e : H l = some (.lst xs)) : TabsG Ts (upd H l o) := fun T hT => by
  obtain ⟨ps, e1, ok⟩ := t T hT
  exact ⟨ps, (upd_ne (ne_of e1 e (by intro z; cases z))).trans e1, ok⟩
/-- a list that came since is written -/
theorem TB1.put {Ts : List Addr} {H H' : Hp} {l : Addr} {xs : List V} {o : HO} (t : TB1 Ts H H') (n : H l = none) (e : H' l = some (.lst xs)) : TB1 Ts H (upd H' l o) :=
  ⟨tabs_upd t.1 e, fun a u eu na => (upd_ne (ne_of_none eu n)).trans (t.2 a u eu na), fun a na => by
    by_cases z : a = l
    · rw [z]
      exact n
    · rw [upd_ne z] at na
      exact t.free a na, fun a u eu na => (upd_ne (ne_of_none eu n)).trans (t.oth a u eu na)⟩
/-! ### sorted(..) of what gives texts -/
def leS (a b : Str) : Prop := a.cps.toList ≤ b.cps.toList
theorem leS_of {a b : Str} (h : ltCps b.cps.toList a.cps.toList = false) : leS a b := by
  rw [ltCps_eq] at h
  exact List.not_lt.mp (of_decide_eq_false h)
theorem str_ext {a b : Str} (h : a.cps.toList = b.cps.toList) : a = b := by
  cases a with
  | mk x => cases b with
    | mk y =>
      have : x = y := Array.toList_inj.mp h
      rw [this]
theorem leS_trans {a b c : Str} (h1 : leS a b) (h2 : leS b c) : leS a c := List.le_trans h1 h2
theorem leS_anti {a b : Str} (h1 : leS a b) (h2 : leS b a) : a = b := str_ext (List.le_antisymm h1 h2)
theorem rising_pw : ∀ (p : Str) (l : List Str), risingS p l = true → (p :: l).Pairwise leS
  | p, [], _ => List.pairwise_singleton _ _
  | p, x :: r, h => by
    have h' : (!ltCps x.cps.toList p.cps.toList && risingS x r) = true := h
    rw [Bool.and_eq_true] at h'
    have le : leS p x := leS_of (by simpa using h'.1)
    have ih := rising_pw x r h'.2
    refine List.pairwise_cons.mpr ⟨fun y hy => ?_, ih⟩
    rcases List.mem_cons.mp hy with rfl | hy
    · exact le
    · exact leS_trans le (List.rel_of_pairwise_cons ih hy)
theorem sorted_pw {l : List Str} (h : sortedS l = true) : l.Pairwise leS := by
  cases l with
  | nil => exact .nil
  | cons x r => exact rising_pw x r h
/-- two sorted lists of the same texts are one -/
theorem sorted_one {l r : List Str} (p : l.Perm r) (h1 : sortedS l = true) (h2 : sortedS r = true) : l = r :=
  List.Perm.eq_of_pairwise (fun a b _ _ x y => leS_anti x y) (sorted_pw h1) (sorted_pw h2) p
theorem sorted_by {prog : Program} {w : World} {A : Around} {E : Value → Shared → Prop} {s : Shared} {x : Value} {Q : Value → Shared → Prop}
    (h : wpAny (model prog w) A.in1 (collect x) (fun vs s1 => ∃ ss, StrsAre vs ss ∧ vs.length < 64 ∧ ∀ (out : Array Value) (ss' : List Str) (h' : Heap) (ep : Nat), StrsAre out.toList ss' → ss'.Perm ss → sortedS ss' = true →
      (∀ b o, s1.heap.get? b = some o → h'.get? b = some o) → h'.get? s1.heap.objs.size = some (seqObj "list" out ep) → Q (.ref s1.heap.objs.size) { s1 with heap := h' }) E s) :
    wpAny (model prog w) A (call (.builtin "sorted") [x]) Q E s := by
  refine Calls.call_function_entry kind_sorted plain_sorted entry_sorted (args_sorted1 _) ?_
  unfold Builtin.«sorted»
  refine wpAny_bind (m := checkCount "sorted" 1 1 _) (wpAny_pure (wpAny_bind (wpAny_mono h (fun vs s1 ⟨ss, hS, h64, hq⟩ => ?_) fun _ _ e => e)))
  have hoL : (s1.heap.push (seqObj "list" vs.toArray 0)).get? s1.heap.objs.size = some (seqObj "list" vs.toArray 0) := Heap.get?_push_size _ rfl
  refine wpAny_bind (wpAny_newList (wpAny_bind (wpAny_holding (wpAny_call_entry slot_list_sort ⟨_, hoL, rfl⟩ entry_list_sort (list_sort_treeK strKind_oneLt hoL hS.keysOf (fun v1 v2 rest e => keyKind_strs (by rw [← e]; exact hS)) h64 fun st' hp hs => ⟨_, rfl, ?_⟩) (args_list_sort _)))))
  obtain ⟨ss', h1, h2, h3⟩ := sorted_out_str hS hp hs
  obtain ⟨ep, he⟩ := sortedHeap_at (out := (arrOf st').map (·.2)) hoL
  refine wpAny_pure ⟨_, rfl, hq _ ss' _ ep h1 h2 h3 (fun b o e => ?_) he⟩
  have lt := Heap.lt_size e
  rw [sortedHeap_old (Nat.ne_of_lt lt) (by rw [Heap.size_push]; exact Nat.lt_succ_of_lt lt)]
  exact Heap.get?_push_of_some _ e
/-- of a tuple of texts -/
theorem cr_sortedTS {X : Cx} : CallR X (.builtin "sorted") (fun vs H Q => ∃ (a : Addr) (xs : List Str), vs = [.ref a] ∧ SqT X.K H a (xs.map V.str) ∧ xs.length < 64 ∧
    ∀ (ys : List Str) (p : Addr), ys.Perm xs → sortedS ys = true → H p = none → Q (.ref p) (upd H p (.lst (ys.map V.str)))) := by
  rintro pins s σ H vs us Q I r ⟨a, xs, rfl, hs, h64, q⟩
  rw [Vals.ref1 r]
  obtain ⟨its, rv, ⟨o, e1, e2, n, e3⟩, hz⟩ := I.tuple hs
  have l0 := rv.length
  rw [List.length_map] at l0
  refine sorted_by (wpAny_collect_seq a (.inr rfl) e1 e2 e3 (fun h1 k1 => ⟨xs, ?_, ?_, fun out ys h' ep g1 g2 g3 k2 g4 => ?_⟩) (by rw [List.size_toArray, ← rv.length]; exact hz))
  · exact rv.strs
  · show its.length < 64
    rw [← l0]
    exact h64
  · have I1 := I.kept (t' := s.toks) k1
    have hlen : (ys.map V.str).length ≤ sizeLine := by rw [List.length_map, g2.length_eq]; exact small64 h64
    exact ⟨.ref h1.objs.size, upd H h1.objs.size (.lst (ys.map V.str)), I1.laid (t' := s.toks) k2 (Nat.le_refl _) ⟨hlen, out.toList, ep, vals_of_strs g1, by rw [g4]⟩, rfl, q ys _ g2 g3 (I1.hok.fresh (Nat.le_refl _))⟩
/-! ### sorted(set(xs)) of texts: a set that tells its table -/
structure SetTx (P : Program) (w : World) (h : Heap) (a : Addr) (l : List Str) : Prop where
  ex : ∃ D : PySem.Froz.SD, h.get? a = some (PySem.Froz.sObj "set" D) ∧ PySem.Froz.TxOk P w D l ∧ L2.Ris D.2.2.place.toList ∧ (w.params.followText "set-order" = true ∨ D.2.2.led = true)
theorem perm_of_sub : ∀ {l ks : List Str}, l.Nodup → (∀ x ∈ l, x ∈ ks) → ks.length ≤ l.length → ks.Perm l
  | [], ks, _, _, h => by
    have : ks = [] := List.eq_nil_of_length_eq_zero (Nat.le_zero.mp h)
    rw [this]
  | x :: r, ks, nd, h, le => by
    obtain ⟨n1, n2⟩ := List.nodup_cons.mp nd
    have hx := h x List.mem_cons_self
    have p := List.perm_cons_erase hx
    refine p.trans (.cons x (perm_of_sub n2 (fun y hy => ?_) ?_))
    · have ne : y ≠ x := fun z => n1 (by rw [← z]; exact hy)
      exact (List.mem_erase_of_ne ne).mpr (h y (List.mem_cons_of_mem _ hy))
    · have := p.length_eq
      simp only [List.length_cons] at this le
      omega
section
variable {P : Program} {w : World} {A : Around} {E : Value → Shared → Prop} {s : Shared}
theorem tail_ris {ep : Nat} {es1 : Array (Int × Value)} {t2 : SetTable} {b : Bool} (h : L2.Ris t2.place.toList) : L2.Ris (PySem.Froz.tailTx ep es1 t2 b).2.2.place.toList ∧ (PySem.Froz.tailTx ep es1 t2 b).2.2.led = t2.led := by
  unfold PySem.Froz.tailTx
  split
  · exact ⟨L2.relayAll_ris _ _ _, L2.relayAll_led _ _ _⟩
  · exact ⟨h, rfl⟩
theorem addTx_ris {D : PySem.Froz.SD} {h : Int} {v : Value} (r : L2.Ris D.2.2.place.toList) : L2.Ris (PySem.Froz.addTx h v D).2.2.place.toList ∧ (PySem.Froz.addTx h v D).2.2.led = D.2.2.led := by
  have r1 := L2.layNew_ris D.2.2 D.1 h v r
  have l1 := L2.layNew_led D.2.2 D.1 h v
  unfold PySem.Froz.addTx
  split
  · obtain ⟨a1, a2⟩ := tail_ris (ep := D.2.1) (es1 := (layNew D.2.2 D.1 h v).1) (b := (layNew D.2.2 D.1 h v).2.2.1) (t2 := { (layNew D.2.2 D.1 h v).2.1 with plain := false }) r1
    exact ⟨a1, a2.trans l1⟩
  · obtain ⟨a1, a2⟩ := tail_ris (ep := D.2.1) (es1 := (layNew D.2.2 D.1 h v).1) (b := (layNew D.2.2 D.1 h v).2.2.1) r1
    exact ⟨a1, a2.trans l1⟩
/-- one that is there is put in again -/
theorem add_old {a : Addr} {T : String} {D : PySem.Froz.SD} {l : List Str} {k : Str} {u : Tok} {Q : Bool → Shared → Prop} (ho : s.heap.get? a = some (PySem.Froz.sObj T D)) (F : PySem.Froz.TxOk P w D l) (hk : k ∈ l) (hb : l.length < scanBound) (h : Q false s) :
    wpAny (model P w) A (setAddHashed a (.str k u) (hashStr w k)) Q E s := by
  obtain ⟨es, ep, t⟩ := D
  have hsz : es.size = l.length := F.sz
  have hel : ElemsOf (PySem.strKind P w) es.toList := F.el
  unfold setAddHashed setAddHashedIn
  refine wpAny_holding (wpAny_bind (wpAny_setState_of ho rfl F.fit ?_))
  dsimp only
  rw [byScan_of rfl (by omega) hel]
  simp only [↓reduceIte]
  unfold setAddByScan
  refine wpAny_bind (wpAny_bind (wpAny_rule (wpAny_bind (wpAny_setScan_of (knd := PySem.strKind P w) (k := k) (PySem.Froz.is_str k u) ho rfl F.fit hel ?_))))
  cases hr : List.findIdx? (fun e => (PySem.strKind P w).is k e.2) es.toList with
  | some j => exact wpAny_pure (wpAny_pure h)
  | none =>
    obtain ⟨e, he, q⟩ := (F.mem k).mp hk
    have c := List.findIdx?_eq_none_iff.mp hr e he
    rw [q] at c
    cases c
/-- x into the set -/
theorem setTx_add {a : Addr} {l : List Str} {k : Str} {u : Tok} {Q : Bool → Shared → Prop} (R : SetTx P w s.heap a l) (hb : l.length + 1 < scanBound)
    (h : ∀ h' b, Heap.SameBut a s.heap h' → SetTx P w h' a (if k ∈ l then l else k :: l) → Q b { s with heap := h' }) : wpAny (model P w) A (setAddHashed a (.str k u) (hashStr w k)) Q E s := by
  obtain ⟨D, ho, F, r, ld⟩ := R.ex
  by_cases hk : k ∈ l
  · rw [if_pos hk] at h
    exact add_old ho F hk (by omega) (h s.heap false (Heap.SameBut.refl _ _) R)
  · rw [if_neg hk] at h
    refine PySem.Froz.add_x ho F hk hb (h _ true (Heap.SameBut.update _ _ _) ⟨_, PySem.Froz.get_upd _ ho rfl, PySem.Froz.add_ok u F, (addTx_ris r).1, ?_⟩)
    rw [(addTx_ris r).2]
    exact ld
end
def onceR (xs : List Str) : List Str := xs.foldl (fun l x => if x ∈ l then l else x :: l) []
theorem onceR_snoc (xs : List Str) (x : Str) : onceR (xs ++ [x]) = if x ∈ onceR xs then onceR xs else x :: onceR xs := by
  unfold onceR
  rw [List.foldl_append]
  rfl
theorem onceR_ok : ∀ (xs l : List Str), l.Nodup → (xs.foldl (fun l x => if x ∈ l then l else x :: l) l).Nodup ∧ (∀ y, y ∈ xs.foldl (fun l x => if x ∈ l then l else x :: l) l ↔ y ∈ l ∨ y ∈ xs) ∧ (xs.foldl (fun l x => if x ∈ l then l else x :: l) l).length ≤ l.length + xs.length
  | [], l, h => ⟨h, fun y => by simp, Nat.le_refl _⟩
  | x :: r, l, h => by
    rw [List.foldl_cons]
    by_cases z : x ∈ l
    · rw [if_pos z]
      obtain ⟨a, b, c⟩ := onceR_ok r l h
      refine ⟨a, fun y => (b y).trans ?_, by rw [List.length_cons]; omega⟩
      rw [List.mem_cons]
      constructor
      · rintro (q | q)
        · exact .inl q
        · exact .inr (.inr q)
      · rintro (q | q | q)
        · exact .inl q
        · exact .inl (by rw [q]; exact z)
        · exact .inr q
    · rw [if_neg z]
      obtain ⟨a, b, c⟩ := onceR_ok r (x :: l) (List.nodup_cons.mpr ⟨z, h⟩)
      refine ⟨a, fun y => (b y).trans ?_, by rw [List.length_cons] at c ⊢; omega⟩
      rw [List.mem_cons, List.mem_cons, or_assoc, or_left_comm]
theorem onceR_nodup (xs : List Str) : (onceR xs).Nodup := (onceR_ok xs [] .nil).1
theorem onceR_mem (xs : List Str) (y : Str) : y ∈ onceR xs ↔ y ∈ xs := ((onceR_ok xs [] .nil).2.1 y).trans (by simp)
theorem onceR_len (xs : List Str) : (onceR xs).length ≤ xs.length := Nat.le_trans (onceR_ok xs [] .nil).2.2 (by simp)
section
variable {prog : Program} {w : World} {A : Around}
theorem setTx_loop {R : Result → Shared → Prop} {it : Addr} {fp wr : List Addr} {G : Array GenState → Array GenState → Prop} {n : Nat} {P : Nat → Value → Prop} {St : Nat → Shared → Prop} (W : WalksS prog w A.in1 it fp wr G n P St) (S : Addr) (nS : S ∉ fp) (xs : List Str)
    (len : xs.length = n) (big : n + 1 < scanBound) (val : ∀ i v, P i v → ∃ t, v = .str (xs.getD i Str.empty) t) :
    ∀ (k i : Nat) (s : Shared), n - i = k → i ≤ n → St i s → SetTx prog w s.heap S (onceR (xs.take i)) →
      (∀ s', Moved (S :: wr) G s s' → SetTx prog w s'.heap S (onceR xs) → R (.ok (.ret .none)) s') →
      codeAny (model prog w) A (.builtin "set.update.loop" ⟨[.ref S, .ref it], []⟩) R s := by
  have nW : S ∉ wr := fun h => nS (W.sub _ h)
  have up : ∀ b ∈ wr, b ∈ S :: wr := fun b hb => List.mem_cons_of_mem _ hb
  have stay : ∀ {s s' : Shared} {l : List Str}, Moved wr G s s' → SetTx prog w s.heap S l → SetTx prog w s'.heap S l := fun mv ⟨D, ho, r⟩ => ⟨D, mv.heap S _ nW ho, r⟩
  intro k
  induction k with
  | zero =>
    intro i s hk hi st hS hR
    obtain rfl : i = n := by omega
    refine codeAny_builtin PyProof.Rows.F.entry_set_update_loop ?_
    rw [Around.under_plainId PyProof.Rows.F.plain_set_update_loop _]
    show wpAny _ A.in1 (pyNext (.ref it) >>= _) _ _ s
    refine wpAny_bind (W.done s _ _ st fun s' mv => ?_)
    rw [List.take_of_length_le (Nat.le_of_eq len)] at hS
    exact wpAny_pure (hR s' (mv.mono up) (stay mv hS))
  | succ k ih =>
    intro i s hk hi st hS hR
    have lt : i < n := by omega
    refine codeAny_builtin PyProof.Rows.F.entry_set_update_loop ?_
    rw [Around.under_plainId PyProof.Rows.F.plain_set_update_loop _]
    show wpAny _ A.in1 (pyNext (.ref it) >>= _) _ _ s
    refine wpAny_bind (W.item i s _ _ lt st fun v s' hP st' mv => ?_)
    obtain ⟨t, rfl⟩ := val i v hP
    show wpAny _ A.in1 (holding [Value.str (xs.getD i Str.empty) t] (setAdd S (.str (xs.getD i Str.empty) t)) >>= _) _ _ s'
    refine wpAny_bind (wpAny_holding ?_)
    unfold setAdd
    refine wpAny_holding (wpAny_bind ((PySem.strKind prog w).pyHash (k := xs.getD i Str.empty) (strKind_is _ _ _ _) ?_))
    have small : (onceR (xs.take i)).length + 1 < scanBound := by
      have h := onceR_len (xs.take i)
      rw [List.length_take] at h
      omega
    refine setTx_add (s := { s' with toks := s'.toks + 1 }) (show SetTx prog w s'.heap S _ from stay mv hS) small fun h' b sb hS2 => ?_
    have hx : xs.take (i + 1) = xs.take i ++ [xs.getD i Str.empty] := by
      have hl : i < xs.length := by omega
      rw [List.take_add_one, List.getElem?_eq_getElem hl, List.getD_eq_getElem?_getD, List.getElem?_eq_getElem hl]
      rfl
    rw [← onceR_snoc, ← hx] at hS2
    refine wpAny_pure ⟨plainId_quiet PyProof.Rows.F.plain_set_update_loop _, ih (i + 1) _ (by omega) lt (W.frame _ s' _ _ st' (Nat.le_succ _) fun b hb o e => ?_) hS2 fun s'' mv'' hS'' => ?_⟩
    · rw [sb.2 b (fun z : b = S => nS (by rw [← z]; exact hb))]
      exact e
    · refine hR s'' (Moved.trans W.gtrans ((mv.mono up).then_heap (Nat.le_succ _) fun b o hb e => ?_) mv'') hS''
      rw [sb.2 b (fun z : b = S => hb (by rw [z]; exact List.mem_cons_self))]
      exact e
theorem code_set_led1 {E : Value → Shared → Prop} {s : Shared} (a : Value) {Q₁ : Value → Shared → Prop}
    (h : Q₁ (.ref s.heap.objs.size) { s with heap := s.heap.push (PySem.Froz.sObj "set" (#[], 0, .fresh 0 0 (!w.params.followText "set-order"))) }) :
    codeAny (model prog w) A (.call (.builtin "set.__new__") ⟨[.type "set", a], []⟩) (wants Q₁ E) s := by
  refine codeAny_of_tree ?_
  show wpAny _ A.in1 (do checkBuiltinCall "set.__new__" ⟨[.type "set", a], []⟩; again (.builtin "set.__new__" ⟨[.type "set", a], []⟩)) _ _ s
  refine wpAny_bind (wpAny_of_eq (PySem.F.newCall_set_1 a) (wpAny_pure ⟨plainId_quiet PySem.F.plain_set_new _, codeAny_builtin PySem.F.entry_set_new ?_⟩))
  rw [Around.under_plainId PySem.F.plain_set_new _]
  unfold Builtin.«set.__new__» Builtin.Frozenset.newClass
  have hsub := sub_set_self
  obtain ⟨hp, g, d, tk, os⟩ := s
  dsimp only
  wp_walk
  refine wpAny_askSetting (wpAny_pure ?_)
  dsimp only
  simp only [newObj]
  refine wpAny_bind (wpAny_alloc (wpAny_pure ?_))
  exact wpAny_pure h
abbrev setL (w : World) : Obj := PySem.Froz.sObj "set" (#[], 0, .fresh 0 0 (!w.params.followText "set-order"))
theorem setTx_fresh {h : Heap} : SetTx prog w (h.push (setL w)) h.objs.size (onceR []) :=
  ⟨_, Heap.get?_push_size _ rfl, PySem.Froz.TxOk.nil rfl, List.Pairwise.nil, by
    show _ ∨ (!w.params.followText "set-order") = true
    cases w.params.followText "set-order"
    · exact .inr rfl
    · exact .inl rfl⟩
set_option maxHeartbeats 3200000 in
theorem setTx_of_tuple {E : Value → Shared → Prop} {s : Shared} {l : Addr} {items : Array Value} {xs : List Str} {Q : Value → Shared → Prop} (hh : A.handled = none) (hl : s.heap.IsTuple l items) (hi : PyProof.Rows.StrsAre items.toList xs) (big : xs.length + 1 < scanBound)
    (h : ∀ (h' : Heap) (tk : Nat), SetTx prog w h' s.heap.objs.size (onceR xs) →
      (∀ b o, b < s.heap.objs.size → s.heap.get? b = some o → h'.get? b = some o) → Q (.ref s.heap.objs.size) { s with heap := h', toks := tk }) :
    wpAny (model prog w) A (call (.type "set") [.ref l]) Q E s := by
  obtain ⟨c, tl, hmro⟩ := PySem.F.called_set.mro
  have hmade := PySem.F.called_set.made
  have hsub := PySem.F.called_set.sub
  refine wpAny_call (codeAny_of_tree ?_)
  show wpAny _ _ (callAny (.type "set") _) _ _ _
  refine wpAny_pure ⟨Code.quiet_builtin _ (by decide +kernel), codeAny_builtin PySem.F.entry_type_call ?_⟩
  rw [Around.under_plain (weight_type_call_type "set" [.ref l] []) rfl]
  have h1 := PySem.F.called_set.notType
  have h2 := PySem.F.called_set.canCreate
  have hct := PySem.F.typeCall_set_1 (.ref l)
  repeat (any_goals (first | assumption | wp_step))
  refine codeAny_mono (code_set_led1 (.ref l) (E := E) (Q₁ := fun obj s₁ => obj = .ref s.heap.objs.size ∧ s₁ = { s with heap := s.heap.push (setL w) }) ⟨rfl, rfl⟩) fun r s₁ hr => ?_
  cases r with
  | error e => exact hr
  | ok fl =>
    cases fl with
    | ret obj =>
      obtain ⟨rfl, rfl⟩ := hr
      have hS : (s.heap.push (setL w)).get? s.heap.objs.size = some (setL w) := Heap.get?_push_size _ rfl
      have hT : Shared.TypeIs { s with heap := s.heap.push (setL w) } (.ref s.heap.objs.size) "set" := ⟨_, hS, rfl⟩
      have hli := PySem.F.called_set.init.lookup
      have hbi := PySem.F.called_set.init.bind (.ref s.heap.objs.size)
      repeat (any_goals (first | assumption | wp_step))
      refine codeAny_mono (codeAny_call_builtin (R := wants (fun r s₂ => r = .none ∧ ∃ h' tk, s₂ = { s with heap := h', toks := tk } ∧
          SetTx prog w h' s.heap.objs.size (onceR xs) ∧
          (∀ b o, b < s.heap.objs.size → s.heap.get? b = some o → h'.get? b = some o)) E) PySem.F.called_set.init.plain PySem.F.entry_set_init (check_set_init_1 hT ?_)) fun r₂ s₂ hr₂ => ?_
      · obtain ⟨⟨ocls, odict, odata, oslots⟩, hol, hcl, nl, hdl⟩ := hl
        simp only at hcl hdl
        subst hcl; subst hdl
        have hol' : (s.heap.push (setL w)).get? l = some { cls := .type "tuple", dict := odict, data := .seq items nl, slots := oslots } := Heap.get?_push_of_some _ hol
        have hsls := PySem.F.sub_tuple_set
        have hslf := PySem.F.sub_tuple_frozenset
        have hne : (Value.type "tuple" == Value.type "dict") = false := by decide
        have hl1 : (s.heap.push (setL w)).IsTuple l items := ⟨_, hol', rfl, nl, rfl⟩
        unfold Builtin.«set.__init__» noKeywords Builtin.Frozenset.updateFrom
        generalize hPI : pyIter = PI
        wp_walk
        subst hPI
        refine wpAny_pyIter_tuple hl1 ?_
        refine wpAny_bind (wpAny_runValue ?_)
        have ltl : l < s.heap.objs.size := Heap.lt_size hol
        have szP : (s.heap.push (setL w)).objs.size = s.heap.objs.size + 1 := Heap.size_push ..
        have hh3 : A.in1.in1.in1.handled = none := hh
        have neI : l ≠ (s.heap.push (setL w)).objs.size := by rw [szP]; exact Nat.ne_of_lt (Nat.lt_succ_of_lt ltl)
        have len : xs.length = items.size := by rw [← StrsAre.len_eq hi, Array.length_toList]
        refine setTx_loop ((Walks.tuple hh3 _ l neI items).toS) s.heap.objs.size ?n xs len (by rw [← len]; exact big)
          (fun i v hv => SS.strs_at hi i v (by rw [Array.getElem?_toList]; exact hv)) (items.size - 0) 0 _ (by omega) (Nat.zero_le _) ⟨⟨_, Heap.get?_push_size _ rfl, rfl, rfl⟩, (hl1.push _)⟩ ?z ?r
        case n =>
          rw [szP]
          simp only [List.mem_cons, List.not_mem_nil, or_false, not_or]
          exact ⟨Nat.ne_of_lt (Nat.lt_succ_self _), Nat.ne_of_gt ltl⟩
        case z =>
          obtain ⟨D, q1, q2⟩ := (setTx_fresh (prog := prog) (w := w) (h := s.heap)).ex
          exact ⟨D, Heap.get?_push_of_some _ q1, q2⟩
        case r =>
          intro s' mv hS'
          obtain ⟨h', g', d', tk', os'⟩ := s'
          obtain rfl : g' = s.gens := mv.gens
          obtain rfl : d' = s.drawn := mv.drawn
          obtain rfl : os' = s.os := mv.os
          refine wpAny_pure ?_
          show wpAny _ _ (ret Value.none) _ _ _
          refine wpAny_pure ⟨rfl, h', tk', rfl, hS', fun b o hb e => mv.heap b o ?_ (Heap.get?_push_of_some _ (Heap.get?_push_of_some _ e))⟩
          rw [szP]
          simp only [List.mem_cons, List.not_mem_nil, or_false, not_or]
          exact ⟨Nat.ne_of_lt hb, Nat.ne_of_lt (Nat.lt_succ_of_lt hb)⟩
      · cases r₂ with
        | error e => exact hr₂
        | ok fl₂ =>
          cases fl₂ with
          | ret r =>
            obtain ⟨rfl, h', tk, rfl, hS', hk'⟩ := hr₂
            repeat (any_goals (first | assumption | wp_step))
            exact h _ _ hS' hk'
          | _ => exact hr₂.elim
    | _ => exact hr.elim
set_option maxHeartbeats 3200000 in
theorem setTx_of_list {E : Value → Shared → Prop} {s : Shared} {l : Addr} {items : Array Value} {xs : List Str} {Q : Value → Shared → Prop} (hh : A.handled = none) (hl : s.heap.IsList l items) (hi : PyProof.Rows.StrsAre items.toList xs) (big : xs.length + 1 < scanBound)
    (h : ∀ (h' : Heap) (tk : Nat), SetTx prog w h' s.heap.objs.size (onceR xs) →
      (∀ b o, b < s.heap.objs.size → s.heap.get? b = some o → h'.get? b = some o) → Q (.ref s.heap.objs.size) { s with heap := h', toks := tk }) :
    wpAny (model prog w) A (call (.type "set") [.ref l]) Q E s := by
  obtain ⟨c, tl, hmro⟩ := PySem.F.called_set.mro
  have hmade := PySem.F.called_set.made
  have hsub := PySem.F.called_set.sub
  refine wpAny_call (codeAny_of_tree ?_)
  show wpAny _ _ (callAny (.type "set") _) _ _ _
  refine wpAny_pure ⟨Code.quiet_builtin _ (by decide +kernel), codeAny_builtin PySem.F.entry_type_call ?_⟩
  rw [Around.under_plain (weight_type_call_type "set" [.ref l] []) rfl]
  have h1 := PySem.F.called_set.notType
  have h2 := PySem.F.called_set.canCreate
  have hct := PySem.F.typeCall_set_1 (.ref l)
  repeat (any_goals (first | assumption | wp_step))
  refine codeAny_mono (code_set_led1 (.ref l) (E := E) (Q₁ := fun obj s₁ => obj = .ref s.heap.objs.size ∧ s₁ = { s with heap := s.heap.push (setL w) }) ⟨rfl, rfl⟩) fun r s₁ hr => ?_
  cases r with
  | error e => exact hr
  | ok fl =>
    cases fl with
    | ret obj =>
      obtain ⟨rfl, rfl⟩ := hr
      have hS : (s.heap.push (setL w)).get? s.heap.objs.size = some (setL w) := Heap.get?_push_size _ rfl
      have hT : Shared.TypeIs { s with heap := s.heap.push (setL w) } (.ref s.heap.objs.size) "set" := ⟨_, hS, rfl⟩
      have hli := PySem.F.called_set.init.lookup
      have hbi := PySem.F.called_set.init.bind (.ref s.heap.objs.size)
      repeat (any_goals (first | assumption | wp_step))
      refine codeAny_mono (codeAny_call_builtin (R := wants (fun r s₂ => r = .none ∧ ∃ h' tk, s₂ = { s with heap := h', toks := tk } ∧
          SetTx prog w h' s.heap.objs.size (onceR xs) ∧
          (∀ b o, b < s.heap.objs.size → s.heap.get? b = some o → h'.get? b = some o)) E) PySem.F.called_set.init.plain PySem.F.entry_set_init (check_set_init_1 hT ?_)) fun r₂ s₂ hr₂ => ?_
      · obtain ⟨⟨ocls, odict, odata, oslots⟩, hol, hcl, nl, hdl⟩ := hl
        simp only at hcl hdl
        subst hcl; subst hdl
        have hol' : (s.heap.push (setL w)).get? l = some { cls := .type "list", dict := odict, data := .seq items nl, slots := oslots } := Heap.get?_push_of_some _ hol
        have hsls := PySem.F.sub_list_set
        have hslf := PySem.F.sub_list_frozenset
        have hne : (Value.type "list" == Value.type "dict") = false := by decide
        have hl1 : (s.heap.push (setL w)).IsList l items := ⟨_, hol', rfl, nl, rfl⟩
        unfold Builtin.«set.__init__» noKeywords Builtin.Frozenset.updateFrom
        generalize hPI : pyIter = PI
        wp_walk
        subst hPI
        refine wpAny_pyIter_list hl1 ?_
        refine wpAny_bind (wpAny_runValue ?_)
        have ltl : l < s.heap.objs.size := Heap.lt_size hol
        have szP : (s.heap.push (setL w)).objs.size = s.heap.objs.size + 1 := Heap.size_push ..
        have hh3 : A.in1.in1.in1.handled = none := hh
        have neI : l ≠ (s.heap.push (setL w)).objs.size := by rw [szP]; exact Nat.ne_of_lt (Nat.lt_succ_of_lt ltl)
        have len : xs.length = items.size := by rw [← StrsAre.len_eq hi, Array.length_toList]
        refine setTx_loop ((Walks.list hh3 _ l neI items).toS) s.heap.objs.size ?n xs len (by rw [← len]; exact big)
          (fun i v hv => SS.strs_at hi i v (by rw [Array.getElem?_toList]; exact hv)) (items.size - 0) 0 _ (by omega) (Nat.zero_le _) ⟨⟨_, Heap.get?_push_size _ rfl, rfl, rfl⟩, (hl1.push _)⟩ ?z ?r
        case n =>
          rw [szP]
          simp only [List.mem_cons, List.not_mem_nil, or_false, not_or]
          exact ⟨Nat.ne_of_lt (Nat.lt_succ_self _), Nat.ne_of_gt ltl⟩
        case z =>
          obtain ⟨D, q1, q2⟩ := (setTx_fresh (prog := prog) (w := w) (h := s.heap)).ex
          exact ⟨D, Heap.get?_push_of_some _ q1, q2⟩
        case r =>
          intro s' mv hS'
          obtain ⟨h', g', d', tk', os'⟩ := s'
          obtain rfl : g' = s.gens := mv.gens
          obtain rfl : d' = s.drawn := mv.drawn
          obtain rfl : os' = s.os := mv.os
          refine wpAny_pure ?_
          show wpAny _ _ (ret Value.none) _ _ _
          refine wpAny_pure ⟨rfl, h', tk', rfl, hS', fun b o hb e => mv.heap b o ?_ (Heap.get?_push_of_some _ (Heap.get?_push_of_some _ e))⟩
          rw [szP]
          simp only [List.mem_cons, List.not_mem_nil, or_false, not_or]
          exact ⟨Nat.ne_of_lt hb, Nat.ne_of_lt (Nat.lt_succ_of_lt hb)⟩
      · cases r₂ with
        | error e => exact hr₂
        | ok fl₂ =>
          cases fl₂ with
          | ret r =>
            obtain ⟨rfl, h', tk, rfl, hS', hk'⟩ := hr₂
            repeat (any_goals (first | assumption | wp_step))
            exact h _ _ hS' hk'
          | _ => exact hr₂.elim
    | _ => exact hr.elim
end
def strV : Value → Str
  | .str k _ => k
  | _ => Str.empty
theorem strs_are : ∀ vs : List Value, (∀ v ∈ vs, ∃ k tk, v = Value.str k tk) → StrsAre vs (vs.map strV)
  | [], _ => .nil
  | v :: r, h => by
    obtain ⟨k, tk, rfl⟩ := h v List.mem_cons_self
    exact .cons k tk (strs_are r fun u hu => h u (List.mem_cons_of_mem _ hu))
theorem isStr_shape {P : Program} {w : World} {k : Str} {v : Value} (h : (PySem.strKind P w).is k v = true) : ∃ tk, v = .str k tk := Value.isStrOf_shape h
/-- sorted(s) of a set of texts -/
theorem sorted_setTx {P : Program} {w : World} {A : Around} {E : Value → Shared → Prop} {s : Shared} {a : Addr} {l : List Str} {Q : Value → Shared → Prop} (R : SetTx P w s.heap a l) (nd : l.Nodup) (hh : A.handled = none) (h64 : l.length < 64)
    (hQ : ∀ s' p (out : Array Value) (c : Nat) (ys : List Str), (∀ b o, s.heap.get? b = some o → s'.heap.get? b = some o) → s'.gens = s.gens → s'.os = s.os → s.heap.objs.size ≤ p →
      s'.heap.get? p = some (seqObj "list" out c) → StrsAre out.toList ys → ys.Perm l → sortedS ys = true → Q (.ref p) s') :
    wpAny (model P w) A (call (.builtin "sorted") [.ref a]) Q E s := by
  obtain ⟨D, ho, F, r, ld⟩ := R.ex
  obtain ⟨es, ep, t⟩ := D
  have hsz : es.size = l.length := F.sz
  refine sorted_by (L2.collect_set (A := A.in1) (es := es) (ep := ep) (t := t) hh ⟨_, ho, rfl, rfl⟩ F.fit (by unfold scanBound; omega) r ld fun s1 vs k1 hz g1 o1 pm => ?_)
  have sh : ∀ v ∈ vs, ∃ k tk, v = Value.str k tk := fun v hv => by
    obtain ⟨e, he, q⟩ := List.mem_map.mp (pm.mem_iff.mp hv)
    obtain ⟨⟨k, hk, _⟩, _⟩ := F.el e he
    obtain ⟨tk, z⟩ := isStr_shape hk
    exact ⟨k, tk, by rw [← q, z]⟩
  have len : vs.length = l.length := by rw [pm.length_eq, List.length_map, Array.length_toList]; exact hsz
  have pl : (vs.map strV).Perm l := perm_of_sub nd (fun x hx => by
    obtain ⟨e, he, q⟩ := (F.mem x).mp hx
    obtain ⟨tk, z⟩ := isStr_shape q
    exact List.mem_map.mpr ⟨.str x tk, pm.mem_iff.mpr (List.mem_map.mpr ⟨e, he, z⟩), rfl⟩) (by rw [List.length_map, len]; exact Nat.le_refl _)
  refine ⟨vs.map strV, strs_are vs sh, by rw [len]; exact h64, fun out ys h' c q1 q2 q3 q4 q5 => ?_⟩
  exact hQ _ _ out c ys (fun b o e => q4 b o (k1 b o e)) g1 o1 hz q5 q1 (q2.trans pl) q3
def tSortSet (K : PySem.W.Frag) (ta : TE) : TE := fun σ H Q => ta σ H fun x H1 => ∃ l, ∃ xs : List Str, x = .ref l ∧ (SqT K H1 l (xs.map V.str) ∨ SqL K H1 l (xs.map V.str)) ∧ (onceR xs).length < 64 ∧ xs.length ≤ 1000 ∧
  ∀ (ys : List Str) (p : Addr), ys.Perm (onceR xs) → sortedS ys = true → H1 p = none → Q (.ref p) (upd H1 p (.lst (ys.map V.str)))
theorem pe_sortSet {X : Cx} {a : Expr} {ta : TE} {p p2 q pos : Pos} (hc : X.calm = true) (hg : Gl X "sorted") (hm : X.mg "sorted" = none) (hg2 : Gl X "set") (hm2 : X.mg "set" = none) (ha : PE X a ta)
    (na : starEach [a] X.env = (false, eval a X.env) :: starEach [] X.env := by rfl) : PE X (.Call (.Name "sorted" p) [.Call (.Name "set" p2) [a] [] q] [] pos) (tSortSet X.K ta) := by
  refine ⟨fun pins s σ H Q I h => Call_ (ld_blt I hg hm boot_sorted (PyProof.Rows.callWith_builtin1 (PyProof.Rows.args_cons ?_ rfl) rfl rfl))⟩
  refine Call_ (ld_blt I hg2 hm2 boot_set (PyProof.Rows.callWith_type1 (PyProof.Rows.args_cons (thn (ha.run pins s σ H _ I h) fun v s1 ⟨x, H1, I1, r1, q1⟩ => PyProof.Rows.args_nil ?_) na) na rfl))
  obtain ⟨l, xs, rfl, hq, l64, le, q1⟩ := q1
  cases r1
  have fin : ∀ (h' : Heap) (tk : Nat), SetTx X.prog X.w h' s1.heap.objs.size (onceR xs) → (∀ b o, b < s1.heap.objs.size → s1.heap.get? b = some o → h'.get? b = some o) →
      wpAny (model X.prog X.w) X.A (call (.builtin "sorted") [.ref s1.heap.objs.size]) (fun v s' => ∃ x H2, Inv X pins σ H2 s' ∧ RelV x v ∧ Q x H2) X.xe { s1 with heap := h', toks := tk } := fun h' tk hS hk => by
    have I2 : Inv X pins σ H1 { s1 with heap := h', toks := tk } := I1.kept fun b o e => hk b o (Heap.lt_size e) e
    refine sorted_setTx hS (onceR_nodup xs) (I1.ok.hd hc) l64 fun s' p out c ys k g o hp hgp hi pm hs => ?_
    have hlen : (ys.map V.str).length ≤ sizeLine := by rw [List.length_map, pm.length_eq]; exact small64 l64
    have hn : H1 p = none := I2.hok.fresh hp
    have J : Inv X pins σ (upd H1 p (.lst (ys.map V.str))) { ({ s1 with heap := h', toks := tk } : Shared) with heap := s'.heap, gens := s'.gens, drawn := s'.drawn, toks := s'.toks } :=
      I2.call (ch := []) (Un.laid k hp hn) (I2.hok.laid k hp ⟨hlen, out.toList, c, vals_of_strs hi, hgp⟩) (by rw [g]; exact I2.bare) (fun _ z => nomatch z)
    have e : s' = { ({ s1 with heap := h', toks := tk } : Shared) with heap := s'.heap, gens := s'.gens, drawn := s'.drawn, toks := s'.toks } := by
      cases s'
      cases s1
      cases o
      rfl
    rw [e]
    exact ⟨.ref p, _, J, rfl, q1 ys p pm hs hn⟩
  rcases hq with hq | hq
  · obtain ⟨its, r, pl, hz⟩ := I1.tuple hq
    exact setTx_of_tuple (I1.ok.hd hc) pl (by simpa using strsAre_of r) (by unfold scanBound; omega) fun h' tk hS hk => PyProof.Rows.args_nil (fin h' tk hS hk)
  · obtain ⟨its, r, pl, hz⟩ := I1.list hq
    exact setTx_of_list (I1.ok.hd hc) pl.isList (by simpa using strsAre_of r) (by unfold scanBound; omega) fun h' tk hS hk => PyProof.Rows.args_nil (fin h' tk hS hk)
/-! ### x in d.values(), texts -/
section
variable {prog : Program} {w : World} {A : Around} {E : Value → Shared → Prop} {s : Shared}
theorem plain_ci : plainId "proto.contains_iter" = true := by decide +kernel
theorem entry_ci : entryFor table "proto.contains_iter" = some Builtin.«proto.contains_iter» := entryFor_of_tree (by kernel_rfl)
theorem nocont_vals : typeLookup (.type "dict_values") "__contains__" = pure none := by rw [typeLookup_type, builtinLookup_eq_fast]; kernel_rfl
theorem ci_loop {it d : Addr} {ep : Nat} {vs : List (Key × Value)} {ys : List Str} {z : Str} {t : Tok} (hA : A.handled = none) (hv : ∀ (i : Nat) (p : Key × Value), vs[i]? = some p → ∃ y u, ys[i]? = some y ∧ p.2 = .str y u) (hl : ys.length = vs.length) (hdi : d ≠ it) {R : Result → Shared → Prop} :
    ∀ (n i : Nat) (s : Shared), i + n = vs.length → s.heap.IsValIter it d i vs.length ep → s.heap.DictAt (mixKind prog w) d vs ep → (∀ h', Heap.ExtBut it s.heap h' → R (.ok (.ret (.bool (decide (z ∈ ys.drop i))))) { s with heap := h' }) →
      codeAny (model prog w) A (.builtin "proto.contains_iter" ⟨[.ref it, .str z t], []⟩) R s
  | 0, i, s, hn, hit, hd, hR => by
    refine codeAny_builtin entry_ci ?_
    rw [Around.under_plainId plain_ci]
    unfold Builtin.«proto.contains_iter»
    refine wpAny_bind (wpAny_pyNext_values_end hA hit hd (List.getElem?_eq_none (by omega)) fun h' eb => ?_)
    refine wpAny_bind (wpAny_rule (wpAny_pure ?_))
    have e : ys.drop i = [] := List.drop_eq_nil_of_le (by omega)
    have q := hR h' eb
    rw [e] at q
    exact q
  | n + 1, i, s, hn, hit, hd, hR => by
    refine codeAny_builtin entry_ci ?_
    rw [Around.under_plainId plain_ci]
    unfold Builtin.«proto.contains_iter»
    obtain ⟨p, hp⟩ : ∃ p, vs[i]? = some p := ⟨_, List.getElem?_eq_getElem (by omega)⟩
    obtain ⟨y, u, hy, ev⟩ := hv i p hp
    have ed : ys.drop i = y :: ys.drop (i + 1) := by
      rw [List.drop_eq_getElem_cons (by omega)]
      rw [List.getElem?_eq_getElem (by omega)] at hy
      rw [Option.some.inj hy]
    refine wpAny_bind (wpAny_pyNext_values_item hit hd (k := p.1) (v := p.2) hp fun h' hit' sb => ?_)
    rw [ev]
    refine wpAny_bind ((mixKind prog w).eqBool (a := Sum.inr y) (b := Sum.inr z) (kV_is (k := Sum.inr y) ⟨u, rfl⟩) (kV_is (k := Sum.inr z) ⟨t, rfl⟩) ?_)
    by_cases e : y = z
    · rw [if_pos (by simp [e])]
      refine wpAny_bind (wpAny_rule (wpAny_pure ?_))
      have q := hR h' fun b o hb eo => (sb.2 b hb).trans eo
      rw [ed, decide_eq_true (by rw [e]; exact List.mem_cons_self)] at q
      exact q
    · rw [if_neg (by simp [e])]
      refine wpAny_pure ⟨plainId_quiet plain_ci _, ci_loop hA hv hl hdi n (i + 1) { s with heap := h' } (by omega) hit' (let ⟨o, es, ho, r⟩ := hd; ⟨o, es, (sb.2 d hdi).trans ho, r⟩) fun h2 eb2 => ?_⟩
      have q := hR h2 (fun b o hb eo => eb2 b o hb ((sb.2 b hb).trans eo))
      rw [ed] at q
      have e2 : decide (z ∈ y :: ys.drop (i + 1)) = decide (z ∈ ys.drop (i + 1)) := by
        have : ¬ z = y := fun h => e h.symm
        simp [this]
      rw [e2] at q
      exact q
end
def valsO (v d : Addr) : HO := .ext fun h => h.get? v = some { cls := .type "dict_values", data := .fields #[.ref d] }
/-- d.values(), as a value -/
def tVals (td : TE) : TE := fun σ H Q => td σ H fun x H1 => ∃ (d : Addr) (kvs : List (Key × V)), x = .ref d ∧ H1 d = some (.dK kvs) ∧ ∀ v, H1 v = none → Q (.ref v) (upd H1 v (valsO v d))
theorem pe_vals {X : Cx} {e : Expr} {td : TE} {apos cpos : Pos} (he : PE X e td) (hbase : attributeBase e "values" X.env (eval e X.env) = eval e X.env := by rfl) (hline : (apos.endLine == cpos.line) = true := by rfl) :
    PE X (.Call (.Attribute e "values" apos) [] [] cpos) (tVals td) := by
  refine ⟨fun pins s σ H Q I h => ?_⟩
  refine wpAny_Call_method (T := "dict") (id := "dict.values") hbase rfl hline F.plainAttrs_dict F.slot_dict_values F.type_dict_values (thn (he.run pins s σ H _ I h) ?_)
  rintro u s1 ⟨x, H1, I1, rx, d, kvs, rfl, hd, q⟩
  obtain rfl : u = Value.ref d := rx
  obtain ⟨_, dS, vs, rel, dd⟩ := dk_of I1.hok hd
  refine ⟨dd.typeIs, dd.mapOf.noDict, ?_⟩
  show wpAny _ _ (callWith cpos (.builtin "dict.values") [.ref d] [] []) _ X.xe s1
  refine method_meetsIn F.slot_dict_values F.entry_dict_values rfl (PySem.evalArgs_none ⟨rfl, dd.typeIs, F.args_dict_values_1 _, _, meets_dict_values (mixKind X.prog X.w) d dS, ⟨vs, dd⟩, ?_⟩)
  refine ⟨.ref s1.heap.objs.size, _, I1.laid (t' := s1.toks) (a := s1.heap.objs.size) (o := valsO s1.heap.objs.size d) (fun b ob q => Heap.get?_push_of_some _ q) (Nat.le_refl _) ?_, rfl, q _ (I1.hok.fresh (Nat.le_refl _))⟩
  have e : (s1.heap.push { cls := .type "dict_values", data := .fields #[.ref d] }).get? s1.heap.objs.size = some { cls := .type "dict_values", data := .fields #[.ref d] } := Heap.get?_push_size _ rfl
  exact ⟨e, ⟨_, e⟩, fun h1 h2 p k => k _ p⟩
def rInVals : R2 := fun x y H Q => ∃ (z : Str) (v d : Addr) (kvs : List (Key × V)) (ys : List Str), x = .str z ∧ y = .ref v ∧ H v = some (valsO v d) ∧ H d = some (.dK kvs) ∧ kvs.map (·.2) = ys.map V.str ∧ Q (.bl (decide (z ∈ ys))) H
theorem op_inVals {X : Cx} (hc : X.calm = true) : OpR X (compareOp .In) rInVals := by
  rintro pins s σ H x y vx vy Q I rx ry ⟨z, v, d, kvs, ys, rfl, rfl, hv, hd, hy, q⟩
  obtain ⟨t, rfl⟩ : ∃ t, vx = Value.str z t := rx
  obtain rfl : vy = Value.ref v := ry
  obtain ⟨ev, _, _⟩ := I.hok v _ hv
  obtain ⟨_, dS, vs, rel, o, es, ep, dd⟩ := dk_of I.hok hd
  have dA : s.heap.DictAt (mixKind X.prog X.w) d vs ep := ⟨o, es, dd⟩
  have tv : s.TypeIs (.ref v) "dict_values" := ⟨_, ev, rfl⟩
  have lv : kvs.length = vs.length := Paired.length rel
  have ly : ys.length = vs.length := by
    have := congrArg List.length hy
    rw [List.length_map, List.length_map] at this
    omega
  show wpAny _ _ (contains (.ref v) (.str z t) >>= fun b => pure (Value.bool b)) _ _ s
  refine wpAny_bind ?_
  unfold contains
  refine wpAny_holding ?_
  show wpAny _ _ (specialOf (.ref v) "__contains__" >>= _) _ _ s
  refine wpAny_bind (wpAny_specialOf tv nocont_vals ?_)
  show wpAny _ _ (if ((none : Option Value) == some Value.none) = true then _ else _) _ _ s
  rw [if_neg (by decide)]
  refine wpAny_bind (wpAny_callSpecialUnlessNone?_none tv nocont_vals ?_)
  refine wpAny_bind (wpAny_rule ?_)
  refine wpAny_bind (wpAny_tryCatch (wpAny_pyIter_values (d := d) (knd := mixKind X.prog X.w) ⟨_, ev, rfl, rfl⟩ dA ?_))
  have nvi : d ≠ s.heap.objs.size := Nat.ne_of_lt (Heap.lt_size dd.1)
  refine wpAny_bind (wpAny_runValue (ci_loop (ys := ys) (I.ok.hd hc) ?_ ly nvi vs.length 0 _ (by omega) ⟨_, Heap.get?_push_size _ rfl, rfl, rfl⟩ ?_ fun h' eb => ?_))
  · intro i p hp
    have hi : i < vs.length := (List.getElem?_eq_some_iff.mp hp).1
    obtain ⟨⟨k, v'⟩, hk⟩ : ∃ e, kvs[i]? = some e := ⟨_, List.getElem?_eq_getElem (by omega)⟩
    obtain ⟨u, hu, ru⟩ := kv_get rel hk
    obtain ⟨y, hy'⟩ : ∃ y, ys[i]? = some y := ⟨_, List.getElem?_eq_getElem (by omega)⟩
    have e1 : (kvs.map (·.2))[i]? = some v' := by rw [List.getElem?_map, hk]; rfl
    rw [hy, List.getElem?_map, hy'] at e1
    obtain rfl : V.str y = v' := Option.some.inj e1
    obtain ⟨t2, rfl⟩ := ru
    rw [hp] at hu
    exact ⟨y, t2, hy', by rw [Option.some.inj hu]⟩
  · exact ⟨o, es, Heap.get?_push_of_some _ dd.1, dd.2⟩
  · refine wpAny_pure (wpAny_pure ⟨.bl _, H, I.kept (t' := s.toks) (fun b ob e => eb b ob (Nat.ne_of_lt (Heap.lt_size e)) (Heap.get?_push_of_some _ e)), rfl, ?_⟩)
    rw [List.drop_zero]
    exact q
/-! ### d.setdefault, list(d.values()), walks over lists and tuples -/
namespace Sdf
section
variable {prog : Program} {w : World} {K : Type} [DecidableEq K] {knd : KeyKind prog w K} {A : Around} {E : Value → Shared → Prop} {s : Shared}
theorem sdf_pairs {d : Addr} {kvs : List (K × Value)} {k : K} {key dflt : Value} {Q : Value → Shared → Prop} (hkey : knd.is k key = true) (hm : s.heap.DictOf knd d kvs) (hsz : kvs.length ≤ sizeLine)
    (hthere : ∀ v, valueAt kvs k = some v → Q v { s with toks := s.toks + 1 })
    (hnew : valueAt kvs k = none → ∀ h', h'.DictOf knd d (stored kvs k dflt) → Heap.SameBut d s.heap h' → Q dflt { s with heap := h', toks := s.toks + 1 }) :
    wpAny (model prog w) A (dictSetDefault d key dflt) Q E s := by
  have hm0 := hm.mapOf
  obtain ⟨o, es, ep, ho, hc, hd, hk, hp, hn⟩ := hm
  have hes : es.size ≤ sizeLine := by
    have e1 := hp.length
    have e2 : es.toList.length = es.size := by simp
    omega
  have hf : ∀ x, findBy knd.is es x = valueAt kvs x := fun x => by
    rw [← hp.find x]
    obtain ⟨l⟩ := es
    simp [findBy]
  unfold dictSetDefault
  try with_reducible refine wpAny_holding ?_
  refine wpAny_bind (knd.pyHash hkey ?_)
  refine wpAny_bind (wpAny_dictFind_of (s := { s with toks := s.toks + 1 }) hkey ho hd hk ?_)
  have hidx : (es.findIdx? fun e => knd.is k e.key) = kvs.findIdx? fun kv => decide (kv.1 = k) := by
    rw [← hp.findIdx k]; obtain ⟨l⟩ := es; simp
  cases hi : es.findIdx? fun e => knd.is k e.key with
  | some i =>
    have hfk : valueAt kvs k = (es[i]?).map (·.val) := by rw [← hf k, findBy_of_findIdx?, hi]
    refine wpAny_bind (wpAny_dictEntries (s := { s with toks := s.toks + 1 }) ho hd ?_)
    cases he : es[i]? with
    | none =>
      exfalso
      have := Array.findIdx?_eq_some_iff_findIdx_eq.mp hi
      have hlt : i < es.size := this.1
      rw [Array.getElem?_eq_getElem hlt] at he
      exact nomatch he
    | some e =>
      rw [he] at hfk
      exact wpAny_bind (wpAny_rule (wpAny_pure (hthere e.val hfk)))
  | none =>
    have hfk : valueAt kvs k = none := by rw [← hf k, findBy_of_findIdx?, hi]
    have hnot : k ∉ kvs.map (·.1) := not_mem_of_findIdx_none (hidx ▸ hi)
    have hany : ¬ (kvs.any fun kv => decide (kv.1 = k)) = true := by
      rw [List.any_eq_true]; rintro ⟨kv, hkv, he⟩
      exact hnot (List.mem_map.mpr ⟨kv, hkv, of_decide_eq_true he⟩)
    refine wpAny_bind (wpAny_rule (wpAny_bind (wpAny_updateDictKeys (hz := hes) (s := { s with toks := s.toks + 1 }) ho hd (wpAny_pure (hnew hfk _ ⟨_, _, ep + 1, Heap.get?_update_self _ ho (Obj.isFreed_of_dict (Obj.data_mapDictKeys hd _)),
      hc.mapDictKeys _, Obj.data_mapDictKeys hd _, hk.push hkey _, ?_, ?_⟩ (Heap.SameBut.update ..))))))
    · rw [stored, if_neg hany]
      have := hp.append hkey (knd.hash k) dflt
      obtain ⟨l⟩ := es
      simpa using this
    · rw [stored, if_neg hany, List.map_append, List.nodup_append]
      refine ⟨hn, by simp, ?_⟩
      intro a ha b hb
      simp only [List.map_cons, List.map_nil, List.mem_singleton] at hb
      subst hb
      exact fun e => hnot (e ▸ ha)
theorem meets_sdf (knd : KeyKind prog w K) {k : K} {key : Value} (d : Addr) (hkey : knd.is k key = true) (hd : (d == sysModules) = false) (dflt : Value) :
    MeetsIn prog w (Builtin.«dict.setdefault» ⟨[.ref d, key, dflt], []⟩) (fun _ R s => ∃ kvs, s.heap.DictOf knd d kvs ∧ kvs.length ≤ sizeLine ∧
      (∀ v, valueAt kvs k = some v → R (.ok (.ret v)) { s with toks := s.toks + 1 }) ∧
      (valueAt kvs k = none → ∀ h', h'.DictOf knd d (stored kvs k dflt) → Heap.SameBut d s.heap h' → R (.ok (.ret dflt)) { s with heap := h', toks := s.toks + 1 })) :=
  .of_wp fun A R s ⟨kvs, hm, hz, h1, h2⟩ => by
    unfold Builtin.«dict.setdefault»
    refine wpAny_bind ?_
    unfold Builtin.Dict.keyAndDefault
    refine wpAny_bind (wpAny_notOrdered_dict hm.typeIs ?_)
    show wpAny _ _ (pure (d, key, some dflt)) _ _ s
    refine wpAny_pure ?_
    show wpAny _ _ (if (d == sysModules) = true then _ else (dictSetDefault d key dflt >>= _)) _ _ s
    rw [if_neg (by rw [hd]; exact Bool.false_ne_true)]
    exact wpAny_bind (sdf_pairs hkey hm hz (fun v hv => wpAny_pure ⟨v, rfl, h1 v hv⟩) fun hn h' hm' hs' => wpAny_pure ⟨dflt, rfl, h2 hn h' hm' hs'⟩)
end
section
variable {X : Cx} {pins : List (Addr × Obj)} {σ : L2.St} {H : Hp} {s : Shared} {a : Addr} {A : Around} {E : Value → Shared → Prop}
theorem d_sdf {kvs : List (Key × V)} {k : Key} {z : V} {u r : Value} {Q : Value → Shared → Prop} (I : Inv X pins σ H s) (e : H a = some (.dK kvs)) (lt : kvs.length < sizeLine) (ry : RelV (kV k) u) (rz : RelV z r)
    (h1 : ∀ v w' s', valV kvs k = some v → Inv X pins σ H s' → RelV v w' → Q w' s') (h2 : ∀ s', valV kvs k = none → Inv X pins σ (upd H a (.dK (putK kvs k z))) s' → Q r s') :
    wpAny (model X.prog X.w) A (call (.builtin "dict.setdefault") [.ref a, u, r]) Q E s := by
  obtain ⟨zz, hd, vs, rel, dd⟩ := dk_of I.hok e
  have hz : vs.length ≤ sizeLine := by rw [← rel.length]; exact zz
  refine call_meetsIn PySem.F.slot_dict_setdefault dd.typeIs PySem.F.entry_dict_setdefault (PySem.F.args_dict_setdefault_3 _ _ _) (meets_sdf (mixKind X.prog X.w) a (kV_is ry) hd r) ⟨vs, dd, hz, fun w' hw => ?_, fun hn h' dd' hs => ?_⟩
  · have q := rel.val k
    rw [hw] at q
    cases ev : valV kvs k with
    | none =>
      rw [ev] at q
      exact absurd q (fun z => by cases z)
    | some v =>
      rw [ev] at q
      exact h1 v w' _ ev (I.tok _) q
  · have ev : valV kvs k = none := by
      have q := rel.val k
      rw [hn] at q
      cases ev : valV kvs k with
      | none => rfl
      | some v =>
        rw [ev] at q
        exact absurd q (fun z => by cases z)
    have he : ∃ q, h'.get? a = some q := let ⟨q, _, _, hq, _⟩ := dd'; ⟨q, hq⟩
    have hl : (putK kvs k z).length ≤ sizeLine := by have := length_putK kvs k z; omega
    exact h2 _ ev (d_write I (by rw [e]; exact True.intro) hs he (dk_new hl hd (rel.put k rz) dd'))
end
end Sdf
/-- d.setdefault(k, x) -/
def tSdf (td ty tx : TE) : TE := fun σ H Q => td σ H fun x H1 => ∃ a, x = .ref a ∧ IsD H1 a ∧ ty σ H1 fun y H2 => tx σ H2 fun z H3 => ∃ kvs k, H3 a = some (.dK kvs) ∧ y = kV k ∧ kvs.length < sizeLine ∧
  (∀ v, valV kvs k = some v → Q v H3) ∧ (valV kvs k = none → Q z (upd H3 a (.dK (putK kvs k z))))
theorem pe_sdf {X : Cx} {o e f : Expr} {apos cpos : Pos} {td ty tx : TE} (ho : PE X o td) (he : PE X e ty) (hf : PE X f tx) (m : M2 X o "setdefault" apos e f cpos) : PE X (.Call (.Attribute o "setdefault" apos) [e, f] [] cpos) (tSdf td ty tx) := by
  refine ⟨fun pins s σ H Q I h => ?_⟩
  refine wpAny_Call_method m.base m.few m.line PySem.F.plainAttrs_dict PySem.F.slot_dict_setdefault PySem.F.type_dict_setdefault (thn (ho.run pins s σ H _ I h) fun u s1 ⟨x, H1, I1, rx, a, ex, d, q1⟩ => ?_)
  subst ex
  obtain rfl : u = Value.ref a := rx
  obtain ⟨t1, t2, _⟩ := isD_at I1 d
  refine ⟨t1, t2, ?_⟩
  rw [m.trees]
  refine Calls.callWith_builtin rfl (Calls.evalArgs_plain (Calls.spliced_cons (thn (he.run pins s1 σ H1 _ I1 q1) fun iv s2 ⟨y, H2, I2, ry, q2⟩ =>
    Calls.spliced_cons (thn (hf.run pins s2 σ H2 _ I2 q2) fun fv s3 ⟨z, H3, I3, rz, kvs, k, hd, ey, lt, qa, qb⟩ => Calls.spliced_nil ?_))))
  subst ey
  exact Sdf.d_sdf I3 hd lt ry rz (fun v w' s4 ev I4 rw' => ⟨_, H3, I4, rw', qa v ev⟩) fun s4 ev I4 => ⟨_, _, I4, rz, qb ev⟩
/-- list(d.values()) -/
theorem call_listVals {X : Cx} (hc : X.calm = true) : CallR X (.type "list") (fun xs H Q => ∃ (v d : Addr) (kvs : List (Key × V)), xs = [.ref v] ∧ H v = some (valsO v d) ∧ H d = some (.dK kvs) ∧ ∀ q, H q = none → Q (.ref q) (upd H q (.lst (kvs.map (·.2))))) := by
  rintro pins s σ H xs us Q I r ⟨v, d, kvs, rfl, hv, hd, q⟩
  obtain ⟨u, eu, rx⟩ := vals1 r
  subst eu
  obtain rfl : u = Value.ref v := rx
  obtain ⟨ev, _, _⟩ := I.hok v _ hv
  obtain ⟨z, lo, vs, rk, hdd⟩ := (show ObjOk X.prog X.w H s.heap d (.dK kvs) from I.hok d _ hd)
  obtain ⟨ep, hat⟩ := hdd.dictAt
  have hl : kvs.length = vs.length := Paired.length rk
  refine PySem.W.kdl_call (PySem.W.kdl_values (knd := mixKind X.prog X.w) (kvs := vs) (ep := ep)) (I.ok.hd hc) ⟨⟨_, ev, rfl, rfl⟩, hat⟩ (by rw [← hl]; exact z) fun h' tk acc' c' hkeep hS hacc => ?_
  refine ⟨.ref s.heap.objs.size, upd H s.heap.objs.size (.lst (kvs.map (·.2))), I.laid hkeep (Nat.le_refl _) (show ObjOk X.prog X.w _ _ _ (.lst (kvs.map (·.2))) from ⟨?_, acc'.toList, c', ?_, ?_⟩), rfl, q _ (I.hok.fresh (Nat.le_refl _))⟩
  · rw [List.length_map]; exact z
  · have el : acc'.toList.length = acc'.size := by simp
    refine vals_of_at (by rw [List.length_map, el, hacc.1, hl]) fun j x w h1 h2 => ?_
    obtain ⟨k, hky⟩ := hacc.2 j w (by rw [← Array.getElem?_toList]; exact h2)
    obtain ⟨y, hy, ry⟩ := KV.at' rk hky
    rw [List.getElem?_map, hy] at h1
    rw [← Option.some.inj h1]
    exact ry
  · rw [Array.toArray_toList]; exact hS
/-! a list or a tuple -/
def LT (H : Hp) (a : Addr) (xs : List V) : Prop := H a = some (.lst xs) ∨ H a = some (.tup xs)
theorem LT.by {H H' : Hp} {a : Addr} {xs : List V} (h : LT H a xs) (k : ∀ o, H a = some o → (∀ ps, o ≠ .tbl ps) → H' a = some o) : LT H' a xs := h.imp (fun e => k _ e fun _ z => nomatch z) fun e => k _ e fun _ z => nomatch z
theorem LT.on {H H' : Hp} {a : Addr} {xs : List V} (h : LT H a xs) (s : Same H H') : LT H' a xs := h.imp (fun e => s _ _ e) fun e => s _ _ e
abbrev iSeq (K : PySem.W.Frag) (tl : TE) : TI := fun σ H R => iList K tl σ H R ∨ iTup K tl σ H R
theorem pi_seq {X : Cx} {tg l : Expr} {tl : TE} (hl : PE X l tl) : PI X tg l (iSeq X.K tl) := ⟨fun pins s σ H R I h => h.elim ((pi_list hl).run pins s σ H R I) ((pi_tup hl).run pins s σ H R I)⟩
structure Over (J : It) (xs : List V) (At : Hp → Prop) : Prop where
  go : ∀ i H x, At H → xs[i]? = some x → J.go i H
  yld : ∀ i H y H', At H → J.yld i H y H' → H' = H ∧ xs[i]? = some y
  stop : ∀ i H, At H → xs.length ≤ i → J.stop i H
theorem over_l {K : PySem.W.Frag} {a : Addr} {xs : List V} : Over (Itl K a) xs (fun H => SqL K H a xs) :=
  ⟨fun i H x h e => ⟨xs, x, h, e⟩, fun i H y H' h z => ⟨z.1, z.2 xs h⟩, fun i H h e => ⟨xs, h, e⟩⟩
theorem over_t {K : PySem.W.Frag} {a : Addr} {xs : List V} : Over (Itt K a) xs (fun H => SqT K H a xs) :=
  ⟨fun i H x h e => ⟨xs, x, h, e⟩, fun i H y H' h z => ⟨z.1, z.2 xs h⟩, fun i H h e => ⟨xs, h, e⟩⟩
/-- all(.. for x in xs), its iterator being there -/
theorem all_over {J : It} {At : Hp → Prop} {T : Addr} {xs : List V} {g : TG} {tt : TT} {te : TE} {vs : List Nat} {σ : L2.St} {H : Hp} {Q : VK} (o : Over J xs At) (W : Nat → Hp → Prop) (tg : GxR.TabG H T) (h0 : ∀ H2, GxR.Tabbed T H H2 → W 0 H2) (hl : ∀ i H', i ≤ xs.length → W i H' → At H')
    (step : ∀ i x H' (Go : Hp → Prop), xs[i]? = some x → W i H' → (∀ H4, W (i + 1) H4 → Go H4) → g x (wipe σ vs) H' fun σ2 H2 => wipe σ2 vs = wipe σ vs ∧ tt σ2 H2 fun b H3 => if b = true then te σ2 H3 fun y H4 => ∃ k, y = .bl k ∧ (if k = true then Go H4 else Q (.bl false) H4) else Go H3)
    (done : ∀ H', W xs.length H' → Q (.bl true) H') :
    GxR.TabG H T ∧ ∀ H2, GxR.Tabbed T H H2 → ∃ W : Nat → Nat → Hp → Prop, (∃ m, W 0 m H2) ∧
      GTurns J g tt te vs σ W (fun i m y H' => ∃ k, y = .bl k ∧ (if k = true then ∃ m', m' < m ∧ W (i + 1) m' H' else Q (.bl false) H')) (fun H' => Q (.bl true) H') := by
  refine ⟨tg, fun H2 tb => ⟨fun i m H' => m = xs.length - i ∧ i ≤ xs.length ∧ W i H', ⟨_, rfl, Nat.zero_le _, h0 H2 tb⟩, ?_⟩⟩
  rintro i m H3 ⟨rfl, hi, w3⟩
  by_cases lt : i < xs.length
  · refine .inr ⟨o.go i H3 xs[i] (hl i H3 hi w3) (List.getElem?_eq_getElem lt), fun x H' y => ?_⟩
    obtain ⟨rfl, hx⟩ := o.yld i H3 x H' (hl i H3 hi w3) y
    exact step i x _ (fun H' => ∃ m', m' < xs.length - i ∧ m' = xs.length - (i + 1) ∧ i + 1 ≤ xs.length ∧ W (i + 1) H') hx w3 fun H4 w4 => ⟨_, by omega, rfl, lt, w4⟩
  · have ei : i = xs.length := by omega
    exact .inl ⟨o.stop i H3 (hl i H3 hi w3) (by omega), done H3 (ei ▸ w3)⟩
theorem all_seq {K : PySem.W.Frag} {T l : Addr} {xs : List V} {g : TG} {tt : TT} {te : TE} {vs : List Nat} {σ : L2.St} {H : Hp} {Q : VK} {k : Nat} (h : LT H l xs) (hv : σ[k]? = some (some (.ref l))) (W : Nat → Hp → Prop) (tg : GxR.TabG H T) (h0 : ∀ H2, GxR.Tabbed T H H2 → W 0 H2) (hl : ∀ i H', i ≤ xs.length → W i H' → ∀ o, H l = some o → (∀ ps, o ≠ .tbl ps) → H' l = some o)
    (step : ∀ i x H' (Go : Hp → Prop), xs[i]? = some x → W i H' → (∀ H4, W (i + 1) H4 → Go H4) → g x (wipe σ vs) H' fun σ2 H2 => wipe σ2 vs = wipe σ vs ∧ tt σ2 H2 fun b H3 => if b = true then te σ2 H3 fun y H4 => ∃ k, y = .bl k ∧ (if k = true then Go H4 else Q (.bl false) H4) else Go H3)
    (done : ∀ H', W xs.length H' → Q (.bl true) H') : tAllG T (iSeq K (tVar k)) g tt te vs σ H Q := by
  rcases h with h | h
  · exact .inl ⟨_, hv, l, rfl, ⟨_, SqL.of h⟩, all_over over_l W tg h0 (fun i H' hi w => SqL.of (hl i H' hi w _ h fun _ z => nomatch z)) step done⟩
  · exact .inr ⟨_, hv, l, rfl, ⟨_, SqT.of h⟩, all_over over_t W tg h0 (fun i H' hi w => SqT.of (hl i H' hi w _ h fun _ z => nomatch z)) step done⟩
theorem for_seq {K : PySem.W.Frag} {l : Addr} {xs : List V} {g : TG} {tb : TS} {D : Ends} {σ : L2.St} {H : Hp} {k : Nat} (h : LT H l xs) (hv : σ[k]? = some (some (.ref l))) (Pv : Nat → L2.St → Hp → Prop) (h0 : Pv 0 σ H) (hl : ∀ i σ H', i ≤ xs.length → Pv i σ H' → ∀ o, H l = some o → (∀ ps, o ≠ .tbl ps) → H' l = some o)
    (hs : ∀ i x σ H, xs[i]? = some x → Pv i σ H → g x σ H fun σ2 H2 => tb { D with nx := Pv (i + 1), ct := Pv (i + 1), bk := D.nx } σ2 H2) (hd : ∀ σ H, Pv xs.length σ H → D.nx σ H) : tFor (iSeq K (tVar k)) g tb D σ H := by
  rcases h with h | h
  · exact .inl ⟨_, hv, l, rfl, ⟨_, SqL.of h⟩, for_list Pv h0 (fun i σ' H' hi w => SqL.of (hl i σ' H' hi w _ h fun _ z => nomatch z)) hs hd⟩
  · exact .inr ⟨_, hv, l, rfl, ⟨_, SqT.of h⟩, for_tup Pv h0 (fun i σ' H' hi w => SqT.of (hl i σ' H' hi w _ h fun _ z => nomatch z)) hs hd⟩
/-! ### sorted(..) of a list of data -/
theorem each_unmap {R : Value → PyData → Prop} {f : V × PyData → PyData} : ∀ {es : List (V × PyData)} {us : List Value}, PySem.W.EachIs R us (es.map f) → PySem.W.EachIs (fun v e => R v (f e)) us es
  | [], _, .nil => .nil
  | _ :: _, _, .cons a t => .cons a (each_unmap t)
theorem cr_sortD {X : Cx} (hu : X.A.units + 64 < cLine) : CallR X (.builtin "sorted") (fun vs H Q => ∃ (l : Addr) (es : List (V × PyData)), vs = [.ref l] ∧ SqL X.K H l (es.map (·.1)) ∧ DpAll X.K H (es.map (·.1)) (es.map (·.2)) ∧ PySem.W.AllAlike (es.map (·.2)) ∧ PySem.W.Sortable (es.map (·.2)) ∧
    (∀ e ∈ es, e.2.depth ≤ 60) ∧ ∀ p, H p = none → Q (.ref p) (upd H p (.lst ((keyed es).map (·.1))))) := by
  rintro pins s σ H vs us Q I r ⟨l, es, rfl, hs, dp, al, so, de, q⟩
  obtain rfl := Vals.ref1 r
  obtain ⟨its, rv, hl, hz⟩ := I.list hs
  have hlen : its.length = es.length := by rw [← rv.length, List.length_map]
  have hL : es.length ≤ sizeLine := by rw [← hlen, ← rv.length]; exact hz
  refine PySem.W.sorted_data (R := fun v (e : V × PyData) => RelV e.1 v) (enc := fun e : V × PyData => e.2) hl.isList (each_pairs rv) (each_unmap (each_dp I dp rv)) al so hL (fun b hb => ?_) fun out lo eo => ?_
  · have := de b hb
    omega
  · obtain ⟨c, hc⟩ := sortedAll_at s.heap its out.toArray
    have l2 : ((keyed es).map (·.1)).length ≤ sizeLine := by
      rw [List.length_map, List.length_mergeSort]
      exact hL
    exact ⟨.ref (s.heap.objs.size + 1), upd H (s.heap.objs.size + 1) (.lst ((keyed es).map (·.1))), I.laid (t' := s.toks) (fun b o => sortedAll_old) (Nat.le_succ _) ⟨l2, out, c, pairs_each eo, hc⟩, rfl, q _ (I.hok.fresh (Nat.le_succ _))⟩
/-! their text isn't long -/
theorem toString_neg (i : Int) (h : i < 0) : (toString i).length ≤ (toString (-i)).length + 1 := by
  obtain ⟨n, rfl⟩ : ∃ n : Nat, i = -((n + 1 : Nat) : Int) := ⟨(-i).toNat - 1, by omega⟩
  rw [Int.neg_neg]
  show ("-" ++ toString (n + 1)).length ≤ (toString (n + 1)).length + 1
  rw [String.length_append]
  have : ("-" : String).length = 1 := rfl
  omega
theorem short_big {i : Int} (h0 : -100000000000 < i) (h1 : i < 100000000000) : Short (.int i) 8 0 := by
  have e : (PyData.shown (.int i)).length ≤ 13 := by
    by_cases z : 0 ≤ i
    · exact Nat.le_trans (toString_length_le z (k := 11) (by decide) (by omega)) (by decide)
    · show (Str.ofString (toString i)).length ≤ 13
      have h := toString_length_le (v := -i) (by omega) (k := 11) (by decide) (by omega)
      rw [PySem.ofString_length] at h ⊢
      have := toString_neg i (by omega)
      omega
  refine ⟨?_, rfl, decide_eq_true e, Nat.zero_le _, Nat.zero_le _⟩
  show decide (i.natAbs.log2 < 1920) = true
  refine decide_eq_true ?_
  by_cases z : i.natAbs = 0
  · rw [z]
    decide
  · exact Nat.lt_trans ((Nat.log2_lt z).mpr (show i.natAbs < 2 ^ 40 by omega)) (by decide)
theorem short_lst {n k m : Nat} {ds : List PyData} (h : ∀ d ∈ ds, Short d n k) (l : ds.length * (n + 1) ≤ m) : Short (.list ds) m (k + 1) := by
  obtain ⟨a1, a2, a3, a4, a5⟩ := short_all h
  refine ⟨?_, ?_, ?_, ?_, ?_⟩
  · rw [PyData.showable]; exact a1
  · rw [PyData.hasDict]; exact a2
  · rw [PyData.leavesShort]; exact a3
  · rw [PyData.bulk]; omega
  · rw [PyData.depth]; omega
theorem Short.fits2 {d : PyData} {n k : Nat} (h : Short d n k) (hn : n ≤ 400000) : d.shown.length ≤ sizeLine := by
  have q := PyData.shown_le_bulk 13 (by decide) d h.ls
  have := h.bk
  rw [sizeLine_eq]
  omega
/-! ### sorted(..) of such data -/
theorem cr_sortC {X : Cx} (hu : X.A.units + 64 < cLine) : CallR X (.builtin "sorted") (fun vs H Q => ∃ (l : Addr) (es : List (V × PyData)) (T : Value), vs = [.ref l] ∧ (SqL X.K H l (es.map (·.1)) ∨ SqT X.K H l (es.map (·.1))) ∧ DpAll X.K H (es.map (·.1)) (es.map (·.2)) ∧
    (∀ e ∈ es, e.2.canLay0 = true ∧ e.2.depth ≤ 60 ∧ ∃ x r, e.2 = .tuple (x :: r) ∧ PySem.W.dataType x = T) ∧ (∀ e ∈ es, ∀ f ∈ es, Cs.cmpOk e.2 f.2 = true) ∧ ∀ p, H p = none → Q (.ref p) (upd H p (.lst ((keyed es).map (·.1))))) := by
  rintro pins s σ H vs us Q I r ⟨l, es, T, rfl, hs, dp, ok, cm, q⟩
  obtain rfl := Vals.ref1 r
  obtain ⟨its, rv, To, o, n, hT, ho, hc, hd, hz⟩ : ∃ (its : List Value), Vals (es.map (·.1)) its ∧ ∃ (To : String) (o : Obj) (n : Nat), (To = "list" ∨ To = "tuple") ∧ s.heap.get? l = some o ∧ o.cls = .type To ∧ o.data = .seq its.toArray n ∧ its.length ≤ sizeLine := by
    rcases hs with hs | hs
    · obtain ⟨its, rv, ⟨o, n, e1, e2, e3, e4⟩, hz⟩ := I.list hs
      exact ⟨its, rv, "list", o, n, .inl rfl, e1, e2, e4, by rw [← rv.length]; exact hz⟩
    · obtain ⟨its, rv, ⟨o, e1, e2, n, e3⟩, hz⟩ := I.tuple hs
      exact ⟨its, rv, "tuple", o, n, .inr rfl, e1, e2, e3, by rw [← rv.length]; exact hz⟩
  have hlen : its.length = es.length := by rw [← rv.length, List.length_map]
  have er := each_dp I dp rv
  have lay : ∀ d ∈ es.map (·.2), d.canLay0 = true := fun d hd => by
    obtain ⟨e, he, rfl⟩ := List.mem_map.mp hd
    exact (ok e he).1
  have key : ∀ h', (∀ b ob, s.heap.get? b = some ob → h'.get? b = some ob) → PySem.W.EachIs (fun v d => ∃ as, Reads h' v d as) its (es.map (·.2)) := fun h' k => er.mono fun _ _ ⟨as, r⟩ => ⟨as, PyProof.Rows.Reads.keeps k r⟩
  refine Cs.sorted_seq (κ := fun h' => PySem.W.dataKind h' (es.map (·.2))) hT ho hc hd (by simpa using hz) (fun h' k => ?_) fun h1 h' h2 ep k0 k1 k2 he => ?_
  · refine Cs.sorts (s := { s with heap := h' }) (T := T) (key h' k) lay (fun d hd d' hd' => ?_) (fun d hd => ?_) fun d hd => ?_
    · obtain ⟨e, he, rfl⟩ := List.mem_map.mp hd
      obtain ⟨f, hf, rfl⟩ := List.mem_map.mp hd'
      exact cm e he f hf
    · obtain ⟨e, he, rfl⟩ := List.mem_map.mp hd
      exact (ok e he).2.2
    · obtain ⟨e, he, rfl⟩ := List.mem_map.mp hd
      have := (ok e he).2.1
      show X.A.units + 2 + e.2.depth < cLine
      omega
  · have eo := PySem.W.sortVals_each (κ := PySem.W.dataKind h2 (es.map (·.2))) (R := fun v (e : V × PyData) => RelV e.1 v) (rev := false) (ks := its) (vs := its) (bs := es) (fun e => PySem.W.keyToks e.2) (each_pairs rv)
      (each_unmap (R := fun v d => (PySem.W.dataKind h2 (es.map (·.2))).keyOf v = some (PySem.W.keyToks d)) (f := (·.2)) ((PySem.W.each_mem (key h2 k0)).mono fun v d x => let ⟨⟨as, r⟩, hd⟩ := x; Cs.dk_some lay hd r))
    have vo : Vals ((keyed es).map (·.1)) (PySem.W.sortVals (PySem.W.dataKind h2 (es.map (·.2))) false its its) := pairs_each eo
    have I1 := I.kept (t' := s.toks) k1
    have l2 : ((keyed es).map (·.1)).length ≤ sizeLine := by
      rw [List.length_map, List.length_mergeSort, ← hlen]
      exact hz
    simp only [List.toList_toArray] at he
    exact ⟨.ref h1.objs.size, upd H h1.objs.size (.lst ((keyed es).map (·.1))), I1.laid (t' := s.toks) k2 (Nat.le_refl _) ⟨l2, _, ep, vo, he⟩, rfl, q _ (I1.hok.fresh (Nat.le_refl _))⟩
/-! ### any(..) of a generator expression; list.count of texts -/
def tAnyG (T : Addr) (wi : TI) (g : TG) (tt : TT) (te : TE) (vs : List Nat) : TE := fun σ H Q => wi σ H fun J H1 => GxR.TabG H1 T ∧ ∀ H2, GxR.Tabbed T H1 H2 → ∃ W : Nat → Nat → Hp → Prop, (∃ m, W 0 m H2) ∧
  GTurns J g tt te vs σ W (fun i m y H' => ∃ k, y = .bl k ∧ (if k = true then Q (.bl true) H' else ∃ m', m' < m ∧ W (i + 1) m' H')) (fun H' => Q (.bl false) H')
section
variable {X : Cx} {pins : List (Addr × Obj)} {σ : L2.St}
theorem any_loop {IG : Hp → Shared → Prop} {tn : Nat → Heap → Prop} {fp : List Addr} {W : Nat → Nat → Hp → Prop} {a : Addr} {gn : Nat} {Q : VK} {R : Result → Shared → Prop} (ig : IGok X pins σ a gn IG) (hA : X.A.handled = none) (hd : X.A.depth < recursionLimit)
    (hR : ∀ b H s, Q (.bl b) H → IG H s → R (.ok (.ret (.bool b))) s) : ∀ (n i m : Nat) (H : Hp) (s : Shared),
    GRun X X.A.in1 IG tn fp W (fun i m y H' => ∃ k, y = .bl k ∧ (if k = true then Q (.bl true) H' else ∃ m', m' < m ∧ W (i + 1) m' H')) (fun H' => Q (.bl false) H') gn i m n H s →
    codeAny (model X.prog X.w) X.A (.builtin "any.loop" ⟨[.ref a], []⟩) R s := by
  intro n
  induction n with
  | zero =>
    intro i m H s G
    obtain ⟨_, _, _, _, gs, _, h, _⟩ := G
    exact absurd h (Nat.not_lt_zero _)
  | succ n ih =>
    intro i m H s G
    refine codeAny_builtin F.entry_any_loop ?_
    rw [Around.under_plainId F.plain_any_loop _]
    show wpAny _ X.A.in1 (pyNext (.ref a) >>= _) _ _ s
    refine wpAny_bind (gx_next ig hA hd G (fun v y H' s' i' m' r out I' cont => ?_) fun H' s' fin I' => ?_)
    · obtain ⟨k, rfl, hk⟩ := out
      obtain rfl : v = .bool k := r
      refine wpAny_bind (wpAny_holding (wpAny_truthy_bool ?_))
      refine wpAny_bind (wpAny_letGo ?_)
      cases k with
      | false =>
        obtain ⟨m'', hm, w'⟩ := hk
        exact wpAny_pure ⟨plainId_quiet F.plain_any_loop _, ih (i' + 1) m'' H' s' (cont m'' hm w')⟩
      | true =>
        refine wpAny_bind (wpAny_rule (wpAny_pure ?_))
        exact hR true H' s' hk I'
    · refine wpAny_bind (wpAny_rule (wpAny_pure ?_))
      exact hR false H' s' fin I'
theorem pe_anyG {c T : Addr} {elt tg iter : Expr} {ifs : List Expr} {scope : Scope} {own : List (Str × Nat)} {gpos p pos : Pos} {wi : TI} {g : TG} {tt : TT} {te : TE} {k : Nat}
    (hr : Room (k + 1) X.A) (hgl : Gl X "any") (hm : X.mg "any" = none) (hc : X.calm = true) (hN : X.N.Nodup) (TB : GxR.TabB X.base X.mg c T) (hcode : X.env.code = .ref c) (ok : GOk X.N X.env.scope scope own) (hi : PI X tg iter wi)
    (hg : ∀ (A' : Around) (s3 : Shared) (H3 : Hp) (C : Addr) (code : Value) (fp : List Addr), PG (gxc X A' s3 H3 (genE X scope C code) fp) tg g)
    (ht : ∀ (A' : Around) (s3 : Shared) (H3 : Hp) (C : Addr) (code : Value) (fp : List Addr), Room k A' → PTs (gxc X A' s3 H3 (genE X scope C code) fp) ifs tt)
    (he : ∀ (A' : Around) (s3 : Shared) (H3 : Hp) (C : Addr) (code : Value) (fp : List Addr), Room k A' → PE (gxc X A' s3 H3 (genE X scope C code) fp) elt te)
    (hs : ∀ v, genFold iter X.env v = pure v := by intro _; rfl)
    (hst : starEach [.GeneratorExp elt [⟨tg, iter, ifs, 0⟩] scope gpos] X.env = (false, eval (.GeneratorExp elt [⟨tg, iter, ifs, 0⟩] scope gpos) X.env) :: starEach [] X.env := by rfl) :
    PE X (.Call (.Name "any" p) [.GeneratorExp elt [⟨tg, iter, ifs, 0⟩] scope gpos] [] pos) (tAnyG T wi g tt te (own.map (·.2))) := by
  refine ⟨fun pins s σ H Q I h => wpAny_Call_Name_kw (ld_blt I hgl hm (show bootBuiltins "any" = some (.builtin "any") by decide +kernel) ?_)⟩
  refine PyProof.Rows.callWith_builtin1 ?_ hst (by rfl)
  rw [hst]
  have hA := I.ok.hd hc
  have hf := I.ok.frames
  refine Calls.spliced_cons (gx_mk (Outf := fun W i m y H' => ∃ k, y = .bl k ∧ (if k = true then Q (.bl true) H' else ∃ m', m' < m ∧ W (i + 1) m' H')) (Fin := fun H' => Q (.bl false) H')
    X.A.in1 hA hf (Nat.le_refl _) (by show X.A.units + 1 ≤ _; omega) hr hc hN TB hcode ok hi hg ht he hs I h ?_)
  · intro IG tn fp W a gn m H2 s5 ig hk G
    refine Calls.spliced_nil ?_
    refine call_function_tree F.kind_any F.plain_any F.entry_any (F.args_any1 _) ?_
    unfold Builtin.«any»
    refine wpAny_bind (m := oneArg "any" _) (wpAny_pure ?_)
    refine wpAny_bind (wpAny_pyIter_gen (ig.isgen G.1) ?_)
    exact wpAny_pure ⟨plainId_quiet F.plain_any_loop _, any_loop ig hA (Nat.lt_of_le_of_lt (by omega : X.A.depth ≤ X.A.depth + 3 * (k + 1) + 5) hr.dp) (fun b H s q I' => ⟨.bl b, H, ig.back I', rfl, q⟩) _ _ _ _ _ G⟩
end
theorem any_over {J : It} {At : Hp → Prop} {T : Addr} {xs : List V} {g : TG} {tt : TT} {te : TE} {vs : List Nat} {σ : L2.St} {H : Hp} {Q : VK} (o : Over J xs At) (W : Nat → Hp → Prop) (tg : GxR.TabG H T) (h0 : ∀ H2, GxR.Tabbed T H H2 → W 0 H2) (hl : ∀ i H', i ≤ xs.length → W i H' → At H')
    (step : ∀ i x H' (Go : Hp → Prop), xs[i]? = some x → W i H' → (∀ H4, W (i + 1) H4 → Go H4) → g x (wipe σ vs) H' fun σ2 H2 => wipe σ2 vs = wipe σ vs ∧ tt σ2 H2 fun b H3 => if b = true then te σ2 H3 fun y H4 => ∃ k, y = .bl k ∧ (if k = true then Q (.bl true) H4 else Go H4) else Go H3)
    (done : ∀ H', W xs.length H' → Q (.bl false) H') :
    GxR.TabG H T ∧ ∀ H2, GxR.Tabbed T H H2 → ∃ W : Nat → Nat → Hp → Prop, (∃ m, W 0 m H2) ∧
      GTurns J g tt te vs σ W (fun i m y H' => ∃ k, y = .bl k ∧ (if k = true then Q (.bl true) H' else ∃ m', m' < m ∧ W (i + 1) m' H')) (fun H' => Q (.bl false) H') := by
  refine ⟨tg, fun H2 tb => ⟨fun i m H' => m = xs.length - i ∧ i ≤ xs.length ∧ W i H', ⟨_, rfl, Nat.zero_le _, h0 H2 tb⟩, ?_⟩⟩
  rintro i m H3 ⟨rfl, hi, w3⟩
  by_cases lt : i < xs.length
  · refine .inr ⟨o.go i H3 xs[i] (hl i H3 hi w3) (List.getElem?_eq_getElem lt), fun x H' y => ?_⟩
    obtain ⟨rfl, hx⟩ := o.yld i H3 x H' (hl i H3 hi w3) y
    exact step i x _ (fun H' => ∃ m', m' < xs.length - i ∧ m' = xs.length - (i + 1) ∧ i + 1 ≤ xs.length ∧ W (i + 1) H') hx w3 fun H4 w4 => ⟨_, by omega, rfl, lt, w4⟩
  · have ei : i = xs.length := by omega
    exact .inl ⟨o.stop i H3 (hl i H3 hi w3) (by omega), done H3 (ei ▸ w3)⟩
def eqsV (z : Str) : Value → Bool
  | .str y _ => y == z
  | _ => false
def rCntS (K : PySem.W.Frag) : V → List V → Hp → VK → Prop := fun x xs H Q => ∃ (p : Addr) (ns : List Str) (k : Str), x = .ref p ∧ xs = [.str k] ∧ SqL K H p (ns.map V.str) ∧ Q (.int (ns.count k : Nat)) H
theorem cnt_strs {z : Str} : ∀ {ns : List Str} {us : List Value}, Vals (ns.map V.str) us → us.countP (eqsV z) = ns.count z
  | [], _, .nil => rfl
  | n :: r, _, .cons h t => by
    obtain ⟨u, rfl⟩ : ∃ u, _ = Value.str n u := h
    rw [List.countP_cons, cnt_strs t, List.count_cons]
    rfl
theorem mt_lcountS {X : Cx} : MtR X "list.count" (rCntS X.K) := by
  rintro pins s σ H x xs v us Q I rx rxs ⟨p, ns, k, rfl, rfl, hs, q⟩
  cases rx
  obtain ⟨u, rfl, ru⟩ := rxs.one
  obtain ⟨t, rfl⟩ := ru
  obtain ⟨its, rv, ⟨⟨cls, dd, data, sl⟩, n, ho, hc, hdn, hd⟩, hlen⟩ := I.list hs
  dsimp only at hc hd
  subst hc hd
  refine call_meets PySem.F.slot_list_count ⟨_, ho, rfl⟩ PySem.F.entry_list_count (PySem.F.args_list_count_2 _ _)
    (SeqAt.list_countAt p its.toArray n dd sl (.str k t) (eqsV k)) ⟨ho, fun y hy => ?_, ?_⟩
  · obtain ⟨i, hi⟩ := List.mem_iff_getElem?.mp (show y ∈ its by simpa using hy)
    obtain ⟨w, hw, rw'⟩ := vals_get rv hi
    rw [List.getElem?_map] at hw
    obtain ⟨z, _, rfl⟩ := Option.map_eq_some_iff.mp hw
    obtain ⟨t', rfl⟩ : ∃ t', y = Value.str z t' := rw'
    exact SeqAt.EqAt.str_str z t' k t
  · refine ⟨.int (ns.count k : Nat), H, I.tok _, ⟨s.toks, ?_⟩, q⟩
    show Value.int ((its.toArray.toList.countP (eqsV k) : Nat) : Int) s.toks = _
    rw [List.toList_toArray, cnt_strs rv]
/-! ### rising_names -/
theorem seq_l {K : PySem.W.Frag} : PySem.W.kitAny K (.type "list") [.type "list", .type "tuple"] = some true := by
  simp only [PySem.W.kitAny, kit_ty (show kitB "list" "list" = some true by decide +kernel)]
theorem seq_t {K : PySem.W.Frag} : PySem.W.kitAny K (.type "tuple") [.type "list", .type "tuple"] = some true := by
  simp only [PySem.W.kitAny, kit_ty (show kitB "tuple" "list" = some false by decide +kernel), kit_ty (show kitB "tuple" "tuple" = some true by decide +kernel)]
theorem is_lt {K : PySem.W.Frag} {H : Hp} {a : Addr} {xs : List V} (h : LT H a xs) : ∃ t, TyX K H (.ref a) t ∧ PySem.W.kitAny K t [.type "list", .type "tuple"] = some true := by
  rcases h with h | h
  · exact ⟨_, .base (.lst h), seq_l⟩
  · exact ⟨_, .base (.tup h), seq_t⟩
abbrev clsLT : Paired ClsV [V.ty "list", V.ty "tuple"] [.type "list", .type "tuple"] := .cons (.ty "list") (.cons (.ty "tuple") .nil)
def spRising (Ts : List Addr) : Sp := fun vs H Q _ => ∃ (l : Addr) (xs : List Str) (most : Int), vs = [.ref l, .int most] ∧ LT H l (xs.map V.str) ∧ (∀ y ∈ xs, nameB y = true) ∧ xs.length ≤ 1000 ∧ 1 ≤ (onceR xs).length ∧ ((onceR xs).length : Int) ≤ most ∧ most ≤ 60 ∧ TabsG Ts H ∧
  ∀ (tp : Addr) (ys : List Str) (H' : Hp), ys.Perm (onceR xs) → sortedS ys = true → TB1 Ts H H' → H' tp = some (.tup (ys.map V.str)) → Q (.ref tp) H'
section
variable {P : Program} {w : World} {K : PySem.W.Frag} {mg : Str → Option Value} {base : Heap}
abbrev sRisingN : List Str := ["things", "most", "names", "thing"]
theorem sc_sRising : FnScope sRisingN ["things", "most"] (defScope sRising) := ⟨rfl, rfl, rfl, by decide +kernel, rfl, by decide +kernel, by decide +kernel⟩
theorem ok_rising {f cR T1 T3 fN : Addr} {Ts : List Addr} {dN : FuncData} {oc kV doc pm ct : Value} {od an : Option Addr} {osl : Array (Option Value)}
    (lk : K.lookup f = some ⟨oc, od, .func (PySem.W.fnOf "rising_names" "rising_names" (defArgs sRising) (defBody sRising) (defScope sRising) .none kV doc pm an (.ref cR) ct), osl⟩) (cdI : PySem.W.codeIn K (.ref cR) "rising_names" = true)
    (TB : GxR.TabB base mg cR T3) (i1 : T1 ∈ Ts) (i3 : T3 ∈ Ts) (NM : DefT P w K mg base "is_name" 1 fN dN ["thing"] (spName K T1))
    (mis : mg "isinstance" = none) (mT_list : mg "list" = none) (mT_tuple : mg "tuple" = none) (ml : mg "len" = none) (mal : mg "all" = none) (ms : mg "sorted" = none) (mse : mg "set" = none) :
    FnOk P w K mg base CX0 3 f (PySem.W.fnOf "rising_names" "rising_names" (defArgs sRising) (defBody sRising) (defScope sRising) .none kV doc pm an (.ref cR) ct) ["things", "most"] (spRising Ts) := by
  refine fn_of lk cdI sc_sRising (fun vs H Q E h => ?_) (fun A outer s H vs Q E hr h => ?_)
  · obtain ⟨l, xs, most, rfl, _⟩ := h
    rfl
  · obtain ⟨l, xs, most, rfl, hl, nm, lx, o1, o2, o3, tg, q⟩ := h
    have nd := sc_sRising.nd
    refine ⟨_, pss_cons (ps_if (pt_not (pt_val (pe_callB call_isiT (by rfl) mis (by decide +kernel) (pa_cons (pv 0) (pa_cons (pe_tup (pa_cons (pe_bltn (v := .ty "list") (u := .type "list") (by rfl) mT_list (by decide +kernel) rfl) (pa_cons (pe_bltn (v := .ty "tuple") (u := .type "tuple") (by rfl) mT_tuple (by decide +kernel) rfl) pa_nil))) pa_nil))))) (pss_one ps_never) pss_nil)
      (pss_cons (ps_if (pt_not (pt_val (pe_allG (T := T3) (c := cR) (k := 1) (own := [("thing", 3)]) (g := gName 3) (tt := tYes) (te := tCall (spName K T1) [] E0 (tCons (tVar 3) tNil))
          hr (by rfl) mal rfl nd TB rfl ⟨blkOk_by (N := sRisingN) (sc := defScope sRising) (by decide +kernel), rfl, by decide +kernel, rfl⟩
          (pi_seq (pv 0)) (fun _ _ _ _ _ _ => pg_name (i := 3) nd rfl (Or.inl rfl)) (fun _ _ _ _ _ _ _ => pts_nil) (fun _ _ _ _ _ _ hr' => pe_call NM.ok hr' (by rfl) NM.g NM.kp NM.b .nil pass0 (pa_cons (pv 3) pa_nil))))) (pss_one ps_never) pss_nil)
      (pss_cons (ps_set (i := 2) nd rfl (Or.inl rfl) (pe_callTy call_tuple_of (by rfl) mT_tuple (by decide +kernel) (pa_cons (pe_sortSet rfl (by rfl) ms (by rfl) mse (pv 0)) pa_nil)))
      (pss_cons (ps_if (pt_not (pt_chain op_le op_le pe_int (pe_callB call_len_seq (by rfl) ml PySem.boot_len (pa_cons (pv 2) pa_nil)) (pv 1))) (pss_one ps_never) pss_nil)
      (pss_one (ps_ret (pv 2)))))), ?_⟩
    refine ⟨_, rfl, (by show 2 ≤ sizeLine; decide), fun tq ntq => ?_⟩
    have s0 := @same_new _ _ (.tup [V.ty "list", V.ty "tuple"]) ntq
    have hl0 := hl.on s0
    have tg0 := tabs_sm s0 tg
    have b0 : TB1 Ts H (upd H tq (.tup [V.ty "list", V.ty "tuple"])) := .same tg s0
    obtain ⟨t, ty, kt⟩ := is_lt (K := K) hl0
    refine ⟨_, tq, _, t, _, true, rfl, upd_same, clsLT, ty, kt, _, rfl, iteF ?_⟩
    generalize upd H tq (.tup [V.ty "list", V.ty "tuple"]) = H1 at hl0 tg0 b0
    clear ty kt
    -- all are names
    dsimp only [tNext, tSeq, tIfS, tNot, tB]
    refine all_seq (k := 0) hl0 rfl (fun _ H' => TB1 Ts H1 H') (tg0 T3 i3) (fun H2 tb => TB1.tab tb tg0 i3) (fun i H' _ b o e n => b.2 _ _ e n) ?_ ?_
    · intro i x H' Go hx b go
      rw [List.getElem?_map] at hx
      obtain ⟨y, hy, rfl⟩ := Option.map_eq_some_iff.mp hx
      have ny := nm y (List.mem_of_getElem? hy)
      refine ⟨rfl, yesT ⟨_, rfl, _, rfl, b.1 T1 i1, .inl ⟨y, rfl, small_sz (by have := name_len ny; omega), fun H3 tb => ?_⟩⟩⟩
      rw [ny]
      exact ⟨true, rfl, iteT (go _ (b.tr (.tab tb b.1 i1)))⟩
    · intro H2 b2
      refine ⟨true, rfl, iteF ?_⟩
      have hl2 : LT H2 l (xs.map V.str) := hl0.by fun o e n => b2.2 _ _ e n
      refine ⟨_, rfl, l, xs, rfl, hl2.symm.imp (fun h => SqT.of h) (fun h => SqL.of h), by omega, lx, fun ys p pm so np => ?_⟩
      refine ⟨p, _, rfl, .inl ⟨SqL.of upd_same, fun tp ntp => ?_⟩⟩
      have s3 := (@same_new _ _ (.lst (ys.map V.str)) np).trans (@same_new _ _ (.tup (ys.map V.str)) ntp)
      have ly : ys.length = (onceR xs).length := pm.length_eq
      have z1 : decide ((1 : Int) ≤ ((ys.map V.str).length : Int)) = true := decide_eq_true (by rw [List.length_map, ly]; omega)
      have z2 : decide (((ys.map V.str).length : Int) ≤ most) = true := decide_eq_true (by rw [List.length_map, ly]; omega)
      refine ⟨_, rfl, tp, _, rfl, .inr (SqT.of upd_same), 1, _, rfl, rfl, _, rfl, ?_⟩
      rw [z1]
      refine iteT ⟨_, rfl, _, most, rfl, rfl, _, rfl, ?_⟩
      rw [z2]
      exact iteF ⟨_, rfl, q tp ys _ pm so (b0.tr (b2.tr (.same b2.1 s3))) upd_same⟩
end
theorem inV_iff {x : Str} {ys : List Str} : inV (.str x) (ys.map V.str) = decide (x ∈ ys) := by
  unfold inV
  rw [List.any_map]
  by_cases h : x ∈ ys
  · rw [decide_eq_true h]
    exact List.any_eq_true.mpr ⟨x, h, by show (x == x) = true; simp⟩
  · rw [decide_eq_false h, List.any_eq_false]
    intro y hy z
    have z' : (y == x) = true := z
    exact h (eq_of_beq z' ▸ hy)
theorem all_flat (ys : List Str) : (ys.map V.str).all flatV = true := by
  rw [List.all_map]
  exact List.all_eq_true.mpr fun y _ => rfl
theorem scal_good (e : Ent) (g : Str) : scal e.goodV (.str g) = true := by cases e <;> rfl
/-! ### is_entry_of -/
theorem TB1.of2 {Ts : List Addr} {T1 T2 : Addr} {H H' : Hp} (g : TabsG Ts H) (i1 : T1 ∈ Ts) (i2 : T2 ∈ Ts) (b : TB2 T1 T2 H H') : TB1 Ts H H' := by
  have n1 : ∀ {a o}, H a = some o → (∀ ps, o ≠ .tbl ps) → a ≠ T1 ∧ a ≠ T2 := fun {a o} e n => by
    obtain ⟨p1, e1, _⟩ := g T1 i1
    obtain ⟨p2, e2, _⟩ := g T2 i2
    exact ⟨ne_of e e1 (n p1), ne_of e e2 (n p2)⟩
  refine ⟨fun T hT => ?_, fun a o e n => b.1 a o e (n1 e n).1 (n1 e n).2, fun a n => ?_, fun a o e n => b.1 a o e (fun z => n (z ▸ i1)) fun z => n (z ▸ i2)⟩
  · by_cases z1 : T = T1
    · rw [z1]; exact b.2.1
    · by_cases z2 : T = T2
      · rw [z2]; exact b.2.2
      · obtain ⟨ps, e, ok⟩ := g T hT
        exact ⟨ps, b.1 T _ e z1 z2, ok⟩
  · cases e : H a with
    | none => rfl
    | some o =>
      by_cases z1 : a = T1
      · obtain ⟨ps, e1, _⟩ := b.2.1
        rw [z1, e1] at n
        cases n
      · by_cases z2 : a = T2
        · obtain ⟨ps, e1, _⟩ := b.2.2
          rw [z2, e1] at n
          cases n
        · rw [b.1 a o e z1 z2] at n
          cases n
theorem take_sn {α : Type} {l : List α} {i : Nat} {x : α} (h : l[i]? = some x) : l.take (i + 1) = l.take i ++ [x] := by
  rw [List.take_add_one, h]
  rfl
def goodOk (e : Ent) (G : List Str) : Bool := match e.goodV with | .str g => decide (g ∈ G) | _ => true
def ofB (e : Ent) (P G : List Str) : Bool := goodOk e G && e.places.all fun y => decide (y ∈ P)
def spIsEntryOf (Ts : List Addr) : Sp := fun vs H Q _ => ∃ (a pl gl : Addr) (e : Ent) (P G : List Str), vs = [.ref a, .ref pl, .ref gl] ∧ H a = some (.tup e.vals) ∧ e.Fine ∧ H pl = some (.tup (P.map V.str)) ∧ H gl = some (.tup (G.map V.str)) ∧ TabsG Ts H ∧
  ∀ H', TB1 Ts H H' → Q (.bl (ofB e P G)) H'
theorem goodV_cases (e : Ent) : e.goodV = .non ∨ ∃ g, e.goodV = .str g := by cases e <;> first | exact .inl rfl | exact .inr ⟨_, rfl⟩
section
variable {P : Program} {w : World} {K : PySem.W.Frag} {mg : Str → Option Value} {base : Heap}
abbrev sIsEntryOfN : List Str := ["thing", "places", "goods", "good", "place"]
theorem sc_sIsEntryOf : FnScope sIsEntryOfN ["thing", "places", "goods"] (defScope sIsEntryOf) := ⟨rfl, rfl, rfl, by decide +kernel, rfl, by decide +kernel, by decide +kernel⟩
theorem ok_isEntryOf {f cR T1 T2 T4 fI fG fP : Addr} {Ts : List Addr} {dI dG dP : FuncData} {oc kV doc pm ct : Value} {od an : Option Addr} {osl : Array (Option Value)}
    (lk : K.lookup f = some ⟨oc, od, .func (PySem.W.fnOf "is_entry_of" "is_entry_of" (defArgs sIsEntryOf) (defBody sIsEntryOf) (defScope sIsEntryOf) .none kV doc pm an (.ref cR) ct), osl⟩) (cdI : PySem.W.codeIn K (.ref cR) "is_entry_of" = true)
    (TB : GxR.TabB base mg cR T4) (i1 : T1 ∈ Ts) (i2 : T2 ∈ Ts) (i4 : T4 ∈ Ts) (IE : DefT P w K mg base "is_entry" 4 fI dI ["thing"] (spIsEntry T1 T2)) (GO : DefT P w K mg base "good_of" 1 fG dG ["entry"] spGood) (PO : DefT P w K mg base "places_of" 1 fP dP ["entry"] spPlaces)
    (mal : mg "all" = none) :
    FnOk P w K mg base CX0 5 f (PySem.W.fnOf "is_entry_of" "is_entry_of" (defArgs sIsEntryOf) (defBody sIsEntryOf) (defScope sIsEntryOf) .none kV doc pm an (.ref cR) ct) ["thing", "places", "goods"] (spIsEntryOf Ts) := by
  refine fn_of lk cdI sc_sIsEntryOf (fun vs H Q E h => ?_) (fun A outer s H vs Q E hr h => ?_)
  · obtain ⟨a, pl, gl, e, Ps, G, rfl, _⟩ := h
    rfl
  · obtain ⟨a, pl, gl, e, Ps, G, rfl, ha, fi, hp, hg, tg, q⟩ := h
    have nd := sc_sIsEntryOf.nd
    have hr1 : Room 1 _ := hr.mono (by decide)
    refine ⟨_, pss_cons (ps_if (pt_not (pt_val (pe_call IE.ok hr (by rfl) IE.g IE.kp IE.b .nil pass0 (pa_cons (pv 0) pa_nil)))) (pss_one (ps_ret pe_bl)) pss_nil)
      (pss_cons (ps_set (i := 3) nd rfl (Or.inl rfl) (pe_call GO.ok hr1 (by rfl) GO.g GO.kp GO.b .nil pass0 (pa_cons (pv 0) pa_nil)))
      (pss_cons (ps_if (PW.pt (pw_and (pt_cmpR op_notN (pv 3) pe_non (by rfl)) (pw_and1 (pt_cmpR op_notIn_seq (pv 3) (pv 2) (by rfl))))) (pss_one (ps_ret pe_bl)) pss_nil)
      (pss_one (ps_ret (pe_allG (T := T4) (c := cR) (k := 1) (own := [("place", 4)]) (g := gName 4) (tt := tYes) (te := tOp (rIn K false) (tVar 4) (tVar 1))
          (hr.mono (by decide)) (by rfl) mal rfl nd TB rfl ⟨blkOk_by (N := sIsEntryOfN) (sc := defScope sIsEntryOf) (by decide +kernel), rfl, by decide +kernel, rfl⟩
          (pi_tup (pe_call PO.ok hr1 (by rfl) PO.g PO.kp PO.b .nil pass0 (pa_cons (pv 0) pa_nil))) (fun _ _ _ _ _ _ => pg_name (i := 4) nd rfl (Or.inl rfl)) (fun _ _ _ _ _ _ _ => pts_nil) (fun _ _ _ _ _ _ _ => pe_cmpR op_in_seq (pv 4) (pv 1) (by rfl))))))), ?_⟩
    refine ⟨_, rfl, a, e, rfl, ha, fi, tg T1 i1, tg T2 i2, fun H1 b => ?_⟩
    have b1 := TB1.of2 tg i1 i2 b
    have ha1 := b1.tk _ _ ha
    have hp1 := b1.tk _ _ hp
    have hg1 := b1.tk _ _ hg
    refine ⟨true, rfl, iteF ⟨_, rfl, a, e, rfl, ha1, ?_⟩⟩
    -- the places
    have last : goodOk e G = true → tRet (tAllG T4 (iTup K (tCall spPlaces [] E0 (tCons (tVar 0) tNil))) (gName 4) tYes (tOp (rIn K false) (tVar 4) (tVar 1)) [4]) { nx := fun x H' => Q V.non H', rt := Q } [some (.ref a), some (.ref pl), some (.ref gl), some e.goodV, none] H1 := fun go => by
      refine ⟨_, rfl, a, e, rfl, ha1, fun tp H4 s4 ht => ⟨tp, rfl, ⟨_, SqT.of ht⟩, ?_⟩⟩
      have b4 := b1.tr (.same b1.1 s4)
      refine all_over (over_t (K := K) (a := tp) (xs := e.places.map V.str)) (fun i H' => TB1 Ts H4 H' ∧ (e.places.take i).all (fun y => decide (y ∈ Ps)) = true) (b4.1 T4 i4) (fun H2 tb => ⟨.tab tb b4.1 i4, rfl⟩) (fun i H' _ b => SqT.of (b.1.tk _ _ ht)) ?_ ?_
      · intro i x H' Go hx b go'
        rw [List.getElem?_map] at hx
        obtain ⟨y, hy, rfl⟩ := Option.map_eq_some_iff.mp hx
        refine ⟨rfl, yesT ⟨_, rfl, _, rfl, pl, Ps.map V.str, rfl, .inr (SqT.of (b.1.tk _ _ (s4 _ _ hp1))), rfl, all_flat _, _, rfl, ?_⟩⟩
        rw [inV_iff]
        by_cases z : y ∈ Ps
        · rw [decide_eq_true z]
          refine iteT (go' _ ⟨b.1, ?_⟩)
          rw [take_sn hy, List.all_append, b.2]
          simp [z]
        · rw [decide_eq_false z]
          refine iteF ?_
          have := q H' (b4.tr b.1)
          rw [show ofB e Ps G = false by
            unfold ofB
            rw [go, Bool.true_and, List.all_eq_false]
            exact ⟨y, List.mem_of_getElem? hy, by simp [z]⟩] at this
          exact this
      · intro H' b
        have := q H' (b4.tr b.1)
        rw [show ofB e Ps G = true by
          unfold ofB
          rw [go, Bool.true_and, ← b.2, List.length_map, List.take_length]] at this
        exact this
    rcases goodV_cases e with eg | ⟨g, eg⟩
    · have go : goodOk e G = true := by unfold goodOk; rw [eg]
      refine ⟨_, rfl, rfl, ?_⟩
      have := last go
      rw [eg] at this ⊢
      exact ⟨_, rfl, iteF this⟩
    · have go : goodOk e G = decide (g ∈ G) := by unfold goodOk; rw [eg]
      refine ⟨_, rfl, rfl, ?_⟩
      rw [eg] at last ⊢
      refine ⟨_, rfl, iteT ⟨_, rfl, _, rfl, gl, G.map V.str, rfl, .inr (SqT.of hg1), rfl, all_flat _, _, rfl, ?_⟩⟩
      rw [inV_iff]
      by_cases z : g ∈ G
      · rw [decide_eq_true z]
        exact iteF (last (by rw [go, decide_eq_true z]))
      · rw [decide_eq_false z]
        refine iteT ?_
        have := q H1 b1
        rw [show ofB e Ps G = false by unfold ofB; rw [go, decide_eq_false z]; rfl] at this
        exact this
end
/-! ### own_entries, in_order, house_of -/
theorem ents_pairs {H : Hp} : ∀ {pr : List (Addr × Ent)}, (∀ x ∈ pr, H x.1 = some (.tup x.2.vals)) → EntsAt H (pr.map (·.1)) (pr.map (·.2))
  | [], _ => .nil
  | x :: r, h => .cons (h x List.mem_cons_self) (ents_pairs fun y hy => h y (List.mem_cons_of_mem _ hy))
def prV (x : Addr × Ent) : V × PyData := (.ref x.1, ordD x.2)
/-- entries in their order -/
def ordLe (a b : Addr × Ent) : Bool := PySem.W.dataLe false id (ordD a.2) (ordD b.2)
def sortE (pr : List (Addr × Ent)) : List (Addr × Ent) := pr.mergeSort ordLe
theorem keyed_prV (pr : List (Addr × Ent)) : keyed (pr.map prV) = (sortE pr).map prV := (List.map_mergeSort (f := prV) (s := PySem.W.dataLe false fun e : V × PyData => e.2) (r := ordLe) (l := pr) fun a _ b _ => rfl).symm
theorem sortE_p (pr : List (Addr × Ent)) : (sortE pr).Perm pr := List.mergeSort_perm _ _
theorem ord_inj {e g : Ent} (h : PySem.W.keyToks (ordD e) = PySem.W.keyToks (ordD g)) : e.name = g.name := by
  have h' : ([.inl 1, .inl e.moment, .inl 1, .inl e.rank, .inl 1, .inr e.name.cps.toList, .inl 0] : List (Int ⊕ List Nat)) = [.inl 1, .inl g.moment, .inl 1, .inl g.rank, .inl 1, .inr g.name.cps.toList, .inl 0] := by
    simpa [ordD, PySem.W.keyToks, PySem.W.keyToksAll] using h
  simp only [List.cons.injEq, Sum.inr.injEq, Sum.inl.injEq, true_and, and_true] at h'
  exact str_ext h'.2.2
theorem dle_iff (a b : PyData) : PySem.W.dataLe false id a b = !PySem.W.dataLt b a := rfl
theorem dlt_asym {a b : PyData} (h : PySem.W.dataLt a b = true) : PySem.W.dataLt b a = false := by
  cases e : PySem.W.dataLt b a with
  | false => rfl
  | true =>
    have := PyProof.Rows.lex_trans (O := PyProof.Rows.itemOrd) _ _ _ h e
    rw [PyProof.Rows.lex_irrefl] at this
    cases this
theorem dle_tr (a b c : PyData) (h1 : PySem.W.dataLe false id a b = true) (h2 : PySem.W.dataLe false id b c = true) : PySem.W.dataLe false id a c = true := by
  rw [dle_iff] at *
  have g1 : PySem.W.dataLt b a = false := by simpa using h1
  have g2 : PySem.W.dataLt c b = false := by simpa using h2
  cases e : PySem.W.dataLt c a with
  | false => rfl
  | true =>
    rcases PyProof.Rows.lex_negTrans (O := PyProof.Rows.itemOrd) _ (PySem.W.keyToks b) _ e with z | z
    · exact absurd (g2.symm.trans z) (by decide)
    · exact absurd (g1.symm.trans z) (by decide)
theorem dle_tot (a b : PyData) : (PySem.W.dataLe false id a b || PySem.W.dataLe false id b a) = true := by
  rw [dle_iff, dle_iff]
  cases e : PySem.W.dataLt b a with
  | false => rfl
  | true => rw [dlt_asym e]; rfl
theorem ordLe_tr (a b c : Addr × Ent) (h1 : ordLe a b = true) (h2 : ordLe b c = true) : ordLe a c = true := dle_tr _ _ _ h1 h2
theorem ordLe_tot (a b : Addr × Ent) : (ordLe a b || ordLe b a) = true := dle_tot _ _
theorem sortE_perm {a b : List (Addr × Ent)} (p : a.Perm b) (inj : ∀ x ∈ a, ∀ y ∈ a, x.2.name = y.2.name → x = y) : sortE a = sortE b := by
  have pa := sortE_p a
  have pb := sortE_p b
  refine List.Perm.eq_of_pairwise (le := fun x y => ordLe x y = true) (fun x y hx hy h1 h2 => ?_) (List.pairwise_mergeSort ordLe_tr ordLe_tot a) (List.pairwise_mergeSort ordLe_tr ordLe_tot b) (pa.trans (p.trans pb.symm))
  unfold ordLe at h1 h2
  rw [dle_iff] at h1 h2
  have g1 : PySem.W.dataLt (ordD y.2) (ordD x.2) = false := by simpa using h1
  have g2 : PySem.W.dataLt (ordD x.2) (ordD y.2) = false := by simpa using h2
  exact inj x (pa.mem_iff.mp hx) y (p.mem_iff.mpr (pb.mem_iff.mp hy)) (ord_inj (PyProof.Rows.lex_total (O := PyProof.Rows.itemOrd) _ _ g2 g1))
def spInOrder : Sp := fun vs H Q _ => ∃ (l : Addr) (pr : List (Addr × Ent)), vs = [.ref l] ∧ H l = some (.lst (pr.map fun x => V.ref x.1)) ∧ (∀ x ∈ pr, H x.1 = some (.tup x.2.vals)) ∧
  ∀ (tp : Addr) (H' : Hp), H tp = none → Same H H' → H' tp = some (.tup ((sortE pr).map fun x => V.ref x.1)) → Q (.ref tp) H'
section
variable {P : Program} {w : World} {K : PySem.W.Frag} {mg : Str → Option Value} {base : Heap}
abbrev sInOrderN : List Str := ["entries"]
theorem sc_sInOrder : FnScope sInOrderN ["entries"] (defScope sInOrder) := ⟨rfl, rfl, rfl, by decide +kernel, rfl, by decide +kernel, by decide +kernel⟩
theorem ok_inOrder {f fO : Addr} {fd dO : FuncData} (F : Fun K "in_order" "in_order" sInOrder f fd) (O : DefT P w K mg base "order_of" 1 fO dO ["entry"] spOrd) (ms : mg "sorted" = none) (mt : mg "tuple" = none) : FnOk P w K mg base CX0 4 f fd ["entries"] spInOrder := by
  refine F.ok sc_sInOrder (fun vs H Q E h => ?_) (fun cdv A outer s H vs Q E hr h => ?_)
  · obtain ⟨l, pr, rfl, _⟩ := h
    rfl
  · obtain ⟨l, pr, rfl, hl, hE, q⟩ := h
    have nd := sc_sInOrder.nd
    have hr3 : Room 3 _ := hr
    have nd := sc_sInOrder.nd
    have hr3 : Room 3 _ := hr.mono (by decide)
    refine ⟨_, pss_one (ps_ret (pe_callTy call_tuple_of (by rfl) mt (by decide +kernel) (pa_cons (pe_callBK (cr_sortK O.ok hr3 O.b) (by rfl) ms (by decide +kernel) (pa_cons (pv 0) pa_nil) (pk_cons (pe_glob (v := .ref fO) (by rfl) O.g rfl) pk_nil)) pa_nil))), ?_⟩
    refine ⟨_, rfl, l, pr.map prV, rfl, rfl, SqL.of (by rw [hl, List.map_map]; rfl), ?_, .inl ?_, ?_, ?_, fun a3 H10 na3 s3 h3 => ⟨a3, _, rfl, .inl ⟨SqL.of h3, fun t3 nt3 => ?_⟩⟩⟩
    · intro d hd d' hd'
      rw [List.map_map] at hd hd'
      obtain ⟨x, _, rfl⟩ := List.mem_map.mp hd
      obtain ⟨y, _, rfl⟩ := List.mem_map.mp hd'
      exact ord_alike x.2 y.2
    · intro d hd
      rw [List.map_map] at hd
      obtain ⟨x, _, rfl⟩ := List.mem_map.mp hd
      exact ⟨_, _, rfl⟩
    · intro e he
      obtain ⟨x, _, rfl⟩ := List.mem_map.mp he
      show 1 ≤ 60
      decide
    · intro e he H1 sm Q1 hq
      obtain ⟨x, hx, rfl⟩ := List.mem_map.mp he
      exact ⟨x.1, x.2, rfl, sm _ _ (hE x hx), fun tp H2 sm2 h2 => hq _ _ sm2 (ord_dp h2)⟩
    · rw [keyed_prV]
      refine q t3 _ ?_ (s3.trans (same_new nt3)) ?_
      · cases e : H t3 with
        | none => rfl
        | some o => exact absurd (s3 _ _ e) (by rw [nt3]; intro z; cases z)
      · rw [upd_same, List.map_map]
        rfl
end
/-! ### own_entries -/
theorem snocInd {α : Type} {p : List α → Prop} (h0 : p []) (h1 : ∀ r y, p r → p (r ++ [y])) (l : List α) : p l := by
  have : ∀ m : List α, p m.reverse := fun m => by
    induction m with
    | nil => exact h0
    | cons y r ih => rw [List.reverse_cons]; exact h1 _ _ ih
  have := this l.reverse
  rwa [List.reverse_reverse] at this
theorem nodup_of_map {α β : Type} {f : α → β} {l : List α} (h : (l.map f).Nodup) : l.Nodup := (List.pairwise_map.mp h).imp fun h z => h (congrArg f z)
theorem perm_of_in {α : Type} {l ks : List α} (n1 : l.Nodup) (n2 : ks.Nodup) (h : ∀ x, x ∈ l ↔ x ∈ ks) : l.Perm ks := by
  classical
  induction l generalizing ks with
  | nil =>
    cases ks with
    | nil => exact .nil
    | cons y r => exact nomatch (h y).mpr List.mem_cons_self
  | cons x r ih =>
    have hx : x ∈ ks := (h x).mp List.mem_cons_self
    have p := List.perm_cons_erase hx
    refine (List.Perm.cons x (ih (List.nodup_cons.mp n1).2 (n2.erase x) fun y => ?_)).trans p.symm
    rw [n2.mem_erase_iff]
    constructor
    · intro hy
      exact ⟨fun z => (List.nodup_cons.mp n1).1 (z ▸ hy), (h y).mp (List.mem_cons_of_mem _ hy)⟩
    · intro ⟨ne, hy⟩
      exact (List.mem_cons.mp ((h y).mpr hy)).resolve_left ne
def hasN (l : List (Addr × Ent)) (n : Str) : Bool := l.any fun y => decide (y.2.name = n)
def onceN (ts : List (Addr × Ent)) : List (Addr × Ent) := ts.foldl (fun acc x => if hasN acc x.2.name = true then acc else acc ++ [x]) []
theorem onceN_snoc (ts : List (Addr × Ent)) (x : Addr × Ent) : onceN (ts ++ [x]) = if hasN (onceN ts) x.2.name = true then onceN ts else onceN ts ++ [x] := by
  unfold onceN
  rw [List.foldl_append]
  rfl
def kvN (l : List (Addr × Ent)) : List (Key × V) := l.map fun x => ((Sum.inr x.2.name : Key), V.ref x.1)
theorem hasN_iff {l : List (Addr × Ent)} {n : Str} : hasN l n = true ↔ ∃ y ∈ l, y.2.name = n := by
  unfold hasN
  rw [List.any_eq_true]
  exact ⟨fun ⟨y, hy, e⟩ => ⟨y, hy, of_decide_eq_true e⟩, fun ⟨y, hy, e⟩ => ⟨y, hy, decide_eq_true e⟩⟩
theorem onceN_sub (ts : List (Addr × Ent)) : ∀ x ∈ onceN ts, x ∈ ts := by
  induction ts using snocInd with
  | h0 => intro x hx; exact nomatch hx
  | h1 r y ih =>
    intro x hx
    rw [onceN_snoc] at hx
    by_cases h : hasN (onceN r) y.2.name = true
    · rw [if_pos h] at hx
      exact List.mem_append.mpr (.inl (ih x hx))
    · rw [if_neg h] at hx
      rcases List.mem_append.mp hx with hx | hx
      · exact List.mem_append.mpr (.inl (ih x hx))
      · exact List.mem_append.mpr (.inr hx)
theorem onceN_has (ts : List (Addr × Ent)) : ∀ x ∈ ts, hasN (onceN ts) x.2.name = true := by
  induction ts using snocInd with
  | h0 => intro x hx; exact nomatch hx
  | h1 r y ih =>
    intro x hx
    rw [onceN_snoc]
    by_cases h : hasN (onceN r) y.2.name = true
    · rw [if_pos h]
      rcases List.mem_append.mp hx with hx | hx
      · exact ih x hx
      · rw [List.mem_singleton.mp hx]; exact h
    · rw [if_neg h]
      rcases List.mem_append.mp hx with hx | hx
      · obtain ⟨z, hz, e⟩ := hasN_iff.mp (ih x hx)
        exact hasN_iff.mpr ⟨z, List.mem_append.mpr (.inl hz), e⟩
      · exact hasN_iff.mpr ⟨x, List.mem_append.mpr (.inr hx), rfl⟩
theorem onceN_nodup (ts : List (Addr × Ent)) : ((onceN ts).map fun x => x.2.name).Nodup := by
  induction ts using snocInd with
  | h0 => exact .nil
  | h1 r y ih =>
    rw [onceN_snoc]
    by_cases h : hasN (onceN r) y.2.name = true
    · rw [if_pos h]; exact ih
    · rw [if_neg h, List.map_append, List.nodup_append]
      refine ⟨ih, List.nodup_cons.mpr ⟨fun z => (nomatch z), .nil⟩, fun a ha b hb z => h ?_⟩
      obtain ⟨u, hu, rfl⟩ := List.mem_map.mp ha
      rw [List.mem_singleton.mp hb] at z
      exact hasN_iff.mpr ⟨u, hu, z⟩
theorem onceN_len (ts : List (Addr × Ent)) : (onceN ts).length ≤ ts.length := by
  induction ts using snocInd with
  | h0 => exact Nat.le_refl _
  | h1 r y ih =>
    rw [onceN_snoc, List.length_append]
    by_cases h : hasN (onceN r) y.2.name = true
    · rw [if_pos h]; omega
    · rw [if_neg h, List.length_append]; simp only [List.length_cons, List.length_nil]; omega
/-- whatever the order: where a name tells the entry, what is left is the set -/
theorem onceN_perm {ts pr : List (Addr × Ent)} (nd : (pr.map fun x => x.2.name).Nodup) (h1 : ∀ x ∈ ts, x ∈ pr) (h2 : ∀ x ∈ pr, x ∈ ts) : (onceN ts).Perm pr := by
  have n1 : (onceN ts).Nodup := nodup_of_map (onceN_nodup ts)
  have n2 : pr.Nodup := nodup_of_map nd
  refine perm_of_in n1 n2 fun x => ⟨fun h => h1 x (onceN_sub ts x h), fun h => ?_⟩
  obtain ⟨z, hz, e⟩ := hasN_iff.mp (onceN_has ts x (h2 x h))
  have hz' := h1 z (onceN_sub ts z hz)
  have : z = x := by
    obtain ⟨i, hi⟩ := List.mem_iff_getElem?.mp hz'
    obtain ⟨j, hj⟩ := List.mem_iff_getElem?.mp h
    have : i = j := (List.getElem?_inj (by rw [List.length_map]; exact (List.getElem?_eq_some_iff.mp hi).1) nd).mp (by rw [List.getElem?_map, List.getElem?_map, hi, hj]; exact congrArg some e)
    rw [this, hj] at hi
    exact (Option.some.inj hi).symm
  rw [← this]
  exact hz
theorem val_kvN {l : List (Addr × Ent)} {n : Str} : (hasN l n = false → valV (kvN l) (Sum.inr n) = none) ∧ (∀ v, valV (kvN l) (Sum.inr n) = some v → ∃ y ∈ l, y.2.name = n ∧ v = .ref y.1) ∧ (hasN l n = true → (valV (kvN l) (Sum.inr n)).isSome = true) := by
  induction l with
  | nil => exact ⟨fun _ => rfl, fun v h => (nomatch h), fun h => (nomatch h)⟩
  | cons x r ih =>
    have e0 : kvN (x :: r) = ((Sum.inr x.2.name : Key), V.ref x.1) :: kvN r := rfl
    have e1 : hasN (x :: r) n = (decide (x.2.name = n) || hasN r n) := rfl
    by_cases z : x.2.name = n
    · have e2 : valV (kvN (x :: r)) (Sum.inr n) = some (.ref x.1) := by rw [e0]; exact valV_pos (congrArg Sum.inr z)
      rw [e1, decide_eq_true z, e2]
      exact ⟨fun h => (nomatch h), fun v h => ⟨x, List.mem_cons_self, z, (Option.some.inj h).symm⟩, fun _ => rfl⟩
    · have e2 : valV (kvN (x :: r)) (Sum.inr n) = valV (kvN r) (Sum.inr n) := by rw [e0]; exact valV_neg fun q => z (Sum.inr.inj q)
      rw [e1, decide_eq_false z, e2, Bool.false_or]
      exact ⟨ih.1, fun v h => let ⟨y, hy, r⟩ := ih.2.1 v h; ⟨y, List.mem_cons_of_mem _ hy, r⟩, ih.2.2⟩
def spOwnEnts (Ts : List Addr) : Sp := fun vs H Q _ => ∃ (l pl gl : Addr) (ts : List (Addr × Ent)) (P G : List Str), vs = [.ref l, .ref pl, .ref gl] ∧ LT H l (ts.map fun x => V.ref x.1) ∧ (∀ x ∈ ts, H x.1 = some (.tup x.2.vals) ∧ x.2.Fine ∧ SeqAt.shaped (entD x.2) = true ∧ ofB x.2 P G = true) ∧
  (∀ x ∈ ts, ∀ y ∈ ts, x.2.name = y.2.name → x = y) ∧ ts.length ≤ 1000 ∧ (onceN ts).length ≤ 30 ∧ H pl = some (.tup (P.map V.str)) ∧ H gl = some (.tup (G.map V.str)) ∧ TabsG Ts H ∧
  ∀ (tp : Addr) (H' : Hp), TB1 Ts H H' → H' tp = some (.tup ((sortE (onceN ts)).map fun x => V.ref x.1)) → Q (.ref tp) H'
theorem ent_dp {K : PySem.W.Frag} {H : Hp} {a : Addr} {e : Ent} (h : H a = some (.tup e.vals)) : Dp K H (.ref a) (entD e) := dp_ent h
theorem tabs_updD {H : Hp} {Ts : List Addr} {l : Addr} {kvs : List (Key × V)} {o : HO} (t : TabsG Ts H) (e : H l = some (.dK kvs)) : TabsG Ts (upd H l o) := fun T hT => by
  obtain ⟨ps, e1, ok⟩ := t T hT
  exact ⟨ps, (upd_ne (ne_of e1 e (by intro z; cases z))).trans e1, ok⟩
theorem TB1.putD {Ts : List Addr} {H H' : Hp} {l : Addr} {kvs : List (Key × V)} {o : HO} (t : TB1 Ts H H') (n : H l = none) (e : H' l = some (.dK kvs)) : TB1 Ts H (upd H' l o) :=
  ⟨tabs_updD t.1 e, fun a u eu na => (upd_ne (ne_of_none eu n)).trans (t.2 a u eu na), fun a na => by
    by_cases z : a = l
    · rw [z]
      exact n
    · rw [upd_ne z] at na
      exact t.free a na, fun a u eu na => (upd_ne (ne_of_none eu n)).trans (t.oth a u eu na)⟩
section
variable {P : Program} {w : World} {K : PySem.W.Frag} {mg : Str → Option Value} {base : Heap}
abbrev sOwnEntsN : List Str := ["things", "places", "goods", "called", "thing"]
theorem sc_sOwnEnts : FnScope sOwnEntsN ["things", "places", "goods"] (defScope sOwnEnts) := ⟨rfl, rfl, rfl, by decide +kernel, rfl, by decide +kernel, by decide +kernel⟩
set_option maxHeartbeats 1000000 in
theorem ok_ownEnts {f fI fO : Addr} {fd dI dO : FuncData} {Ts : List Addr} (F : Fun K "own_entries" "own_entries" sOwnEnts f fd) (IO : DefT P w K mg base "is_entry_of" 5 fI dI ["thing", "places", "goods"] (spIsEntryOf Ts)) (IN : DefT P w K mg base "in_order" 4 fO dO ["entries"] spInOrder)
    (mis : mg "isinstance" = none) (mT_list : mg "list" = none) (mT_tuple : mg "tuple" = none) (ml : mg "len" = none) (mME : ∃ t, mg "MOST_ENTRIES" = some (.int 30 t)) : FnOk P w K mg base CX0 6 f fd ["things", "places", "goods"] (spOwnEnts Ts) := by
  obtain ⟨tME, mME⟩ := mME
  refine F.ok sc_sOwnEnts (fun vs H Q E h => ?_) (fun cdv A outer s H vs Q E hr h => ?_)
  · obtain ⟨l, pl, gl, ts, Ps, G, rfl, _⟩ := h
    rfl
  · obtain ⟨l, pl, gl, ts, Ps, G, rfl, hl, hE, inj, lt, l30, hp, hg, tg, q⟩ := h
    have nd := sc_sOwnEnts.nd
    have hr4 : Room 4 _ := hr.mono (by decide)
    have nd := sc_sOwnEnts.nd
    have hr4 : Room 4 _ := hr.mono (by decide)
    refine ⟨_, pss_cons (ps_if (pt_not (pt_val (pe_callB call_isiT (by rfl) mis (by decide +kernel) (pa_cons (pv 0) (pa_cons (pe_tup (pa_cons (pe_bltn (v := .ty "list") (u := .type "list") (by rfl) mT_list (by decide +kernel) rfl) (pa_cons (pe_bltn (v := .ty "tuple") (u := .type "tuple") (by rfl) mT_tuple (by decide +kernel) rfl) pa_nil))) pa_nil))))) (pss_one ps_never) pss_nil)
      (pss_cons (ps_set (i := 3) nd rfl (Or.inl rfl) pe_dnewK)
      (pss_cons (ps_for PassesOwn.never rfl (pi_seq (pv 0)) (pg_name (i := 4) nd rfl (Or.inl rfl))
        (pss_cons (ps_if (pt_not (pt_val (pe_call IO.ok hr (by rfl) IO.g IO.kp IO.b .nil pass0 (pa_cons (pv 4) (pa_cons (pv 1) (pa_cons (pv 2) pa_nil)))))) (pss_one ps_never) pss_nil)
        (pss_one (ps_if (pt_cmpR (op_neD hr.units) (pe_sdf (pv 3) (pe_ix ix_tup (pv 4) pe_int (fun _ _ => rfl)) (pv 4) ⟨rfl, rfl, rfl, rfl⟩) (pv 4) (nomark _)) (pss_one ps_never) pss_nil))))
      (pss_cons (ps_if (pt_cmpR op_gt (pe_callB call_lenD (by rfl) ml PySem.boot_len (pa_cons (pv 3) pa_nil)) (pe_glob (v := .int 30) rfl mME ⟨_, rfl⟩) (nomark _)) (pss_one ps_never) pss_nil)
      (pss_one (ps_ret (pe_call IN.ok hr4 (by rfl) IN.g IN.kp IN.b .nil pass0 (pa_cons (pe_callTy (call_listVals rfl) (by rfl) mT_list (by decide +kernel) (pa_cons (pe_vals (pv 3)) pa_nil)) pa_nil))))))), ?_⟩
    refine ⟨_, rfl, (by show 2 ≤ sizeLine; decide), fun tq ntq => ?_⟩
    have s0 := @same_new _ _ (.tup [V.ty "list", V.ty "tuple"]) ntq
    obtain ⟨t, ty, kt⟩ := is_lt (K := K) (hl.on s0)
    refine ⟨_, tq, _, t, _, true, rfl, upd_same, clsLT, ty, kt, _, rfl, iteF fun D nD => ?_⟩
    clear ty kt
    have sD := s0.trans (@same_new _ _ (.dK []) nD)
    have hDn : H D = none := s0.free nD
    have hD : (upd (upd H tq (.tup [V.ty "list", V.ty "tuple"])) D (.dK [])) D = some (.dK []) := upd_same
    generalize upd (upd H tq (.tup [V.ty "list", V.ty "tuple"])) D (.dK []) = H1 at sD hD
    dsimp only [tNext, tSeq]
    refine for_seq (k := 0) (hl.on sD) rfl (fun i σ H' => ∃ y4, σ = [some (.ref l), some (.ref pl), some (.ref gl), some (.ref D), y4] ∧ TB1 Ts H H' ∧ H' D = some (.dK (kvN (onceN (ts.take i))))) ⟨_, rfl, .same tg sD, hD⟩ ?_ ?_ ?_
    · rintro i σ H' hi ⟨y4, rfl, b, _⟩ o e n
      rcases hl with h | h
      · rw [sD _ _ h] at e
        exact (b.2 _ _ h fun _ z => nomatch z).trans e
      · rw [sD _ _ h] at e
        exact (b.2 _ _ h fun _ z => nomatch z).trans e
    · rintro i x σ H2 hx ⟨y4, rfl, b2, hD2⟩
      rw [List.getElem?_map] at hx
      obtain ⟨y, hy, rfl⟩ := Option.map_eq_some_iff.mp hx
      have my := List.mem_of_getElem? hy
      obtain ⟨e1, e2, e3, e4⟩ := hE y my
      refine ⟨_, rfl, _, rfl, _, rfl, y.1, pl, gl, y.2, Ps, G, rfl, b2.tk _ _ e1, e2, b2.tk _ _ hp, b2.tk _ _ hg, b2.1, fun H3 b3 => ?_⟩
      rw [e4]
      have b23 := b2.tr b3
      have hD3 := b3.dct hD2
      have hy3 := b23.tk _ _ e1
      refine ⟨true, rfl, iteF ⟨_, rfl, D, rfl, .inl ⟨_, .inl hD3⟩, _, rfl, y.1, _, 1, _, rfl, rfl, SqT.of hy3, at1 y.2, _, rfl, _, Sum.inr y.2.name, hD3, rfl, ?_, fun v hv => ?_, fun hv => ?_⟩⟩
      · have : (kvN (onceN (ts.take i))).length ≤ 1000 := by
          show (List.map _ _).length ≤ _
          rw [List.length_map]
          refine Nat.le_trans (onceN_len _) ?_
          rw [List.length_take]
          omega
        exact small1000 (by omega)
      · obtain ⟨z, hz, ez, rfl⟩ := val_kvN.2.1 v hv
        have mz : z ∈ ts := List.mem_of_mem_take (onceN_sub _ z hz)
        obtain rfl := inj z mz y my ez
        refine ⟨_, rfl, _, _, ent_dp hy3, ent_dp hy3, e3, e3, _, rfl, ?_⟩
        rw [SeqAt.eqv_refl _ (SeqAt.canLay_of_shaped e3)]
        refine iteF ⟨_, rfl, b23, ?_⟩
        rw [hD3, take_sn hy, onceN_snoc, if_pos (hasN_iff.mpr ⟨z, hz, rfl⟩)]
      · refine ⟨_, rfl, _, _, ent_dp ((upd_ne (ne_of hy3 hD3 (by intro z; cases z))).trans hy3), ent_dp ((upd_ne (ne_of hy3 hD3 (by intro z; cases z))).trans hy3), e3, e3, _, rfl, ?_⟩
        rw [SeqAt.eqv_refl _ (SeqAt.canLay_of_shaped e3)]
        refine iteF ⟨_, rfl, b23.putD hDn hD3, ?_⟩
        have hn : ¬ hasN (onceN (ts.take i)) y.2.name = true := fun z => by
          have := val_kvN.2.2 z
          rw [hv] at this
          cases this
        rw [upd_same, putK_new _ hv, take_sn hy, onceN_snoc, if_neg hn]
        show _ = some (HO.dK (List.map _ (_ ++ [y])))
        rw [List.map_append]
        rfl
    · rintro σ H2 ⟨y4, rfl, b2, hD2⟩
      rw [List.length_map, List.take_length] at hD2
      refine ⟨_, rfl, D, _, rfl, hD2, (kvN (onceN ts)).length, 30, rfl, rfl, _, rfl, ?_⟩
      have z30 : (kvN (onceN ts)).length = (onceN ts).length := List.length_map _
      rw [decide_eq_false (show ¬ ((30 : Int) < ((kvN (onceN ts)).length : Int)) by rw [z30]; omega)]
      refine iteF ⟨_, rfl, D, _, rfl, hD2, fun v nv => ?_⟩
      have nvD : D ≠ v := ne_of_none hD2 nv
      refine ⟨v, D, _, rfl, upd_same, (upd_ne nvD).trans hD2, fun a na => ?_⟩
      have s3 := (@same_new _ _ (valsO v D) nv).trans (@same_new _ _ (.lst ((kvN (onceN ts)).map (·.2))) na)
      have b3 := b2.tr (.same b2.1 s3)
      refine ⟨a, onceN ts, rfl, ?_, fun x hx => b3.tk _ _ (hE x (onceN_sub ts x hx)).1, fun tp H5 ntp s5 h5 => q tp H5 (b3.tr (.same b3.1 s5)) h5⟩
      rw [upd_same]
      show some (HO.lst (List.map _ (List.map _ _))) = _
      rw [List.map_map]
      rfl
end
def spHouseOf (Ts : List Addr) : Sp := fun vs H Q _ => ∃ (l1 l2 l3 : Addr) (xs ys : List Str) (ts : List (Addr × Ent)), vs = [.ref l1, .ref l2, .ref l3] ∧ LT H l1 (xs.map V.str) ∧ LT H l2 (ys.map V.str) ∧ LT H l3 (ts.map fun x => V.ref x.1) ∧
  (∀ y ∈ xs, nameB y = true) ∧ xs.length ≤ 1000 ∧ 1 ≤ (onceR xs).length ∧ (onceR xs).length ≤ 6 ∧ (∀ y ∈ ys, nameB y = true) ∧ ys.length ≤ 1000 ∧ 1 ≤ (onceR ys).length ∧ (onceR ys).length ≤ 3 ∧
  (∀ x ∈ ts, H x.1 = some (.tup x.2.vals) ∧ x.2.Fine ∧ SeqAt.shaped (entD x.2) = true ∧ ofB x.2 xs ys = true) ∧ (∀ x ∈ ts, ∀ y ∈ ts, x.2.name = y.2.name → x = y) ∧ ts.length ≤ 1000 ∧ (onceN ts).length ≤ 30 ∧ TabsG Ts H ∧
  ∀ (h : Addr) (P G : List Str) (H' : Hp), P.Perm (onceR xs) → sortedS P = true → G.Perm (onceR ys) → sortedS G = true → TB1 Ts H H' → (∃ hp hg he, H' h = some (.tup [.ref hp, .ref hg, .ref he]) ∧ H' hp = some (.tup (P.map V.str)) ∧ H' hg = some (.tup (G.map V.str)) ∧ H' he = some (.tup ((sortE (onceN ts)).map fun x => V.ref x.1))) → Q (.ref h) H'
theorem ofB_congr {e : Ent} {P P' G G' : List Str} (h1 : ∀ y, y ∈ P ↔ y ∈ P') (h2 : ∀ y, y ∈ G ↔ y ∈ G') : ofB e P G = ofB e P' G' := by
  have e1 : (fun y => decide (y ∈ P)) = fun y => decide (y ∈ P') := funext fun y => decide_eq_decide.mpr (h1 y)
  have e2 : goodOk e G = goodOk e G' := by
    unfold goodOk
    cases e.goodV with
    | str g => exact decide_eq_decide.mpr (h2 g)
    | _ => rfl
  unfold ofB
  rw [e1, e2]
section
variable {P : Program} {w : World} {K : PySem.W.Frag} {mg : Str → Option Value} {base : Heap}
abbrev sHouseOfN : List Str := ["places", "goods", "entries", "own_places", "own_goods"]
theorem sc_sHouseOf : FnScope sHouseOfN ["places", "goods", "entries"] (defScope sHouseOf) := ⟨rfl, rfl, rfl, by decide +kernel, rfl, by decide +kernel, by decide +kernel⟩
theorem ok_houseOf {f fR fO : Addr} {fd dR dO : FuncData} {Ts : List Addr} (F : Fun K "house_of" "house_of" sHouseOf f fd) (RN : DefT P w K mg base "rising_names" 3 fR dR ["things", "most"] (spRising Ts)) (OE : DefT P w K mg base "own_entries" 6 fO dO ["things", "places", "goods"] (spOwnEnts Ts))
    (mP : ∃ t, mg "MOST_PLACES" = some (.int 6 t)) (mG : ∃ t, mg "MOST_GOODS" = some (.int 3 t)) : FnOk P w K mg base CX0 7 f fd ["places", "goods", "entries"] (spHouseOf Ts) := by
  obtain ⟨tP, mP⟩ := mP
  obtain ⟨tG, mG⟩ := mG
  refine F.ok sc_sHouseOf (fun vs H Q E h => ?_) (fun cdv A outer s H vs Q E hr h => ?_)
  · obtain ⟨l1, l2, l3, xs, ys, ts, rfl, _⟩ := h
    rfl
  · obtain ⟨l1, l2, l3, xs, ys, ts, rfl, h1, h2, h3, n1, lx, a1, a2, n2, ly, g1, g2, hE, inj, lt, l30, tg, q⟩ := h
    have nd := sc_sHouseOf.nd
    have hr3 : Room 3 _ := hr.mono (by decide)
    have nd := sc_sHouseOf.nd
    have hr3 : Room 3 _ := hr.mono (by decide)
    refine ⟨_, pss_cons (ps_set (i := 3) nd rfl (Or.inl rfl) (pe_call RN.ok hr3 (by rfl) RN.g RN.kp RN.b .nil pass0 (pa_cons (pv 0) (pa_cons (pe_glob (v := .int 6) rfl mP ⟨_, rfl⟩) pa_nil))))
      (pss_cons (ps_set (i := 4) nd rfl (Or.inl rfl) (pe_call RN.ok hr3 (by rfl) RN.g RN.kp RN.b .nil pass0 (pa_cons (pv 1) (pa_cons (pe_glob (v := .int 3) rfl mG ⟨_, rfl⟩) pa_nil))))
      (pss_one (ps_ret (pe_tup (pa_cons (pv 3) (pa_cons (pv 4) (pa_cons (pe_call OE.ok hr (by rfl) OE.g OE.kp OE.b .nil pass0 (pa_cons (pv 2) (pa_cons (pv 3) (pa_cons (pv 4) pa_nil)))) pa_nil))))))), ?_⟩
    refine ⟨_, rfl, l1, xs, 6, rfl, h1, n1, lx, a1, by omega, by decide, tg, fun t1 Ps H1 pm1 so1 b1 k1 => ?_⟩
    refine ⟨_, rfl, l2, ys, 3, rfl, h2.by fun o e n => b1.2 _ _ e n, n2, ly, g1, by omega, by decide, b1.1, fun t2 G H2 pm2 so2 b2 k2 => ?_⟩
    have b12 := b1.tr b2
    have m1 : ∀ y, y ∈ xs ↔ y ∈ Ps := fun y => ⟨fun h => pm1.mem_iff.mpr ((onceR_mem xs y).mpr h), fun h => (onceR_mem xs y).mp (pm1.mem_iff.mp h)⟩
    have m2 : ∀ y, y ∈ ys ↔ y ∈ G := fun y => ⟨fun h => pm2.mem_iff.mpr ((onceR_mem ys y).mpr h), fun h => (onceR_mem ys y).mp (pm2.mem_iff.mp h)⟩
    refine ⟨_, rfl, _, rfl, _, rfl, _, rfl, _, rfl, l3, t1, t2, ts, Ps, G, rfl, h3.by fun o e n => b12.2 _ _ e n, fun x hx => ?_, inj, lt, l30, b2.tk _ _ k1, k2, b12.1, fun t3 H3 b3 k3 => ?_⟩
    · obtain ⟨e1, e2, e3, e4⟩ := hE x hx
      exact ⟨b12.tk _ _ e1, e2, e3, (ofB_congr m1 m2) ▸ e4⟩
    · have b123 := b12.tr b3
      refine ⟨(by show 3 ≤ sizeLine; decide), fun h nh => ?_⟩
      have s4 := @same_new _ _ (.tup [V.ref t1, .ref t2, .ref t3]) nh
      exact q h Ps G _ pm1 so1 pm2 so2 (b123.tr (.same b123.1 s4)) ⟨t1, t2, t3, upd_same, s4 _ _ (b3.tk _ _ (b2.tk _ _ k1)), s4 _ _ (b3.tk _ _ k2), s4 _ _ k3⟩
end
/-! ### what is told is what is due -/
theorem ty_l {K : PySem.W.Frag} {H : Hp} {a : Addr} {xs : List V} (h : SqL K H a xs) : TyX K H (.ref a) (.type "list") := by
  rcases h with (h | ⟨o, h⟩) | ⟨o, _, _, h, c, _⟩
  · exact .base (.lst h)
  · exact .base (.frz h)
  · exact .kList h c
theorem ty_t {K : PySem.W.Frag} {H : Hp} {a : Addr} {xs : List V} (h : SqT K H a xs) : TyX K H (.ref a) (.type "tuple") := by
  rcases h with (h | ⟨o, h⟩) | ⟨o, _, _, h, c, _⟩
  · exact .base (.tup h)
  · exact .fTuple h
  · exact .kTuple h c
/-- [.. for a, b in zip(xs, ys)], its iterator being there -/
theorem lc_zip {J : It} {xs ys : List V} {At : Hp → Prop} {g : TG} {tt : TT} {te : TE} {vs : List Nat} {σ : L2.St} {H1 : Hp} {D : Addr} {Qd : Hp → Prop} (hlen : xs.length = ys.length) (go : ∀ i H, At H → i < xs.length → J.go i H)
    (yl : ∀ i H v H', At H → J.yld i H v H' → ∃ T x y, v = .ref T ∧ H T = none ∧ H' = upd H T (.tup [x, y]) ∧ xs[i]? = some x ∧ ys[i]? = some y) (stop : ∀ i H, At H → xs.length ≤ i → J.stop i H)
    (Pv : Nat → Hp → Prop) (h0 : Pv 0 (upd H1 D (.lst []))) (hl : ∀ i H, i ≤ xs.length → Pv i H → At H)
    (hs : ∀ i T x y H, xs[i]? = some x → ys[i]? = some y → Pv i H → H T = none → g (.ref T) (wipe σ vs) (upd H T (.tup [x, y])) fun σ2 H2 => wipe σ2 vs = wipe σ vs ∧ tt σ2 H2 fun b H3 =>
      if b = true then te σ2 H3 fun y H4 => ∃ acc, H4 D = some (.lst acc) ∧ acc.length < sizeLine ∧ Pv (i + 1) (upd H4 D (.lst (acc ++ [y]))) else Pv (i + 1) H3) (hd : ∀ H, Pv xs.length H → Qd H) :
    ∃ W : Nat → Nat → Hp → Prop, (∃ m, W 0 m (upd H1 D (.lst []))) ∧ ∀ i m H, W i m H →
      (J.stop i H ∧ Qd H) ∨ (J.go i H ∧ ∃ Nx : Hp → Prop, (∀ H', Nx H' → ∃ m', m' < m ∧ W (i + 1) m' H') ∧ ∀ x H', J.yld i H x H' → g x (wipe σ vs) H' fun σ2 H2 => wipe σ2 vs = wipe σ vs ∧ tt σ2 H2 fun b H3 =>
        if b = true then te σ2 H3 fun y H4 => ∃ acc, H4 D = some (.lst acc) ∧ acc.length < sizeLine ∧ Nx (upd H4 D (.lst (acc ++ [y]))) else Nx H3) := by
  refine ⟨fun i m H => m = xs.length - i ∧ i ≤ xs.length ∧ Pv i H, ⟨xs.length, by simp, Nat.zero_le _, h0⟩, ?_⟩
  rintro i m H ⟨rfl, hi, p⟩
  by_cases lt : i < xs.length
  · refine .inr ⟨go i H (hl i H hi p) lt, Pv (i + 1), fun H' p' => ⟨xs.length - (i + 1), by omega, rfl, lt, p'⟩, fun v H' y => ?_⟩
    obtain ⟨T, x, z, rfl, nT, rfl, hx, hz⟩ := yl i H v H' (hl i H hi p) y
    exact hs i T x z H hx hz p nT
  · obtain rfl : i = xs.length := by omega
    exact .inl ⟨stop _ H (hl _ H hi p) (Nat.le_refl _), hd H p⟩
theorem sql_on {K : PySem.W.Frag} {H H' : Hp} {a : Addr} {xs : List V} (s : Same H H') (h : SqL K H a xs) : SqL K H' a xs := h.imp (fun z => z.imp (s _ _) fun ⟨o, e⟩ => ⟨o, s _ _ e⟩) id
theorem sqt_on {K : PySem.W.Frag} {H H' : Hp} {a : Addr} {xs : List V} (s : Same H H') (h : SqT K H a xs) : SqT K H' a xs := h.imp (fun z => z.imp (s _ _) fun ⟨o, e⟩ => ⟨o, s _ _ e⟩) id
theorem dpall_get {K : PySem.W.Frag} {H : Hp} : ∀ {vs : List V} {ds : List PyData}, DpAll K H vs ds → ∀ {i : Nat} {v : V}, vs[i]? = some v → ∃ d, ds[i]? = some d ∧ Dp K H v d
  | _, _, .nil, i, v, h => by cases h
  | _, _, .cons a r, i, v, h => by
    cases i with
    | zero => exact ⟨_, rfl, by rw [← Option.some.inj h]; exact a⟩
    | succ n => exact dpall_get r (i := n) h
theorem depth_mem {ds : List PyData} {d : PyData} (h : d ∈ ds) : d.depth ≤ PyData.depthAll ds := by
  induction ds with
  | nil => exact nomatch h
  | cons e r ih =>
    rw [PyData.depthAll]
    rcases List.mem_cons.mp h with rfl | h
    · exact Nat.le_max_left _ _
    · exact Nat.le_trans (ih h) (Nat.le_max_right _ _)
theorem bulk_mem {ds : List PyData} {d : PyData} (h : d ∈ ds) : d.bulk ≤ PyData.bulkAll ds ∧ True := by
  induction ds with
  | nil => exact nomatch h
  | cons e r ih =>
    rw [PyData.bulkAll]
    rcases List.mem_cons.mp h with rfl | h
    · exact ⟨by omega, trivial⟩
    · exact ⟨Nat.le_trans (ih h).1 (by omega), trivial⟩
theorem bulk_len : ∀ ds : List PyData, ds.length ≤ PyData.bulkAll ds
  | [] => Nat.zero_le _
  | d :: r => by
    have := bulk_len r
    rw [PyData.bulkAll, List.length_cons]
    omega
/-- both are these data -/
def spSame (K : PySem.W.Frag) (n : Nat) : Sp := fun vs H Q _ => ∃ (x y : V) (d : PyData), vs = [x, y] ∧ Dp K H x d ∧ Dp K H y d ∧ d.depth ≤ n ∧ d.bulk ≤ 1000000 ∧ ∀ H', Same H H' → Q (.bl true) H'
theorem no_any {K : PySem.W.Frag} {t : String} (h1 : kitB t "list" = some false) (h2 : kitB t "tuple" = some false) : PySem.W.kitAny K (.type t) [.type "list", .type "tuple"] = some false := by
  simp only [PySem.W.kitAny, kit_ty h1, kit_ty h2]
section
variable {P : Program} {w : World} {K : PySem.W.Frag} {mg : Str → Option Value} {base : Heap}
abbrev sSameN : List Str := ["_law_found", "_law_due", "_law_one", "_law_other"]
theorem sc_sSame : FnScope sSameN ["_law_found", "_law_due"] (defScope sSame) := ⟨rfl, rfl, rfl, by decide +kernel, rfl, by decide +kernel, by decide +kernel⟩
theorem ok_same {f : Addr} {fd : FuncData} (F : Fun K "_law_same" "_law_same" sSame f fd) (g : mg "_law_same" = some (.ref f)) (kp : PySem.W.keepIn K (.ref f) = true) (b : Binds K fd ["_law_found", "_law_due"] [])
    (mis : mg "isinstance" = none) (mT_list : mg "list" = none) (mT_tuple : mg "tuple" = none) (mT_bool : mg "bool" = none) (ml : mg "len" = none) (mal : mg "all" = none) (mz : mg "zip" = none) : ∀ n : Nat, FnOk P w K mg base CX0 (n + 1) f fd ["_law_found", "_law_due"] (spSame K n) := by
  have atom : ∀ (n : Nat) (t : String) (x : V) (H : Hp) (Q : VK) (E : XK) (cdv : Value) (A : Around) (outer : List Env) (s : Shared), TyX K H x (.type t) → (∀ tq ts, H tq = none → TyX K (upd H tq (.tup ts)) x (.type t)) → kitB t "list" = some false → kitB t "tuple" = some false → (∃ bb, kitB t "bool" = some bb) → scal x x = true →
      (∀ H', Same H H' → Q (.bl true) H') → ∃ tt, PSs (cxOf CX0 P w K mg base sSameN (Str.ofString "_law_same") (defScope sSame) f cdv A outer s H E).nox (defBody sSame) tt ∧ tt { nx := fun _ H' => Q .non H', rt := Q } (start sSameN [x, x]) H := by
    intro n t x H Q E cdv A outer s ty ty2 k1 k2 k3 sx q
    have nd := sc_sSame.nd
    obtain ⟨bb, k3⟩ := k3
    refine ⟨_, pss_cons (ps_if (pt_val (pe_callB call_isiT (by rfl) mis (by decide +kernel) (pa_cons (pv 1) (pa_cons (pe_tup (pa_cons (pe_bltn (v := .ty "list") (u := .type "list") (by rfl) mT_list (by decide +kernel) rfl) (pa_cons (pe_bltn (v := .ty "tuple") (u := .type "tuple") (by rfl) mT_tuple (by decide +kernel) rfl) pa_nil))) pa_nil)))) (pss_cons ps_never (pss_one ps_never)) pss_nil)
      (pss_one (ps_ret (pe_and (pe_cmpR op_eq (pe_callB call_isi (by rfl) mis (by decide +kernel) (pa_cons (pv 0) (pa_cons (pe_bltn (v := .ty "bool") (u := .type "bool") (by rfl) mT_bool (by decide +kernel) rfl) pa_nil))) (pe_callB call_isi (by rfl) mis (by decide +kernel) (pa_cons (pv 1) (pa_cons (pe_bltn (v := .ty "bool") (u := .type "bool") (by rfl) mT_bool (by decide +kernel) rfl) pa_nil))) (nomark _)) (pe_one (pe_cmpR op_eq (pv 0) (pv 1) (nomark _)))))), ?_⟩
    refine ⟨_, rfl, (by show 2 ≤ sizeLine; decide), fun tq ntq => ⟨_, tq, _, .type t, _, false, rfl, upd_same, clsLT, ty2 tq _ ntq, no_any k1 k2, _, rfl, iteF ?_⟩⟩
    refine ⟨_, rfl, _, _, _, _, bb, rfl, .ty "bool", ty2 tq _ ntq, kit_ty k3, _, rfl, _, _, _, _, bb, rfl, .ty "bool", ty2 tq _ ntq, kit_ty k3, rfl, ?_⟩
    rw [decide_eq_true rfl]
    refine ⟨true, rfl, iteT ⟨_, rfl, _, rfl, sx, ?_⟩⟩
    rw [decide_eq_true rfl]
    exact q _ (same_new ntq)
  have flat : ∀ (n : Nat) (x y : V) (d : PyData) (H : Hp) (Q : VK) (E : XK) (cdv : Value) (A : Around) (outer : List Env) (s : Shared), Dp K H x d → Dp K H y d → (∀ ds, d ≠ .list ds) → (∀ ds, d ≠ .tuple ds) →
      (∀ H', Same H H' → Q (.bl true) H') → ∃ tt, PSs (cxOf CX0 P w K mg base sSameN (Str.ofString "_law_same") (defScope sSame) f cdv A outer s H E).nox (defBody sSame) tt ∧ tt { nx := fun _ H' => Q .non H', rt := Q } (start sSameN [x, y]) H := by
    intro n x y d H Q E cdv A outer s dx dy n1 n2 q
    cases dx with
    | non =>
      cases dy
      exact atom n "NoneType" _ H Q E cdv A outer s (.base .non) (fun _ _ _ => .base .non) (by decide +kernel) (by decide +kernel) ⟨false, by decide +kernel⟩ rfl q
    | bl b0 =>
      cases dy
      exact atom n "bool" _ H Q E cdv A outer s (.base (.bl _)) (fun _ _ _ => .base (.bl _)) (by decide +kernel) (by decide +kernel) ⟨true, by decide +kernel⟩ rfl q
    | int i0 =>
      cases dy
      exact atom n "int" _ H Q E cdv A outer s (.base (.int _)) (fun _ _ _ => .base (.int _)) (by decide +kernel) (by decide +kernel) ⟨false, by decide +kernel⟩ rfl q
    | str x0 =>
      cases dy
      exact atom n "str" _ H Q E cdv A outer s (.base (.str _)) (fun _ _ _ => .base (.str _)) (by decide +kernel) (by decide +kernel) ⟨false, by decide +kernel⟩ rfl q
    | lst _ _ => exact absurd rfl (n1 _)
    | tup _ _ => exact absurd rfl (n2 _)
  intro n
  induction n with
  | zero =>
    refine F.ok sc_sSame (fun vs H Q E h => ?_) (fun cdv A outer s H vs Q E hr h => ?_)
    · obtain ⟨x, y, d, rfl, _⟩ := h
      rfl
    · obtain ⟨x, y, d, rfl, dx, dy, dp, bk, q⟩ := h
      exact flat 0 x y d H Q E cdv A outer s dx dy (fun ds z => by rw [z, PyData.depth] at dp; omega) (fun ds z => by rw [z, PyData.depth] at dp; omega) q
  | succ n ih =>
    have NS : DefT P w K mg base "_law_same" (n + 1) f fd ["_law_found", "_law_due"] (spSame K n) := ⟨ih, g, kp, b⟩
    refine F.ok sc_sSame (fun vs H Q E h => ?_) (fun cdv A outer s H vs Q E hr h => ?_)
    · obtain ⟨x, y, d, rfl, _⟩ := h
      rfl
    · obtain ⟨x, y, d, rfl, dx, dy, dp, bk, q⟩ := h
      have nd := sc_sSame.nd
      by_cases isq : (∃ ds, d = .list ds) ∨ ∃ ds, d = .tuple ds
      · obtain ⟨a, c, xs, ys, ds, rfl, rfl, px, py, dpl, kind⟩ : ∃ a c xs ys ds, x = .ref a ∧ y = .ref c ∧ DpAll K H xs ds ∧ DpAll K H ys ds ∧ (PyData.depthAll ds ≤ n ∧ PyData.bulkAll ds ≤ 1000000) ∧ ((SqL K H a xs ∧ SqL K H c ys) ∨ (SqT K H a xs ∧ SqT K H c ys)) := by
          rcases isq with ⟨ds, rfl⟩ | ⟨ds, rfl⟩
          · cases dx with
            | lst h1 h2 =>
              cases dy with
              | lst h3 h4 => exact ⟨_, _, _, _, ds, rfl, rfl, h2, h4, ⟨by rw [PyData.depth] at dp; omega, by rw [PyData.bulk] at bk; omega⟩, .inl ⟨h1, h3⟩⟩
          · cases dx with
            | tup h1 h2 =>
              cases dy with
              | tup h3 h4 => exact ⟨_, _, _, _, ds, rfl, rfl, h2, h4, ⟨by rw [PyData.depth] at dp; omega, by rw [PyData.bulk] at bk; omega⟩, .inr ⟨h1, h3⟩⟩
        have lx := DpAll.len px
        have ly := DpAll.len py
        have nd := sc_sSame.nd
        refine ⟨_, pss_cons (ps_if (pt_val (pe_callB call_isiT (by rfl) mis (by decide +kernel) (pa_cons (pv 1) (pa_cons (pe_tup (pa_cons (pe_bltn (v := .ty "list") (u := .type "list") (by rfl) mT_list (by decide +kernel) rfl) (pa_cons (pe_bltn (v := .ty "tuple") (u := .type "tuple") (by rfl) mT_tuple (by decide +kernel) rfl) pa_nil))) pa_nil)))) (pss_cons (ps_if (PW.pt (pw_or (pt_not (pt_val (pe_callB call_isiT (by rfl) mis (by decide +kernel) (pa_cons (pv 0) (pa_cons (pe_tup (pa_cons (pe_bltn (v := .ty "list") (u := .type "list") (by rfl) mT_list (by decide +kernel) rfl) (pa_cons (pe_bltn (v := .ty "tuple") (u := .type "tuple") (by rfl) mT_tuple (by decide +kernel) rfl) pa_nil))) pa_nil))))) (pw_or1 (pt_cmpR op_ne (pe_callB call_isi (by rfl) mis (by decide +kernel) (pa_cons (pv 0) (pa_cons (pe_bltn (v := .ty "list") (u := .type "list") (by rfl) mT_list (by decide +kernel) rfl) pa_nil))) (pe_callB call_isi (by rfl) mis (by decide +kernel) (pa_cons (pv 1) (pa_cons (pe_bltn (v := .ty "list") (u := .type "list") (by rfl) mT_list (by decide +kernel) rfl) pa_nil))) (nomark _))))) (pss_one (ps_ret pe_bl)) pss_nil)
            (pss_one (ps_ret (pe_and (pe_cmpR op_eq (pe_callB call_len_seq (by rfl) ml PySem.boot_len (pa_cons (pv 0) pa_nil)) (pe_callB call_len_seq (by rfl) ml PySem.boot_len (pa_cons (pv 1) pa_nil)) (nomark _)) (pe_one (pe_callB (cr_all rfl) (by rfl) mal (by decide +kernel) (pa_cons (pe_lc (own := [("_law_one", 2), ("_law_other", 3)]) (g := gTup K 2 (gCons (gName 2) (gCons (gName 3) gNil))) (tt := tYes) (te := tCall (spSame K n) [] E0 (tCons (tVar 2) (tCons (tVar 3) tNil))) rfl nd (RZ.pi_zipA (by rfl) mz (pa_cons (pv 0) (pa_cons (pv 1) pa_nil))) (blkOk_by (N := sSameN) (sc := defScope sSame) (by decide +kernel)) (fun _ _ _ _ _ => (pg_tup (by rfl) (pgs_cons (pg_name (i := 2) nd rfl (Or.inl rfl)) (pgs_cons (pg_name (i := 3) nd rfl (Or.inl rfl)) pgs_nil)))) (fun _ _ _ _ _ => pts_nil) (fun _ _ _ _ _ => (pe_call NS.ok hr (by rfl) NS.g NS.kp NS.b .nil pass0 (pa_cons (pv 2) (pa_cons (pv 3) pa_nil))))) pa_nil))))))) pss_nil)
          (pss_one (ps_ret (pe_and (pe_cmpR op_eq (pe_callB call_isi (by rfl) mis (by decide +kernel) (pa_cons (pv 0) (pa_cons (pe_bltn (v := .ty "bool") (u := .type "bool") (by rfl) mT_bool (by decide +kernel) rfl) pa_nil))) (pe_callB call_isi (by rfl) mis (by decide +kernel) (pa_cons (pv 1) (pa_cons (pe_bltn (v := .ty "bool") (u := .type "bool") (by rfl) mT_bool (by decide +kernel) rfl) pa_nil))) (nomark _)) (pe_one (pe_cmpR op_eq (pv 0) (pv 1) (nomark _)))))), ?_⟩
        have ty : ∀ {H' : Hp}, Same H H' → ∃ t bb, TyX K H' (.ref a) (.type t) ∧ TyX K H' (.ref c) (.type t) ∧ PySem.W.kitAny K (.type t) [.type "list", .type "tuple"] = some true ∧ kitB t "list" = some bb := fun sm => by
          rcases kind with ⟨k1, k2⟩ | ⟨k1, k2⟩
          · exact ⟨"list", true, ty_l (sql_on sm k1), ty_l (sql_on sm k2), seq_l, by decide +kernel⟩
          · exact ⟨"tuple", false, ty_t (sqt_on sm k1), ty_t (sqt_on sm k2), seq_t, by decide +kernel⟩
        refine ⟨_, rfl, (by show 2 ≤ sizeLine; decide), fun tq ntq => ?_⟩
        have s1 := @same_new _ _ (.tup [V.ty "list", V.ty "tuple"]) ntq
        obtain ⟨t, bb, t1, t2, t3, t4⟩ := ty s1
        refine ⟨_, tq, _, _, _, true, rfl, upd_same, clsLT, t2, t3, _, rfl, iteT ?_⟩
        clear t1 t2 t3 t4
        refine ⟨_, rfl, (by show 2 ≤ sizeLine; decide), fun tr ntr => ?_⟩
        have s2 := s1.trans (@same_new _ _ (.tup [V.ty "list", V.ty "tuple"]) ntr)
        obtain ⟨t, bb, t1, t2, t3, t4⟩ := ty s2
        refine ⟨_, tr, _, _, _, true, rfl, upd_same, clsLT, t1, t3, _, rfl, iteF ?_⟩
        refine ⟨_, rfl, _, _, _, _, bb, rfl, .ty "list", t1, kit_ty t4, _, rfl, _, _, _, _, bb, rfl, .ty "list", t2, kit_ty t4, rfl, _, rfl, ?_⟩
        rw [decide_eq_true rfl]
        refine iteF ?_
        generalize upd (upd H tq (.tup [V.ty "list", V.ty "tuple"])) tr (.tup [V.ty "list", V.ty "tuple"]) = H2 at s2
        have kd : (SqL K H2 a xs ∧ SqL K H2 c ys) ∨ (SqT K H2 a xs ∧ SqT K H2 c ys) := kind.imp (fun z => ⟨sql_on s2 z.1, sql_on s2 z.2⟩) fun z => ⟨sqt_on s2 z.1, sqt_on s2 z.2⟩
        have ka : SqL K H2 a xs ∨ SqT K H2 a xs := kd.imp (·.1) (·.1)
        have kc : SqL K H2 c ys ∨ SqT K H2 c ys := kd.imp (·.2) (·.2)
        refine ⟨_, rfl, a, xs, rfl, ka, _, rfl, c, ys, rfl, kc, rfl, ?_⟩
        rw [decide_eq_true (show V.int (xs.length : Int) = V.int (ys.length : Int) by rw [lx, ly])]
        refine ⟨true, rfl, iteT ?_⟩
        refine ⟨_, rfl, _, rfl, a, c, xs, ys, rfl, ?_⟩
        rcases kd with ⟨k1, k2⟩ | ⟨k1, k2⟩
        · refine .inl ⟨k1, k2, fun D nD => ?_⟩
          refine lc_zip (xs := xs) (ys := ys) (At := fun H' => SqL K H' a xs ∧ SqL K H' c ys) (by rw [lx, ly]) (fun i H' h lt => ?_) (fun i H' v H'' h y => ?_) (fun i H' h le => ⟨xs, ys, h.1, h.2, .inl le⟩) (fun i H' => Same H2 H' ∧ H' D = some (.lst ((List.replicate i true).map V.bl))) ⟨same_new nD, upd_same⟩ (fun i H' _ h => ⟨sql_on h.1 k1, sql_on h.1 k2⟩) ?_ ?_
          · exact ⟨xs, ys, xs[i], ys[i]'(by rw [← ly] at lx; omega), h.1, h.2, List.getElem?_eq_getElem lt, List.getElem?_eq_getElem _⟩
          · obtain ⟨T, x', y', rfl, nT, rfl, f1, f2⟩ := y
            exact ⟨T, x', y', rfl, nT, rfl, f1 xs h.1, f2 ys h.2⟩
          · intro i T x y H' hx hy pv nT
            obtain ⟨d, hd, dx⟩ := dpall_get px hx
            obtain ⟨d', hd', dy⟩ := dpall_get py hy
            rw [hd] at hd'
            obtain rfl := Option.some.inj hd'
            have md := List.mem_of_getElem? hd
            have sT := @same_new _ _ (.tup [x, y]) nT
            have sAll := s2.trans (pv.1.trans sT)
            refine ⟨T, _, rfl, SqT.of upd_same, rfl, _, _, rfl, _, _, rfl, rfl, rfl, yesT ⟨_, rfl, _, rfl, x, y, d, rfl, Shelf.Dp.on sAll dx, Shelf.Dp.on sAll dy, Nat.le_trans (depth_mem md) dpl.1, Nat.le_trans (bulk_mem md).1 dpl.2, fun H4 s4 => ?_⟩⟩
            have hD4 := s4 _ _ (sT _ _ pv.2)
            have il : i < ds.length := by rw [← lx]; exact (List.getElem?_eq_some_iff.mp hx).1
            have lb := bulk_len ds
            refine ⟨_, hD4, ?_, fun b o e => (upd_ne (ne_of_none e nD)).trans (s4 b o (sT b o (pv.1 b o e))), ?_⟩
            · rw [List.length_map, List.length_replicate, sizeLine_eq]
              omega
            · rw [upd_same, List.replicate_succ', List.map_append]
              rfl
          · rintro H' ⟨sm, hD⟩
            refine ⟨D, _, rfl, SqL.of hD, ?_⟩
            rw [show (List.replicate xs.length true).all id = true by simp]
            exact q _ (s2.trans sm)
        · refine .inr ⟨k1, k2, fun D nD => ?_⟩
          refine lc_zip (xs := xs) (ys := ys) (At := fun H' => SqT K H' a xs ∧ SqT K H' c ys) (by rw [lx, ly]) (fun i H' h lt => ?_) (fun i H' v H'' h y => ?_) (fun i H' h le => ⟨xs, ys, h.1, h.2, .inl le⟩) (fun i H' => Same H2 H' ∧ H' D = some (.lst ((List.replicate i true).map V.bl))) ⟨same_new nD, upd_same⟩ (fun i H' _ h => ⟨sqt_on h.1 k1, sqt_on h.1 k2⟩) ?_ ?_
          · exact ⟨xs, ys, xs[i], ys[i]'(by rw [← ly] at lx; omega), h.1, h.2, List.getElem?_eq_getElem lt, List.getElem?_eq_getElem _⟩
          · obtain ⟨T, x', y', rfl, nT, rfl, f1, f2⟩ := y
            exact ⟨T, x', y', rfl, nT, rfl, f1 xs h.1, f2 ys h.2⟩
          · intro i T x y H' hx hy pv nT
            obtain ⟨d, hd, dx⟩ := dpall_get px hx
            obtain ⟨d', hd', dy⟩ := dpall_get py hy
            rw [hd] at hd'
            obtain rfl := Option.some.inj hd'
            have md := List.mem_of_getElem? hd
            have sT := @same_new _ _ (.tup [x, y]) nT
            have sAll := s2.trans (pv.1.trans sT)
            refine ⟨T, _, rfl, SqT.of upd_same, rfl, _, _, rfl, _, _, rfl, rfl, rfl, yesT ⟨_, rfl, _, rfl, x, y, d, rfl, Shelf.Dp.on sAll dx, Shelf.Dp.on sAll dy, Nat.le_trans (depth_mem md) dpl.1, Nat.le_trans (bulk_mem md).1 dpl.2, fun H4 s4 => ?_⟩⟩
            have hD4 := s4 _ _ (sT _ _ pv.2)
            have il : i < ds.length := by rw [← lx]; exact (List.getElem?_eq_some_iff.mp hx).1
            have lb := bulk_len ds
            refine ⟨_, hD4, ?_, fun b o e => (upd_ne (ne_of_none e nD)).trans (s4 b o (sT b o (pv.1 b o e))), ?_⟩
            · rw [List.length_map, List.length_replicate, sizeLine_eq]
              omega
            · rw [upd_same, List.replicate_succ', List.map_append]
              rfl
          · rintro H' ⟨sm, hD⟩
            refine ⟨D, _, rfl, SqL.of hD, ?_⟩
            rw [show (List.replicate xs.length true).all id = true by simp]
            exact q _ (s2.trans sm)
      · exact flat n x y d H Q E cdv A outer s dx dy (fun ds z => isq (.inl ⟨ds, z⟩)) (fun ds z => isq (.inr ⟨ds, z⟩)) q
end
/-! ### parts of tuples, tuples one behind the other -/
theorem cut_head {xs : List V} {k : Nat} : cutV xs none (some (k : Int)) = xs.take k := by
  unfold cutV
  rw [HT.sIx_nat]
  show (xs.drop 0).take (min k xs.length - 0) = _
  rw [List.drop_zero, Nat.sub_zero, ← List.take_eq_take_min]
theorem cut_tail {xs : List V} {k : Nat} : cutV xs (some (k : Int)) none = xs.drop k := by
  unfold cutV
  rw [HT.sIx_nat, HT.sIx_none]
  by_cases h : k ≤ xs.length
  · rw [Nat.min_eq_left h, List.take_of_length_le (by rw [List.length_drop]; exact Nat.le_refl _)]
  · rw [Nat.min_eq_right (by omega), List.drop_of_length_le (by omega), List.drop_of_length_le (by omega), List.take_nil]
/-- a part of a tuple, made or the same -/
def rSlS : V → Option Int → Option Int → Hp → VK → Prop := fun x lo hi H Q => ∃ (a : Addr) (xs : List V), x = .ref a ∧ H a = some (.tup xs) ∧ ∀ (b : Addr) (H' : Hp), Same H H' → H' b = some (.tup (cutV xs lo hi)) → Q (.ref b) H'
theorem sl_S {X : Cx} : SlR X rSlS := by
  rintro pins s σ H x v vl vu lo hi sl Q I rx hs pl pu ⟨a, xs, rfl, ha, q⟩
  refine sl_tupA pins s σ H _ v vl vu _ _ sl Q I rx hs pl pu ⟨a, xs, rfl, SqT.of ha, fun z => q a H (fun _ _ e => e) ?_, fun _ p np => q p _ (same_new np) upd_same⟩
  rw [ha]
  unfold cutV
  rw [z.1, z.2, List.drop_zero, Nat.sub_zero, List.take_length]
/-- tuples one behind the other -/
theorem op_catS {X : Cx} : OpR X (binaryOp .Add) (fun x y H Q => ∃ (a b : Addr) (xs ys : List V), x = .ref a ∧ y = .ref b ∧ H a = some (.tup xs) ∧ H b = some (.tup ys) ∧ xs ≠ [] ∧ xs.length + ys.length ≤ sizeLine ∧
    ∀ (t : Addr) (H' : Hp), Same H H' → H' t = some (.tup (xs ++ ys)) → Q (.ref t) H') := by
  rintro pins s σ H x y v u Q I rx ry ⟨a, b, xs, ys, rfl, rfl, ha, hb, ne, hz, q⟩
  refine op_catT pins s σ H _ _ v u Q I rx ry ⟨a, b, xs, ys, rfl, rfl, SqT.of ha, SqT.of hb, ne, hz, fun z => q a H (fun _ _ e => e) ?_, fun _ p np => q p _ (same_new np) upd_same⟩
  rw [ha, z, List.append_nil]
theorem vals_len_e (e : Ent) : 5 ≤ e.vals.length ∧ e.vals.length ≤ 7 := by cases e <;> simp [Ent.vals, Ent.rest]
/-! ### forms and states -/
def Ent.setM (m : Int) : Ent → Ent
  | .come n _ g p k r => .come n m g p k r
  | .go n _ g p k => .go n m g p k
  | .move n _ g o t k => .move n m g o t k
  | .some_ n _ g o t => .some_ n m g o t
  | .swap n _ o t => .swap n m o t
  | .count n _ g p k h => .count n m g p k h
  | .look n _ g p => .look n m g p
theorem setM_vals (m : Int) (e : Ent) : e.vals.take 2 ++ [V.int m] ++ e.vals.drop 3 = (e.setM m).vals := by cases e <;> rfl
theorem setM_own (e : Ent) : e.setM e.moment = e := by cases e <;> rfl
theorem setM_name (m : Int) (e : Ent) : (e.setM m).name = e.name := by cases e <;> rfl
structure Fm where
  f : Addr
  ea : Addr
  e : Ent
  mo : Int
structure FmAt (H : Hp) (x : Fm) : Prop where
  f : H x.f = some (.tup [.ref x.ea, .int x.mo])
  e : H x.ea = some (.tup x.e.vals)
theorem FmAt.on {H H' : Hp} {x : Fm} (k : TK H H') (h : FmAt H x) : FmAt H' x := ⟨k _ _ h.f, k _ _ h.e⟩
structure SAt (H : Hp) (s a1 a2 F B : Addr) (P G : List Str) (fs : List Fm) (bs : List Str) (cl md : V) : Prop where
  s : H s = some (.tup [.ref a1, .ref a2, .ref F, .ref B, cl, md])
  p : H a1 = some (.tup (P.map V.str))
  g : H a2 = some (.tup (G.map V.str))
  f : H F = some (.tup (fs.map fun x => V.ref x.f))
  b : H B = some (.tup (bs.map V.str))
  fm : ∀ x ∈ fs, FmAt H x
theorem SAt.on {H H' : Hp} (k : TK H H') {s a1 a2 F B : Addr} {P G : List Str} {fs : List Fm} {bs : List Str} {cl md : V} (h : SAt H s a1 a2 F B P G fs bs cl md) : SAt H' s a1 a2 F B P G fs bs cl md :=
  ⟨k _ _ h.s, k _ _ h.p, k _ _ h.g, k _ _ h.f, k _ _ h.b, fun x hx => (h.fm x hx).on k⟩
def sortEnt (es : List Ent) : List Ent := es.mergeSort fun a b => PySem.W.dataLe false id (ordD a) (ordD b)
theorem sortE_map (pr : List (Addr × Ent)) : (sortE pr).map (·.2) = sortEnt (pr.map (·.2)) := List.map_mergeSort fun _ _ _ _ => rfl
/-- a form stands -/
def stB (ns bs : List Str) (n : Str) : Bool := decide (ns.count n = 1) && !decide (n ∈ bs)
def standL (fs : List Fm) (bs : List Str) : List Ent := (fs.filter fun x => stB (fs.map (·.e.name)) bs x.e.name).map fun x => x.e.setM x.mo
def spWithM : Sp := fun vs H Q _ => ∃ (a : Addr) (e : Ent) (m : Int), vs = [.ref a, .int m] ∧ H a = some (.tup e.vals) ∧ ∀ (t : Addr) (H' : Hp), Same H H' → H' t = some (.tup (e.setM m).vals) → Q (.ref t) H'
def spStanding : Sp := fun vs H Q _ => ∃ (s a1 a2 F B : Addr) (P G : List Str) (fs : List Fm) (bs : List Str) (cl md : V), vs = [.ref s] ∧ SAt H s a1 a2 F B P G fs bs cl md ∧ fs.length ≤ 100 ∧
  ∀ (tp : Addr) (qr : List (Addr × Ent)) (H' : Hp), Same H H' → H' tp = some (.tup (qr.map fun x => V.ref x.1)) → (∀ x ∈ qr, H' x.1 = some (.tup x.2.vals)) → qr.map (·.2) = sortEnt (standL fs bs) → Q (.ref tp) H'
section
variable {P : Program} {w : World} {K : PySem.W.Frag} {mg : Str → Option Value} {base : Heap}
abbrev sWithMomentN : List Str := ["entry", "moment"]
theorem sc_sWithMoment : FnScope sWithMomentN ["entry", "moment"] (defScope sWithMoment) := ⟨rfl, rfl, rfl, by decide +kernel, rfl, by decide +kernel, by decide +kernel⟩
theorem ok_withM {f : Addr} {fd : FuncData} (F : Fun K "with_moment" "with_moment" sWithMoment f fd) : FnOk P w K mg base CX0 1 f fd ["entry", "moment"] spWithM := by
  refine F.ok sc_sWithMoment (fun vs H Q E h => ?_) (fun cdv A outer s H vs Q E hr h => ?_)
  · obtain ⟨a, e, d, rfl, _⟩ := h
    rfl
  · obtain ⟨a, e, m, rfl, ha, q⟩ := h
    have nd := sc_sWithMoment.nd
    refine ⟨_, pss_one (ps_ret (pe_op op_catS (pe_op op_catS (pe_slice sl_S (pv 0) po_none (po_some pe_int)) (pe_tup (pa_cons (pv 1) pa_nil))) (pe_slice sl_S (pv 0) (po_some pe_int) po_none))), ?_⟩
    refine ⟨_, rfl, 2, rfl, a, _, rfl, ha, fun b1 H1 s1 h1 => ?_⟩
    have c1 : cutV e.vals none (some (2 : Int)) = e.vals.take 2 := cut_head (k := 2)
    rw [c1] at h1
    refine ⟨_, rfl, (by show 1 ≤ sizeLine; decide), fun b2 n2 => ?_⟩
    have s2 := @same_new _ _ (.tup [V.int m]) n2
    have l2 : (e.vals.take 2).length = 2 := by
      rw [List.length_take]
      have := (vals_len_e e).1
      omega
    refine ⟨b1, b2, _, _, rfl, rfl, s2 _ _ h1, upd_same, (by intro z; rw [z] at l2; cases l2), (by rw [l2]; show 2 + 1 ≤ sizeLine; decide), fun b3 H3 s3 h3 => ?_⟩
    have s13 := (s1.trans s2).trans s3
    refine ⟨_, rfl, 3, rfl, a, _, rfl, s13 _ _ ha, fun b4 H4 s4 h4 => ?_⟩
    have c2 : cutV e.vals (some (3 : Int)) none = e.vals.drop 3 := cut_tail (k := 3)
    rw [c2] at h4
    refine ⟨b3, b4, _, _, rfl, rfl, s4 _ _ h3, h4, (by intro z; have := congrArg List.length z; rw [List.length_append, l2] at this; cases this), ?_, fun b5 H5 s5 h5 => ?_⟩
    · rw [List.length_append, l2, List.length_drop]
      have := (vals_len_e e).2
      have bg : 100 ≤ sizeLine := by decide
      show 2 + 1 + _ ≤ _
      omega
    · refine q b5 H5 (s13.trans (s4.trans s5)) ?_
      rw [h5, setM_vals]
abbrev sStandingN : List Str := ["state", "forms", "backs", "names", "entry", "moment"]
theorem sc_sStanding : FnScope sStandingN ["state"] (defScope sStanding) := ⟨rfl, rfl, rfl, by decide +kernel, rfl, by decide +kernel, by decide +kernel⟩
set_option maxHeartbeats 1000000 in
theorem ok_standing {f fI fW : Addr} {fd dI dW : FuncData} (F : Fun K "standing" "standing" sStanding f fd) (IN : DefT P w K mg base "in_order" 4 fI dI ["entries"] spInOrder) (WM : DefT P w K mg base "with_moment" 1 fW dW ["entry", "moment"] spWithM) : FnOk P w K mg base CX0 5 f fd ["state"] spStanding := by
  refine F.ok sc_sStanding (fun vs H Q E h => ?_) (fun cdv A outer s H vs Q E hr h => ?_)
  · obtain ⟨st, a1, a2, Fa, Ba, Ps, G, fs, bs, cl, md, rfl, _⟩ := h
    rfl
  · obtain ⟨st, a1, a2, Fa, Ba, Ps, G, fs, bs, cl, md, rfl, sa, lf, q⟩ := h
    have nd := sc_sStanding.nd
    have hr1 : Room 1 _ := hr.mono (by decide)
    have nd := sc_sStanding.nd
    have hr1 : Room 1 _ := hr.mono (by decide)
    refine ⟨_, pss_cons (ps_set (i := 1) nd rfl (Or.inl rfl) (pe_ix ix_tup (pv 0) pe_int (fun _ _ => rfl)))
      (pss_cons (ps_set (i := 2) nd rfl (Or.inr rfl) (pe_ix ix_tup (pv 0) pe_int (fun _ _ => rfl)))
      (pss_cons (ps_set (i := 3) nd rfl (Or.inr rfl) (pe_lc (own := [("entry", 4), ("moment", 5)]) (g := gTup K 2 (gCons (gName 4) (gCons (gName 5) gNil))) (tt := tYes) (te := tOp (rIxT K) (tVar 4) (tC (V.int 1))) rfl nd (pi_tup (pv 1)) (blkOk_by (N := sStandingN) (sc := defScope sStanding) (by decide +kernel)) (fun _ _ _ _ _ => (pg_tup (by rfl) (pgs_cons (pg_name (i := 4) nd rfl (Or.inl rfl)) (pgs_cons (pg_name (i := 5) nd rfl (Or.inl rfl)) pgs_nil)))) (fun _ _ _ _ _ => pts_nil) (fun _ _ _ _ _ => (pe_ix ix_tup (pv 4) pe_int (fun _ _ => rfl)))))
      (pss_one (ps_ret (pe_call IN.ok hr (by rfl) IN.g IN.kp IN.b .nil pass0 (pa_cons (pe_lc (own := [("entry", 4), ("moment", 5)]) (g := gTup K 2 (gCons (gName 4) (gCons (gName 5) gNil))) (tt := tAnd (tTest (tOp rEq (tBM K "list" (rCntS K) (tVar 3) (tCons (tOp (rIxT K) (tVar 4) (tC (V.int 1))) tNil)) (tC (V.int 1)))) (tTest (tOp (rIn K true) (tOp (rIxT K) (tVar 4) (tC (V.int 1))) (tVar 2)))) (te := tCall spWithM [] E0 (tCons (tVar 4) (tCons (tVar 5) tNil))) rfl nd (pi_tup (pv 1)) (blkOk_by (N := sStandingN) (sc := defScope sStanding) (by decide +kernel)) (fun _ _ _ _ _ => (pg_tup (by rfl) (pgs_cons (pg_name (i := 4) nd rfl (Or.inl rfl)) (pgs_cons (pg_name (i := 5) nd rfl (Or.inl rfl)) pgs_nil)))) (fun _ _ _ _ _ => (pts_one (PW.pt (pw_and (pt_cmpR op_eq (pe_bm PySem.F.plainAttrs_list PySem.F.slot_list_count PySem.F.type_list_count mt_lcountS (pv 3) (pa_cons (pe_ix ix_tup (pv 4) pe_int (fun _ _ => rfl)) pa_nil)) pe_int (nomark _)) (pw_and1 (pt_cmpR op_notIn_seq (pe_ix ix_tup (pv 4) pe_int (fun _ _ => rfl)) (pv 2) (by rfl))))))) (fun _ _ _ _ _ => (pe_call WM.ok hr1 (by rfl) WM.g WM.kp WM.b .nil pass0 (pa_cons (pv 4) (pa_cons (pv 5) pa_nil))))) pa_nil)))))), ?_⟩
    refine ⟨_, rfl, st, _, 2, _, rfl, rfl, SqT.of sa.s, atI_nat (j := 2) rfl, ?_⟩
    refine ⟨_, rfl, st, _, 3, _, rfl, rfl, SqT.of sa.s, atI_nat (j := 3) rfl, ?_⟩
    -- the names
    refine ⟨_, rfl, Fa, rfl, ⟨_, SqT.of sa.f⟩, fun D nD => ?_⟩
    refine lc_tup (K := K) (a := Fa) (xs := fs.map fun x => V.ref x.f) (fun i H' => Same H H' ∧ H' D = some (.lst (((fs.take i).map (·.e.name)).map V.str))) ⟨same_new nD, upd_same⟩ (fun i H' _ h => SqT.of (h.1 _ _ sa.f)) ?_ ?_
    · rintro i v H' hx ⟨sm, hD⟩
      rw [List.getElem?_map] at hx
      obtain ⟨x, hy, rfl⟩ := Option.map_eq_some_iff.mp hx
      have il := (List.getElem?_eq_some_iff.mp hy).1
      have fx := (sa.fm x (List.mem_of_getElem? hy)).on (TK.of sm)
      refine ⟨x.f, _, rfl, SqT.of fx.f, rfl, _, _, rfl, _, _, rfl, rfl, rfl, yesT ⟨_, rfl, x.ea, _, 1, _, rfl, rfl, SqT.of fx.e, at1 x.e, _, hD, ?_, fun b o e => (upd_ne (ne_of_none e nD)).trans (sm b o e), ?_⟩⟩
      · rw [List.length_map, List.length_map, List.length_take]
        exact small1000 (by omega)
      · rw [upd_same, take_sn hy, List.map_append, List.map_append]
        rfl
    · rintro H1 ⟨s1, hD1⟩
      rw [List.length_map, List.take_length] at hD1
      have sa1 := sa.on (TK.of s1)
      refine ⟨_, rfl, Fa, rfl, ⟨_, SqT.of sa1.f⟩, fun L nL => ?_⟩
      have nDL : D ≠ L := ne_of_none hD1 nL
      refine lc_tup (K := K) (a := Fa) (xs := fs.map fun x => V.ref x.f) (fun i H' => Same H1 H' ∧ ∃ pr : List (Addr × Ent), H' L = some (.lst (pr.map fun x => V.ref x.1)) ∧ (∀ x ∈ pr, H' x.1 = some (.tup x.2.vals)) ∧ pr.length ≤ i ∧
          pr.map (·.2) = ((fs.take i).filter fun x => stB (fs.map (·.e.name)) bs x.e.name).map fun x => x.e.setM x.mo) ⟨same_new nL, [], upd_same, fun y hy => (nomatch hy), Nat.le_refl _, rfl⟩ (fun i H' _ h => SqT.of (h.1 _ _ sa1.f)) ?_ ?_
      · rintro i v H' hx ⟨sm, pr, hL, hE, lp, ep⟩
        rw [List.getElem?_map] at hx
        obtain ⟨x, hy, rfl⟩ := Option.map_eq_some_iff.mp hx
        have il := (List.getElem?_eq_some_iff.mp hy).1
        have sa' := sa1.on (TK.of sm)
        have fx := sa'.fm x (List.mem_of_getElem? hy)
        refine ⟨x.f, _, rfl, SqT.of fx.f, rfl, _, _, rfl, _, _, rfl, rfl, rfl, ?_⟩
        refine ⟨_, rfl, .inl ⟨rfl, _, SqL.of (sm _ _ hD1)⟩, _, rfl, x.ea, _, 1, _, rfl, rfl, SqT.of fx.e, at1 x.e, D, _, _, rfl, rfl, SqL.of (sm _ _ hD1), rfl, _, rfl, ?_⟩
        by_cases c1 : (fs.map (·.e.name)).count x.e.name = 1
        · rw [decide_eq_true (show V.int (((fs.map (·.e.name)).count x.e.name : Nat) : Int) = V.int 1 by rw [c1]; rfl)]
          refine iteT ⟨_, rfl, x.ea, _, 1, _, rfl, rfl, SqT.of fx.e, at1 x.e, _, rfl, Ba, bs.map V.str, rfl, .inr (SqT.of sa'.b), rfl, all_flat _, _, rfl, ?_⟩
          rw [if_pos rfl, inV_iff]
          by_cases c2 : x.e.name ∈ bs
          · rw [decide_eq_true c2]
            refine iteF ⟨sm, pr, hL, hE, by omega, ?_⟩
            rw [ep, take_sn hy, List.filter_append, List.map_append]
            have : ([x].filter fun x => stB (fs.map (·.e.name)) bs x.e.name) = [] := by
              rw [List.filter_cons, if_neg (by unfold stB; rw [decide_eq_true c2]; simp)]
              rfl
            rw [this]
            simp
          · rw [decide_eq_false c2]
            refine iteT ⟨_, rfl, _, rfl, x.ea, x.e, x.mo, rfl, fx.e, fun tp H4 s4 h4 => ?_⟩
            have hL4 := s4 _ _ hL
            refine ⟨_, hL4, ?_, fun b o e => (upd_ne (ne_of_none e nL)).trans (s4 b o (sm b o e)), pr ++ [(tp, x.e.setM x.mo)], ?_, ?_, ?_, ?_⟩
            · rw [List.length_map]
              exact small1000 (by omega)
            · rw [upd_same, List.map_append]
              rfl
            · intro y hy'
              have nt : ∀ {b : Addr} {ws : List V}, H4 b = some (.tup ws) → (upd H4 L (.lst (pr.map (fun x => V.ref x.1) ++ [V.ref tp]))) b = some (.tup ws) := fun h => (upd_ne (ne_of h hL4 (by intro z; cases z))).trans h
              rcases List.mem_append.mp hy' with h | h
              · exact nt (s4 _ _ (hE y h))
              · rw [List.mem_singleton.mp h]
                exact nt h4
            · rw [List.length_append]
              simp only [List.length_cons, List.length_nil]
              omega
            · rw [List.map_append, ep, take_sn hy, List.filter_append, List.map_append]
              have : ([x].filter fun x => stB (fs.map (·.e.name)) bs x.e.name) = [x] := by
                rw [List.filter_cons, if_pos (by unfold stB; rw [decide_eq_true c1, decide_eq_false c2]; rfl)]
                rfl
              rw [this]
              rfl
        · rw [decide_eq_false (fun z => c1 (by have := V.int.inj z; omega))]
          refine iteF (iteF ⟨sm, pr, hL, hE, by omega, ?_⟩)
          rw [ep, take_sn hy, List.filter_append, List.map_append]
          have : ([x].filter fun x => stB (fs.map (·.e.name)) bs x.e.name) = [] := by
            rw [List.filter_cons, if_neg (by unfold stB; rw [decide_eq_false c1]; simp)]
            rfl
          rw [this]
          simp
      · rintro H2 ⟨sm, pr, hL, hE, lp, ep⟩
        rw [List.length_map, List.take_length] at ep
        refine ⟨L, pr, rfl, hL, hE, fun tp H3 ntp s3 h3 => ?_⟩
        refine q tp (sortE pr) H3 (s1.trans (sm.trans s3)) h3 (fun x hx => s3 _ _ (hE x ((sortE_p pr).mem_iff.mp hx))) ?_
        rw [sortE_map, ep]
        rfl
end
/-! ### states without closed days -/
def formD (x : Fm) : PyData := .tuple [entD x.e, .int x.mo]
def sortFm (fs : List Fm) : List Fm := fs.mergeSort fun a b => PySem.W.dataLe false id (formD a) (formD b)
def fmV (x : Fm) : V × PyData := (.ref x.f, formD x)
theorem keyed_fm (fs : List Fm) : keyed (fs.map fmV) = (sortFm fs).map fmV := (List.map_mergeSort (f := fmV) (s := PySem.W.dataLe false fun e : V × PyData => e.2) (r := fun a b => PySem.W.dataLe false id (formD a) (formD b)) (l := fs) fun a _ b _ => rfl).symm
theorem sortFm_p (fs : List Fm) : (sortFm fs).Perm fs := List.mergeSort_perm _ _
theorem fm_dp {K : PySem.W.Frag} {H : Hp} {x : Fm} (h : FmAt H x) : Dp K H (.ref x.f) (formD x) := .tup (SqT.of h.f) (.cons (dp_ent h.e) (.cons (.int _) .nil))
theorem fms_dp {K : PySem.W.Frag} {H : Hp} : ∀ {fs : List Fm}, (∀ x ∈ fs, FmAt H x) → DpAll K H (fs.map fun x => V.ref x.f) (fs.map formD)
  | [], _ => .nil
  | x :: r, h => .cons (fm_dp (h x List.mem_cons_self)) (fms_dp fun y hy => h y (List.mem_cons_of_mem _ hy))
theorem wne {a b : String} (h : (Str.ofString a == Str.ofString b) = false) : PyData.eqv (.str (Str.ofString a)) (.str (Str.ofString b)) = false := h
theorem cmp_ent (e f : Ent) : Cs.cmpOk (entD e) (entD f) = true := by
  cases e <;> cases f <;> first
    | (simp [entD, Ent.vals, Ent.rest, Ent.word, dV, Cs.cmpOk, Cs.cmpAll]; done)
    | (simp [entD, Ent.vals, Ent.rest, Ent.word, dV, Cs.cmpOk, Cs.cmpAll]; exact .inl (wne (by decide +kernel)))
theorem pt_never {X : Cx} {e : Expr} : PT X e (fun _ _ _ => False) := ⟨fun _ _ _ _ _ _ h => h.elim⟩
theorem cmp_fm (x y : Fm) : Cs.cmpOk (formD x) (formD y) = true := by
  show (Cs.cmpOk (entD x.e) (entD y.e) && (!PyData.eqv (entD x.e) (entD y.e) || (Cs.cmpOk (.int x.mo) (.int y.mo) && (!PyData.eqv (.int x.mo) (.int y.mo) || true)))) = true
  rw [cmp_ent]
  simp [Cs.cmpOk]
def spIsClosed : Sp := fun vs H Q _ => ∃ m : Int, vs = [.int m, .non] ∧ Q (.bl false) H
def spToStand : Sp := fun vs H Q _ => ∃ (a : Addr) (e : Ent), vs = [.ref a, .non, .non] ∧ H a = some (.tup e.vals) ∧ Q (.int e.moment) H
def spInClosed : Sp := fun vs H Q _ => ∃ (s a1 a2 F B : Addr) (P G : List Str) (fs : List Fm) (bs : List Str) (md : V), vs = [.ref s] ∧ SAt H s a1 a2 F B P G fs bs .non md ∧ fs.length ≤ 100 ∧
  ∀ (D : Addr) (H' : Hp), Same H H' → H' D = some (.lst []) → Q (.ref D) H'
def spAllowed : Sp := fun vs H Q _ => ∃ (s a1 a2 F B : Addr) (P G : List Str) (fs : List Fm) (bs : List Str) (md : V) (s' a1' a2' F' B' : Addr) (P' G' : List Str) (fs' : List Fm) (bs' : List Str) (md' : V), vs = [.ref s, .ref s'] ∧ SAt H s a1 a2 F B P G fs bs .non md ∧ SAt H s' a1' a2' F' B' P' G' fs' bs' .non md' ∧ fs.length ≤ 100 ∧
  fs'.length ≤ 60 ∧ bs'.length ≤ 60 ∧ (standL fs' bs').length ≤ 30 ∧ ∀ H', Same H H' → Q (.ref s') H'
/-- what stands, put down once more or for the first time -/
def spEntered (Ts : List Addr) : Sp := fun vs H Q _ => ∃ (s ea a1 a2 F B : Addr) (P G : List Str) (fs : List Fm) (bs : List Str) (e : Ent), vs = [.ref s, .ref ea] ∧ SAt H s a1 a2 F B P G fs bs .non .non ∧ H ea = some (.tup e.vals) ∧ e.Fine ∧ ofB e P G = true ∧ SeqAt.shaped (entD e) = true ∧ (∀ x ∈ fs, SeqAt.shaped (entD x.e) = true ∧ (formD x).canLay0 = true) ∧ (PyData.canLay0 (.tuple [entD e, .int e.moment])) = true ∧
  fs.length < 60 ∧ bs.length ≤ 60 ∧ (∀ x : Fm, x.e = e → x.mo = e.moment → (standL (sortFm (fs ++ [x])) bs).length ≤ 30) ∧ TabsG Ts H ∧
  ((∃ x ∈ fs, PyData.eqv (entD x.e) (entD e) = true) → ∀ H', TB1 Ts H H' → Q (.ref s) H') ∧
  ((∀ x ∈ fs, PyData.eqv (entD x.e) (entD e) = false) → ∀ (s' fm F' : Addr) (H' : Hp), TB1 Ts H H' → SAt H' s' a1 a2 F' B P G (sortFm (fs ++ [⟨fm, ea, e, e.moment⟩])) bs .non .non → Q (.ref s') H')
section
variable {P : Program} {w : World} {K : PySem.W.Frag} {mg : Str → Option Value} {base : Heap}
abbrev sIsClosedN : List Str := ["moment", "closed"]
theorem sc_sIsClosed : FnScope sIsClosedN ["moment", "closed"] (defScope sIsClosed) := ⟨rfl, rfl, rfl, by decide +kernel, rfl, by decide +kernel, by decide +kernel⟩
theorem ok_isClosed {f fD : Addr} {fd dD : FuncData} (F : Fun K "is_closed" "is_closed" sIsClosed f fd) (DY : DefT P w K mg base "day_of" 1 fD dD ["moment"] spDay) : FnOk P w K mg base CX0 2 f fd ["moment", "closed"] spIsClosed := by
  refine F.ok sc_sIsClosed (fun vs H Q E h => ?_) (fun cdv A outer s H vs Q E hr h => ?_)
  · obtain ⟨m, rfl, _⟩ := h
    rfl
  · obtain ⟨m, rfl, q⟩ := h
    have nd := sc_sIsClosed.nd
    have nd := sc_sIsClosed.nd
    refine ⟨_, pss_one (ps_ret (pe_and (pe_cmpR op_notN (pv 1) pe_non (by rfl)) (pe_one (pe_cmpR op_le (pe_call DY.ok hr (by rfl) DY.g DY.kp DY.b .nil pass0 (pa_cons (pv 0) pa_nil)) (pv 1) (nomark _))))), ?_⟩
    exact ⟨_, rfl, rfl, false, rfl, iteF q⟩
abbrev sToStandN : List Str := ["entry", "closed", "mode", "moment"]
theorem sc_sToStand : FnScope sToStandN ["entry", "closed", "mode"] (defScope sToStand) := ⟨rfl, rfl, rfl, by decide +kernel, rfl, by decide +kernel, by decide +kernel⟩
theorem ok_toStand {f fC : Addr} {fd dC : FuncData} (F : Fun K "moment_to_stand" "moment_to_stand" sToStand f fd) (IC : DefT P w K mg base "is_closed" 2 fC dC ["moment", "closed"] spIsClosed) : FnOk P w K mg base CX0 3 f fd ["entry", "closed", "mode"] spToStand := by
  refine F.ok sc_sToStand (fun vs H Q E h => ?_) (fun cdv A outer s H vs Q E hr h => ?_)
  · obtain ⟨a, e, rfl, _⟩ := h
    rfl
  · obtain ⟨a, e, rfl, ha, q⟩ := h
    have nd := sc_sToStand.nd
    have nd := sc_sToStand.nd
    refine ⟨_, pss_cons (ps_set (i := 3) nd rfl (Or.inl rfl) (pe_ix ix_tup (pv 0) pe_int (fun _ _ => rfl)))
      (pss_cons (ps_if (PW.pt (pw_or (pt_not (pt_val (pe_call IC.ok hr (by rfl) IC.g IC.kp IC.b .nil pass0 (pa_cons (pv 3) (pa_cons (pv 1) pa_nil))))) (pw_or pt_never (pw_or1 pt_never)))) (pss_one (ps_ret (pv 3))) pss_nil)
      (pss_cons ps_never
      (pss_one ps_never))), ?_⟩
    exact ⟨_, rfl, a, _, 2, _, rfl, rfl, SqT.of ha, at2 e, _, rfl, _, rfl, _, rfl, false, rfl, iteT ⟨_, rfl, q⟩⟩
abbrev sInClosedN : List Str := ["state", "entry"]
theorem sc_sInClosed : FnScope sInClosedN ["state"] (defScope sInClosed) := ⟨rfl, rfl, rfl, by decide +kernel, rfl, by decide +kernel, by decide +kernel⟩
theorem ok_inClosed {f fS fC : Addr} {fd dS dC : FuncData} (F : Fun K "in_closed_days" "in_closed_days" sInClosed f fd) (SG : DefT P w K mg base "standing" 5 fS dS ["state"] spStanding) (IC : DefT P w K mg base "is_closed" 2 fC dC ["moment", "closed"] spIsClosed) : FnOk P w K mg base CX0 6 f fd ["state"] spInClosed := by
  refine F.ok sc_sInClosed (fun vs H Q E h => ?_) (fun cdv A outer s H vs Q E hr h => ?_)
  · obtain ⟨st, a1, a2, Fa, Ba, Ps, G, fs, bs, md, rfl, _⟩ := h
    rfl
  · obtain ⟨st, a1, a2, Fa, Ba, Ps, G, fs, bs, md, rfl, sa, lf, q⟩ := h
    have nd := sc_sInClosed.nd
    have hr2 : Room 2 _ := hr.mono (by decide)
    have nd := sc_sInClosed.nd
    have hr2 : Room 2 _ := hr.mono (by decide)
    refine ⟨_, pss_one (ps_ret (pe_lc (own := [("entry", 1)]) (g := gName 1) (tt := tB (tCall spIsClosed [] E0 (tCons (tOp (rIxT K) (tVar 1) (tC (V.int 2))) (tCons (tOp (rIxT K) (tVar 0) (tC (V.int 4))) tNil)))) (te := tVar 1) rfl nd (pi_tup (pe_call SG.ok hr (by rfl) SG.g SG.kp SG.b .nil pass0 (pa_cons (pv 0) pa_nil))) (blkOk_by (N := sInClosedN) (sc := defScope sInClosed) (by decide +kernel)) (fun _ _ _ _ _ => (pg_name (i := 1) nd rfl (Or.inl rfl))) (fun _ _ _ _ _ => (pts_one (pt_val (pe_call IC.ok hr2 (by rfl) IC.g IC.kp IC.b .nil pass0 (pa_cons (pe_ix ix_tup (pv 1) pe_int (fun _ _ => rfl)) (pa_cons (pe_ix ix_tup (pv 0) pe_int (fun _ _ => rfl)) pa_nil)))))) (fun _ _ _ _ _ => (pv 1)))), ?_⟩
    refine ⟨_, rfl, st, a1, a2, Fa, Ba, Ps, G, fs, bs, _, md, rfl, sa, lf, fun tp qr H1 s1 h1 hE eq => ⟨tp, rfl, ⟨_, SqT.of h1⟩, fun D nD => ?_⟩⟩
    refine lc_tup (K := K) (a := tp) (xs := qr.map fun x => V.ref x.1) (fun i H' => Same H1 H' ∧ H' D = some (.lst [])) ⟨same_new nD, upd_same⟩ (fun i H' _ h => SqT.of (h.1 _ _ h1)) ?_ (fun H' h => q D H' (s1.trans h.1) h.2)
    rintro i v H' hx ⟨sm, hD⟩
    rw [List.getElem?_map] at hx
    obtain ⟨x, hy, rfl⟩ := Option.map_eq_some_iff.mp hx
    exact ⟨rfl, _, rfl, x.1, _, 2, _, rfl, rfl, SqT.of (sm _ _ (hE x (List.mem_of_getElem? hy))), at2 x.2, _, rfl, st, _, 4, _, rfl, rfl, SqT.of (sm _ _ (s1 _ _ sa.s)), atI_nat (j := 4) rfl, _, rfl, false, rfl, iteF ⟨sm, hD⟩⟩
abbrev sAllowedN : List Str := ["state", "later"]
theorem sc_sAllowed : FnScope sAllowedN ["state", "later"] (defScope sAllowed) := ⟨rfl, rfl, rfl, by decide +kernel, rfl, by decide +kernel, by decide +kernel⟩
theorem ok_allowed {f fS fI : Addr} {fd dS dI : FuncData} (F : Fun K "allowed" "allowed" sAllowed f fd) (SG : DefT P w K mg base "standing" 5 fS dS ["state"] spStanding) (ID : DefT P w K mg base "in_closed_days" 6 fI dI ["state"] spInClosed) (ml : mg "len" = none)
    (mF : ∃ t, mg "MOST_FORMS" = some (.int 60 t)) (mB : ∃ t, mg "MOST_BACKS" = some (.int 60 t)) (mE : ∃ t, mg "MOST_ENTRIES" = some (.int 30 t)) : FnOk P w K mg base CX0 7 f fd ["state", "later"] spAllowed := by
  obtain ⟨tF, mF⟩ := mF
  obtain ⟨tB, mB⟩ := mB
  obtain ⟨tE, mE⟩ := mE
  refine F.ok sc_sAllowed (fun vs H Q E h => ?_) (fun cdv A outer s H vs Q E hr h => ?_)
  · obtain ⟨st, a1, a2, Fa, Ba, Ps, G, fs, bs, md, st', a1', a2', Fa', Ba', Ps', G', fs', bs', md', rfl, _⟩ := h
    rfl
  · obtain ⟨st, a1, a2, Fa, Ba, Ps, G, fs, bs, md, st', a1', a2', Fa', Ba', Ps', G', fs', bs', md', rfl, sa, sb, lf, l1, l2, l3, q⟩ := h
    have nd := sc_sAllowed.nd
    have hr5 : Room 5 _ := hr.mono (by decide)
    have nd := sc_sAllowed.nd
    have hr5 : Room 5 _ := hr.mono (by decide)
    refine ⟨_, pss_cons (ps_if (pt_cmpR (op_neD hr.units) (pe_call ID.ok hr (by rfl) ID.g ID.kp ID.b .nil pass0 (pa_cons (pv 1) pa_nil)) (pe_call ID.ok hr (by rfl) ID.g ID.kp ID.b .nil pass0 (pa_cons (pv 0) pa_nil)) (nomark _)) (pss_one ps_never) pss_nil)
      (pss_cons (ps_if (PW.pt (pw_or (pt_cmpR op_gt (pe_callB call_len_seq (by rfl) ml PySem.boot_len (pa_cons (pe_ix ix_tup (pv 1) pe_int (fun _ _ => rfl)) pa_nil)) (pe_glob (v := .int 60) rfl mF ⟨_, rfl⟩) (nomark _)) (pw_or (pt_cmpR op_gt (pe_callB call_len_seq (by rfl) ml PySem.boot_len (pa_cons (pe_ix ix_tup (pv 1) pe_int (fun _ _ => rfl)) pa_nil)) (pe_glob (v := .int 60) rfl mB ⟨_, rfl⟩) (nomark _)) (pw_or1 (pt_cmpR op_gt (pe_callB call_len_seq (by rfl) ml PySem.boot_len (pa_cons (pe_call SG.ok hr5 (by rfl) SG.g SG.kp SG.b .nil pass0 (pa_cons (pv 1) pa_nil)) pa_nil)) (pe_glob (v := .int 30) rfl mE ⟨_, rfl⟩) (nomark _)))))) (pss_one ps_never) pss_nil)
      (pss_one (ps_ret (pv 1)))), ?_⟩
    refine ⟨_, rfl, st', a1', a2', Fa', Ba', Ps', G', fs', bs', md', rfl, sb, by omega, fun D1 H1 s1 d1 => ?_⟩
    refine ⟨_, rfl, st, a1, a2, Fa, Ba, Ps, G, fs, bs, md, rfl, sa.on (TK.of s1), lf, fun D2 H2 s2 d2 => ?_⟩
    refine ⟨.list [], .list [], .lst (SqL.of (s2 _ _ d1)) .nil, .lst (SqL.of d2) .nil, rfl, rfl, false, rfl, iteF ?_⟩
    have sb2 := (sb.on (TK.of s1)).on (TK.of s2)
    have c1 : (fs'.map fun x => V.ref x.f).length = fs'.length := List.length_map _
    have c2 : (bs'.map V.str).length = bs'.length := List.length_map _
    refine ⟨_, rfl, st', _, 2, _, rfl, rfl, SqT.of sb2.s, atI_nat (j := 2) rfl, Fa', _, rfl, .inr (SqT.of sb2.f), _, 60, rfl, rfl, false, congrArg V.bl (decide_eq_false (by rw [c1]; omega)), iteF ?_⟩
    refine ⟨_, rfl, st', _, 3, _, rfl, rfl, SqT.of sb2.s, atI_nat (j := 3) rfl, Ba', _, rfl, .inr (SqT.of sb2.b), _, 60, rfl, rfl, false, congrArg V.bl (decide_eq_false (by rw [c2]; omega)), iteF ?_⟩
    refine ⟨_, rfl, st', a1', a2', Fa', Ba', Ps', G', fs', bs', _, md', rfl, sb2, by omega, fun tp qr H3 s3 h3 hE eq => ?_⟩
    have c3 : (qr.map fun x => V.ref x.1).length ≤ 30 := by
      rw [List.length_map, ← List.length_map (f := Prod.snd) (as := qr), eq]
      unfold sortEnt
      rw [List.length_mergeSort]
      exact l3
    exact ⟨tp, _, rfl, .inr (SqT.of h3), _, 30, rfl, rfl, false, congrArg V.bl (decide_eq_false (by omega)), iteF ⟨_, rfl, q _ (s1.trans (s2.trans s3))⟩⟩
end
/-! ### start -/
def spStart (Ts : List Addr) : Sp := fun vs H Q _ => ∃ (l1 l2 : Addr) (xs ys : List Str), vs = [.ref l1, .ref l2] ∧ LT H l1 (xs.map V.str) ∧ LT H l2 (ys.map V.str) ∧
  (∀ y ∈ xs, nameB y = true) ∧ xs.length ≤ 1000 ∧ 1 ≤ (onceR xs).length ∧ (onceR xs).length ≤ 6 ∧ (∀ y ∈ ys, nameB y = true) ∧ ys.length ≤ 1000 ∧ 1 ≤ (onceR ys).length ∧ (onceR ys).length ≤ 3 ∧ TabsG Ts H ∧
  ∀ (s a1 a2 F B : Addr) (P G : List Str) (H' : Hp), P.Perm (onceR xs) → sortedS P = true → G.Perm (onceR ys) → sortedS G = true → TB1 Ts H H' → SAt H' s a1 a2 F B P G [] [] .non .non → Q (.ref s) H'
section
variable {P : Program} {w : World} {K : PySem.W.Frag} {mg : Str → Option Value} {base : Heap}
abbrev sStartN : List Str := ["places", "goods", "own_places", "own_goods", "entries"]
theorem sc_sStart : FnScope sStartN ["places", "goods"] (defScope sStart) := ⟨rfl, rfl, rfl, by decide +kernel, rfl, by decide +kernel, by decide +kernel⟩
theorem ok_start {f fH : Addr} {fd dH : FuncData} {Ts : List Addr} (F : Fun K "start" "start" sStart f fd) (HO : DefT P w K mg base "house_of" 7 fH dH ["places", "goods", "entries"] (spHouseOf Ts)) : FnOk P w K mg base CX0 8 f fd ["places", "goods"] (spStart Ts) := by
  refine F.ok sc_sStart (fun vs H Q E h => ?_) (fun cdv A outer s H vs Q E hr h => ?_)
  · obtain ⟨l1, l2, xs, ys, rfl, _⟩ := h
    rfl
  · obtain ⟨l1, l2, xs, ys, rfl, h1, h2, n1, lx, o1, o2, n2, ly, g1, g2, tg, q⟩ := h
    have nd := sc_sStart.nd
    have nd := sc_sStart.nd
    refine ⟨_, pss_cons (ps_asg (pe_call HO.ok hr (by rfl) HO.g HO.kp HO.b .nil pass0 (pa_cons (pv 0) (pa_cons (pv 1) (pa_cons (pe_tup pa_nil) pa_nil)))) (pg_tup (by rfl) (pgs_cons (pg_name (i := 2) nd rfl (Or.inl rfl)) (pgs_cons (pg_name (i := 3) nd rfl (Or.inl rfl)) (pgs_cons (pg_name (i := 4) nd rfl (Or.inl rfl)) pgs_nil)))))
      (pss_one (ps_ret (pe_tup (pa_cons (pv 2) (pa_cons (pv 3) (pa_cons (pe_tup pa_nil) (pa_cons (pe_tup pa_nil) (pa_cons pe_non (pa_cons pe_non pa_nil))))))))), ?_⟩
    refine ⟨_, rfl, _, rfl, Nat.zero_le _, fun t0 nt => ?_⟩
    have s0 := @same_new _ _ (.tup []) nt
    refine ⟨l1, l2, t0, xs, ys, [], rfl, h1.on s0, h2.on s0, .inr upd_same, n1, lx, o1, o2, n2, ly, g1, g2, fun x hx => (nomatch hx), fun x hx => (nomatch hx), Nat.zero_le _, Nat.zero_le _, tabs_sm s0 tg, fun h Ps G H1 pm1 so1 pm2 so2 b1 hh => ?_⟩
    obtain ⟨hp, hg, he, u0, u1, u2, u3⟩ := hh
    refine ⟨h, _, rfl, SqT.of u0, rfl, _, _, rfl, _, _, rfl, _, _, rfl, rfl, ?_⟩
    refine ⟨_, rfl, _, rfl, Nat.zero_le _, fun f1 nf1 => ⟨Nat.zero_le _, fun f2 nf2 => ⟨(by show 6 ≤ sizeLine; decide), fun st nst => ?_⟩⟩⟩
    have s1 := @same_new _ _ (.tup []) nf1
    have s2 := @same_new _ _ (.tup []) nf2
    have s3 := @same_new _ _ (.tup [V.ref hp, .ref hg, .ref f1, .ref f2, .non, .non]) nst
    have s12 := s1.trans (s2.trans s3)
    have b0 : TB1 Ts H (upd H t0 (.tup [])) := .same tg s0
    have b01 := b0.tr b1
    exact q st hp hg f1 f2 Ps G _ pm1 so1 pm2 so2 (b01.tr (.same b01.1 s12)) ⟨upd_same, s12 _ _ u1, s12 _ _ u2, s3 _ _ (s2 _ _ upd_same), s3 _ _ upd_same, fun x hx => (nomatch hx)⟩
theorem any_tup {T l : Addr} {xs : List V} {g : TG} {tt : TT} {te : TE} {vs : List Nat} {σ : L2.St} {H : Hp} {Q : VK} {k : Nat} (h : SqT K H l xs) (hv : σ[k]? = some (some (.ref l))) (W : Nat → Hp → Prop) (tg : GxR.TabG H T) (h0 : ∀ H2, GxR.Tabbed T H H2 → W 0 H2) (hl : ∀ i H', i ≤ xs.length → W i H' → SqT K H' l xs)
    (step : ∀ i x H' (Go : Hp → Prop), xs[i]? = some x → W i H' → (∀ H4, W (i + 1) H4 → Go H4) → g x (wipe σ vs) H' fun σ2 H2 => wipe σ2 vs = wipe σ vs ∧ tt σ2 H2 fun b H3 => if b = true then te σ2 H3 fun y H4 => ∃ k, y = .bl k ∧ (if k = true then Q (.bl true) H4 else Go H4) else Go H3)
    (done : ∀ H', W xs.length H' → Q (.bl false) H') : tAnyG T (iTup K (tVar k)) g tt te vs σ H Q := ⟨_, hv, l, rfl, ⟨_, h⟩, any_over over_t W tg h0 hl step done⟩
theorem cat_new {a b : Addr} {xs ys : List V} {H : Hp} {Q : VK} (ha : SqT K H a xs) (hb : SqT K H b ys) (ne : ys ≠ []) (hz : xs.length + ys.length ≤ sizeLine) (q : ∀ p H', Same H H' → SqT K H' p (xs ++ ys) → Q (.ref p) H') : rCatA K (.ref a) (.ref b) H Q :=
  ⟨a, b, xs, ys, rfl, rfl, ha, hb, hz, fun e0 => q b H (fun _ _ h => h) (by rw [e0]; exact hb), fun _ e => absurd e ne, fun _ _ p np => q p _ (same_new np) (SqT.of upd_same)⟩
theorem dep_fm (x : Fm) : (formD x).depth ≤ 60 := by
  obtain ⟨f, ea, e, mo⟩ := x
  cases e <;> simp [formD, entD, Ent.vals, Ent.rest, dV, PyData.depth, PyData.depthAll]
theorem ty_ent (e : Ent) : PySem.W.dataType (entD e) = .type "tuple" := by cases e <;> rfl
abbrev sEnteredN : List Str := ["state", "entry", "places", "goods", "forms", "backs", "closed", "mode", "form"]
theorem sc_sEntered : FnScope sEnteredN ["state", "entry"] (defScope sEntered) := ⟨rfl, rfl, rfl, by decide +kernel, rfl, by decide +kernel, by decide +kernel⟩
end
/-! ### x in xs, x not in xs: data -/
def rInD (K : PySem.W.Frag) (neg : Bool) : R2 := fun x y G W => ∃ d ds, Dp K G x d ∧ (Dp K G y (.list ds) ∨ Dp K G y (.tuple ds)) ∧ d.canLay0 = true ∧ PyData.canLayAll0 ds = true ∧ d.depth ≤ 60 ∧ W (.bl (if neg then !(ds.any fun e => PyData.eqv e d) else ds.any fun e => PyData.eqv e d)) G
theorem op_inD {X : Cx} (hu : X.A.units + 64 < cLine) : OpR X (compareOp .In) (rInD X.K false) := by
  rintro pins z τ G x y v u W I rx ry ⟨d, ds, hd, he, ld, lds, dp, q⟩
  obtain ⟨as, r1⟩ := Dp.reads I d x v hd rx
  rcases he with he | he
  · obtain ⟨bs, r2⟩ := Dp.reads I (.list ds) y u he ry
    exact SeqAt.in_list_reads r2 r1 lds ld (by omega) ⟨.bl _, G, I, rfl, q⟩
  · obtain ⟨bs, r2⟩ := Dp.reads I (.tuple ds) y u he ry
    exact SeqAt.in_tuple_reads r2 r1 lds ld (by omega) ⟨.bl _, G, I, rfl, q⟩
theorem op_notInD {X : Cx} (hu : X.A.units + 64 < cLine) : OpR X (compareOp .NotIn) (rInD X.K true) := by
  rintro pins z τ G x y v u W I rx ry ⟨d, ds, hd, he, ld, lds, dp, q⟩
  obtain ⟨as, r1⟩ := Dp.reads I d x v hd rx
  rcases he with he | he
  · obtain ⟨bs, r2⟩ := Dp.reads I (.list ds) y u he ry
    exact SeqAt.notIn_list_reads r2 r1 lds ld (by omega) ⟨.bl _, G, I, rfl, q⟩
  · obtain ⟨bs, r2⟩ := Dp.reads I (.tuple ds) y u he ry
    exact SeqAt.notIn_tuple_reads r2 r1 lds ld (by omega) ⟨.bl _, G, I, rfl, q⟩
/-! ### forms as pairs: told by their set -/
def flatE : PyData → Bool
  | .int _ => true
  | .str _ => true
  | _ => false
theorem toks_pre : ∀ (xs ys : List PyData) (l m : List (Int ⊕ List Nat)), xs.all flatE = true → ys.all flatE = true → PySem.W.keyToksAll xs ++ l = PySem.W.keyToksAll ys ++ m → xs = ys ∧ l = m
  | [], [], l, m, _, _, h => ⟨rfl, by simpa [PySem.W.keyToksAll] using h⟩
  | [], y :: ys, l, m, _, _, h => by simp [PySem.W.keyToksAll] at h
  | x :: xs, [], l, m, _, _, h => by simp [PySem.W.keyToksAll] at h
  | x :: xs, y :: ys, l, m, hx, hy, h => by
    rw [List.all_cons, Bool.and_eq_true] at hx hy
    have h2 : PySem.W.keyToks x ++ (PySem.W.keyToksAll xs ++ l) = PySem.W.keyToks y ++ (PySem.W.keyToksAll ys ++ m) := by simpa [PySem.W.keyToksAll, List.append_assoc] using h
    have key : x = y ∧ PySem.W.keyToksAll xs ++ l = PySem.W.keyToksAll ys ++ m := by
      cases x with
      | int a =>
        cases y with
        | int b =>
          have h3 : (Sum.inl a : Int ⊕ List Nat) :: (PySem.W.keyToksAll xs ++ l) = Sum.inl b :: (PySem.W.keyToksAll ys ++ m) := h2
          injection h3 with e1 e2
          exact ⟨congrArg _ (Sum.inl.inj e1), e2⟩
        | str b =>
          have h3 : (Sum.inl a : Int ⊕ List Nat) :: (PySem.W.keyToksAll xs ++ l) = Sum.inr b.cps.toList :: (PySem.W.keyToksAll ys ++ m) := h2
          injection h3 with e1 e2
          exact nomatch e1
        | _ => exact nomatch hy.1
      | str a =>
        cases y with
        | str b =>
          have h3 : (Sum.inr a.cps.toList : Int ⊕ List Nat) :: (PySem.W.keyToksAll xs ++ l) = Sum.inr b.cps.toList :: (PySem.W.keyToksAll ys ++ m) := h2
          injection h3 with e1 e2
          exact ⟨congrArg _ (str_ext (Sum.inr.inj e1)), e2⟩
        | int b =>
          have h3 : (Sum.inr a.cps.toList : Int ⊕ List Nat) :: (PySem.W.keyToksAll xs ++ l) = Sum.inl b :: (PySem.W.keyToksAll ys ++ m) := h2
          injection h3 with e1 e2
          exact nomatch e1
        | _ => exact nomatch hy.1
      | _ => exact nomatch hx.1
    obtain ⟨e1, e2⟩ := key
    obtain ⟨e3, e4⟩ := toks_pre xs ys l m hx.2 hy.2 e2
    exact ⟨by rw [e1, e3], e4⟩
theorem dV_flat {vs : List V} (h : ∀ v ∈ vs, (∃ i, v = .int i) ∨ ∃ s, v = .str s) : (vs.map dV).all flatE = true := by
  rw [List.all_eq_true]
  intro d hd
  obtain ⟨v, hv, rfl⟩ := List.mem_map.mp hd
  rcases h v hv with ⟨i, rfl⟩ | ⟨s, rfl⟩ <;> rfl
theorem vals_flat (e : Ent) : (e.vals.map dV).all flatE = true := by
  cases e <;> rfl
theorem dV_inj : ∀ (xs ys : List V), (xs.map dV).all flatE = true → (∀ v ∈ xs, (∃ i, v = .int i) ∨ ∃ s, v = .str s) → (∀ v ∈ ys, (∃ i, v = .int i) ∨ ∃ s, v = .str s) → xs.map dV = ys.map dV → xs = ys
  | [], [], _, _, _, _ => rfl
  | [], y :: ys, _, _, _, h => nomatch h
  | x :: xs, [], _, _, _, h => nomatch h
  | x :: xs, y :: ys, hf, hx, hy, h => by
    rw [List.map_cons, List.all_cons, Bool.and_eq_true] at hf
    rw [List.map_cons, List.map_cons] at h
    injection h with e1 e2
    have ih := dV_inj xs ys hf.2 (fun v hv => hx v (List.mem_cons_of_mem _ hv)) (fun v hv => hy v (List.mem_cons_of_mem _ hv)) e2
    have : x = y := by
      rcases hx x List.mem_cons_self with ⟨i, rfl⟩ | ⟨s, rfl⟩ <;> rcases hy y List.mem_cons_self with ⟨j, rfl⟩ | ⟨t, rfl⟩
      · exact congrArg _ (PyData.int.inj e1)
      · exact nomatch e1
      · exact nomatch e1
      · exact congrArg _ (PyData.str.inj e1)
    rw [this, ih]
def snB : V → Bool
  | .int _ => true
  | .str _ => true
  | _ => false
theorem vals_sn (e : Ent) : ∀ v ∈ e.vals, (∃ i, v = .int i) ∨ ∃ s, v = .str s := by
  have h : e.vals.all snB = true := by cases e <;> rfl
  intro v hv
  have := List.all_eq_true.mp h v hv
  cases v with
  | int i => exact .inl ⟨i, rfl⟩
  | str s => exact .inr ⟨s, rfl⟩
  | _ => exact nomatch this
theorem wno {a b : String} (h : (Str.ofString a == Str.ofString b) = false) : ¬ (Str.ofString a = Str.ofString b) := fun e => by rw [e] at h; exact absurd (beq_self_eq_true (Str.ofString b)) (by rw [h]; exact fun z => nomatch z)
theorem vals_inj {e f : Ent} (h : e.vals = f.vals) : e = f := by
  have w2 : ∀ x ∈ words7, ∀ y ∈ words7, V.str x = V.str y → x = y := fun x _ y _ z => V.str.inj z
  have hw : e.word = f.word := by
    have := (List.cons.inj h).1
    exact V.str.inj this
  cases e <;> cases f <;> first
    | (simpa [Ent.vals, Ent.rest, Ent.name, Ent.moment, Ent.word] using h)
    | (exact absurd hw (wno (by decide +kernel)))
theorem entD_inj {e f : Ent} (h : entD e = entD f) : e = f := by
  have h2 : e.vals.map dV = f.vals.map dV := PyData.tuple.inj h
  exact vals_inj (dV_inj _ _ (vals_flat e) (vals_sn e) (vals_sn f) h2)
def emo (x : Fm) : Ent × Int := (x.e, x.mo)
def formP (p : Ent × Int) : PyData := .tuple [entD p.1, .int p.2]
theorem formP_emo (x : Fm) : formP (emo x) = formD x := rfl
theorem formP_inj {p q : Ent × Int} (h : PySem.W.keyToks (formP p) = PySem.W.keyToks (formP q)) : p = q := by
  have h2 : PySem.W.keyToksAll (p.1.vals.map dV) ++ [Sum.inl 1, Sum.inl p.2, Sum.inl 0] = PySem.W.keyToksAll (q.1.vals.map dV) ++ [Sum.inl 1, Sum.inl q.2, Sum.inl 0] := by
    simpa [formP, entD, PySem.W.keyToks, PySem.W.keyToksAll, List.append_assoc] using h
  obtain ⟨e1, e2⟩ := toks_pre _ _ _ _ (vals_flat p.1) (vals_flat q.1) h2
  have e3 : p.1 = q.1 := vals_inj (dV_inj _ _ (vals_flat p.1) (vals_sn p.1) (vals_sn q.1) e1)
  have e4 : p.2 = q.2 := by simpa using e2
  exact Prod.ext e3 e4
def sortP (ps : List (Ent × Int)) : List (Ent × Int) := ps.mergeSort fun a b => PySem.W.dataLe false id (formP a) (formP b)
theorem sortFm_emo (fs : List Fm) : (sortFm fs).map emo = sortP (fs.map emo) := List.map_mergeSort fun _ _ _ _ => rfl
theorem sortP_p (ps : List (Ent × Int)) : (sortP ps).Perm ps := List.mergeSort_perm _ _
theorem sortP_perm {a b : List (Ent × Int)} (p : a.Perm b) : sortP a = sortP b := by
  have pa := sortP_p a
  have pb := sortP_p b
  refine List.Perm.eq_of_pairwise (le := fun x y => PySem.W.dataLe false id (formP x) (formP y) = true) (fun x y hx hy h1 h2 => ?_) (List.pairwise_mergeSort (fun a b c => dle_tr (formP a) (formP b) (formP c)) (fun a b => dle_tot (formP a) (formP b)) a) (List.pairwise_mergeSort (fun a b c => dle_tr (formP a) (formP b) (formP c)) (fun a b => dle_tot (formP a) (formP b)) b) (pa.trans (p.trans pb.symm))
  rw [dle_iff] at h1 h2
  have g1 : PySem.W.dataLt (formP y) (formP x) = false := by simpa using h1
  have g2 : PySem.W.dataLt (formP x) (formP y) = false := by simpa using h2
  exact formP_inj (PyProof.Rows.lex_total (O := PyProof.Rows.itemOrd) _ _ g2 g1)
/-- what stands, of pairs -/
def standP (ps : List (Ent × Int)) (bs : List Str) : List Ent := (ps.filter fun p => stB (ps.map (·.1.name)) bs p.1.name).map fun p => p.1.setM p.2
theorem standL_P (fs : List Fm) (bs : List Str) : standL fs bs = standP (fs.map emo) bs := by
  unfold standL standP
  rw [List.filter_map, List.map_map, List.map_map]
  rfl
theorem stB_perm {ns ms : List Str} (p : ns.Perm ms) (bs : List Str) (n : Str) : stB ns bs n = stB ms bs n := by
  unfold stB
  rw [p.count_eq n]
theorem standP_perm {a b : List (Ent × Int)} (p : a.Perm b) (bs : List Str) : (standP a bs).Perm (standP b bs) := by
  unfold standP
  have e : (fun q : Ent × Int => stB (a.map (·.1.name)) bs q.1.name) = fun q => stB (b.map (·.1.name)) bs q.1.name := funext fun q => stB_perm (p.map _) bs _
  rw [e]
  exact (p.filter _).map _
theorem setM_n (e : Ent) (m : Int) : (e.setM m).name = e.name := by cases e <;> rfl
/-- the names of what stands are unlike -/
theorem standP_tell {ps : List (Ent × Int)} {bs : List Str} {e f : Ent} (he : e ∈ standP ps bs) (hf : f ∈ standP ps bs) (h : e.name = f.name) : e = f := by
  unfold standP at he hf
  obtain ⟨p, hp, rfl⟩ := List.mem_map.mp he
  obtain ⟨q, hq, rfl⟩ := List.mem_map.mp hf
  obtain ⟨p1, p2⟩ := List.mem_filter.mp hp
  obtain ⟨q1, _⟩ := List.mem_filter.mp hq
  have c1 : (ps.map (·.1.name)).count p.1.name = 1 := of_decide_eq_true (Bool.and_eq_true_iff.mp p2).1
  rw [setM_n, setM_n] at h
  have one : ∀ {l : List (Ent × Int)} {n : Str}, (l.map (·.1.name)).count n = 1 → ∀ {x y}, x ∈ l → y ∈ l → x.1.name = n → y.1.name = n → x = y := by
    intro l n
    induction l with
    | nil => intro _ x y hx; exact nomatch hx
    | cons z r ih =>
      intro h x y hx hy ex ey
      rw [List.map_cons, List.count_cons] at h
      by_cases ez : z.1.name = n
      · rw [if_pos (by rw [ez]; exact beq_self_eq_true _)] at h
        have c0 : (r.map (·.1.name)).count n = 0 := by omega
        have no : ∀ u ∈ r, u.1.name ≠ n := fun u hu e => List.count_eq_zero.mp c0 (List.mem_map.mpr ⟨u, hu, e⟩)
        rcases List.mem_cons.mp hx with rfl | hx
        · rcases List.mem_cons.mp hy with rfl | hy
          · rfl
          · exact absurd ey (no _ hy)
        · exact absurd ex (no _ hx)
      · rw [if_neg (by intro z; exact ez (eq_of_beq z))] at h
        rcases List.mem_cons.mp hx with rfl | hx
        · exact absurd ex ez
        · rcases List.mem_cons.mp hy with rfl | hy
          · exact absurd ey ez
          · exact ih h hx hy ex ey
  rw [one c1 p1 q1 rfl h.symm]
theorem sortEnt_perm {a b : List Ent} (p : a.Perm b) (inj : ∀ x ∈ a, ∀ y ∈ a, x.name = y.name → x = y) : sortEnt a = sortEnt b := by
  have pa : (sortEnt a).Perm a := List.mergeSort_perm _ _
  have pb : (sortEnt b).Perm b := List.mergeSort_perm _ _
  refine List.Perm.eq_of_pairwise (le := fun x y => PySem.W.dataLe false id (ordD x) (ordD y) = true) (fun x y hx hy h1 h2 => ?_) (List.pairwise_mergeSort (fun a b c => dle_tr (ordD a) (ordD b) (ordD c)) (fun a b => dle_tot (ordD a) (ordD b)) a) (List.pairwise_mergeSort (fun a b c => dle_tr (ordD a) (ordD b) (ordD c)) (fun a b => dle_tot (ordD a) (ordD b)) b) (pa.trans (p.trans pb.symm))
  rw [dle_iff] at h1 h2
  have g1 : PySem.W.dataLt (ordD y) (ordD x) = false := by simpa using h1
  have g2 : PySem.W.dataLt (ordD x) (ordD y) = false := by simpa using h2
  exact inj x (pa.mem_iff.mp hx) y (p.mem_iff.mpr (pb.mem_iff.mp hy)) (ord_inj (PyProof.Rows.lex_total (O := PyProof.Rows.itemOrd) _ _ g2 g1))
theorem sortEnt_stand {a b : List (Ent × Int)} (p : a.Perm b) (bs : List Str) : sortEnt (standP a bs) = sortEnt (standP b bs) := sortEnt_perm (standP_perm p bs) fun _ hx _ hy h => standP_tell hx hy h
theorem standP_len (ps : List (Ent × Int)) (bs : List Str) : (standP ps bs).length ≤ ps.length := by
  unfold standP
  rw [List.length_map]
  exact List.length_filter_le _ _
theorem eqv_dVs : ∀ vs : List V, PyData.eqvAll (vs.map dV) (vs.map dV) = true → True := fun _ _ => trivial
theorem eqv_flat : ∀ xs ys : List PyData, xs.all flatE = true → ys.all flatE = true → (PyData.eqvAll xs ys = true ↔ xs = ys)
  | [], [], _, _ => ⟨fun _ => rfl, fun _ => rfl⟩
  | [], y :: ys, _, _ => ⟨fun h => by simp [PyData.eqvAll] at h, fun h => nomatch h⟩
  | x :: xs, [], _, _ => ⟨fun h => by simp [PyData.eqvAll] at h, fun h => nomatch h⟩
  | x :: xs, y :: ys, hx, hy => by
    rw [List.all_cons, Bool.and_eq_true] at hx hy
    have ih := eqv_flat xs ys hx.2 hy.2
    rw [PyData.eqvAll, Bool.and_eq_true, ih]
    have one : PyData.eqv x y = true ↔ x = y := by
      cases x with
      | int a =>
        cases y with
        | int b => exact ⟨fun h => by rw [show a = b from eq_of_beq h], fun h => by rw [h]; exact beq_self_eq_true b⟩
        | str b => exact ⟨fun h => (nomatch h), fun h => nomatch h⟩
        | _ => exact nomatch hy.1
      | str a =>
        cases y with
        | str b => exact ⟨fun h => by rw [show a = b from eq_of_beq h], fun h => by rw [h]; exact beq_self_eq_true b⟩
        | int b => exact ⟨fun h => (nomatch h), fun h => nomatch h⟩
        | _ => exact nomatch hy.1
      | _ => exact nomatch hx.1
    rw [one]
    exact ⟨fun ⟨a, b⟩ => by rw [a, b], fun h => by injection h with a b; exact ⟨a, b⟩⟩
theorem eqv_ents (e f : Ent) : PyData.eqv (entD e) (entD f) = true ↔ e = f := by
  have h : PyData.eqv (entD e) (entD f) = PyData.eqvAll (e.vals.map dV) (f.vals.map dV) := by rw [entD, entD, PyData.eqv]
  rw [h]
  exact ⟨fun q => entD_inj (congrArg PyData.tuple ((eqv_flat _ _ (vals_flat e) (vals_flat f)).mp q)), fun z => by rw [z]; exact (eqv_flat _ _ (vals_flat f) (vals_flat f)).mpr rfl⟩
/-! ### the parts told, the law -/
theorem name_ok {y : Str} (h : nameB y = true) : PyData.strOk y = true := by
  have all : y.cps.toList.all signB = true := by
    unfold nameB at h
    rw [Bool.and_eq_true] at h
    exact h.2
  have low : ∀ c ∈ abc.cps.toList, c < 0x110000 := by decide +kernel
  unfold PyData.strOk
  rw [← Array.all_toList, List.all_eq_true]
  intro c hc
  exact decide_eq_true (low c (of_decide_eq_true (List.all_eq_true.mp all c hc)))
theorem lay_strs : ∀ {ys : List Str}, (∀ y ∈ ys, nameB y = true) → PyData.canLayAll0 (ys.map PyData.str) = true
  | [], _ => rfl
  | y :: r, h => by
    rw [List.map_cons, PyData.canLayAll0, PyData.canLay0, name_ok (h y List.mem_cons_self), lay_strs fun z hz => h z (List.mem_cons_of_mem _ hz)]
    rfl
theorem deep_strs : ∀ ys : List Str, PyData.depthAll (ys.map PyData.str) = 0
  | [] => rfl
  | _ :: r => by simp [PyData.depthAll, PyData.depth, deep_strs r]
theorem shaped_strs {ys : List Str} (h : ∀ y ∈ ys, nameB y = true) : SeqAt.shaped (.tuple (ys.map PyData.str)) = true := by
  simp [SeqAt.shaped, PyData.canLay0, PyData.depth, lay_strs h, deep_strs]
/-! ### entries as data, compared -/
theorem word_ok (e : Ent) : PyData.strOk e.word = true := by
  have h : ∀ x ∈ words7, PyData.strOk x = true := by decide +kernel
  exact h _ e.word_in
theorem entD_cons (e : Ent) : entD e = .tuple (.str e.word :: .str e.name :: .int e.moment :: e.rest.map dV) := rfl
theorem rest_lay {e : Ent} {P G HL : List Str} (hP : ∀ y ∈ P, nameB y = true) (hG : ∀ y ∈ G, nameB y = true) (hH : ∀ y ∈ HL, nameB y = true) (h : e.From P G HL) : PyData.canLayAll0 (e.rest.map dV) = true := by
  have e0 : PyData.strOk "" = true := by decide +kernel
  cases e with
  | come n m g p k r => simp [Ent.rest, dV, PyData.canLayAll0, PyData.canLay0, name_ok (hG _ h.1), name_ok (hP _ h.2.1)]
  | go n m g p k => simp [Ent.rest, dV, PyData.canLayAll0, PyData.canLay0, name_ok (hG _ h.1), name_ok (hP _ h.2.1)]
  | move n m g o t k => simp [Ent.rest, dV, PyData.canLayAll0, PyData.canLay0, name_ok (hG _ h.1), name_ok (hP _ h.2.1), name_ok (hP _ h.2.2.1)]
  | some_ n m g o t =>
    have ot : PyData.strOk t = true := by
      rcases h.2.2 with z | z
      · rw [z]; exact e0
      · exact name_ok (hP _ z.1)
    simp [Ent.rest, dV, PyData.canLayAll0, PyData.canLay0, name_ok (hG _ h.1), name_ok (hP _ h.2.1), ot]
  | swap n m o t => simp [Ent.rest, dV, PyData.canLayAll0, PyData.canLay0, name_ok (hP _ h.1), name_ok (hP _ h.2.1)]
  | count n m g p k hd => simp [Ent.rest, dV, PyData.canLayAll0, PyData.canLay0, name_ok (hG _ h.1), name_ok (hP _ h.2.1), name_ok (hH _ h.2.2.2.2)]
  | look n m g p => simp [Ent.rest, dV, PyData.canLayAll0, PyData.canLay0, name_ok (hG _ h.1), name_ok (hP _ h.2)]
theorem dV_depth : ∀ vs : List V, PyData.depthAll (vs.map dV) = 0
  | [] => rfl
  | v :: r => by
    rw [List.map_cons]
    cases v <;> simp [dV, PyData.depthAll, PyData.depth, dV_depth r]
theorem entD_depth (e : Ent) : (entD e).depth = 1 := by
  unfold entD
  rw [PyData.depth, dV_depth]
theorem shaped_entF {e : Ent} {P G HL : List Str} (n1 : nameB e.name = true) (hP : ∀ y ∈ P, nameB y = true) (hG : ∀ y ∈ G, nameB y = true) (hH : ∀ y ∈ HL, nameB y = true) (h : e.From P G HL) : SeqAt.shaped (entD e) = true := by
  unfold SeqAt.shaped
  rw [entD_depth, entD_cons, PyData.canLay0]
  simp only [PyData.canLayAll0, PyData.canLay0, word_ok, name_ok n1, rest_lay hP hG hH h, Bool.and_self]
  decide
/-! ### what stays while a law goes on -/
theorem tabs_but {H H' : Hp} {Ts : List Addr} {p c : Addr} {n : Nat} (t : TabsG Ts H) (pen : PenAt H p c n) (b : But p H H') : TabsG Ts H' := fun T hT => by
  obtain ⟨ps, e, ok⟩ := t T hT
  obtain ⟨ns, a, x, g1, _⟩ := pen.ex
  exact ⟨ps, b T _ e (ne_of e g1 (by intro z; cases z)), ok⟩
theorem PenAt.tb {Ts : List Addr} {H H' : Hp} {p c : Addr} {n : Nat} (pen : PenAt H p c n) (b : TB1 Ts H H') : PenAt H' p c n := by
  obtain ⟨ns, a, x, g1, g2, g3⟩ := pen.ex
  exact ⟨ns, a, x, b.2 _ _ g1 fun _ z => (nomatch z), b.2 _ _ g2 fun _ z => (nomatch z), g3⟩
/-- all but the pen and the tables is as it was -/
def Kp (p : Addr) (H H' : Hp) : Prop := ∀ b o, H b = some o → (∀ ps, o ≠ .tbl ps) → b ≠ p → H' b = some o
theorem Kp.refl (p : Addr) (H : Hp) : Kp p H H := fun _ _ e _ _ => e
theorem Kp.tr {p : Addr} {H H1 H2 : Hp} (a : Kp p H H1) (b : Kp p H1 H2) : Kp p H H2 := fun c o e n np => b c o (a c o e n np) n np
theorem Kp.but {p : Addr} {H H' : Hp} (a : But p H H') : Kp p H H' := fun b o e _ np => a b o e np
theorem Kp.same {p : Addr} {H H' : Hp} (a : Same H H') : Kp p H H' := fun b o e _ _ => a b o e
theorem Kp.tb {p : Addr} {Ts : List Addr} {H H' : Hp} (a : TB1 Ts H H') : Kp p H H' := fun b o e n _ => a.2 b o e n
theorem Kp.tk {p c : Addr} {n : Nat} {H H' : Hp} (pen : PenAt H p c n) (a : Kp p H H') : TK H H' := fun b xs e => a b _ e (fun _ z => nomatch z) (pen.tup e)
theorem Kp.lst {p : Addr} {H H' : Hp} (a : Kp p H H') {l : Addr} {xs : List V} (np : l ≠ p) (e : H l = some (.lst xs)) : H' l = some (.lst xs) := a l _ e (fun _ z => nomatch z) np
/-- the object at l set anew, l none of what is kept -/
theorem Kp.upd {p l : Addr} {H H' : Hp} {o : HO} (a : Kp p H H') (n : H l = none) : Kp p H (L2.upd H' l o) := fun b o e nb np => (upd_ne (ne_of_none e n)).trans (a b o e nb np)
/-! entries of the kinds that a law makes -/
structure EntW (P G HL : List Str) (e : Ent) : Prop where
  nm : nameB e.name = true
  m0 : 0 ≤ e.moment
  m1 : e.moment ≤ 9999
  fr : e.From P G HL
theorem EntW.lay {P G HL : List Str} (so : StOk P G) (hH : ∀ y ∈ HL, nameB y = true) {e : Ent} (h : EntW P G HL e) : (entD e).canLay0 = true := by
  rw [entD_cons, PyData.canLay0]
  simp only [PyData.canLayAll0, PyData.canLay0, word_ok, name_ok h.nm, rest_lay so.pn so.gn hH h.fr, Bool.and_self]
theorem EntW.shaped {P G HL : List Str} (so : StOk P G) (hH : ∀ y ∈ HL, nameB y = true) {e : Ent} (h : EntW P G HL e) : SeqAt.shaped (entD e) = true := by
  unfold SeqAt.shaped
  rw [h.lay so hH, entD_depth]
  decide
theorem lay_all {ds : List PyData} (h : ∀ d ∈ ds, d.canLay0 = true) : PyData.canLayAll0 ds = true := by
  induction ds with
  | nil => rfl
  | cons d r ih => rw [PyData.canLayAll0, h d List.mem_cons_self, ih fun x hx => h x (List.mem_cons_of_mem _ hx)]; rfl
theorem depth_all {ds : List PyData} {n : Nat} (h : ∀ d ∈ ds, d.depth ≤ n) : PyData.depthAll ds ≤ n := by
  induction ds with
  | nil => exact Nat.zero_le _
  | cons d r ih =>
    rw [PyData.depthAll]
    have h1 := h d List.mem_cons_self
    have h2 := ih fun x hx => h x (List.mem_cons_of_mem _ hx)
    omega
theorem EntW.layP {P G HL : List Str} (so : StOk P G) (hH : ∀ y ∈ HL, nameB y = true) {p : Ent × Int} (h : EntW P G HL p.1) : (formP p).canLay0 = true := by
  unfold formP
  rw [PyData.canLay0, PyData.canLayAll0, h.lay so hH]
  rfl
theorem formP_depth (p : Ent × Int) : (formP p).depth = 2 := by
  unfold formP
  rw [PyData.depth, PyData.depthAll, entD_depth]
  rfl
/-! ### what stands, by the law -/
def spLStanding : Sp := fun vs H Q _ => ∃ (FL Ba : Addr) (fs : List Fm) (bs : List Str), vs = [.ref FL, .ref Ba] ∧ H FL = some (.lst (fs.map fun x => V.ref x.f)) ∧ (∀ x ∈ fs, FmAt H x) ∧ LT H Ba (bs.map V.str) ∧ fs.length ≤ 100 ∧
  ∀ (tp : Addr) (qr : List (Addr × Ent)) (H' : Hp), Same H H' → H' tp = some (.tup (qr.map fun x => V.ref x.1)) → (∀ x ∈ qr, H' x.1 = some (.tup x.2.vals)) → qr.map (·.2) = sortEnt (standL fs bs) → Q (.ref tp) H'
def oneB (ns : List Str) (n : Str) : Bool := decide (ns.count n = 1)
section
variable {P : Program} {w : World} {K : PySem.W.Frag} {mg : Str → Option Value} {base : Heap}
abbrev sLStandingN : List Str := ["_law_forms", "_law_backs", "_law_names", "_law_entry_here", "_law_moment_here", "_law_found"]
theorem sc_sLStanding : FnScope sLStandingN ["_law_forms", "_law_backs"] (defScope sLStanding) := ⟨rfl, rfl, rfl, by decide +kernel, rfl, by decide +kernel, by decide +kernel⟩
set_option maxHeartbeats 4000000 in
theorem ok_lstanding {f fO : Addr} {fd dO : FuncData} (F : Fun K "_law_standing" "_law_standing" sLStanding f fd) (OD : DefT P w K mg base "_law_order" 1 fO dO ["_law_entry_here"] spOrd) (ms : mg "sorted" = none) (mt : mg "tuple" = none) : FnOk P w K mg base CX0 4 f fd ["_law_forms", "_law_backs"] spLStanding := by
  refine F.ok sc_sLStanding (fun vs H Q E h => ?_) (fun cdv A outer s H vs Q E hr h => ?_)
  · obtain ⟨FL, Ba, fs, bs, rfl, _⟩ := h
    rfl
  · obtain ⟨FL, Ba, fs, bs, rfl, hF, hfm, hB, lf, q⟩ := h
    have nd := sc_sLStanding.nd
    have hr3 : Room 3 _ := hr.mono (by decide)
    refine ⟨_, pss_cons (ps_set (i := 2) nd rfl (Or.inr rfl) (pe_lc (own := [("_law_entry_here", 3), ("_law_moment_here", 4)]) (g := gTup K 2 (gCons (gName 3) (gCons (gName 4) gNil))) (tt := tYes) (te := tOp (rIxT K) (tVar 3) (tC (V.int 1))) rfl nd (pi_list (pv 0)) (blkOk_by (N := sLStandingN) (sc := defScope sLStanding) (by decide +kernel)) (fun _ _ _ _ _ => (pg_tup (by rfl) (pgs_cons (pg_name (i := 3) nd rfl (Or.inl rfl)) (pgs_cons (pg_name (i := 4) nd rfl (Or.inl rfl)) pgs_nil)))) (fun _ _ _ _ _ => pts_nil) (fun _ _ _ _ _ => (pe_ix ix_tup (pv 3) pe_int (fun _ _ => rfl)))))
      (pss_cons (ps_setLc (i := 5) (own := [("_law_entry_here", 3), ("_law_moment_here", 4)]) (g := gTup K 2 (gCons (gName 3) (gCons (gName 4) gNil))) (tt := tTest (tOp rEq (tBM K "list" (rCntS K) (tVar 2) (tCons (tOp (rIxT K) (tVar 3) (tC (V.int 1))) tNil)) (tC (V.int 1)))) rfl nd rfl rfl (sw_true rfl rfl rfl (by decide +kernel)) (pi_list (pv 0)) (blkOk_by (N := sLStandingN) (sc := defScope sLStanding) (by decide +kernel)) (fun _ _ _ _ _ => (pg_tup (by rfl) (pgs_cons (pg_name (i := 3) nd rfl (Or.inl rfl)) (pgs_cons (pg_name (i := 4) nd rfl (Or.inl rfl)) pgs_nil)))) (fun _ _ _ _ _ => (pts_one (pt_cmpR op_eq (pe_bm PySem.F.plainAttrs_list PySem.F.slot_list_count PySem.F.type_list_count mt_lcountS (pv 2) (pa_cons (pe_ix ix_tup (pv 3) pe_int (fun _ _ => rfl)) pa_nil)) pe_int (nomark _)))) (fun _ _ _ _ _ => (pe_op op_catS (pe_op op_catS (pe_slice sl_S (pv 3) po_none (po_some pe_int)) (pe_tup (pa_cons (pv 4) pa_nil))) (pe_slice sl_S (pv 3) (po_some pe_int) po_none))))
      (pss_one (ps_ret (pe_callTy call_tuple_of (by rfl) mt (by decide +kernel) (pa_cons (pe_callBK (cr_sortK OD.ok hr3 OD.b) (by rfl) ms (by decide +kernel) (pa_cons (pe_lc (own := [("_law_entry_here", 3)]) (g := gName 3) (tt := tTest (tOp (rIn K true) (tOp (rIxT K) (tVar 3) (tC (V.int 1))) (tVar 1))) (te := tVar 3) rfl nd (pi_list (pv 5)) (blkOk_by (N := sLStandingN) (sc := defScope sLStanding) (by decide +kernel)) (fun _ _ _ _ _ => (pg_name (i := 3) nd rfl (Or.inl rfl))) (fun _ _ _ _ _ => (pts_one (pt_cmpR op_notIn_seq (pe_ix ix_tup (pv 3) pe_int (fun _ _ => rfl)) (pv 1) (by rfl)))) (fun _ _ _ _ _ => (pv 3))) pa_nil) (pk_cons (pe_glob (v := .ref fO) (by rfl) OD.g rfl) pk_nil)) pa_nil))))), ?_⟩
    -- the names
    refine ⟨_, rfl, FL, rfl, ⟨_, SqL.of hF⟩, fun D nD => ?_⟩
    refine lc_list (K := K) (a := FL) (xs := fs.map fun x => V.ref x.f) (fun i H' => Same H H' ∧ H' D = some (.lst (((fs.take i).map (·.e.name)).map V.str))) ⟨same_new nD, upd_same⟩ (fun i H' _ h => SqL.of (h.1 _ _ hF)) ?_ ?_
    · rintro i v H' hx ⟨sm, hD⟩
      rw [List.getElem?_map] at hx
      obtain ⟨x, hy, rfl⟩ := Option.map_eq_some_iff.mp hx
      have il := (List.getElem?_eq_some_iff.mp hy).1
      have fx := (hfm x (List.mem_of_getElem? hy)).on (TK.of sm)
      refine ⟨x.f, _, rfl, SqT.of fx.f, rfl, _, _, rfl, _, _, rfl, rfl, rfl, yesT ⟨_, rfl, x.ea, _, 1, _, rfl, rfl, SqT.of fx.e, at1 x.e, _, hD, ?_, fun b o e => (upd_ne (ne_of_none e nD)).trans (sm b o e), ?_⟩⟩
      · rw [List.length_map, List.length_map, List.length_take]
        exact small1000 (by omega)
      · rw [upd_same, take_sn hy, List.map_append, List.map_append]
        rfl
    rintro H1 ⟨s1, hD1⟩
    rw [List.length_map, List.take_length] at hD1
    have hF1 := s1 _ _ hF
    have hfm1 : ∀ x ∈ fs, FmAt H1 x := fun x hx => (hfm x hx).on (TK.of s1)
    -- those whose names are there once
    refine ⟨_, rfl, FL, rfl, ⟨_, SqL.of hF1⟩, fun L nL => ?_⟩
    refine lc_list (K := K) (a := FL) (xs := fs.map fun x => V.ref x.f) (fun i H' => Same H1 H' ∧ ∃ pr : List (Addr × Ent), H' L = some (.lst (pr.map fun x => V.ref x.1)) ∧ (∀ x ∈ pr, H' x.1 = some (.tup x.2.vals)) ∧ pr.length ≤ i ∧
        pr.map (·.2) = ((fs.take i).filter fun x => oneB (fs.map (·.e.name)) x.e.name).map fun x => x.e.setM x.mo) ⟨same_new nL, [], upd_same, fun y hy => (nomatch hy), Nat.le_refl _, rfl⟩ (fun i H' _ h => SqL.of (h.1 _ _ hF1)) ?_ ?_
    · rintro i v H' hx ⟨sm, pr, hL, hE, lp, ep⟩
      rw [List.getElem?_map] at hx
      obtain ⟨x, hy, rfl⟩ := Option.map_eq_some_iff.mp hx
      have il := (List.getElem?_eq_some_iff.mp hy).1
      have fx := (hfm1 x (List.mem_of_getElem? hy)).on (TK.of sm)
      refine ⟨x.f, _, rfl, SqT.of fx.f, rfl, _, _, rfl, _, _, rfl, rfl, rfl, ?_⟩
      refine ⟨_, rfl, .inl ⟨rfl, _, SqL.of (sm _ _ hD1)⟩, _, rfl, x.ea, _, 1, _, rfl, rfl, SqT.of fx.e, at1 x.e, D, _, _, rfl, rfl, SqL.of (sm _ _ hD1), rfl, _, rfl, ?_⟩
      by_cases c1 : (fs.map (·.e.name)).count x.e.name = 1
      · rw [decide_eq_true (show V.int (((fs.map (·.e.name)).count x.e.name : Nat) : Int) = V.int 1 by rw [c1]; rfl)]
        refine iteT ⟨_, rfl, 2, rfl, x.ea, _, rfl, fx.e, fun b1 H2 s2 h1 => ?_⟩
        have c2 : cutV x.e.vals none (some (2 : Int)) = x.e.vals.take 2 := cut_head (k := 2)
        rw [c2] at h1
        refine ⟨_, rfl, (by show 1 ≤ sizeLine; decide), fun b2 n2 => ?_⟩
        have s3 := @same_new _ _ (.tup [V.int x.mo]) n2
        have l2 : (x.e.vals.take 2).length = 2 := by
          rw [List.length_take]
          have := (vals_len_e x.e).1
          omega
        refine ⟨b1, b2, _, _, rfl, rfl, s3 _ _ h1, upd_same, (by intro z; rw [z] at l2; cases l2), (by rw [l2]; show 2 + 1 ≤ sizeLine; decide), fun b3 H3 s4 h3 => ?_⟩
        have s24 := (s2.trans s3).trans s4
        refine ⟨_, rfl, 3, rfl, x.ea, _, rfl, s24 _ _ fx.e, fun b4 H4 s5 h4 => ?_⟩
        have c3 : cutV x.e.vals (some (3 : Int)) none = x.e.vals.drop 3 := cut_tail (k := 3)
        rw [c3] at h4
        refine ⟨b3, b4, _, _, rfl, rfl, s5 _ _ h3, h4, (by intro z; have := congrArg List.length z; rw [List.length_append, l2] at this; cases this), ?_, fun tp H5 s6 h5 => ?_⟩
        · rw [List.length_append, l2, List.length_drop]
          have := (vals_len_e x.e).2
          have bg : 100 ≤ sizeLine := by decide
          show 2 + 1 + _ ≤ _
          omega
        rw [setM_vals] at h5
        have s25 := s24.trans (s5.trans s6)
        have hL5 := s25 _ _ hL
        refine ⟨_, hL5, ?_, fun b o e => (upd_ne (ne_of_none e nL)).trans (s25 b o (sm b o e)), pr ++ [(tp, x.e.setM x.mo)], ?_, ?_, ?_, ?_⟩
        · rw [List.length_map]
          exact small1000 (by omega)
        · rw [upd_same, List.map_append]
          rfl
        · intro y hy'
          have nt : ∀ {b : Addr} {ws : List V}, H5 b = some (.tup ws) → (upd H5 L (.lst (pr.map (fun x => V.ref x.1) ++ [V.ref tp]))) b = some (.tup ws) := fun h => (upd_ne (ne_of h hL5 (by intro z; cases z))).trans h
          rcases List.mem_append.mp hy' with h | h
          · exact nt (s25 _ _ (hE y h))
          · rw [List.mem_singleton.mp h]
            exact nt h5
        · rw [List.length_append]
          simp only [List.length_cons, List.length_nil]
          omega
        · rw [List.map_append, ep, take_sn hy, List.filter_append, List.map_append]
          have : ([x].filter fun x => oneB (fs.map (·.e.name)) x.e.name) = [x] := by
            rw [List.filter_cons, if_pos (by unfold oneB; rw [decide_eq_true c1])]
            rfl
          rw [this]
          rfl
      · rw [decide_eq_false (fun z => c1 (by have := V.int.inj z; omega))]
        refine iteF ⟨sm, pr, hL, hE, by omega, ?_⟩
        rw [ep, take_sn hy, List.filter_append, List.map_append]
        have : ([x].filter fun x => oneB (fs.map (·.e.name)) x.e.name) = [] := by
          rw [List.filter_cons, if_neg (by unfold oneB; rw [decide_eq_false c1]; simp)]
          rfl
        rw [this]
        simp
    rintro H2 ⟨s2, pr, hL, hE, lp, ep⟩
    rw [List.length_map, List.take_length] at ep
    rw [List.length_map] at lp
    -- those not taken back
    refine ⟨_, rfl, L, rfl, ⟨_, SqL.of hL⟩, fun M nM => ?_⟩
    refine lc_list (K := K) (a := L) (xs := pr.map fun x => V.ref x.1) (fun i H' => Same H2 H' ∧ ∃ ps : List (Addr × Ent), H' M = some (.lst (ps.map fun x => V.ref x.1)) ∧ (∀ x ∈ ps, H' x.1 = some (.tup x.2.vals)) ∧ ps.length ≤ i ∧
        ps = (pr.take i).filter fun x => !decide (x.2.name ∈ bs)) ⟨same_new nM, [], upd_same, fun y hy => (nomatch hy), Nat.le_refl _, rfl⟩ (fun i H' _ h => SqL.of (h.1 _ _ hL)) ?_ ?_
    · rintro i v H' hx ⟨sm, ps, hM, hE', lps, eps⟩
      rw [List.getElem?_map] at hx
      obtain ⟨x, hy, rfl⟩ := Option.map_eq_some_iff.mp hx
      have il := (List.getElem?_eq_some_iff.mp hy).1
      have hx' := sm _ _ (hE x (List.mem_of_getElem? hy))
      refine ⟨rfl, _, rfl, x.1, _, 1, _, rfl, rfl, SqT.of hx', at1 x.2, _, rfl, Ba, bs.map V.str, rfl, (((hB.on s1).on s2).on sm).imp SqL.of SqT.of, rfl, all_flat _, ?_⟩
      rw [if_pos rfl, inV_iff]
      by_cases c2 : x.2.name ∈ bs
      · rw [decide_eq_true c2]
        refine ⟨_, rfl, iteF ⟨sm, ps, hM, hE', by omega, ?_⟩⟩
        rw [eps, take_sn hy, List.filter_append]
        have : ([x].filter fun x => !decide (x.2.name ∈ bs)) = [] := by
          rw [List.filter_cons, if_neg (by rw [decide_eq_true c2]; simp)]
          rfl
        rw [this, List.append_nil]
      · rw [decide_eq_false c2]
        refine ⟨_, rfl, iteT ⟨_, rfl, _, hM, ?_, fun b o e => (upd_ne (ne_of_none e nM)).trans (sm b o e), ps ++ [x], ?_, ?_, ?_, ?_⟩⟩
        · rw [List.length_map]
          exact small1000 (by omega)
        · rw [upd_same, List.map_append]
          rfl
        · intro y hy'
          have nt : ∀ {b : Addr} {ws : List V}, H' b = some (.tup ws) → (upd H' M (.lst (ps.map (fun x => V.ref x.1) ++ [V.ref x.1]))) b = some (.tup ws) := fun h => (upd_ne (ne_of h hM (by intro z; cases z))).trans h
          rcases List.mem_append.mp hy' with h | h
          · exact nt (hE' y h)
          · rw [List.mem_singleton.mp h]
            exact nt hx'
        · rw [List.length_append]
          simp only [List.length_cons, List.length_nil]
          omega
        · rw [eps, take_sn hy, List.filter_append]
          have : ([x].filter fun x => !decide (x.2.name ∈ bs)) = [x] := by
            rw [List.filter_cons, if_pos (by rw [decide_eq_false c2]; rfl)]
            rfl
          rw [this]
    rintro H3 ⟨s3, ps, hM, hE', lps, eps⟩
    rw [List.length_map, List.take_length] at eps
    have e2 : ps.map (·.2) = standL fs bs := by
      rw [eps]
      have : ((pr.filter fun x => !decide (x.2.name ∈ bs)).map (·.2)) = (pr.map (·.2)).filter fun e => !decide (e.name ∈ bs) := by
        rw [List.filter_map]
        rfl
      rw [this, ep, List.filter_map, List.filter_filter]
      unfold standL
      congr 1
      refine List.filter_congr fun x _ => ?_
      show (!decide ((x.e.setM x.mo).name ∈ bs) && oneB _ _) = stB _ _ _
      rw [setM_name, Bool.and_comm]
      rfl
    refine ⟨M, ps.map prV, rfl, rfl, SqL.of (by rw [hM, List.map_map]; rfl), ?_, .inl ?_, ?_, ?_, fun a3 H10 na3 s4 h3 => ⟨a3, _, rfl, .inl ⟨SqL.of h3, fun t3 nt3 => ?_⟩⟩⟩
    · intro d hd d' hd'
      rw [List.map_map] at hd hd'
      obtain ⟨x, _, rfl⟩ := List.mem_map.mp hd
      obtain ⟨y, _, rfl⟩ := List.mem_map.mp hd'
      exact ord_alike x.2 y.2
    · intro d hd
      rw [List.map_map] at hd
      obtain ⟨x, _, rfl⟩ := List.mem_map.mp hd
      exact ⟨_, _, rfl⟩
    · intro e he
      obtain ⟨x, _, rfl⟩ := List.mem_map.mp he
      show 1 ≤ 60
      decide
    · intro e he H1 sm Q1 hq
      obtain ⟨x, hx, rfl⟩ := List.mem_map.mp he
      exact ⟨x.1, x.2, rfl, sm _ _ (hE' x hx), fun tp H2 sm2 h2 => hq _ _ sm2 (ord_dp h2)⟩
    · rw [keyed_prV]
      have s5 := s4.trans (@same_new _ _ (.tup (((sortE ps).map prV).map (·.1))) nt3)
      refine q t3 (sortE ps) _ (s1.trans (s2.trans (s3.trans s5))) ?_ (fun x hx => s5 _ _ (hE' x ((sortE_p ps).mem_iff.mp hx))) ?_
      · rw [upd_same, List.map_map]
        rfl
      · rw [sortE_map, e2]
end
/-! ### states and houses as data -/
def stD (P G : List Str) (ps : List (Ent × Int)) (bs : List Str) (cl md : PyData) : PyData := .tuple [.tuple (P.map .str), .tuple (G.map .str), .tuple (ps.map formP), .tuple (bs.map .str), cl, md]
theorem SAt.dp {K : PySem.W.Frag} {H : Hp} {s a1 a2 F B : Addr} {P G : List Str} {fs : List Fm} {bs : List Str} {cl md : V} {dc dm : PyData} (h : SAt H s a1 a2 F B P G fs bs cl md) (hc : Dp K H cl dc) (hm : Dp K H md dm) : Dp K H (.ref s) (stD P G (fs.map emo) bs dc dm) := by
  refine .tup (SqT.of h.s) (.cons (.tup (SqT.of h.p) (dp_strs P)) (.cons (.tup (SqT.of h.g) (dp_strs G)) (.cons (.tup (SqT.of h.f) ?_) (.cons (.tup (SqT.of h.b) (dp_strs bs)) (.cons hc (.cons hm .nil))))))
  have := fms_dp (K := K) h.fm
  rw [List.map_map]
  exact this
theorem short_none : Short .none 8 0 := ⟨rfl, rfl, by decide +kernel, Nat.zero_le _, Nat.zero_le _⟩
theorem short_formP {P G HL : List Str} (so : StOk P G) (hH : ∀ y ∈ HL, nameB y = true) {p : Ent × Int} (h : EntW P G HL p.1) (m0 : 0 ≤ p.2) (m1 : p.2 ≤ 1000000000) : Short (formP p) 142 2 := by
  refine short_tup (n := 70) (k := 1) (fun d hd => ?_) (by show 2 * 71 ≤ 142; decide)
  simp only [List.mem_cons, List.not_mem_nil, or_false] at hd
  rcases hd with rfl | rfl
  · exact short_ent h.nm h.m0 h.m1 so.pn so.gn hH h.fr
  · exact (short_int m0 m1).mono (by decide) (by decide)
theorem short_st {P G HL : List Str} (so : StOk P G) (hH : ∀ y ∈ HL, nameB y = true) {ps : List (Ent × Int)} (h : ∀ p ∈ ps, EntW P G HL p.1 ∧ 0 ≤ p.2 ∧ p.2 ≤ 1000000000) (lp : ps.length ≤ 100) {bs : List Str} (hb : ∀ y ∈ bs, nameB y = true) (lb : bs.length ≤ 100) {dc dm : PyData} (sc : Short dc 8 0) (sm : Short dm 8 0) : Short (stD P G ps bs dc dm) 100000 4 := by
  refine short_tup (n := 14300) (k := 3) (fun d hd => ?_) (by show 6 * 14301 ≤ 100000; decide)
  simp only [List.mem_cons, List.not_mem_nil, or_false] at hd
  rcases hd with rfl | rfl | rfl | rfl | rfl | rfl
  · exact (short_names so.pn (by have := so.pl; omega)).mono (by decide) (by decide)
  · exact (short_names so.gn (by have := so.gl; omega)).mono (by decide) (by decide)
  · refine short_tup (n := 142) (k := 2) (fun d hd => ?_) (by rw [List.length_map]; omega)
    obtain ⟨p, hp, rfl⟩ := List.mem_map.mp hd
    exact short_formP so hH (h p hp).1 (h p hp).2.1 (h p hp).2.2
  · refine (short_tup (m := 900) (n := 8) (k := 0) (fun d hd => ?_) (by rw [List.length_map]; omega)).mono (by decide) (by decide)
    obtain ⟨y, hy, rfl⟩ := List.mem_map.mp hd
    exact short_str (.inl (hb y hy))
  · exact sc.mono (by decide) (by decide)
  · exact sm.mono (by decide) (by decide)
theorem house_at {K : PySem.W.Frag} {H : Hp} {h hp hg he : Addr} {P G : List Str} {qr : List (Addr × Ent)} (h0 : H h = some (.tup [.ref hp, .ref hg, .ref he])) (h1 : H hp = some (.tup (P.map V.str))) (h2 : H hg = some (.tup (G.map V.str))) (h3 : H he = some (.tup (qr.map fun x => V.ref x.1))) (hE : ∀ x ∈ qr, H x.1 = some (.tup x.2.vals)) : Dp K H (.ref h) (houseD P G (qr.map (·.2))) :=
  HouseAt.dp ⟨hp, hg, he, qr.map (·.1), h0, h1, h2, by rw [h3, List.map_map]; rfl, ents_pairs hE⟩
theorem EntW.set {P G HL : List Str} {e : Ent} (h : EntW P G HL e) {m : Int} (m0 : 0 ≤ m) (m1 : m ≤ 9999) : EntW P G HL (e.setM m) := by
  obtain ⟨n, _, _, fr⟩ := h
  cases e <;> exact ⟨n, m0, m1, fr⟩
theorem short_hs {P G HL : List Str} (so : StOk P G) (hH : ∀ y ∈ HL, nameB y = true) {es : List Ent} (h : ∀ e ∈ es, EntW P G HL e) (le : es.length ≤ 100) : Short (houseD P G es) 30000 3 := by
  refine short_tup (n := 7100) (k := 2) (fun d hd => ?_) (by show 3 * 7101 ≤ 30000; decide)
  simp only [List.mem_cons, List.not_mem_nil, or_false] at hd
  rcases hd with rfl | rfl | rfl
  · exact (short_names so.pn (by have := so.pl; omega)).mono (by decide) (by decide)
  · exact (short_names so.gn (by have := so.gl; omega)).mono (by decide) (by decide)
  · refine short_tup (n := 70) (k := 1) (fun d hd => ?_) (by rw [List.length_map]; omega)
    obtain ⟨e, he, rfl⟩ := List.mem_map.mp hd
    exact short_ent (h e he).nm (h e he).m0 (h e he).m1 so.pn so.gn hH (h e he).fr
theorem standP_W {P G HL : List Str} {ps : List (Ent × Int)} {bs : List Str} (h : ∀ p ∈ ps, EntW P G HL p.1 ∧ 0 ≤ p.2 ∧ p.2 ≤ 9999) : ∀ e ∈ sortEnt (standP ps bs), EntW P G HL e := by
  intro e he
  have he := (List.mergeSort_perm _ _).mem_iff.mp he
  obtain ⟨p, hp, rfl⟩ := List.mem_map.mp he
  have := h p (List.mem_filter.mp hp).1
  exact this.1.set this.2.1 this.2.2
theorem sortEnt_len (es : List Ent) : (sortEnt es).length = es.length := List.length_mergeSort _
theorem onceR_perm {xs PL : List Str} (nd : PL.Nodup) (h1 : ∀ x ∈ xs, x ∈ PL) (h2 : ∀ x ∈ PL, x ∈ xs) : (onceR xs).Perm PL :=
  perm_of_in (onceR_nodup xs) nd fun y => ⟨fun h => h1 y ((onceR_mem xs y).mp h), fun h => (onceR_mem xs y).mpr (h2 y h)⟩
theorem eqv_strs : ∀ ys : List Str, PyData.eqvAll (ys.map PyData.str) (ys.map PyData.str) = true
  | [] => rfl
  | y :: r => by
    rw [List.map_cons, PyData.eqvAll, eqv_strs r, Bool.and_true]
    exact beq_self_eq_true y
theorem eqv_lists (xs ys : List Str) : PyData.eqv (.list [.list (xs.map PyData.str), .list (ys.map PyData.str)]) (.list [.list (xs.map PyData.str), .list (ys.map PyData.str)]) = true := by
  rw [PyData.eqv, PyData.eqvAll, PyData.eqvAll, PyData.eqvAll, PyData.eqv, PyData.eqv, eqv_strs, eqv_strs]
  rfl
theorem shaped_lists {xs ys : List Str} (h1 : ∀ y ∈ xs, nameB y = true) (h2 : ∀ y ∈ ys, nameB y = true) : SeqAt.shaped (.list [.list (xs.map PyData.str), .list (ys.map PyData.str)]) = true := by
  simp [SeqAt.shaped, PyData.canLay0, PyData.canLayAll0, PyData.depth, PyData.depthAll, lay_strs h1, lay_strs h2, deep_strs]
/-- an entry written down: what is told, either way -/
def spEntered1 (Ts : List Addr) : Sp := fun vs H Q _ => ∃ (s ea a1 a2 F B : Addr) (P G HL : List Str) (fs : List Fm) (bs : List Str) (e : Ent), vs = [.ref s, .ref ea] ∧ SAt H s a1 a2 F B P G fs bs .non .non ∧ H ea = some (.tup e.vals) ∧ StOk P G ∧ (∀ y ∈ HL, nameB y = true) ∧ EntW P G HL e ∧ (∀ x ∈ fs, EntW P G HL x.e) ∧
  fs.length < 30 ∧ bs.length ≤ 60 ∧ TabsG Ts H ∧
  ∀ (s' F' : Addr) (fs' : List Fm) (H' : Hp), TB1 Ts H H' → SAt H' s' a1 a2 F' B P G fs' bs .non .non → ((e ∈ fs.map (·.e) ∧ fs' = fs) ∨ (e ∉ fs.map (·.e) ∧ fs'.map emo = sortP (fs.map emo ++ [(e, e.moment)]))) → Q (.ref s') H'
theorem of_from {e : Ent} {P G HL : List Str} (h : e.From P G HL) : ofB e P G = true := by
  unfold ofB goodOk
  cases e with
  | come n m g p k r => simp [Ent.goodV, Ent.places, h.1, h.2.1]
  | go n m g p k => simp [Ent.goodV, Ent.places, h.1, h.2.1]
  | move n m g o t k => simp [Ent.goodV, Ent.places, h.1, h.2.1, h.2.2.1]
  | some_ n m g o t =>
    by_cases z : t = ""
    · simp [Ent.goodV, Ent.places, h.1, h.2.1, z]
    · simp [Ent.goodV, Ent.places, h.1, h.2.1, z, ((h.2.2).resolve_left z).1]
  | swap n m o t => simp [Ent.goodV, Ent.places, h.1, h.2.1]
  | count n m g p k hd => simp [Ent.goodV, Ent.places, h.1, h.2.1]
  | look n m g p => simp [Ent.goodV, Ent.places, h.1, h.2]
theorem entered_weak {Ts : List Addr} (vs : List V) (H : Hp) (Q : VK) (E : XK) (h : spEntered1 Ts vs H Q E) : spEntered Ts vs H Q E := by
  obtain ⟨s, ea, a1, a2, F, B, P, G, HL, fs, bs, e, rfl, sa, he, so, hH, ew, fw, lf, lb, tg, q⟩ := h
  have fi := (fine_of ew.fr so.pd so.pn so.gn hH ew.nm ew.m0 ew.m1).1
  refine ⟨s, ea, a1, a2, F, B, P, G, fs, bs, e, rfl, sa, he, fi, of_from ew.fr, ew.shaped so hH, fun x hx => ⟨(fw x hx).shaped so hH, (fw x hx).layP (p := emo x) so hH⟩, ew.layP (p := (e, e.moment)) so hH, by omega, lb, fun x _ _ => ?_, tg, fun ex H' tb => ?_, fun nx s' fm F' H' tb sa' => ?_⟩
  · rw [standL_P]
    have := standP_len ((sortFm (fs ++ [x])).map emo) bs
    rw [List.length_map, (sortFm_p _).length_eq, List.length_append] at this
    simp only [List.length_cons, List.length_nil] at this
    omega
  · obtain ⟨x, hx, ee⟩ := ex
    exact q s F fs H' tb (sa.on tb.tk) (.inl ⟨List.mem_map.mpr ⟨x, hx, (eqv_ents _ _).mp ee⟩, rfl⟩)
  · refine q s' F' _ H' tb sa' (.inr ⟨fun z => ?_, ?_⟩)
    · obtain ⟨x, hx, ee⟩ := List.mem_map.mp z
      have := nx x hx
      rw [(eqv_ents _ _).mpr ee] at this
      exact nomatch this
    · rw [sortFm_emo, List.map_append]
      rfl
/-! ### what comes of a deed -/
instance : DecidableEq Ent := fun a b => decidable_of_iff _ (eqv_ents a b)
inductive Rf where
  | ok | closed | many | entry | name | day | then_
structure MS where
  ps : List (Ent × Int)
  bs : List Str
  cl : Option Int
  md : Option Str
def closedB (cl : Option Int) (m : Int) : Bool := match cl with | none => false | some k => decide (m / 100 ≤ k)
def closedL (S : MS) : List Ent := (sortEnt (standP S.ps S.bs)).filter fun e => closedB S.cl e.moment
def allowedM (S T : MS) : Rf := if closedL T = closedL S then (if 60 < T.ps.length ∨ 60 < T.bs.length ∨ 30 < (standP T.ps T.bs).length then .many else .ok) else .closed
def upB : Ent → Bool
  | .come .. => true | .go .. => true | .move .. => true | .some_ .. => true | .swap .. => false | .count .. => false | .look .. => false
def momentM (S : MS) (e : Ent) : Option Int := if closedB S.cl e.moment = true ∧ S.md = some "up" ∧ upB e = true then (if S.cl = some 99 then none else some ((S.cl.getD 0 + 1) * 100)) else some e.moment
def insS (n : Str) : List Str → List Str
  | [] => [n]
  | x :: r => if ltCps n.cps.toList x.cps.toList = true then n :: x :: r else x :: insS n r
theorem insS_p (n : Str) : ∀ l, (insS n l).Perm (n :: l)
  | [] => .refl _
  | x :: r => by
    unfold insS
    split
    · exact .refl _
    · exact ((insS_p n r).cons x).trans (.swap n x r)
theorem lt_asym : ∀ a b : List Nat, ltCps a b = true → ltCps b a = false
  | [], [], h => nomatch h
  | [], b :: t, h => rfl
  | a :: r, [], h => nomatch h
  | a :: r, b :: t, h => by
    unfold ltCps at h ⊢
    rw [Bool.or_eq_true, Bool.and_eq_true] at h
    rw [Bool.or_eq_false_iff, Bool.and_eq_false_iff]
    rcases h with h | ⟨h1, h2⟩
    · have := of_decide_eq_true h
      exact ⟨decide_eq_false (by omega), .inl (beq_eq_false_iff_ne.mpr (by omega))⟩
    · have e := eq_of_beq h1
      exact ⟨decide_eq_false (by omega), .inr (lt_asym r t h2)⟩
theorem insS_from (n p : Str) : ∀ l, risingS p l = true → ltCps n.cps.toList p.cps.toList = false → risingS p (insS n l) = true
  | [], _, h => by
    show (!ltCps n.cps.toList p.cps.toList && true) = true
    rw [h]
    rfl
  | x :: r, hs, h => by
    have hs' : (!ltCps x.cps.toList p.cps.toList && risingS x r) = true := hs
    rw [Bool.and_eq_true] at hs'
    unfold insS
    by_cases z : ltCps n.cps.toList x.cps.toList = true
    · rw [if_pos z]
      show (!ltCps n.cps.toList p.cps.toList && (!ltCps x.cps.toList n.cps.toList && risingS x r)) = true
      rw [h, lt_asym _ _ z, hs'.2]
      rfl
    · rw [if_neg z]
      show (!ltCps x.cps.toList p.cps.toList && risingS x (insS n r)) = true
      rw [hs'.1, insS_from n x r hs'.2 (Bool.eq_false_iff.mpr z)]
      rfl
theorem insS_sorted (n : Str) : ∀ l, sortedS l = true → sortedS (insS n l) = true
  | [], _ => rfl
  | x :: r, hs => by
    unfold insS
    by_cases z : ltCps n.cps.toList x.cps.toList = true
    · rw [if_pos z]
      show (!ltCps x.cps.toList n.cps.toList && risingS x r) = true
      rw [lt_asym _ _ z]
      exact hs
    · rw [if_neg z]
      exact insS_from n x r hs (Bool.eq_false_iff.mpr z)
def MS.put (S : MS) (e : Ent) (m : Int) : MS := { S with ps := sortP (S.ps ++ [(e, m)]) }
def MS.back (S : MS) (n : Str) : MS := { S with bs := insS n S.bs }
def enterM (S : MS) (e : Ent) : Rf × MS := if e ∈ S.ps.map (·.1) then (.ok, S) else match momentM S e with
  | none => (.closed, S)
  | some m => (allowedM S (S.put e m), S.put e m)
def backM (S : MS) (n : Str) : Rf × MS := if n ∈ S.bs then (.ok, S) else (allowedM S (S.back n), S.back n)
def closeM (S : MS) (d : Int) (m : Str) : Rf × MS := if (0 ≤ d ∧ d ≤ 99) ∧ (m = "refuse" ∨ m = "up") ∧ (∀ k, S.cl = some k → k < d) then (.ok, { S with cl := some d, md := some m }) else (.day, S)
structure OkM (P G HL : List Str) (S : MS) : Prop where
  pw : ∀ p ∈ S.ps, EntW P G HL p.1 ∧ 0 ≤ p.2 ∧ p.2 ≤ 9999
  sp : S.ps = sortP S.ps
  bn : ∀ y ∈ S.bs, nameB y = true
  sb : sortedS S.bs = true
  lf : S.ps.length ≤ 60
  lb : S.bs.length ≤ 60
  ls : (standP S.ps S.bs).length ≤ 30
  cm : (S.cl = none ∧ S.md = none) ∨ ∃ k m, S.cl = some k ∧ 0 ≤ k ∧ k ≤ 99 ∧ S.md = some m ∧ (m = "refuse" ∨ m = "up")
theorem allowed_many {S T : MS} (h : allowedM S T = .ok) : T.ps.length ≤ 60 ∧ T.bs.length ≤ 60 ∧ (standP T.ps T.bs).length ≤ 30 := by
  unfold allowedM at h
  split at h
  · split at h
    · exact nomatch h
    · omega
  · exact nomatch h
theorem OkM.moment {P G HL : List Str} {S : MS} (o : OkM P G HL S) {e : Ent} (w : EntW P G HL e) {m : Int} (h : momentM S e = some m) : 0 ≤ m ∧ m ≤ 9999 := by
  rcases o.cm with ⟨a, _⟩ | ⟨k, _, a, k0, k1, _⟩
  · have e1 : momentM S e = some e.moment := if_neg (by rw [a]; exact fun z => nomatch z.1)
    rw [e1] at h
    rw [← Option.some.inj h]
    exact ⟨w.m0, w.m1⟩
  · by_cases c : closedB S.cl e.moment = true ∧ S.md = some "up" ∧ upB e = true
    · have e1 : momentM S e = if S.cl = some 99 then none else some ((S.cl.getD 0 + 1) * 100) := if_pos c
      rw [e1] at h
      by_cases c2 : S.cl = some 99
      · rw [if_pos c2] at h
        exact nomatch h
      · rw [if_neg c2, a] at h
        have h2 : (k + 1) * 100 = m := Option.some.inj h
        have h3 : k ≠ 99 := fun z => c2 (by rw [a, z])
        omega
    · have e1 : momentM S e = some e.moment := if_neg c
      rw [e1] at h
      rw [← Option.some.inj h]
      exact ⟨w.m0, w.m1⟩
theorem OkM.enter {P G HL : List Str} {S : MS} (o : OkM P G HL S) {e : Ent} (w : EntW P G HL e) (h : (enterM S e).1 = .ok) : OkM P G HL (enterM S e).2 := by
  unfold enterM at h ⊢
  split
  · exact o
  · rename_i ne
    rw [if_neg ne] at h
    cases em : momentM S e with
    | none => exact o
    | some m =>
      rw [em] at h
      obtain ⟨l1, l2, l3⟩ := allowed_many h
      have hm := o.moment w em
      refine ⟨fun p hp => ?_, ?_, o.bn, o.sb, l1, l2, l3, o.cm⟩
      · have := (sortP_p _).mem_iff.mp hp
        rcases List.mem_append.mp this with z | z
        · exact o.pw p z
        · rw [List.mem_singleton.mp z]
          exact ⟨w, hm⟩
      · exact sortP_perm (sortP_p _).symm
theorem OkM.backs {P G HL : List Str} {S : MS} (o : OkM P G HL S) {n : Str} (w : nameB n = true) (h : (backM S n).1 = .ok) : OkM P G HL (backM S n).2 := by
  unfold backM at h ⊢
  split
  · exact o
  · rename_i ne
    rw [if_neg ne] at h
    obtain ⟨l1, l2, l3⟩ := allowed_many h
    refine ⟨o.pw, o.sp, fun y hy => ?_, insS_sorted n _ o.sb, l1, l2, l3, o.cm⟩
    rcases List.mem_cons.mp ((insS_p n S.bs).mem_iff.mp hy) with rfl | z
    · exact w
    · exact o.bn y z
theorem OkM.close {P G HL : List Str} {S : MS} (o : OkM P G HL S) {d : Int} {m : Str} (h : (closeM S d m).1 = .ok) : OkM P G HL (closeM S d m).2 := by
  unfold closeM at h ⊢
  split
  · rename_i z
    exact ⟨o.pw, o.sp, o.bn, o.sb, o.lf, o.lb, o.ls, .inr ⟨d, m, rfl, z.1.1, z.1.2, rfl, z.2.1⟩⟩
  · exact o
def clV : Option Int → V
  | none => .non
  | some k => .int k
def mdV : Option Str → V
  | none => .non
  | some k => .str k
def clD : Option Int → PyData
  | none => .none
  | some k => .int k
def mdD : Option Str → PyData
  | none => .none
  | some k => .str k
/-- the state at s -/
structure SM (H : Hp) (s a1 a2 : Addr) (P G : List Str) (S : MS) : Prop where
  ex : ∃ F B fs, SAt H s a1 a2 F B P G fs S.bs (clV S.cl) (mdV S.md) ∧ fs.map emo = S.ps
theorem SM.on {H H' : Hp} (k : TK H H') {s a1 a2 : Addr} {P G : List Str} {S : MS} (h : SM H s a1 a2 P G S) : SM H' s a1 a2 P G S := by
  obtain ⟨F, B, fs, sa, e⟩ := h.ex
  exact ⟨F, B, fs, sa.on k, e⟩
def msD (P G : List Str) (S : MS) : PyData := stD P G S.ps S.bs (clD S.cl) (mdD S.md)
theorem SM.dp {K : PySem.W.Frag} {H : Hp} {s a1 a2 : Addr} {P G : List Str} {S : MS} (h : SM H s a1 a2 P G S) : Dp K H (.ref s) (msD P G S) := by
  obtain ⟨F, B, fs, sa, e⟩ := h.ex
  unfold msD
  rw [← e]
  refine sa.dp ?_ ?_
  · cases S.cl with
    | none => exact .non
    | some k => exact .int k
  · cases S.md with
    | none => exact .non
    | some k => exact .str k
theorem short_ms {P G HL : List Str} (so : StOk P G) (hH : ∀ y ∈ HL, nameB y = true) {S : MS} (o : OkM P G HL S) : Short (msD P G S) 100000 4 := by
  refine short_st so hH (fun p hp => ⟨(o.pw p hp).1, (o.pw p hp).2.1, by have := (o.pw p hp).2.2; omega⟩) (by have := o.lf; omega) o.bn (by have := o.lb; omega) ?_ ?_
  · rcases o.cm with ⟨a, _⟩ | ⟨k, m, a, k0, k1, _⟩
    · rw [a]; exact short_none
    · rw [a]; exact short_int k0 (by omega)
  · rcases o.cm with ⟨_, a⟩ | ⟨k, m, _, _, _, a, b⟩
    · rw [a]; exact short_none
    · rw [a]
      have n1 : nameB "refuse" = true := by decide +kernel
      have n2 : nameB "up" = true := by decide +kernel
      rcases b with rfl | rfl
      · exact short_str (.inl n1)
      · exact short_str (.inl n2)
theorem standM_W {P G HL : List Str} {S : MS} (o : OkM P G HL S) : ∀ e ∈ sortEnt (standP S.ps S.bs), EntW P G HL e := standP_W o.pw
/-- the address of each refusal's class -/
structure RfA where
  cd : Addr
  tm : Addr
  ne : Addr
  nn : Addr
  nd : Addr
  nth : Addr
def RfA.of (A : RfA) : Rf → Addr
  | .ok => A.cd
  | .closed => A.cd
  | .many => A.tm
  | .entry => A.ne
  | .name => A.nn
  | .day => A.nd
  | .then_ => A.nth
/-! ### states with closed days -/
theorem eqv_entL : ∀ xs ys : List Ent, PyData.eqvAll (xs.map entD) (ys.map entD) = true ↔ xs = ys
  | [], [] => ⟨fun _ => rfl, fun _ => rfl⟩
  | [], y :: ys => ⟨fun h => by simp [PyData.eqvAll] at h, fun h => nomatch h⟩
  | x :: xs, [] => ⟨fun h => by simp [PyData.eqvAll] at h, fun h => nomatch h⟩
  | x :: xs, y :: ys => by
    rw [List.map_cons, List.map_cons, PyData.eqvAll, Bool.and_eq_true, eqv_ents, eqv_entL xs ys]
    exact ⟨fun ⟨a, b⟩ => by rw [a, b], fun h => by injection h with a b; exact ⟨a, b⟩⟩
theorem eqv_entLL (xs ys : List Ent) : PyData.eqv (.list (xs.map entD)) (.list (ys.map entD)) = decide (xs = ys) := by
  rw [PyData.eqv]
  by_cases z : xs = ys
  · rw [decide_eq_true z]; exact (eqv_entL xs ys).mpr z
  · rw [decide_eq_false z]; exact Bool.eq_false_iff.mpr fun q => z ((eqv_entL xs ys).mp q)
def upW : List V := [.str "come", .str "go", .str "move", .str "some"]
theorem up_in (e : Ent) : inV (.str e.word) upW = upB e := by
  have h1 : inV (.str "come") upW = true := by decide +kernel
  have h2 : inV (.str "go") upW = true := by decide +kernel
  have h3 : inV (.str "move") upW = true := by decide +kernel
  have h4 : inV (.str "some") upW = true := by decide +kernel
  have h5 : inV (.str "swap") upW = false := by decide +kernel
  have h6 : inV (.str "count") upW = false := by decide +kernel
  have h7 : inV (.str "look") upW = false := by decide +kernel
  cases e
  · exact h1
  · exact h2
  · exact h3
  · exact h4
  · exact h5
  · exact h6
  · exact h7
structure DefX (P : Program) (w : World) (K : PySem.W.Frag) (mg : Str → Option Value) (base : Heap) (x : Str) (k : Nat) (f : Addr) (fd : FuncData) (ps : List Str) (sp : Sp) : Prop where
  ok : FnOk P w K mg base (L2.CX P w) k f fd ps sp
  g : mg x = some (.ref f)
  kp : PySem.W.keepIn K (.ref f) = true
  b : Binds K fd ps []
/-- an own class of errors over ValueError -/
structure Err (K : PySem.W.Frag) (mg : Str → Option Value) (x : Str) (C : Addr) : Prop where
  gC : mg x = some (.ref C)
  ex : PySem.W.excIn K C [.type "ValueError", .type "Exception", .type "BaseException", .type "object"] "ValueError.__new__" = true
  kp : PySem.W.keepIn K (.ref C) = true
  sb : PySem.W.subIn K (.ref C) (.type "BaseException") = some true
  ty : PySem.W.typeIn K (.ref C) = some (.type "type")
def CmS (S : MS) : Prop := (S.cl = none ∧ S.md = none) ∨ ∃ k m, S.cl = some k ∧ 0 ≤ k ∧ k ≤ 99 ∧ S.md = some m ∧ (m = "refuse" ∨ m = "up")
def PsW (P G HL : List Str) (ps : List (Ent × Int)) : Prop := ∀ p ∈ ps, EntW P G HL p.1 ∧ 0 ≤ p.2 ∧ p.2 ≤ 9999
def spIsClosedX : Sp := fun vs H Q _ => ∃ (m : Int) (cl : Option Int), vs = [.int m, clV cl] ∧ Q (.bl (closedB cl m)) H
def spToStandX (A : RfA) : Sp := fun vs H Q E => ∃ (a : Addr) (e : Ent) (S : MS) (cv mv : V), vs = [.ref a, cv, mv] ∧ cv = clV S.cl ∧ mv = mdV S.md ∧ H a = some (.tup e.vals) ∧ CmS S ∧ (∀ m, momentM S e = some m → Q (.int m) H) ∧ (momentM S e = none → E (.ref (A.of .closed)) none H)
def spInClosedX : Sp := fun vs H Q _ => ∃ (s a1 a2 : Addr) (P G : List Str) (S : MS), vs = [.ref s] ∧ SM H s a1 a2 P G S ∧ S.ps.length ≤ 100 ∧
  ∀ (D : Addr) (qr : List (Addr × Ent)) (H' : Hp), Same H H' → H' D = some (.lst (qr.map fun x => V.ref x.1)) → (∀ x ∈ qr, H' x.1 = some (.tup x.2.vals)) → qr.map (·.2) = closedL S → Q (.ref D) H'
def spAllowedX (A : RfA) : Sp := fun vs H Q E => ∃ (s a1 a2 s' a1' a2' : Addr) (P G HL : List Str) (S T : MS), vs = [.ref s, .ref s'] ∧ SM H s a1 a2 P G S ∧ SM H s' a1' a2' P G T ∧ StOk P G ∧ (∀ y ∈ HL, nameB y = true) ∧ PsW P G HL S.ps ∧ PsW P G HL T.ps ∧ S.ps.length ≤ 100 ∧ T.ps.length ≤ 100 ∧ T.bs.length ≤ 100 ∧
  (allowedM S T = .ok → ∀ H', Same H H' → Q (.ref s') H') ∧ (allowedM S T ≠ .ok → ∀ H', Same H H' → E (.ref (A.of (allowedM S T))) none H')
section
variable {P : Program} {w : World} {K : PySem.W.Frag} {mg : Str → Option Value} {base : Heap}
theorem ok_isClosedX {f fD : Addr} {fd dD : FuncData} (F : Fun K "is_closed" "is_closed" sIsClosed f fd) (DY : DefT P w K mg base "day_of" 1 fD dD ["moment"] spDay) : FnOk P w K mg base CX0 2 f fd ["moment", "closed"] spIsClosedX := by
  refine F.ok sc_sIsClosed (fun vs H Q E h => ?_) (fun cdv A outer s H vs Q E hr h => ?_)
  · obtain ⟨m, cl, rfl, _⟩ := h
    rfl
  · obtain ⟨m, cl, rfl, q⟩ := h
    have nd := sc_sIsClosed.nd
    refine ⟨_, pss_one (ps_ret (pe_and (pe_cmpR op_notN (pv 1) pe_non (by rfl)) (pe_one (pe_cmpR op_le (pe_call DY.ok hr (by rfl) DY.g DY.kp DY.b .nil pass0 (pa_cons (pv 0) pa_nil)) (pv 1) (nomark _))))), ?_⟩
    cases cl with
    | none => exact ⟨_, rfl, rfl, false, rfl, iteF q⟩
    | some k => exact ⟨_, rfl, rfl, true, rfl, iteT ⟨_, rfl, m, rfl, _, rfl, m / 100, k, rfl, rfl, q⟩⟩
theorem ok_toStandX {f fC aU : Addr} {fd dC : FuncData} {A : RfA} (F : Fun K "moment_to_stand" "moment_to_stand" sToStand f fd) (IC : DefT P w K mg base "is_closed" 2 fC dC ["moment", "closed"] spIsClosedX) (EC : Err K mg "Closed" A.cd)
    (mU : mg "TAKEN_UP" = some (.ref aU)) (hU : ∀ H, SqT K H aU upW) (mL : ∃ t, mg "LAST_DAY" = some (.int 99 t)) (mM : ∃ t, mg "MOMENTS_IN_A_DAY" = some (.int 100 t)) : FnOk P w K mg base (L2.CX P w) 3 f fd ["entry", "closed", "mode"] (spToStandX A) := by
  obtain ⟨tL, mL⟩ := mL
  obtain ⟨tM, mM⟩ := mM
  refine F.okX sc_sToStand (fun vs H Q E h => ?_) (fun cdv A' outer s H vs Q E hr h => ?_)
  · obtain ⟨a, e, S, cv, mv, rfl, _⟩ := h
    rfl
  · obtain ⟨a, e, S, cv, mv, rfl, ecv, emv, ha, cm, q1, q2⟩ := h
    have nd := sc_sToStand.nd
    refine ⟨_, pss_cons (ps_set (i := 3) nd rfl (Or.inl rfl) (pe_ix ix_tup (pv 0) pe_int (fun _ _ => rfl)))
      (pss_cons (ps_if (PW.pt (pw_or (pt_not (pt_val (pe_call IC.ok hr (by rfl) IC.g IC.kp IC.b .nil pass0 (pa_cons (pv 3) (pa_cons (pv 1) pa_nil))))) (pw_or (pt_cmpR op_ne (pv 2) pe_str (nomark _)) (pw_or1 (pt_cmpR op_notIn_seq (pe_ix ix_tup (pv 0) pe_int (fun _ _ => rfl)) (pe_glob (v := .ref aU) (u := .ref aU) (by rfl) mU rfl) (by rfl)))))) (pss_one (ps_ret (pv 3))) pss_nil)
      (pss_cons (ps_if (pt_cmpR op_eq (pv 1) (pe_glob (v := .int 99) rfl mL ⟨_, rfl⟩) (nomark _)) (pss_one (ps_raise rfl (takes_of rfl rfl rfl rfl) (pmk_own PySem.F.excBase_ValueError EC.ex EC.gC EC.kp (raises_own EC.sb EC.ty) rfl))) pss_nil)
      (pss_one (ps_ret (pe_op op_mul (pe_op op_add (pv 1) pe_int) (pe_glob (v := .int 100) rfl mM ⟨_, rfl⟩)))))), ?_⟩
    have momE : momentM S e = if closedB S.cl e.moment = true ∧ S.md = some "up" ∧ upB e = true then (if S.cl = some 99 then none else some ((S.cl.getD 0 + 1) * 100)) else some e.moment := rfl
    rcases cm with ⟨c1, c2⟩ | ⟨k, m, c1, k0, k1, c2, hm⟩
    · rw [c1] at ecv momE
      rw [c2] at emv
      obtain rfl : cv = V.non := ecv
      obtain rfl : mv = V.non := emv
      exact ⟨_, rfl, a, _, 2, _, rfl, rfl, SqT.of ha, at2 e, _, rfl, _, rfl, e.moment, none, rfl, false, rfl, iteT ⟨_, rfl, q1 _ (momE.trans (if_neg fun z => nomatch z.1))⟩⟩
    · rw [c1] at ecv momE
      rw [c2] at emv momE
      obtain rfl : cv = V.int k := ecv
      obtain rfl : mv = V.str m := emv
      refine ⟨_, rfl, a, _, 2, _, rfl, rfl, SqT.of ha, at2 e, _, rfl, _, rfl, e.moment, some k, rfl, ?_⟩
      by_cases b1 : closedB (some k) e.moment = true
      · rw [b1]
        refine ⟨true, rfl, iteF ?_⟩
        rcases hm with rfl | rfl
        · refine ⟨_, rfl, rfl, true, ?_, iteT ⟨_, rfl, q1 _ (momE.trans (if_neg fun z => ?_))⟩⟩
          · exact congrArg V.bl (by decide +kernel)
          · exact absurd (Option.some.inj z.2.1) (wno (by decide +kernel))
        · refine ⟨_, rfl, rfl, false, congrArg V.bl (by decide +kernel), iteF ?_⟩
          refine ⟨_, rfl, a, _, 0, _, rfl, rfl, SqT.of ha, at0 e, aU, upW, rfl, .inr (hU _), rfl, rfl, ?_⟩
          rw [if_pos rfl, up_in]
          by_cases b3 : upB e = true
          · rw [b3]
            refine ⟨_, rfl, iteF ⟨_, rfl, rfl, _, rfl, ?_⟩⟩
            by_cases b4 : k = 99
            · subst b4
              rw [decide_eq_true rfl]
              exact iteT (q2 (momE.trans (by rw [if_pos ⟨b1, rfl, b3⟩, if_pos rfl])))
            · rw [decide_eq_false fun z => b4 (V.int.inj z)]
              exact iteF ⟨_, rfl, k, 1, rfl, rfl, k + 1, 100, rfl, rfl, .inr ⟨by decide, by decide⟩, q1 _ (momE.trans (by rw [if_pos ⟨b1, rfl, b3⟩, if_neg fun z => b4 (Option.some.inj z)]; rfl))⟩
          · rw [Bool.eq_false_iff.mpr b3]
            exact ⟨_, rfl, iteT ⟨_, rfl, q1 _ (momE.trans (if_neg fun z => b3 z.2.2))⟩⟩
      · rw [Bool.eq_false_iff.mpr b1]
        exact ⟨false, rfl, iteT ⟨_, rfl, q1 _ (momE.trans (if_neg fun z => b1 z.1))⟩⟩
theorem ok_inClosedX {f fS fC : Addr} {fd dS dC : FuncData} (F : Fun K "in_closed_days" "in_closed_days" sInClosed f fd) (SG : DefT P w K mg base "standing" 5 fS dS ["state"] spStanding) (IC : DefT P w K mg base "is_closed" 2 fC dC ["moment", "closed"] spIsClosedX) : FnOk P w K mg base CX0 6 f fd ["state"] spInClosedX := by
  refine F.ok sc_sInClosed (fun vs H Q E h => ?_) (fun cdv A outer s H vs Q E hr h => ?_)
  · obtain ⟨st, a1, a2, Ps, G, S, rfl, _⟩ := h
    rfl
  · obtain ⟨st, a1, a2, Ps, G, S, rfl, sm, lf, q⟩ := h
    have nd := sc_sInClosed.nd
    have hr2 : Room 2 _ := hr.mono (by decide)
    refine ⟨_, pss_one (ps_ret (pe_lc (own := [("entry", 1)]) (g := gName 1) (tt := tB (tCall spIsClosedX [] E0 (tCons (tOp (rIxT K) (tVar 1) (tC (V.int 2))) (tCons (tOp (rIxT K) (tVar 0) (tC (V.int 4))) tNil)))) (te := tVar 1) rfl nd (pi_tup (pe_call SG.ok hr (by rfl) SG.g SG.kp SG.b .nil pass0 (pa_cons (pv 0) pa_nil))) (blkOk_by (N := sInClosedN) (sc := defScope sInClosed) (by decide +kernel)) (fun _ _ _ _ _ => (pg_name (i := 1) nd rfl (Or.inl rfl))) (fun _ _ _ _ _ => (pts_one (pt_val (pe_call IC.ok hr2 (by rfl) IC.g IC.kp IC.b .nil pass0 (pa_cons (pe_ix ix_tup (pv 1) pe_int (fun _ _ => rfl)) (pa_cons (pe_ix ix_tup (pv 0) pe_int (fun _ _ => rfl)) pa_nil)))))) (fun _ _ _ _ _ => (pv 1)))), ?_⟩
    obtain ⟨Fa, Ba, fs, sa, ef⟩ := sm.ex
    have lfs : fs.length = S.ps.length := by rw [← ef, List.length_map]
    refine ⟨_, rfl, st, a1, a2, Fa, Ba, Ps, G, fs, S.bs, _, _, rfl, sa, by omega, fun tp qr H1 s1 h1 hE eq => ⟨tp, rfl, ⟨_, SqT.of h1⟩, fun D nD => ?_⟩⟩
    rw [standL_P, ef] at eq
    refine lc_tup (K := K) (a := tp) (xs := qr.map fun x => V.ref x.1) (fun i H' => Same H1 H' ∧ ∃ ps : List (Addr × Ent), H' D = some (.lst (ps.map fun x => V.ref x.1)) ∧ ps.length ≤ i ∧ ps = (qr.take i).filter fun x => closedB S.cl x.2.moment) ⟨same_new nD, [], upd_same, Nat.le_refl _, rfl⟩ (fun i H' _ h => SqT.of (h.1 _ _ h1)) ?_ ?_
    · rintro i v H' hx ⟨sm, ps, hD, lp, ep⟩
      rw [List.getElem?_map] at hx
      obtain ⟨x, hy, rfl⟩ := Option.map_eq_some_iff.mp hx
      have il := (List.getElem?_eq_some_iff.mp hy).1
      have lq : qr.length ≤ 100 := by
        have := congrArg List.length eq
        rw [List.length_map, sortEnt_len] at this
        have := standP_len S.ps S.bs
        omega
      refine ⟨rfl, _, rfl, x.1, _, 2, _, rfl, rfl, SqT.of (sm _ _ (hE x (List.mem_of_getElem? hy))), at2 x.2, _, rfl, st, _, 4, _, rfl, rfl, SqT.of (sm _ _ (s1 _ _ sa.s)), atI_nat (j := 4) rfl, x.2.moment, S.cl, rfl, _, rfl, ?_⟩
      by_cases c : closedB S.cl x.2.moment = true
      · rw [c]
        refine iteT ⟨_, rfl, _, hD, ?_, fun b o e => (upd_ne (ne_of_none e nD)).trans (sm b o e), ps ++ [x], ?_, ?_, ?_⟩
        · rw [List.length_map]
          exact small1000 (by omega)
        · rw [upd_same, List.map_append]
          rfl
        · rw [List.length_append]
          simp only [List.length_cons, List.length_nil]
          omega
        · rw [ep, take_sn hy, List.filter_append, List.filter_cons, if_pos c]
          rfl
      · rw [Bool.eq_false_iff.mpr c]
        refine iteF ⟨sm, ps, hD, by omega, ?_⟩
        rw [ep, take_sn hy, List.filter_append, List.filter_cons, if_neg c, List.filter_nil, List.append_nil]
    · rintro H2 ⟨sm, ps, hD, lp, ep⟩
      rw [List.length_map, List.take_length] at ep
      refine q D ps H2 (s1.trans sm) hD (fun x hx => sm _ _ (hE x ?_)) ?_
      · rw [ep] at hx
        exact (List.mem_filter.mp hx).1
      · rw [ep]
        unfold closedL
        rw [← eq, List.filter_map]
        rfl
theorem ok_allowedX {f fS fI : Addr} {fd dS dI : FuncData} {A : RfA} (F : Fun K "allowed" "allowed" sAllowed f fd) (SG : DefT P w K mg base "standing" 5 fS dS ["state"] spStanding) (ID : DefT P w K mg base "in_closed_days" 6 fI dI ["state"] spInClosedX) (EC : Err K mg "Closed" A.cd) (ET : Err K mg "TooMany" A.tm) (ml : mg "len" = none)
    (mF : ∃ t, mg "MOST_FORMS" = some (.int 60 t)) (mB : ∃ t, mg "MOST_BACKS" = some (.int 60 t)) (mE : ∃ t, mg "MOST_ENTRIES" = some (.int 30 t)) : FnOk P w K mg base (L2.CX P w) 7 f fd ["state", "later"] (spAllowedX A) := by
  obtain ⟨tF, mF⟩ := mF
  obtain ⟨tB, mB⟩ := mB
  obtain ⟨tE, mE⟩ := mE
  refine F.okX sc_sAllowed (fun vs H Q E h => ?_) (fun cdv A' outer s H vs Q E hr h => ?_)
  · obtain ⟨st, a1, a2, st', a1', a2', Ps, G, HL, S, T, rfl, _⟩ := h
    rfl
  · obtain ⟨st, a1, a2, st', a1', a2', Ps, G, HL, S, T, rfl, sm, sn, so, hH, wS, wT, lS, lT, lB, q1, q2⟩ := h
    have nd := sc_sAllowed.nd
    have hr5 : Room 5 _ := hr.mono (by decide)
    refine ⟨_, pss_cons (ps_if (pt_cmpR (op_neD hr.units) (pe_call ID.ok hr (by rfl) ID.g ID.kp ID.b .nil pass0 (pa_cons (pv 1) pa_nil)) (pe_call ID.ok hr (by rfl) ID.g ID.kp ID.b .nil pass0 (pa_cons (pv 0) pa_nil)) (nomark _)) (pss_one (ps_raise rfl (takes_of rfl rfl rfl rfl) (pmk_own PySem.F.excBase_ValueError EC.ex EC.gC EC.kp (raises_own EC.sb EC.ty) rfl))) pss_nil)
      (pss_cons (ps_if (PW.pt (pw_or (pt_cmpR op_gt (pe_callB call_len_seq (by rfl) ml PySem.boot_len (pa_cons (pe_ix ix_tup (pv 1) pe_int (fun _ _ => rfl)) pa_nil)) (pe_glob (v := .int 60) rfl mF ⟨_, rfl⟩) (nomark _)) (pw_or (pt_cmpR op_gt (pe_callB call_len_seq (by rfl) ml PySem.boot_len (pa_cons (pe_ix ix_tup (pv 1) pe_int (fun _ _ => rfl)) pa_nil)) (pe_glob (v := .int 60) rfl mB ⟨_, rfl⟩) (nomark _)) (pw_or1 (pt_cmpR op_gt (pe_callB call_len_seq (by rfl) ml PySem.boot_len (pa_cons (pe_call SG.ok hr5 (by rfl) SG.g SG.kp SG.b .nil pass0 (pa_cons (pv 1) pa_nil)) pa_nil)) (pe_glob (v := .int 30) rfl mE ⟨_, rfl⟩) (nomark _)))))) (pss_one (ps_raise rfl (takes_of rfl rfl rfl rfl) (pmk_own PySem.F.excBase_ValueError ET.ex ET.gC ET.kp (raises_own ET.sb ET.ty) rfl))) pss_nil)
      (pss_one (ps_ret (pv 1)))), ?_⟩
    have shL : ∀ {U : MS}, PsW Ps G HL U.ps → U.ps.length ≤ 100 → SeqAt.shaped (.list ((closedL U).map entD)) = true := fun {U} wU lU => by
      unfold SeqAt.shaped
      have h1 : PyData.canLayAll0 ((closedL U).map entD) = true := lay_all fun d hd => by
        obtain ⟨e, he, rfl⟩ := List.mem_map.mp hd
        exact (standP_W (bs := U.bs) wU e (List.mem_filter.mp he).1).lay so hH
      have h2 : PyData.depthAll ((closedL U).map entD) ≤ 1 := depth_all fun d hd => by
        obtain ⟨e, he, rfl⟩ := List.mem_map.mp hd
        exact Nat.le_of_eq (entD_depth e)
      rw [PyData.canLay0, h1, PyData.depth, decide_eq_true (by omega)]
      rfl
    have dpL : ∀ {H' : Hp} {D : Addr} {qr : List (Addr × Ent)} {l : List Ent}, H' D = some (.lst (qr.map fun x => V.ref x.1)) → (∀ x ∈ qr, H' x.1 = some (.tup x.2.vals)) → qr.map (·.2) = l → Dp K H' (.ref D) (.list (l.map entD)) := fun {H' D qr l} hD hE e => by
      rw [← e]
      refine .lst (SqL.of hD) ?_
      have := dp_ents (K := K) (ents_pairs hE)
      rwa [List.map_map] at this
    refine ⟨_, rfl, st', a1', a2', Ps, G, T, rfl, sn, lT, fun D1 qr1 H1 s1 hD1 hE1 e1 => ?_⟩
    refine ⟨_, rfl, st, a1, a2, Ps, G, S, rfl, sm.on (TK.of s1), lS, fun D2 qr2 H2 s2 hD2 hE2 e2 => ?_⟩
    refine ⟨_, _, dpL (s2 _ _ hD1) (fun x hx => s2 _ _ (hE1 x hx)) e1, dpL hD2 hE2 e2, shL wT lT, shL wS lS, _, rfl, ?_⟩
    rw [eqv_entLL]
    have s12 := s1.trans s2
    by_cases c1 : closedL T = closedL S
    · rw [decide_eq_true c1]
      have am : allowedM S T = if 60 < T.ps.length ∨ 60 < T.bs.length ∨ 30 < (standP T.ps T.bs).length then .many else .ok := if_pos c1
      rw [am] at q1 q2
      obtain ⟨Fa, Ba, fs, sa, ef⟩ := (sn.on (TK.of s12)).ex
      have lfs : fs.length = T.ps.length := by rw [← ef, List.length_map]
      have cF : (fs.map fun x => V.ref x.f).length = fs.length := List.length_map _
      have cB : (T.bs.map V.str).length = T.bs.length := List.length_map _
      refine iteF ⟨_, rfl, st', _, 2, _, rfl, rfl, SqT.of sa.s, atI_nat (j := 2) rfl, Fa, _, rfl, .inr (SqT.of sa.f), _, 60, rfl, rfl, _, rfl, ite2 (fun z => ?_) (fun z => ?_)⟩
      · have z : ((fs.map fun x => V.ref x.f).length : Int) > 60 := of_decide_eq_true z
        rw [if_pos (.inl (by omega))] at q2
        exact q2 (fun z => nomatch z) H2 s12
      · have z : ¬ ((fs.map fun x => V.ref x.f).length : Int) > 60 := of_decide_eq_false (Bool.eq_false_iff.mpr z)
        refine ⟨_, rfl, st', _, 3, _, rfl, rfl, SqT.of sa.s, atI_nat (j := 3) rfl, Ba, _, rfl, .inr (SqT.of sa.b), _, 60, rfl, rfl, _, rfl, ite2 (fun z2 => ?_) (fun z2 => ?_)⟩
        · have z2 : ((T.bs.map V.str).length : Int) > 60 := of_decide_eq_true z2
          rw [if_pos (.inr (.inl (by omega)))] at q2
          exact q2 (fun z => nomatch z) H2 s12
        · have z2 : ¬ ((T.bs.map V.str).length : Int) > 60 := of_decide_eq_false (Bool.eq_false_iff.mpr z2)
          refine ⟨_, rfl, st', a1', a2', Fa, Ba, Ps, G, fs, T.bs, _, _, rfl, sa, by omega, fun tp qr H3 s3 h3 hE eq => ?_⟩
          have c3 : (qr.map fun x => V.ref x.1).length = (standP T.ps T.bs).length := by
            rw [List.length_map, ← List.length_map (f := Prod.snd) (as := qr), eq, sortEnt_len, standL_P, ef]
          refine ⟨tp, _, rfl, .inr (SqT.of h3), _, 30, rfl, rfl, _, rfl, ite2 (fun z3 => ?_) (fun z3 => ?_)⟩
          · have z3 : ((qr.map fun x => V.ref x.1).length : Int) > 30 := of_decide_eq_true z3
            rw [if_pos (.inr (.inr (by omega)))] at q2
            exact q2 (fun z => nomatch z) H3 (s12.trans s3)
          · have z3 : ¬ ((qr.map fun x => V.ref x.1).length : Int) > 30 := of_decide_eq_false (Bool.eq_false_iff.mpr z3)
            rw [if_neg (by omega)] at q1
            exact ⟨_, rfl, q1 rfl H3 (s12.trans s3)⟩
    · rw [decide_eq_false c1]
      have am : allowedM S T = .closed := if_neg c1
      rw [am] at q2
      exact iteT (q2 (fun z => nomatch z) H2 s12)
end
/-! ### entered, taken_back, closed_by, with what they refuse -/
def spEnteredX (A : RfA) (Ts : List Addr) : Sp := fun vs H Q E => ∃ (s ea a1 a2 : Addr) (P G HL : List Str) (S : MS) (e : Ent), vs = [.ref s, .ref ea] ∧ SM H s a1 a2 P G S ∧ H ea = some (.tup e.vals) ∧ StOk P G ∧ (∀ y ∈ HL, nameB y = true) ∧ OkM P G HL S ∧ EntW P G HL e ∧ TabsG Ts H ∧
  ((enterM S e).1 = .ok → ∀ (s' : Addr) (H' : Hp), TB1 Ts H H' → SM H' s' a1 a2 P G (enterM S e).2 → Q (.ref s') H') ∧ ((enterM S e).1 ≠ .ok → ∀ H', TB1 Ts H H' → E (.ref (A.of (enterM S e).1)) none H')
def spTakenX (A : RfA) (Ts : List Addr) : Sp := fun vs H Q E => ∃ (s a1 a2 : Addr) (P G HL : List Str) (S : MS) (n : Str), vs = [.ref s, .str n] ∧ SM H s a1 a2 P G S ∧ StOk P G ∧ (∀ y ∈ HL, nameB y = true) ∧ OkM P G HL S ∧ nameB n = true ∧ TabsG Ts H ∧
  ((backM S n).1 = .ok → ∀ (s' : Addr) (H' : Hp), TB1 Ts H H' → SM H' s' a1 a2 P G (backM S n).2 → Q (.ref s') H') ∧ ((backM S n).1 ≠ .ok → ∀ H', TB1 Ts H H' → E (.ref (A.of (backM S n).1)) none H')
def spClosedByX (A : RfA) : Sp := fun vs H Q E => ∃ (s a1 a2 : Addr) (P G : List Str) (S : MS) (d : Int) (m : Str), vs = [.ref s, .int d, .str m] ∧ SM H s a1 a2 P G S ∧ CmS S ∧
  ((closeM S d m).1 = .ok → ∀ (s' : Addr) (H' : Hp), Same H H' → SM H' s' a1 a2 P G (closeM S d m).2 → Q (.ref s') H') ∧ ((closeM S d m).1 ≠ .ok → E (.ref (A.of (closeM S d m).1)) none H)
def spIsDay : Sp := fun vs H Q _ => ∃ i : Int, vs = [.int i] ∧ Q (.bl (decide (0 ≤ i) && decide (i ≤ 99))) H
def modesW : List V := [.str "refuse", .str "up"]
theorem mode_in (m : Str) : inV (.str m) modesW = decide (m = "refuse" ∨ m = "up") := by
  have h : inV (.str m) modesW = inV (.str m) ((["refuse", "up"] : List Str).map V.str) := rfl
  rw [h, inV_iff]
  exact decide_eq_decide.mpr (by simp)
section
variable {P : Program} {w : World} {K : PySem.W.Frag} {mg : Str → Option Value} {base : Heap}
set_option maxHeartbeats 1000000 in
theorem ok_enteredX {f cR T5 fI fT fA : Addr} {Ts : List Addr} {A : RfA} {dI dT dA : FuncData} {oc kV doc pm ct : Value} {od an : Option Addr} {osl : Array (Option Value)}
    (lk : K.lookup f = some ⟨oc, od, .func (PySem.W.fnOf "entered" "entered" (defArgs sEntered) (defBody sEntered) (defScope sEntered) .none kV doc pm an (.ref cR) ct), osl⟩) (cdI : PySem.W.codeIn K (.ref cR) "entered" = true)
    (TB : GxR.TabB base mg cR T5) (i5 : T5 ∈ Ts) (IO : DefT P w K mg base "is_entry_of" 5 fI dI ["thing", "places", "goods"] (spIsEntryOf Ts)) (TS : DefX P w K mg base "moment_to_stand" 3 fT dT ["entry", "closed", "mode"] (spToStandX A)) (AL : DefX P w K mg base "allowed" 7 fA dA ["state", "later"] (spAllowedX A)) (EN : Err K mg "NoEntry" A.ne)
    (man : mg "any" = none) (mt : mg "tuple" = none) (ms : mg "sorted" = none) :
    FnOk P w K mg base (L2.CX P w) 8 f (PySem.W.fnOf "entered" "entered" (defArgs sEntered) (defBody sEntered) (defScope sEntered) .none kV doc pm an (.ref cR) ct) ["state", "entry"] (spEnteredX A Ts) := by
  refine fn_of lk cdI sc_sEntered (fun vs H Q E h => ?_) (fun A' outer s H vs Q E hr h => ?_)
  · obtain ⟨st, ea, a1, a2, Ps, G, HL, S, e, rfl, _⟩ := h
    rfl
  · obtain ⟨st, ea, a1, a2, Ps, G, HL, S, e, rfl, sm, he, so, hH, o, ew, tg, q1, q2⟩ := h
    have nd := sc_sEntered.nd
    have hr3 : Room 3 _ := hr.mono (by decide)
    have hr5 : Room 5 _ := hr.mono (by decide)
    refine ⟨_, pss_cons (ps_asg (pv 0) (pg_tup (by rfl) (pgs_cons (pg_name (i := 2) nd rfl (Or.inl rfl)) (pgs_cons (pg_name (i := 3) nd rfl (Or.inl rfl)) (pgs_cons (pg_name (i := 4) nd rfl (Or.inl rfl)) (pgs_cons (pg_name (i := 5) nd rfl (Or.inl rfl)) (pgs_cons (pg_name (i := 6) nd rfl (Or.inl rfl)) (pgs_cons (pg_name (i := 7) nd rfl (Or.inl rfl)) pgs_nil))))))))
      (pss_cons (ps_if (pt_not (pt_val (pe_call IO.ok hr5 (by rfl) IO.g IO.kp IO.b .nil pass0 (pa_cons (pv 1) (pa_cons (pv 2) (pa_cons (pv 3) pa_nil)))))) (pss_one (ps_raise rfl (takes_of rfl rfl rfl rfl) (pmk_own PySem.F.excBase_ValueError EN.ex EN.gC EN.kp (raises_own EN.sb EN.ty) rfl))) pss_nil)
      (pss_cons (ps_if (PT.nox (pt_val (pe_anyG (T := T5) (c := cR) (k := 1) (own := [("form", 8)]) (g := gName 8) (tt := tYes) (te := tOp (rEqD K) (tOp (rIxT K) (tVar 8) (tC (V.int 0))) (tVar 1)) (hr.mono (by decide)) (by rfl) man rfl nd TB rfl ⟨blkOk_by (N := sEnteredN) (sc := defScope sEntered) (by decide +kernel), rfl, by decide +kernel, rfl⟩ (pi_tup (pv 4)) (fun _ _ _ _ _ _ => pg_name (i := 8) nd rfl (Or.inl rfl)) (fun _ _ _ _ _ _ _ => pts_nil) (fun _ _ _ _ _ _ hr' => pe_cmpR (op_eqD hr'.units) (pe_ix ix_tup (pv 8) pe_int (fun _ _ => rfl)) (pv 1) (nomark _))))) (pss_one (ps_ret (pv 0))) pss_nil)
      (pss_cons (ps_set (i := 8) nd rfl (Or.inl rfl) (pe_tup (pa_cons (pv 1) (pa_cons (pe_callS TS.ok hr3 (by rfl) TS.g TS.kp TS.b (fun σ => passAt (takes_of rfl rfl rfl rfl) σ) (pa_cons (pv 1) (pa_cons (pv 6) (pa_cons (pv 7) pa_nil)))) pa_nil))))
      (pss_one (ps_ret (pe_callS AL.ok hr (by rfl) AL.g AL.kp AL.b (fun σ => passAt (takes_of rfl rfl rfl rfl) σ) (pa_cons (pv 0) (pa_cons (pe_tup (pa_cons (pv 2) (pa_cons (pv 3) (pa_cons (pe_callTy call_tuple_of (by rfl) mt (by decide +kernel) (pa_cons (pe_callB (cr_sortC hr.units) (by rfl) ms (by decide +kernel) (pa_cons (pe_op op_catA (pv 4) (pe_tup (pa_cons (pv 8) pa_nil))) pa_nil)) pa_nil)) (pa_cons (pv 5) (pa_cons (pv 6) (pa_cons (pv 7) pa_nil))))))) pa_nil)))))))), ?_⟩
    obtain ⟨Fa, Ba, fs, sa, ef⟩ := sm.ex
    have lfs : fs.length = S.ps.length := by rw [← ef, List.length_map]
    have me : ∀ x ∈ fs, EntW Ps G HL x.e := fun x hx => (o.pw (emo x) (by rw [← ef]; exact List.mem_map.mpr ⟨x, hx, rfl⟩)).1
    have mm : S.ps.map (·.1) = fs.map (·.e) := by rw [← ef, List.map_map]; rfl
    have lf := o.lf
    have lb := o.lb
    have fi := (fine_of ew.fr so.pd so.pn so.gn hH ew.nm ew.m0 ew.m1).1
    refine ⟨_, rfl, st, _, rfl, SqT.of sa.s, rfl, _, _, rfl, _, _, rfl, _, _, rfl, _, _, rfl, _, _, rfl, _, _, rfl, rfl, ?_⟩
    refine ⟨_, rfl, _, rfl, _, rfl, ea, a1, a2, e, Ps, G, rfl, he, fi, sa.p, sa.g, tg, fun H1 b1 => ?_⟩
    rw [of_from ew.fr]
    refine ⟨true, rfl, iteF ?_⟩
    have sa1 := sa.on b1.tk
    have he1 := b1.tk _ _ he
    dsimp only [tNext, tSeq, tIfS, tB]
    refine any_tup (xs := fs.map fun x => V.ref x.f) (SqT.of sa1.f) rfl (fun i H' => TB1 Ts H1 H' ∧ ∀ x ∈ fs.take i, x.e ≠ e) (b1.1 T5 i5) (fun H2 tb => ⟨.tab tb b1.1 i5, fun x hx => (nomatch hx)⟩) (fun i H' _ h => SqT.of (h.1.tk _ _ sa1.f)) ?_ ?_
    · intro i v H' Go hx h go
      rw [List.getElem?_map] at hx
      obtain ⟨x, hy, rfl⟩ := Option.map_eq_some_iff.mp hx
      have mx := List.mem_of_getElem? hy
      have fx := (sa1.on h.1.tk).fm x mx
      refine ⟨rfl, yesT ⟨_, rfl, x.f, _, 0, _, rfl, rfl, SqT.of fx.f, atI_nat (j := 0) rfl, _, rfl, _, _, dp_ent fx.e, dp_ent (h.1.tk _ _ he1), (me x mx).shaped so hH, ew.shaped so hH, _, rfl, ?_⟩⟩
      by_cases ev : x.e = e
      · rw [(eqv_ents _ _).mpr ev]
        have em : enterM S e = (.ok, S) := if_pos (by rw [mm]; exact List.mem_map.mpr ⟨x, mx, ev⟩)
        rw [em] at q1
        exact iteT ⟨true, rfl, iteT ⟨_, rfl, q1 rfl st _ (b1.tr h.1) (sm.on (b1.tr h.1).tk)⟩⟩
      · rw [Bool.eq_false_iff.mpr fun z => ev ((eqv_ents _ _).mp z)]
        refine iteF (go _ ⟨h.1, fun z hz => ?_⟩)
        rw [take_sn hy] at hz
        rcases List.mem_append.mp hz with hz | hz
        · exact h.2 z hz
        · rw [List.mem_singleton.mp hz]; exact ev
    · rintro H2 ⟨b2, none_⟩
      rw [List.length_map, List.take_length] at none_
      have em : enterM S e = match momentM S e with | none => (.closed, S) | some m => (allowedM S (S.put e m), S.put e m) := if_neg (by
        rw [mm]
        intro z
        obtain ⟨x, hx, ex⟩ := List.mem_map.mp z
        exact none_ x hx ex)
      refine ⟨false, rfl, iteF ?_⟩
      have b12 := b1.tr b2
      have sa2 := sa.on b12.tk
      have he2 := b12.tk _ _ he
      refine ⟨_, rfl, _, rfl, _, rfl, _, rfl, ea, e, S, _, _, rfl, rfl, rfl, he2, o.cm, fun m hm => ?_, fun hm => ?_⟩
      · rw [hm] at em
        rw [em] at q1 q2
        refine ⟨(by show 2 ≤ sizeLine; decide), fun fm nfm => ?_⟩
        have s3 := @same_new _ _ (.tup [V.ref ea, .int m]) nfm
        have fx : FmAt (upd H2 fm (.tup [V.ref ea, .int m])) ⟨fm, ea, e, m⟩ := ⟨upd_same, s3 _ _ he2⟩
        have sa3 := sa2.on (TK.of s3)
        have b3 := b12.tr (.same b12.1 s3)
        generalize upd H2 fm (.tup [V.ref ea, .int m]) = H3 at s3 fx sa3 b3 ⊢
        refine ⟨_, rfl, _, rfl, _, rfl, _, rfl, _, rfl, (by show 1 ≤ sizeLine; decide), fun t1 nt1 => ?_⟩
        have s4 := @same_new _ _ (.tup [V.ref fm]) nt1
        have sz : (fs.map fun x => V.ref x.f).length + [V.ref fm].length ≤ sizeLine := by
          rw [List.length_map]
          have z1 : 100 ≤ sizeLine := by decide +kernel
          have z2 : [V.ref fm].length = 1 := rfl
          omega
        refine cat_new (K := K) (SqT.of (s4 _ _ sa3.f)) (SqT.of upd_same) (fun z => nomatch z) sz fun tc H5 s5 htc => ?_
        have s45 := s4.trans s5
        have eq1 : ((fs ++ [(⟨fm, ea, e, m⟩ : Fm)]).map fmV).map (·.1) = (fs.map fun x => V.ref x.f) ++ [V.ref fm] := by
          rw [List.map_map, List.map_append]
          rfl
        have eq2 : ((fs ++ [(⟨fm, ea, e, m⟩ : Fm)]).map fmV).map (·.2) = (fs ++ [(⟨fm, ea, e, m⟩ : Fm)]).map formD := by
          rw [List.map_map]
          rfl
        have eq3 : (fs ++ [(⟨fm, ea, e, m⟩ : Fm)]).map (fun x => V.ref x.f) = (fs.map fun x => V.ref x.f) ++ [V.ref fm] := by
          rw [List.map_append]
          rfl
        have fm5 : ∀ x ∈ fs ++ [(⟨fm, ea, e, m⟩ : Fm)], FmAt H5 x := fun x hx => by
          rcases List.mem_append.mp hx with hx | hx
          · exact (sa3.fm x hx).on (TK.of s45)
          · rw [List.mem_singleton.mp hx]; exact fx.on (TK.of s45)
        have lay5 : ∀ x ∈ fs ++ [(⟨fm, ea, e, m⟩ : Fm)], (formD x).canLay0 = true := fun x hx => by
          rcases List.mem_append.mp hx with hx | hx
          · exact (me x hx).layP (p := emo x) so hH
          · rw [List.mem_singleton.mp hx]; exact ew.layP (p := (e, m)) so hH
        have dp5 : DpAll K H5 (((fs ++ [(⟨fm, ea, e, m⟩ : Fm)]).map fmV).map (·.1)) (((fs ++ [(⟨fm, ea, e, m⟩ : Fm)]).map fmV).map (·.2)) := by
          rw [eq1, eq2, ← eq3]
          exact fms_dp fm5
        refine ⟨tc, (fs ++ [(⟨fm, ea, e, m⟩ : Fm)]).map fmV, .type "tuple", rfl, .inr ?_, dp5, ?_, ?_, fun L nL => ?_⟩
        · rw [eq1]; exact htc
        · intro y hy
          obtain ⟨x, hx, rfl⟩ := List.mem_map.mp hy
          exact ⟨lay5 x hx, dep_fm x, _, _, rfl, ty_ent x.e⟩
        · intro y hy z hz
          obtain ⟨x, _, rfl⟩ := List.mem_map.mp hy
          obtain ⟨x', _, rfl⟩ := List.mem_map.mp hz
          exact cmp_fm x x'
        have s6 := @same_new _ _ (.lst ((keyed ((fs ++ [(⟨fm, ea, e, m⟩ : Fm)]).map fmV)).map (·.1))) nL
        refine ⟨L, _, rfl, .inl ⟨SqL.of upd_same, fun F' nF' => ?_⟩⟩
        have s7 := @same_new _ _ (.tup ((keyed ((fs ++ [(⟨fm, ea, e, m⟩ : Fm)]).map fmV)).map (·.1))) nF'
        have hF' := @upd_same (upd H5 L (.lst ((keyed ((fs ++ [(⟨fm, ea, e, m⟩ : Fm)]).map fmV)).map (·.1)))) F' (.tup ((keyed ((fs ++ [(⟨fm, ea, e, m⟩ : Fm)]).map fmV)).map (·.1)))
        have s47 := s45.trans (s6.trans s7)
        generalize upd (upd H5 L (.lst ((keyed ((fs ++ [(⟨fm, ea, e, m⟩ : Fm)]).map fmV)).map (·.1)))) F' (.tup ((keyed ((fs ++ [(⟨fm, ea, e, m⟩ : Fm)]).map fmV)).map (·.1))) = H7 at s7 s47 hF' ⊢
        rw [keyed_fm, List.map_map] at hF'
        refine ⟨_, rfl, _, rfl, _, rfl, (by show 6 ≤ sizeLine; decide), fun st' nst' => ?_⟩
        have s8 := @same_new _ _ (.tup [V.ref a1, .ref a2, .ref F', .ref Ba, clV S.cl, mdV S.md]) nst'
        have s48 := s47.trans s8
        have sa8 := sa3.on (TK.of s48)
        have pe := sortFm_p (fs ++ [(⟨fm, ea, e, m⟩ : Fm)])
        have sb8 : SAt (upd H7 st' (.tup [V.ref a1, .ref a2, .ref F', .ref Ba, clV S.cl, mdV S.md])) st' a1 a2 F' Ba Ps G (sortFm (fs ++ [(⟨fm, ea, e, m⟩ : Fm)])) S.bs (clV S.cl) (mdV S.md) :=
          ⟨upd_same, sa8.p, sa8.g, s8 _ _ hF', sa8.b, fun x hx => ((fm5 x (pe.mem_iff.mp hx)).on (TK.of (s6.trans s7))).on (TK.of s8)⟩
        have ep : (sortFm (fs ++ [(⟨fm, ea, e, m⟩ : Fm)])).map emo = (S.put e m).ps := by
          rw [sortFm_emo, List.map_append, ef]
          rfl
        have sn8 : SM _ st' a1 a2 Ps G (S.put e m) := ⟨F', Ba, _, sb8, ep⟩
        have sm8 : SM _ st a1 a2 Ps G S := ⟨Fa, Ba, fs, sa8, ef⟩
        have hm' := o.moment ew hm
        have lp : (S.put e m).ps.length = S.ps.length + 1 := by
          show (sortP (S.ps ++ [(e, m)])).length = _
          rw [(sortP_p _).length_eq, List.length_append]
          rfl
        have lbp : (S.put e m).bs.length = S.bs.length := rfl
        refine ⟨st, a1, a2, st', a1, a2, Ps, G, HL, S, S.put e m, rfl, sm8, sn8, so, hH, o.pw, fun p hp => ?_, by omega, by omega, by omega, fun hk H9 s9 => ?_, fun hk H9 s9 => ?_⟩
        · rcases List.mem_append.mp ((sortP_p _).mem_iff.mp hp) with z | z
          · exact o.pw p z
          · rw [List.mem_singleton.mp z]
            exact ⟨ew, hm'⟩
        · exact q1 hk st' H9 (b3.tr (.same b3.1 (s48.trans s9))) (sn8.on (TK.of s9))
        · exact q2 hk H9 (b3.tr (.same b3.1 (s48.trans s9)))
      · rw [hm] at em
        rw [em] at q2
        exact q2 (fun z => nomatch z) H2 b12
abbrev sTakenBackN : List Str := ["state", "name", "places", "goods", "forms", "backs", "closed", "mode"]
theorem sc_sTakenBack : FnScope sTakenBackN ["state", "name"] (defScope sTakenBack) := ⟨rfl, rfl, rfl, by decide +kernel, rfl, by decide +kernel, by decide +kernel⟩
set_option maxHeartbeats 1000000 in
theorem ok_takenX {f fN fA T1 : Addr} {fd dN dA : FuncData} {Ts : List Addr} {A : RfA} (F : Fun K "taken_back" "taken_back" sTakenBack f fd) (i1 : T1 ∈ Ts) (NM : DefT P w K mg base "is_name" 1 fN dN ["thing"] (spName K T1)) (AL : DefX P w K mg base "allowed" 7 fA dA ["state", "later"] (spAllowedX A)) (EN : Err K mg "NoName" A.nn)
    (mt : mg "tuple" = none) (ms : mg "sorted" = none) : FnOk P w K mg base (L2.CX P w) 8 f fd ["state", "name"] (spTakenX A Ts) := by
  refine F.okX sc_sTakenBack (fun vs H Q E h => ?_) (fun cdv A' outer s H vs Q E hr h => ?_)
  · obtain ⟨st, a1, a2, Ps, G, HL, S, n, rfl, _⟩ := h
    rfl
  · obtain ⟨st, a1, a2, Ps, G, HL, S, n, rfl, sm, so, hH, o, hn, tg, q1, q2⟩ := h
    have nd := sc_sTakenBack.nd
    have hr1 : Room 1 _ := hr.mono (by decide)
    refine ⟨_, pss_cons (ps_asg (pv 0) (pg_tup (by rfl) (pgs_cons (pg_name (i := 2) nd rfl (Or.inl rfl)) (pgs_cons (pg_name (i := 3) nd rfl (Or.inl rfl)) (pgs_cons (pg_name (i := 4) nd rfl (Or.inl rfl)) (pgs_cons (pg_name (i := 5) nd rfl (Or.inl rfl)) (pgs_cons (pg_name (i := 6) nd rfl (Or.inl rfl)) (pgs_cons (pg_name (i := 7) nd rfl (Or.inl rfl)) pgs_nil))))))))
      (pss_cons (ps_if (pt_not (pt_val (pe_call NM.ok hr1 (by rfl) NM.g NM.kp NM.b .nil pass0 (pa_cons (pv 1) pa_nil)))) (pss_one (ps_raise rfl (takes_of rfl rfl rfl rfl) (pmk_own PySem.F.excBase_ValueError EN.ex EN.gC EN.kp (raises_own EN.sb EN.ty) rfl))) pss_nil)
      (pss_cons (ps_if (pt_cmpR op_in_seq (pv 1) (pv 5) (by rfl)) (pss_one (ps_ret (pv 0))) pss_nil)
      (pss_one (ps_ret (pe_callS AL.ok hr (by rfl) AL.g AL.kp AL.b (fun σ => passAt (takes_of rfl rfl rfl rfl) σ) (pa_cons (pv 0) (pa_cons (pe_tup (pa_cons (pv 2) (pa_cons (pv 3) (pa_cons (pv 4) (pa_cons (pe_callTy call_tuple_of (by rfl) mt (by decide +kernel) (pa_cons (pe_callB cr_sortedTS (by rfl) ms (by decide +kernel) (pa_cons (pe_op op_catA (pv 5) (pe_tup (pa_cons (pv 1) pa_nil))) pa_nil)) pa_nil)) (pa_cons (pv 6) (pa_cons (pv 7) pa_nil))))))) pa_nil))))))), ?_⟩
    obtain ⟨Fa, Ba, fs, sa, ef⟩ := sm.ex
    have lf := o.lf
    have lb := o.lb
    refine ⟨_, rfl, st, _, rfl, SqT.of sa.s, rfl, _, _, rfl, _, _, rfl, _, _, rfl, _, _, rfl, _, _, rfl, _, _, rfl, rfl, ?_⟩
    refine ⟨_, rfl, _, rfl, tg T1 i1, .inl ⟨n, rfl, Nat.le_trans (name_len hn).2 (by decide), fun H1 tb => ?_⟩⟩
    have b1 : TB1 Ts H H1 := .tab tb tg i1
    rw [hn]
    refine ⟨true, rfl, iteF ?_⟩
    have sa1 := sa.on b1.tk
    refine ⟨_, rfl, _, rfl, Ba, S.bs.map V.str, rfl, .inr (SqT.of sa1.b), rfl, all_flat _, decide (n ∈ S.bs), congrArg V.bl inV_iff, ?_⟩
    by_cases c : n ∈ S.bs
    · rw [decide_eq_true c]
      have em : backM S n = (.ok, S) := if_pos c
      rw [em] at q1
      exact iteT ⟨_, rfl, q1 rfl st H1 b1 (sm.on b1.tk)⟩
    rw [decide_eq_false c]
    have em : backM S n = (allowedM S (S.back n), S.back n) := if_neg c
    rw [em] at q1 q2
    refine iteF ⟨_, rfl, _, rfl, _, rfl, _, rfl, _, rfl, _, rfl, (by show 1 ≤ sizeLine; decide), fun t1 nt1 => ?_⟩
    have s2 := @same_new _ _ (.tup [V.str n]) nt1
    refine cat_new (K := K) (SqT.of (s2 _ _ sa1.b)) (SqT.of upd_same) (fun z => nomatch z) (by rw [List.length_map]; exact Nat.le_of_lt (small1000 (by show S.bs.length + 1 ≤ 1000; omega))) fun tc H3 s3 htc => ?_
    have e1 : S.bs.map V.str ++ [V.str n] = (S.bs ++ [n]).map V.str := by rw [List.map_append]; rfl
    rw [e1] at htc
    refine ⟨tc, S.bs ++ [n], rfl, htc, (by rw [List.length_append]; show S.bs.length + 1 < 64; omega), fun ys p pm so' np => ⟨p, _, rfl, .inl ⟨SqL.of upd_same, fun B' nB' => ?_⟩⟩⟩
    obtain rfl : ys = insS n S.bs := sorted_one (pm.trans ((List.perm_append_comm (l₁ := S.bs) (l₂ := [n])).trans (insS_p n S.bs).symm)) so' (insS_sorted n _ o.sb)
    have s4 := (@same_new _ _ (.lst ((insS n S.bs).map V.str)) np).trans (@same_new _ _ (.tup ((insS n S.bs).map V.str)) nB')
    have hB' := @upd_same (upd H3 p (.lst ((insS n S.bs).map V.str))) B' (.tup ((insS n S.bs).map V.str))
    generalize upd (upd H3 p (.lst ((insS n S.bs).map V.str))) B' (.tup ((insS n S.bs).map V.str)) = H4 at s4 hB' ⊢
    refine ⟨_, rfl, _, rfl, (by show 6 ≤ sizeLine; decide), fun st' nst' => ?_⟩
    have s5 := @same_new _ _ (.tup [V.ref a1, .ref a2, .ref Fa, .ref B', clV S.cl, mdV S.md]) nst'
    have s15 := s2.trans (s3.trans (s4.trans s5))
    have sa5 := sa1.on (TK.of s15)
    have sb5 : SAt (upd H4 st' (.tup [V.ref a1, .ref a2, .ref Fa, .ref B', clV S.cl, mdV S.md])) st' a1 a2 Fa B' Ps G fs (insS n S.bs) (clV S.cl) (mdV S.md) := ⟨upd_same, sa5.p, sa5.g, sa5.f, s5 _ _ hB', sa5.fm⟩
    have sn5 : SM _ st' a1 a2 Ps G (S.back n) := ⟨Fa, B', fs, sb5, ef⟩
    have lbb : (S.back n).bs.length = S.bs.length + 1 := (insS_p n S.bs).length_eq
    have lpb : (S.back n).ps.length = S.ps.length := rfl
    refine ⟨st, a1, a2, st', a1, a2, Ps, G, HL, S, S.back n, rfl, ⟨Fa, Ba, fs, sa5, ef⟩, sn5, so, hH, o.pw, o.pw, by omega, by omega, by omega, fun hk H6 s6 => ?_, fun hk H6 s6 => ?_⟩
    · exact q1 hk st' H6 (b1.tr (.same b1.1 (s15.trans s6))) (sn5.on (TK.of s6))
    · exact q2 hk H6 (b1.tr (.same b1.1 (s15.trans s6)))
abbrev sIsDayN : List Str := ["thing"]
theorem sc_sIsDay : FnScope sIsDayN ["thing"] (defScope sIsDay) := ⟨rfl, rfl, rfl, by decide +kernel, rfl, by decide +kernel, by decide +kernel⟩
theorem ok_isDay {f fW : Addr} {fd dW : FuncData} (F : Fun K "is_day" "is_day" sIsDay f fd) (WH : DefT P w K mg base "is_whole" 1 fW dW ["thing"] spWhole) (mL : ∃ t, mg "LAST_DAY" = some (.int 99 t)) : FnOk P w K mg base CX0 2 f fd ["thing"] spIsDay := by
  obtain ⟨tL, mL⟩ := mL
  refine F.ok sc_sIsDay (fun vs H Q E h => ?_) (fun cdv A' outer s H vs Q E hr h => ?_)
  · obtain ⟨i, rfl, _⟩ := h
    rfl
  · obtain ⟨i, rfl, q⟩ := h
    have nd := sc_sIsDay.nd
    refine ⟨_, pss_one (ps_ret (pe_and (pe_call WH.ok hr (by rfl) WH.g WH.kp WH.b .nil pass0 (pa_cons (pv 0) pa_nil)) (pe_one (pe_chain op_le op_le pe_int (pv 0) (pe_glob (v := .int 99) rfl mL ⟨_, rfl⟩))))), ?_⟩
    refine ⟨_, rfl, .int i, rfl, .inr ⟨i, rfl⟩, true, rfl, iteT ?_⟩
    refine ⟨_, rfl, 0, i, rfl, rfl, _, rfl, ite2 (fun z => ?_) (fun z => ?_)⟩
    · refine ⟨i, 99, rfl, rfl, ?_⟩
      rw [z, Bool.true_and] at q
      exact q
    · rw [Bool.eq_false_iff.mpr z, Bool.false_and] at q
      exact q
abbrev sClosedByN : List Str := ["state", "day", "mode", "places", "goods", "forms", "backs", "closed", "ahead"]
theorem sc_sClosedBy : FnScope sClosedByN ["state", "day", "mode"] (defScope sClosedBy) := ⟨rfl, rfl, rfl, by decide +kernel, rfl, by decide +kernel, by decide +kernel⟩
theorem ok_closedByX {f fI aM : Addr} {fd dI : FuncData} {A : RfA} (F : Fun K "closed_by" "closed_by" sClosedBy f fd) (IY : DefT P w K mg base "is_day" 2 fI dI ["thing"] spIsDay) (EN : Err K mg "NoDay" A.nd) (mM : mg "MODES" = some (.ref aM)) (hM : ∀ H, SqT K H aM modesW) : FnOk P w K mg base (L2.CX P w) 3 f fd ["state", "day", "mode"] (spClosedByX A) := by
  refine F.okX sc_sClosedBy (fun vs H Q E h => ?_) (fun cdv A' outer s H vs Q E hr h => ?_)
  · obtain ⟨st, a1, a2, Ps, G, S, d, m, rfl, _⟩ := h
    rfl
  · obtain ⟨st, a1, a2, Ps, G, S, d, m, rfl, sm, cm, q1, q2⟩ := h
    have nd := sc_sClosedBy.nd
    refine ⟨_, pss_cons (ps_asg (pv 0) (pg_tup (by rfl) (pgs_cons (pg_name (i := 3) nd rfl (Or.inl rfl)) (pgs_cons (pg_name (i := 4) nd rfl (Or.inl rfl)) (pgs_cons (pg_name (i := 5) nd rfl (Or.inl rfl)) (pgs_cons (pg_name (i := 6) nd rfl (Or.inl rfl)) (pgs_cons (pg_name (i := 7) nd rfl (Or.inl rfl)) (pgs_cons (pg_name (i := 8) nd rfl (Or.inl rfl)) pgs_nil))))))))
      (pss_cons (ps_if (PW.pt (pw_or (pt_not (pt_val (pe_call IY.ok hr (by rfl) IY.g IY.kp IY.b .nil pass0 (pa_cons (pv 1) pa_nil)))) (pw_or1 (pt_cmpR op_notIn_seq (pv 2) (pe_glob (v := .ref aM) (u := .ref aM) (by rfl) mM rfl) (by rfl))))) (pss_one (ps_raise rfl (takes_of rfl rfl rfl rfl) (pmk_own PySem.F.excBase_ValueError EN.ex EN.gC EN.kp (raises_own EN.sb EN.ty) rfl))) pss_nil)
      (pss_cons (ps_if (PW.pt (pw_and (pt_cmpR op_notN (pv 7) pe_non (by rfl)) (pw_and1 (pt_cmpR op_le (pv 1) (pv 7) (nomark _))))) (pss_one (ps_raise rfl (takes_of rfl rfl rfl rfl) (pmk_own PySem.F.excBase_ValueError EN.ex EN.gC EN.kp (raises_own EN.sb EN.ty) rfl))) pss_nil)
      (pss_one (ps_ret (pe_tup (pa_cons (pv 3) (pa_cons (pv 4) (pa_cons (pv 5) (pa_cons (pv 6) (pa_cons (pv 1) (pa_cons (pv 2) pa_nil))))))))))), ?_⟩
    obtain ⟨Fa, Ba, fs, sa, ef⟩ := sm.ex
    refine ⟨_, rfl, st, _, rfl, SqT.of sa.s, rfl, _, _, rfl, _, _, rfl, _, _, rfl, _, _, rfl, _, _, rfl, _, _, rfl, rfl, ?_⟩
    refine ⟨_, rfl, d, rfl, ?_⟩
    have dn : ∀ {X : Rf × MS}, closeM S d m = X → X.1 ≠ .ok → E (.ref (A.of X.1)) none H := fun {X} h n => by rw [h] at q2; exact q2 n
    by_cases c1 : 0 ≤ d ∧ d ≤ 99
    · rw [decide_eq_true c1.1, decide_eq_true c1.2]
      refine ⟨true, rfl, iteF ?_⟩
      refine ⟨_, rfl, aM, modesW, rfl, .inr (hM _), rfl, rfl, ?_⟩
      rw [if_pos rfl, mode_in]
      by_cases c2 : m = "refuse" ∨ m = "up"
      · rw [decide_eq_true c2]
        refine ⟨_, rfl, iteF ?_⟩
        have fin : (∀ k, S.cl = some k → k < d) → tRet (tTup (tCons (tVar 3) (tCons (tVar 4) (tCons (tVar 5) (tCons (tVar 6) (tCons (tVar 1) (tCons (tVar 2) tNil))))))) { nx := fun x H' => Q V.non H', rt := Q } [some (.ref st), some (.int d), some (.str m), some (.ref a1), some (.ref a2), some (.ref Fa), some (.ref Ba), some (clV S.cl), some (mdV S.md)] H := fun z => by
          have em : closeM S d m = (.ok, { S with cl := some d, md := some m }) := if_pos ⟨c1, c2, z⟩
          rw [em] at q1
          refine ⟨_, rfl, _, rfl, _, rfl, _, rfl, _, rfl, _, rfl, (by show 6 ≤ sizeLine; decide), fun st' nst' => ?_⟩
          have s1 := @same_new _ _ (.tup [V.ref a1, .ref a2, .ref Fa, .ref Ba, .int d, .str m]) nst'
          have sa1 := sa.on (TK.of s1)
          exact q1 rfl st' _ s1 ⟨Fa, Ba, fs, ⟨upd_same, sa1.p, sa1.g, sa1.f, sa1.b, sa1.fm⟩, ef⟩
        obtain hc | ⟨k, hc⟩ : S.cl = none ∨ ∃ k, S.cl = some k := by
          cases S.cl with
          | none => exact .inl rfl
          | some k => exact .inr ⟨k, rfl⟩
        · exact ⟨_, rfl, rfl, false, by rw [hc]; rfl, iteF (fin fun k z => by rw [hc] at z; exact nomatch z)⟩
        · refine ⟨_, rfl, rfl, true, by rw [hc]; rfl, iteT ⟨_, rfl, _, rfl, d, k, rfl, by rw [hc]; rfl, _, rfl, ite2 (fun z => ?_) (fun z => ?_)⟩⟩
          · have z : d ≤ k := of_decide_eq_true z
            exact dn (X := (.day, S)) (if_neg fun y => by have := y.2.2 k hc; omega) fun z => nomatch z
          · have z : ¬ d ≤ k := of_decide_eq_false (Bool.eq_false_iff.mpr z)
            exact fin fun k' e => by rw [hc] at e; have := Option.some.inj e; omega
      · rw [decide_eq_false c2]
        exact ⟨_, rfl, iteT (dn (X := (.day, S)) (if_neg fun z => c2 z.2.1) fun z => nomatch z)⟩
    · refine ⟨false, ?_, iteT (dn (X := (.day, S)) (if_neg fun z => c1 z.1) fun z => nomatch z)⟩
      by_cases z : 0 ≤ d
      · rw [decide_eq_true z, decide_eq_false fun q => c1 ⟨z, q⟩]; rfl
      · rw [decide_eq_false z]; rfl
end
/-! ### try .. except X as n, what is caught being kept -/
namespace Kept
def ExV (cls : Value) (d : Option Addr) (a : Addr) : HO := .ext fun h => ∃ (o : Obj) (fv : Array Value), h.get? a = some o ∧ Zc cls d o ∧ o.data = .fields fv
def wKeep (K : PySem.W.Frag) (c : Value) (i n : Nat) (ts : Addr → Value → Option Addr → TS) (D : Ends) : WX := fun cls d τ G => PySem.W.exmOne K cls c = some true ∧
  ∀ a, τ.length = n → G a = none → ts a cls d { nx := fun τ' G' => D.nx (τ'.set i none) (upd G' a (ExV cls d a)), rt := D.rt, bk := fun τ' G' => D.bk (τ'.set i none) G', ct := fun τ' G' => D.ct (τ'.set i none) G' } (τ.set i (some (.ref a))) G
section
variable {X : Cx}
theorem exv_ok {P : Program} {w : World} {G : Hp} {h : Heap} {a : Addr} {cls : Value} {d : Option Addr} {o : Obj} {fv : Array Value} (e : h.get? a = some o) (z : Zc cls d o) (dd : o.data = .fields fv) : ObjOk P w G h a (ExV cls d a) :=
  ⟨⟨o, fv, e, z, dd⟩, ⟨o, e⟩, fun _ _ ⟨u, v, q, r⟩ k => ⟨u, v, k u q, r⟩⟩
/-- an object that is there, and wasn't when the def began, is told of -/
theorem told_of {pins : List (Addr × Obj)} {τ : L2.St} {G : Hp} {z : Shared} {a : Addr} {cls : Value} {d : Option Addr} {o : Obj} {fv : Array Value} (I : Inv X pins τ G z) (ga : z.heap.get? a = some o) (zc : Zc cls d o) (dd : o.data = .fields fv)
    (na : G a = none) (nl : a ≠ X.env.locals) (old : ∀ u, X.s_0.heap.get? a = some u → a ∈ X.ex) (np : ∀ p ∈ X.pn ++ pins, p.1 ≠ a) : Inv X pins τ (upd G a (ExV cls d a)) z := by
  have other : ∀ {b : Addr} {u : HO}, G b = some u → (upd G a (ExV cls d a)) b = some u := fun e => (upd_ne (ne_of_none e na)).trans e
  refine ⟨I.ok, I.os, I.bare, ⟨I.base.keep, I.base.slot, fun b u e n hx => ?_, I.base.there, fun b xs e => other (I.base.tups b xs e), fun b u v e => other (I.base.frzs b u v e), fun b ps e => ?_⟩, I.loc, I.cell, (upd_ne (Ne.symm nl)).trans I.free, fun y c e => ?_, fun p hp => ?_, I.hok.laidN (fun _ _ e => e) na (exv_ok ga zc dd), I.len⟩
  · by_cases q : b = a
    · subst q
      exact absurd (old u e) hx
    · exact (upd_ne q).trans (I.base.free b u e n hx)
  · obtain ⟨more, q⟩ := I.base.tbls b ps e
    exact ⟨more, other q⟩
  · obtain ⟨v, hv⟩ := I.cell y c e
    have q : c ≠ a := fun q => by
      subst q
      obtain ⟨o', e', rest⟩ := hv
      rw [ga] at e'
      cases e'
      rw [dd] at rest
      cases rest
    exact (upd_ne q).trans (I.freeC y c e)
  · obtain ⟨p1, p2, p3⟩ := I.pin p hp
    exact ⟨p1, (upd_ne (np p hp)).trans p2, p3⟩
end
section
variable {X : Cx} {x n : Str} {c : Value} {i : Nat} {body rest : List Stmt} {b1 : Stmt} {q1 q2 q3 : Pos} {tb : WX → TS} {ts : Addr → Value → Option Addr → TS}
theorem ps_try_keep (st : X.stack = X.env :: X.outer) (fr : X.env.frame = some X.env.locals) (ndN : X.N.Nodup) (iy : X.N[i]? = some n) (kl : X.env.kindOf n = some .local) (nm : Names X x c)
    (Hb : ∀ (W : WX) (pn : List (Addr × Obj)) (xe : Value → Shared → Prop), Takes (X.tr pn xe) W → PassesOwn (model X.prog X.w) X.A X.env xe → PSs (X.tr pn xe) body (tb W))
    (Hs : ∀ (a : Addr) (ob : Obj) (cls : Value) (d : Option Addr) (pn : List (Addr × Obj)), Zc cls d ob → (∃ fv, ob.data = .fields fv) → PSs (X.suite a ((a, ob) :: pn)) (b1 :: rest) (ts a cls d)) :
    PS X (.Try body [.ExceptHandler (some (.Name x q1)) (some n) (b1 :: rest) q2] [] [] q3) (fun D τ G => tb (wKeep X.K c i X.N.length ts D) D τ G) := by
  constructor
  intro pins z τ G D I h
  have oX := I.ok
  have frs2 : X.A.frames = some (X.env :: X.outer) := by
    rw [oX.frames, st]
  refine wpAny_Try_except (wpAny_mono ((Hb (wKeep X.K c i X.N.length ts D) (X.pn ++ pins) (fun ev z1 => wpAny (model X.prog X.w) X.A (noteFrame ev X.env) (fun _ z2 => wpAny (model X.prog X.w) X.A (setFlight ev none) (fun _ z3 =>
    wpAny (model X.prog X.w) X.A (handleBy ev X.env [.ExceptHandler (some (.Name x q1)) (some n) (b1 :: rest) q2]) (SP X pins D) X.xe z3) X.xe z2) X.xe z1) (fun ev z' fly => ?_) PassesOwn.looking).run [] z τ G D (I.toTry _) h) (fun fl z1 hsp => ?_) (fun _ _ he => he))
  · obtain ⟨a, B, zI, pins', τ', G', cls, d, rfl, J', ground, up, sky, na, os, ag, match_, yes⟩ := fly
    have J : Inv X pins τ' G' zI := J'.ofTry oX
    show wpAny (model X.prog X.w) X.A (noteFrame (.ref a) X.env) _ _ z'
    refine Sky.land Zc.steady frs2 fr (show Sky B (X.env :: X.outer) a (Zc cls d) X.env.locals z'.heap by rw [← st]; exact sky) fun h3 f3 up3 => ?_
    have J3 : Inv X pins τ' G' { z' with heap := h3 } := J.landed ground f3.1 (up.trans up3) os ag
    obtain ⟨o3, fv3, e3, zc3, dd3⟩ := f3.there
    have nofr : a ∉ frs (X.env :: X.outer) := fun hm => by
      obtain ⟨_, o', e', hnf⟩ := f3.2.2.1.mem hm
      rw [e3] at e'
      cases e'
      exact hnf _ dd3
    have nl : a ≠ X.env.locals := fun q => nofr (List.mem_filterMap.mpr ⟨X.env, List.mem_cons_self, fr.trans (congrArg some q.symm)⟩)
    have nf : a ∉ X.fs := fun hm => by
      obtain ⟨ev, hev, q⟩ := List.mem_filterMap.mp hm
      exact nofr (List.mem_filterMap.mpr ⟨ev, List.mem_cons_of_mem _ hev, q⟩)
    have new : zI.heap.get? a = none := by
      cases q : zI.heap.get? a with
      | none => rfl
      | some u =>
        have := ground a u q (by rw [st]; exact nofr)
        rw [f3.2.1] at this
        cases this
    have old : ∀ u, X.s_0.heap.get? a = some u → a ∈ X.ex := fun u e => by
      by_cases hx : a ∈ X.ex
      · exact hx
      · obtain ⟨o', e'⟩ := J.base.there a u e hx
        rw [new] at e'
        cases e'
    have np : ∀ p ∈ X.pn ++ pins, p.1 ≠ a := fun p hp q => by
      have := (J.pin p hp).1
      rw [q, new] at this
      cases this
    have S3 := J3.suite e3 dd3 na nl nf
    refine wpAny_handleBy_cons (codeAny_handlers_test ?_) (by intro q; cases q)
    have ty : PySem.W.Looks (model X.prog X.w) h3 (typeOf (.ref a)) cls := fun A' Q' E' z4 k q => wpAny_typeOf_ref (k _ _ e3) (by rw [zc3.1]; exact q)
    have hit := PySem.W.exm_one (M := model X.prog X.w) (J3.kIn) ty match_
    have load : ∀ {Q' : Value → Shared → Prop} {E' : Value → Shared → Prop}, Q' c { z' with heap := h3 } → wpAny (model X.prog X.w) (X.A.mark (some (.ref a))) (eval (.Name x q1) X.env) Q' E' { z' with heap := h3 } := fun {Q' E'} q => by
      obtain ⟨gl, dbg, hm | ⟨hm, hv, hnn⟩⟩ := nm
      · exact ld_glob (X := X.suite a ((a, o3) :: (X.pn ++ pins))) S3 gl hm q dbg
      · exact ld_blt (X := X.suite a ((a, o3) :: (X.pn ++ pins))) S3 gl hm hv q hnn dbg
    refine load (hit.here (codeAny_handlers_suite_as (HandSPX.lands_againZ f3 fun h4 f4 up4 => ?_)))
    have J4 : Inv X pins τ' G' { z' with heap := h4 } := J.landed ground f4.1 ((up.trans up3).trans up4) os ag
    obtain ⟨o4, fv4, e4, zc4, dd4⟩ := f4.there
    refine store_ok (X := X.suite a ((a, o4) :: (X.pn ++ pins))) (v := .ref a) (J4.suite e4 dd4 na nl nf) ndN iy (.inl kl) rfl (fun z5 S5 => ?_) (.inr kl)
    refine wpAny_mono ((Hs a o4 cls d (X.pn ++ pins) zc4 ⟨_, dd4⟩).run [] z5 _ G' _ S5 (yes a J'.len na)) (fun fl z6 hsp => ?_) (fun _ _ q => False.elim q)
    have fin : ∀ {τ6 : L2.St} {G6 : Hp} {Q' : Shared → Prop}, Inv X pins τ6 G6 z6 → (∀ z7, Inv X pins (τ6.set i none) G6 z7 → Q' z7) →
        wpAny (model X.prog X.w) X.A (do bindName X.env n .none; unbindBehindTheSuite X.env n q2) (fun _ z7 => Q' z7) X.xe z6 := fun {τ6 G6 Q'} I6 hq => gone_ok I6 ndN iy kl hq
    cases fl with
    | next =>
      obtain ⟨τ6, G6, S6, w6⟩ := hsp
      have p6 := S6.pin (a, o4) (List.mem_append_left _ List.mem_cons_self)
      exact fin (told_of (S6.unsuite oX) p6.1 zc4 dd4 p6.2.1 nl old np) fun z7 J7 => ⟨_, _, J7, w6⟩
    | brk =>
      obtain ⟨τ6, G6, S6, w6⟩ := hsp
      exact fin (S6.unsuite oX) fun z7 J7 => ⟨_, _, J7, w6⟩
    | cont =>
      obtain ⟨τ6, G6, S6, w6⟩ := hsp
      exact fin (S6.unsuite oX) fun z7 J7 => ⟨_, _, J7, w6⟩
    | ret u =>
      obtain ⟨v6, τ6, G6, S6, r6, w6⟩ := hsp
      exact fin (S6.unsuite oX) fun z7 J7 => ⟨_, _, _, J7, r6, w6⟩
  · cases fl with
    | next =>
      obtain ⟨τ1, G1, J1, w1⟩ := hsp
      exact wpAny_execs_nil ⟨τ1, G1, J1.ofTry oX, w1⟩
    | brk =>
      obtain ⟨τ1, G1, J1, w1⟩ := hsp
      exact ⟨τ1, G1, J1.ofTry oX, w1⟩
    | cont =>
      obtain ⟨τ1, G1, J1, w1⟩ := hsp
      exact ⟨τ1, G1, J1.ofTry oX, w1⟩
    | ret u =>
      obtain ⟨v1, τ1, G1, J1, r1, w1⟩ := hsp
      exact ⟨v1, τ1, G1, J1.ofTry oX, r1, w1⟩
end
/-! isinstance of what was kept -/
def rIsX (K : PySem.W.Frag) : List V → Hp → VK → Prop := fun xs G W => ∃ (a D : Addr) (k : V) (kv : Value) (b : Bool), xs = [V.ref a, k] ∧ G a = some (ExV (.ref D) none a) ∧ ExcC K D ∧ (∀ u, RelV k u → u = kv) ∧ PySem.W.kitOne K (.ref D) kv = some b ∧ W (V.bl b) G
theorem inst_at {P : Program} {w : World} {G : Hp} {h : Heap} {a D : Addr} (ok : HOk P w G h) (e : G a = some (ExV (.ref D) none a)) : ∃ o, PySem.W.InstAt h a o D none := by
  obtain ⟨⟨o, fv, g, z, dd⟩, _⟩ := (show ObjOk P w G h a (ExV (.ref D) none a) from ok a _ e)
  obtain ⟨oc, od, dt, sl⟩ := o
  obtain ⟨z1, z2⟩ := z
  dsimp only at z1 z2 dd
  subst z1 z2 dd
  exact ⟨_, g, rfl, rfl, trivial⟩
theorem call_isX {X : Cx} : CallR X (.builtin "isinstance") (rIsX X.K) := by
  rintro pins z τ G xs us W I r ⟨a, D, k, kv, b, rfl, ea, C, hk, e, q⟩
  obtain ⟨u1, u2, rfl, r1, r2⟩ := vals2 r
  obtain rfl : u1 = Value.ref a := r1
  obtain rfl := hk _ r2
  obtain ⟨o, J⟩ := inst_at I.hok ea
  exact PySem.W.kia_one (PySem.W.handS_kitx_exc C.hg C.hk C.hs C.hd C.ha C.hn C.ht C.hm) I.kIn J e (fun q => nomatch q) fun tk => ⟨.bl b, G, I.tok tk, rfl, q⟩
def rIsXT (K : PySem.W.Frag) : List V → Hp → VK → Prop := fun xs G W => ∃ (a D tp : Addr) (cs : List V) (us : List Value) (b : Bool), xs = [V.ref a, V.ref tp] ∧ G a = some (ExV (.ref D) none a) ∧ ExcC K D ∧ G tp = some (.tup cs) ∧ Paired ClsV cs us ∧ PySem.W.kitAny K (.ref D) us = some b ∧ W (V.bl b) G
theorem call_isXT {X : Cx} : CallR X (.builtin "isinstance") (rIsXT X.K) := by
  rintro pins z τ G xs us W I r ⟨a, D, tp, cs, ws, b, rfl, ea, C, et, hk, e, q⟩
  obtain ⟨u1, u2, rfl, r1, r2⟩ := vals2 r
  obtain rfl : u1 = Value.ref a := r1
  obtain rfl : u2 = Value.ref tp := r2
  obtain ⟨o, J⟩ := inst_at I.hok ea
  obtain ⟨_, its, rv, ot, g1, g2, n, g3⟩ := (show ObjOk X.prog X.w G z.heap tp (.tup cs) from I.hok tp _ et)
  obtain rfl := ClsV.all hk rv
  obtain ⟨oc, od, dt, sl⟩ := ot
  dsimp only at g2 g3
  subst g2 g3
  exact PySem.W.kia_tup (PySem.W.handS_kitx_exc C.hg C.hk C.hs C.hd C.ha C.hn C.ht C.hm) I.kIn J g1 e (fun q => nomatch q) fun tk => ⟨.bl b, G, I.tok tk, rfl, q⟩
end Kept
/-! ### what is asked by a lambda: told, or which refusal it is -/
def rCntB (K : PySem.W.Frag) : V → List V → Hp → VK → Prop := fun x xs H Q => ∃ (p : Addr) (ns : List Bool), x = .ref p ∧ xs = [.bl true] ∧ SqL K H p (ns.map V.bl) ∧ Q (.int (ns.count true : Nat)) H
def eqsB : Value → Bool
  | .bool y => y == true
  | _ => false
theorem cnt_bls : ∀ {ns : List Bool} {us : List Value}, Vals (ns.map V.bl) us → us.countP eqsB = ns.count true
  | [], _, .nil => rfl
  | n :: r, _, .cons h t => by
    obtain rfl : _ = Value.bool n := h
    rw [List.countP_cons, cnt_bls t, List.count_cons]
    rfl
theorem mt_lcountB {X : Cx} : MtR X "list.count" (rCntB X.K) := by
  rintro pins s σ H x xs v us Q I rx rxs ⟨p, ns, rfl, rfl, hs, q⟩
  cases rx
  obtain ⟨u, rfl, ru⟩ := rxs.one
  obtain rfl : u = Value.bool true := ru
  obtain ⟨its, rv, ⟨⟨cls, dd, data, sl⟩, n, ho, hc, hdn, hd⟩, hlen⟩ := I.list hs
  dsimp only at hc hd
  subst hc hd
  refine call_meets PySem.F.slot_list_count ⟨_, ho, rfl⟩ PySem.F.entry_list_count (PySem.F.args_list_count_2 _ _) (SeqAt.list_countAt p its.toArray n dd sl (.bool true) eqsB) ⟨ho, fun y hy => ?_, ?_⟩
  · obtain ⟨i, hi⟩ := List.mem_iff_getElem?.mp (show y ∈ its by simpa using hy)
    obtain ⟨w, hw, rw'⟩ := vals_get rv hi
    rw [List.getElem?_map] at hw
    obtain ⟨z, _, rfl⟩ := Option.map_eq_some_iff.mp hw
    obtain rfl : y = Value.bool z := rw'
    exact SeqAt.EqAt.bool_bool z true
  · refine ⟨.int (ns.count true : Nat), H, I.tok _, ⟨s.toks, ?_⟩, q⟩
    show Value.int ((its.toArray.toList.countP eqsB : Nat) : Int) s.toks = _
    rw [List.toList_toArray, cnt_bls rv]
structure ClsO where
  cl : Addr
  nf : Addr
  ng : Addr
  ngd : Addr
  nh : Addr
  nm : Addr
  np : Addr
  nr : Addr
  nt : Addr
  nti : Addr
  tw : Addr
structure AskG (mg : Str → Option Value) (A : RfA) (O : ClsO) (CE : Addr) : Prop where
  cd : mg "Closed" = some (.ref A.cd)
  tm : mg "TooMany" = some (.ref A.tm)
  ne : mg "NoEntry" = some (.ref A.ne)
  nn : mg "NoName" = some (.ref A.nn)
  nd : mg "NoDay" = some (.ref A.nd)
  nth : mg "NoThen" = some (.ref A.nth)
  cl : mg "Clash" = some (.ref O.cl)
  nf : mg "NoFilling" = some (.ref O.nf)
  ng : mg "NoGo" = some (.ref O.ng)
  ngd : mg "NoGood" = some (.ref O.ngd)
  nh : mg "NoHouse" = some (.ref O.nh)
  nm : mg "NoMove" = some (.ref O.nm)
  np : mg "NoPlace" = some (.ref O.np)
  nr : mg "NoRow" = some (.ref O.nr)
  nt : mg "NoText" = some (.ref O.nt)
  nti : mg "NoTie" = some (.ref O.nti)
  tw : mg "Twice" = some (.ref O.tw)
  gE : mg "CountError" = some (.ref CE)
def rfN : Rf → Nat
  | .ok => 6 | .closed => 0 | .many => 1 | .entry => 2 | .name => 3 | .day => 4 | .then_ => 5
def rfW : Rf → Str
  | .ok => "told" | .closed => "closed" | .many => "many" | .entry => "entry" | .name => "name" | .day => "day" | .then_ => "then"
/-- what isinstance tells of one class -/
structure AskC (K : PySem.W.Frag) (A : RfA) (O : ClsO) (CE C : Addr) (n : Nat) : Prop where
  ec : ExcC K C
  cd : PySem.W.kitOne K (.ref C) (.ref A.cd) = some (n == 0)
  tm : PySem.W.kitOne K (.ref C) (.ref A.tm) = some (n == 1)
  ne : PySem.W.kitOne K (.ref C) (.ref A.ne) = some (n == 2)
  nn : PySem.W.kitOne K (.ref C) (.ref A.nn) = some (n == 3)
  nd : PySem.W.kitOne K (.ref C) (.ref A.nd) = some (n == 4)
  nth : PySem.W.kitOne K (.ref C) (.ref A.nth) = some (n == 5)
  ot : PySem.W.kitAny K (.ref C) [.ref O.cl, .ref O.nf, .ref O.ng, .ref O.ngd, .ref O.nh, .ref O.nm, .ref O.np, .ref O.nr, .ref O.nt, .ref O.nti, .ref O.tw] = some false
  v : PySem.W.kitOne K (.ref C) (.type "ValueError") = some true
  cm : PySem.W.exmOne K (.ref C) (.ref CE) = some true
def AskF (K : PySem.W.Frag) (A : RfA) (O : ClsO) (CE : Addr) : Prop := ∀ r : Rf, r ≠ .ok → AskC K A O CE (A.of r) (rfN r)
def TAsk (A : RfA) : (XK → Hp → VK → Prop) → Hp → VK → Prop := fun tl H Q => ∀ W : VK, (∀ v H', (∀ (t : Addr) (H2 : Hp), Same H' H2 → H2 t = some (.tup [.str "told", v]) → Q (.ref t) H2) → W v H') →
  tl (fun cls d H' => ∃ r : Rf, r ≠ .ok ∧ cls = .ref (A.of r) ∧ d = none ∧ ∀ (t : Addr) (H2 : Hp), Same H' H2 → H2 t = some (.tup [.str (rfW r)]) → Q (.ref t) H2) H W
def rfL (n : Nat) : List Bool := [n == 0, n == 1, n == 2, n == 3, n == 4, n == 5]
def sixW : List Str := ["closed", "many", "entry", "name", "day", "then"]
section
variable {X : Cx}
abbrev sAskedN : List Str := ["_law_ask", "_law_found", "_law_caught", "e", "_law_marks", "_law_others"]
theorem sc_sAsked : FnScope sAskedN ["_law_ask"] (defScope sAsked) := ⟨rfl, rfl, rfl, by decide +kernel, rfl, by decide +kernel, by decide +kernel⟩
set_option maxHeartbeats 4000000 in
theorem asked_gives {g : Addr} {cdg : Value} {A : RfA} {O : ClsO} {CE : Addr} {q : Str} (G : AskG X.mg A O CE) (D : AskF X.K A O CE) (mis : X.mg "isinstance" = none) (mv : X.mg "ValueError" = none) : LamX.GivesTo X sAskedN "_law_asked" (defScope sAsked) g cdg (defBody sAsked) "_law_ask" q (TAsk A) := by
    intro f c' s H Q tl act hc h
    have nd := sc_sAsked.nd
    let tbA : WX → TS := fun W D σ H => ∃ Ech : XK, (∀ cls d σ' H', Ech cls d H' → W cls d σ' H') ∧ σ[0]? = some (some (.ref f)) ∧ H c' = some (LamX.CodeO c' q) ∧ tl Ech H fun v H' => D.nx (σ.set 1 (some v)) H'
    have body : ∀ (W : WX) (pn : List (Addr × Obj)) (xe : Value → Shared → Prop) (p1 p2 p3 p4 : Pos), Takes ((cxOf C8.CX0 X.prog X.w X.K X.mg X.base sAskedN "_law_asked" (defScope sAsked) g cdg X.A X.stack s H C8.E0).nox.tr pn xe) W →
        PSs ((cxOf C8.CX0 X.prog X.w X.K X.mg X.base sAskedN "_law_asked" (defScope sAsked) g cdg X.A X.stack s H C8.E0).nox.tr pn xe) [.Assign [.Name "_law_found" p1] (.Call (.Name "_law_ask" p2) [] [] p3) p4] (tbA W) := fun W pn xe p1 p2 p3 p4 tk => by
      refine ⟨fun pins z σ H1 D1 I h1 => ?_⟩
      obtain ⟨Ech, hW, e1, e2, e3⟩ := h1
      exact (pss_one (ps_set (i := 1) nd rfl (Or.inl rfl) (act W pn xe Ech _ _ tk hW))).run pins z σ H1 D1 I ⟨e1, e2, e3⟩
    have nd := sc_sAsked.nd
    refine ⟨_, pss_cons (ps_set (i := 1) nd rfl (Or.inl rfl) pe_non)
      (pss_cons (ps_set (i := 2) nd rfl (Or.inl rfl) pe_non)
      (pss_cons (Kept.ps_try_keep (i := 3) (tb := tbA) rfl rfl nd rfl rfl ⟨rfl, by decide, .inl G.gE⟩ (fun W pn xe tk _ => body W pn xe _ _ _ _ tk) (fun a ob cls d pn hz hf => pss_one (ps_set (i := 2) nd rfl (Or.inl rfl) (pv 3))))
      (pss_cons (ps_if (pt_cmpR op_isN (pv 2) pe_non (by rfl)) (pss_one (ps_ret (pe_tup (pa_cons pe_str (pa_cons (pv 1) pa_nil))))) pss_nil)
      (pss_cons (ps_set (i := 4) nd rfl (Or.inl rfl) (pe_lst (pa_cons (pe_callB Kept.call_isX (by rfl) mis (by decide +kernel) (pa_cons (pv 2) (pa_cons (pe_glob (v := .ref A.cd) (u := .ref A.cd) (by rfl) G.cd rfl) pa_nil))) (pa_cons (pe_callB Kept.call_isX (by rfl) mis (by decide +kernel) (pa_cons (pv 2) (pa_cons (pe_glob (v := .ref A.tm) (u := .ref A.tm) (by rfl) G.tm rfl) pa_nil))) (pa_cons (pe_callB Kept.call_isX (by rfl) mis (by decide +kernel) (pa_cons (pv 2) (pa_cons (pe_glob (v := .ref A.ne) (u := .ref A.ne) (by rfl) G.ne rfl) pa_nil))) pa_nil)))))
      (pss_cons (ps_set (i := 4) nd rfl (Or.inl rfl) (pe_op op_cat (pv 4) (pe_lst (pa_cons (pe_callB Kept.call_isX (by rfl) mis (by decide +kernel) (pa_cons (pv 2) (pa_cons (pe_glob (v := .ref A.nn) (u := .ref A.nn) (by rfl) G.nn rfl) pa_nil))) (pa_cons (pe_callB Kept.call_isX (by rfl) mis (by decide +kernel) (pa_cons (pv 2) (pa_cons (pe_glob (v := .ref A.nd) (u := .ref A.nd) (by rfl) G.nd rfl) pa_nil))) (pa_cons (pe_callB Kept.call_isX (by rfl) mis (by decide +kernel) (pa_cons (pv 2) (pa_cons (pe_glob (v := .ref A.nth) (u := .ref A.nth) (by rfl) G.nth rfl) pa_nil))) pa_nil))))))
      (pss_cons (ps_set (i := 5) nd rfl (Or.inl rfl) (pe_callB Kept.call_isXT (by rfl) mis (by decide +kernel) (pa_cons (pv 2) (pa_cons (pe_tup (pa_cons (pe_glob (v := .ref O.cl) (u := .ref O.cl) (by rfl) G.cl rfl) (pa_cons (pe_glob (v := .ref O.nf) (u := .ref O.nf) (by rfl) G.nf rfl) (pa_cons (pe_glob (v := .ref O.ng) (u := .ref O.ng) (by rfl) G.ng rfl) (pa_cons (pe_glob (v := .ref O.ngd) (u := .ref O.ngd) (by rfl) G.ngd rfl) (pa_cons (pe_glob (v := .ref O.nh) (u := .ref O.nh) (by rfl) G.nh rfl) (pa_cons (pe_glob (v := .ref O.nm) (u := .ref O.nm) (by rfl) G.nm rfl) (pa_cons (pe_glob (v := .ref O.np) (u := .ref O.np) (by rfl) G.np rfl) (pa_cons (pe_glob (v := .ref O.nr) (u := .ref O.nr) (by rfl) G.nr rfl) (pa_cons (pe_glob (v := .ref O.nt) (u := .ref O.nt) (by rfl) G.nt rfl) (pa_cons (pe_glob (v := .ref O.nti) (u := .ref O.nti) (by rfl) G.nti rfl) (pa_cons (pe_glob (v := .ref O.tw) (u := .ref O.tw) (by rfl) G.tw rfl) pa_nil)))))))))))) pa_nil))))
      (pss_cons (ps_if (PW.pt (pw_or (pt_val (pv 5)) (pw_or (pt_cmpR op_ne (pe_bm PySem.F.plainAttrs_list PySem.F.slot_list_count PySem.F.type_list_count mt_lcountB (pv 4) (pa_cons pe_bl pa_nil)) pe_int (nomark _)) (pw_or1 (pt_not (pt_val (pe_callB Kept.call_isX (by rfl) mis (by decide +kernel) (pa_cons (pv 2) (pa_cons (pe_bltn (v := .ty "ValueError") (u := .type "ValueError") (by rfl) mv (by decide +kernel) rfl) pa_nil))))))))) (pss_one (ps_ret (pe_tup (pa_cons pe_str pa_nil)))) pss_nil)
      (pss_one (ps_ret (pe_tup (pa_cons (pe_ix ix_list (pe_lst (pa_cons pe_str (pa_cons pe_str (pa_cons pe_str (pa_cons pe_str (pa_cons pe_str (pa_cons pe_str pa_nil))))))) (pe_bm PySem.F.plainAttrs_list PySem.F.slot_list_index PySem.F.type_list_index mt_index (pv 4) (pa_cons pe_bl pa_nil)) (fun _ _ => rfl)) pa_nil))))))))))), ?_⟩
    refine ⟨fun cls d H' => ∃ r : Rf, r ≠ .ok ∧ cls = .ref (A.of r) ∧ d = none ∧ ∀ (t : Addr) (H2 : Hp), Same H' H2 → H2 t = some (.tup [.str (rfW r)]) → Q (.ref t) H2, ?_, rfl, hc, h _ fun v H' hv => ?_⟩
    · rintro cls d σ' H1 ⟨r, hr, rfl, rfl, hq⟩
      have C := D r hr
      refine ⟨C.cm, fun a hl na => ?_⟩
      obtain ⟨y0, y1, y2, y3, y4, y5, rfl⟩ : ∃ y0 y1 y2 y3 y4 y5, σ' = [y0, y1, y2, y3, y4, y5] := by
        match σ', hl with
        | [y0, y1, y2, y3, y4, y5], _ => exact ⟨_, _, _, _, _, _, rfl⟩
      refine ⟨_, rfl, ?_⟩
      have s1 := @same_new _ _ (Kept.ExV (.ref (A.of r)) none a) na
      have ha : (upd H1 a (Kept.ExV (.ref (A.of r)) none a)) a = some (Kept.ExV (.ref (A.of r)) none a) := upd_same
      refine ⟨_, rfl, rfl, false, rfl, iteF ?_⟩
      refine ⟨_, rfl, a, A.of r, .ref A.cd, .ref A.cd, _, rfl, ha, C.ec, fun u r => r, C.cd, ?_⟩
      refine ⟨_, rfl, a, A.of r, .ref A.tm, .ref A.tm, _, rfl, ha, C.ec, fun u r => r, C.tm, ?_⟩
      refine ⟨_, rfl, a, A.of r, .ref A.ne, .ref A.ne, _, rfl, ha, C.ec, fun u r => r, C.ne, ?_⟩
      refine ⟨(by show 3 ≤ sizeLine; decide), fun L1 n1 => ?_⟩
      have s2 := s1.trans (@same_new _ _ (.lst [V.bl (rfN r == 0), .bl (rfN r == 1), .bl (rfN r == 2)]) n1)
      have ha2 := @same_new _ _ (.lst [V.bl (rfN r == 0), .bl (rfN r == 1), .bl (rfN r == 2)]) n1 _ _ ha
      have hL1 := @upd_same (upd H1 a (Kept.ExV (.ref (A.of r)) none a)) L1 (.lst [V.bl (rfN r == 0), .bl (rfN r == 1), .bl (rfN r == 2)])
      refine ⟨_, rfl, _, rfl, a, A.of r, .ref A.nn, .ref A.nn, _, rfl, ha2, C.ec, fun u r => r, C.nn, ?_⟩
      refine ⟨_, rfl, a, A.of r, .ref A.nd, .ref A.nd, _, rfl, ha2, C.ec, fun u r => r, C.nd, ?_⟩
      refine ⟨_, rfl, a, A.of r, .ref A.nth, .ref A.nth, _, rfl, ha2, C.ec, fun u r => r, C.nth, ?_⟩
      refine ⟨(by show 3 ≤ sizeLine; decide), fun L2 n2 => ?_⟩
      have s3 := @same_new _ _ (.lst [V.bl (rfN r == 3), .bl (rfN r == 4), .bl (rfN r == 5)]) n2
      refine ⟨L1, L2, _, _, rfl, rfl, s3 _ _ hL1, upd_same, (by show 3 + 3 ≤ sizeLine; decide), fun L3 n3 => ?_⟩
      have s4 := @same_new _ _ (.lst ([V.bl (rfN r == 0), .bl (rfN r == 1), .bl (rfN r == 2)] ++ [V.bl (rfN r == 3), .bl (rfN r == 4), .bl (rfN r == 5)])) n3
      have ha4 := s4 _ _ (s3 _ _ ha2)
      have hL3 : (upd _ L3 (.lst ([V.bl (rfN r == 0), .bl (rfN r == 1), .bl (rfN r == 2)] ++ [V.bl (rfN r == 3), .bl (rfN r == 4), .bl (rfN r == 5)]))) L3 = some (.lst ((rfL (rfN r)).map V.bl)) := @upd_same (upd (upd (upd H1 a (Kept.ExV (.ref (A.of r)) none a)) L1 (.lst [V.bl (rfN r == 0), .bl (rfN r == 1), .bl (rfN r == 2)])) L2 (.lst [V.bl (rfN r == 3), .bl (rfN r == 4), .bl (rfN r == 5)])) L3 _
      have own : ∀ (C : Addr), ClsV (.ref C) (.ref C) := .own
      refine ⟨_, rfl, (by show 11 ≤ sizeLine; decide), fun tp ntp => ?_⟩
      have s5 := @same_new _ _ (.tup [V.ref O.cl, .ref O.nf, .ref O.ng, .ref O.ngd, .ref O.nh, .ref O.nm, .ref O.np, .ref O.nr, .ref O.nt, .ref O.nti, .ref O.tw]) ntp
      have ha5 := s5 _ _ ha4
      have hL5 := s5 _ _ hL3
      refine ⟨a, A.of r, tp, _, _, false, rfl, ha5, C.ec, upd_same, .cons (own _) (.cons (own _) (.cons (own _) (.cons (own _) (.cons (own _) (.cons (own _) (.cons (own _) (.cons (own _) (.cons (own _) (.cons (own _) (.cons (own _) .nil)))))))))), C.ot, ?_⟩
      have cnt : ((rfL (rfN r)).count true : Int) = 1 := by cases r <;> first | exact absurd rfl hr | rfl
      have six : ∃ j, (rfL (rfN r))[j]? = some true ∧ (∀ (m : Nat) (z : Bool), m < j → (rfL (rfN r))[m]? = some z → z = false) ∧ sixW[j]? = some (rfW r) := by
        cases r with
        | ok => exact absurd rfl hr
        | closed => exact ⟨0, rfl, fun m z h => absurd h (Nat.not_lt_zero _), rfl⟩
        | many => exact ⟨1, rfl, fun m z h e => by obtain rfl : m = 0 := by omega
                                                   exact (Option.some.inj e).symm, rfl⟩
        | entry => exact ⟨2, rfl, fun m z h e => by
            have : m = 0 ∨ m = 1 := by omega
            rcases this with rfl | rfl <;> exact (Option.some.inj e).symm, rfl⟩
        | name => exact ⟨3, rfl, fun m z h e => by
            have : m = 0 ∨ m = 1 ∨ m = 2 := by omega
            rcases this with rfl | rfl | rfl <;> exact (Option.some.inj e).symm, rfl⟩
        | day => exact ⟨4, rfl, fun m z h e => by
            have : m = 0 ∨ m = 1 ∨ m = 2 ∨ m = 3 := by omega
            rcases this with rfl | rfl | rfl | rfl <;> exact (Option.some.inj e).symm, rfl⟩
        | then_ => exact ⟨5, rfl, fun m z h e => by
            have : m = 0 ∨ m = 1 ∨ m = 2 ∨ m = 3 ∨ m = 4 := by omega
            rcases this with rfl | rfl | rfl | rfl | rfl <;> exact (Option.some.inj e).symm, rfl⟩
      refine ⟨_, rfl, false, rfl, iteF ?_⟩
      refine ⟨_, rfl, .inl ⟨rfl, _, SqL.of hL5⟩, L3, rfL (rfN r), rfl, rfl, SqL.of hL5, rfl, false, ?_, iteF ?_⟩
      · rw [cnt]
        simp
      · refine ⟨_, rfl, a, A.of r, .ty "ValueError", .type "ValueError", true, rfl, ha5, C.ec, fun u r => r, C.v, true, rfl, iteF ?_⟩
        obtain ⟨j, j1, j2, j3⟩ := six
        refine ⟨(by show 6 ≤ sizeLine; decide), fun L4 n4 => ?_⟩
        have s6 := @same_new _ _ (.lst (sixW.map V.str)) n4
        refine ⟨_, rfl, .inl ⟨rfl, _, SqL.of (s6 _ _ hL5)⟩, L3, (rfL (rfN r)).map V.bl, .bl true, j, .bl true, rfl, rfl, SqL.of (s6 _ _ hL5), rfl, rfl, (by rw [List.getElem?_map, j1]; rfl), rfl, fun m z hm hz => ?_, ?_⟩
        · rw [List.getElem?_map] at hz
          obtain ⟨z', hz', rfl⟩ := Option.map_eq_some_iff.mp hz
          rw [j2 m z' hm hz']
          rfl
        · refine ⟨L4, sixW.map V.str, _, .str (rfW r), rfl, rfl, SqL.of upd_same, atI_nat (by rw [List.getElem?_map, j3]; rfl), (by show 1 ≤ sizeLine; decide), fun t nt => ?_⟩
          have s7 := @same_new _ _ (.tup [V.str (rfW r)]) nt
          exact hq t _ (s2.trans (s3.trans (s4.trans (s5.trans (s6.trans s7))))) upd_same
    · refine ⟨_, rfl, rfl, true, rfl, iteT ⟨_, rfl, (by show 2 ≤ sizeLine; decide), fun t nt => hv t _ (same_new nt) upd_same⟩⟩
end
/-! ### a lambda without parameters that captures names, handed to a def: all but its table stays -/
structure LamD (Pt : Addr) (q : Str) (H H' : Hp) : Prop where
  kp : ∀ b o, b ≠ Pt → H b = some o → H' b = some o
  free : ∀ b, H' b = none → H b = none
  tab : LamX.TabS H' Pt q
abbrev capO (X : Cx) (prm : Arguments) (bd : Expr) (sco : Scope) (pm : Value) (cc : Addr) (ctv : Value) : Obj :=
  PySem.W.kla_obj "<lambda>" (X.env.qual ++ "<lambda>") prm bd sco (cloFrom X.env.cells sco.names []) pm cc ctv
theorem cap_new {X : Cx} {pins : List (Addr × Obj)} {τ : L2.St} {G : Hp} {z : Shared} {cA Pt : Addr} {prm : Arguments} {bd : Expr} {sco : Scope} {at_ : Pos} {E W : Value → Shared → Prop} (I : Inv X pins τ G z) (TB : LamX.TabB X.base X.mg cA Pt) (hcode : X.env.code = .ref cA)
    (tab : LamX.TabS G Pt (X.env.qual ++ "<lambda>")) (hdef : defaultsOf prm X.env = ([], [])) (clo : closureFor sco X.env = pure (cloFrom X.env.cells sco.names []))
    (fin : ∀ (f cc : Addr) (pm ctv : Value) (G1 : Hp) (z1 : Shared), Inv X pins τ G1 z1 → LamD Pt (X.env.qual ++ "<lambda>") G G1 → z1.heap.get? f = some (capO X prm bd sco pm cc ctv) → G1 f = none → f ∉ frs X.stack → G1 cc = some (LamX.CodeO cc (X.env.qual ++ "<lambda>")) → W (.ref f) z1) :
    wpAny (model X.prog X.w) X.A (eval (.Lambda prm bd sco at_) X.env) W E z := by
  obtain ⟨ws, gP, tri, known⟩ := tab
  have atP : z.heap.get? Pt = some { cls := .none, data := .fields ws } := I.hok Pt _ gP
  have far : ∀ a, z.heap.objs.size ≤ a → a ∉ frs X.stack := fun a ha m => (List.mem_cons.mp (I.stkSub a m)).elim (fun e => absurd I.lt (by rw [← e]; exact Nat.not_lt.mpr ha)) (I.nofs ha)
  refine PySem.W.kla_eval hdef ?_
  rcases hc : codeAmong at_ ws.toList with _ | cv
  · refine PySem.W.kla_makeFunction (mg := X.mg) (c := cA) (P := Pt) (ps := ws) clo I.ok.glob (I.mod.glob.keeps I.bk) hcode (TB.code.keeps I.bk) atP tri hc TB.gP (TB.bm.keeps I.bk) ?_
    rintro cc ctv hn tk ext ge lt ⟨c2, oc, us, t, e2, hoc, hdat, hus⟩ htb
    obtain rfl : cc = c2 := Value.ref.inj e2
    have up : z.heap.objs.size ≤ hn.objs.size := Nat.le_trans ge (Nat.le_of_lt lt)
    have nC : G cc = none := I.hok.fresh ge
    have nPc : Pt ≠ cc := ne_of_none gP nC
    have J := LamX.inv_table (t' := tk) (more := #[rawInt at_.line, rawInt at_.col, .ref cc]) (h' := hn.push (capO X prm bd sco ((X.mg "__name__").getD .none) cc ctv)) I gP (fun b o ne e => Heap.get?_push_of_some _ (ext b o ne e)) (Heap.get?_push_of_some _ htb) ge ⟨oc, us, t, Heap.get?_push_of_some _ hoc, hdat, hus⟩
    have keep : ∀ b o, b ≠ Pt → G b = some o → (upd (upd G Pt (.tbl (ws ++ #[rawInt at_.line, rawInt at_.col, .ref cc]))) cc (LamX.CodeO cc (X.env.qual ++ "<lambda>"))) b = some o := fun b o ne e => by
      rw [upd_ne (ne_of_none e nC), upd_ne ne]
      exact e
    have lst : (ws ++ #[rawInt at_.line, rawInt at_.col, .ref cc]).toList = ws.toList ++ [rawInt at_.line, rawInt at_.col, .ref cc] := by simp
    refine fin hn.objs.size cc ((X.mg "__name__").getD .none) ctv _ _ J ⟨keep, fun b e => ?_, _, by rw [upd_ne nPc, upd_same], by rw [lst]; exact PySem.TriplesOk_snoc _ _ _ _ tri, fun p2 cv' e => ?_⟩ (Heap.get?_push_size _ rfl) ?_ (far _ up) upd_same
    · by_cases y1 : b = cc
      · rw [y1]
        exact nC
      · by_cases y2 : b = Pt
        · rw [upd_ne y1, y2, upd_same] at e
          cases e
        · rw [upd_ne y1, upd_ne y2] at e
          exact e
    · rw [lst] at e
      rcases LamX.among_app _ tri e with y | y
      · obtain ⟨c0, z1, z2⟩ := known p2 cv' y
        exact ⟨c0, z1, keep _ _ (fun y => LamX.codeO_ne ws (Option.some.inj (z2.symm.trans (by rw [y]; exact gP)))) z2⟩
      · exact ⟨cc, y, upd_same⟩
    · rw [upd_ne (Nat.ne_of_gt lt), upd_ne (Nat.ne_of_gt (Nat.lt_of_lt_of_le (Heap.lt_size atP) up))]
      exact I.hok.fresh up
  · obtain ⟨cc, rfl, hco⟩ := known at_ cv hc
    refine PySem.W.kla_makeFunctionHit (mg := X.mg) (c := cA) (P := Pt) (ps := ws) clo I.ok.glob (I.mod.glob.keeps I.bk) hcode (TB.code.keeps I.bk) atP tri hc (TB.bm.keeps I.bk) ?_
    rintro ctv hn tk ext up
    have J : Inv X pins τ G { z with heap := hn.push (capO X prm bd sco ((X.mg "__name__").getD .none) cc ctv), toks := tk } := I.kept fun b o e => Heap.get?_push_of_some _ (ext b o e)
    exact fin hn.objs.size cc ((X.mg "__name__").getD .none) ctv G _ J ⟨fun _ _ _ e => e, fun _ e => e, ws, gP, tri, known⟩ (Heap.get?_push_size _ rfl) (I.hok.fresh up) (far _ up) hco
def tCap (Pt : Addr) (q : Str) (TT : (XK → Hp → VK → Prop) → Hp → VK → Prop) (t : XK → TE) : TE := fun τ G W => LamX.TabS G Pt q ∧ ∀ G1, LamD Pt q G G1 → TT (fun E G2 W2 => t E τ G2 W2) G1 W
/-- x(lambda: bd) -/
theorem pe_capcall {X : Cx} {TT : (XK → Hp → VK → Prop) → Hp → VK → Prop} {x a : Str} {g cA Pt : Addr} {k : Nat} {pg : Arguments} {bg : List Stmt} {sg : Scope} {dV kV doc pm cdv ct oc : Value} {an od : Option Addr} {osl : Array (Option Value)} {Ng : List Str}
    {prm : Arguments} {bd : Expr} {sco : Scope} {t : XK → TE} {p1 p2 pos : Pos} (hg : Gl X x) (hm : X.mg x = some (.ref g)) (hk : PySem.W.keepIn X.K (.ref g) = true)
    (lk : X.K.lookup g = some ⟨oc, od, .func (PySem.W.fnOf x x pg bg sg dV kV doc pm an cdv ct), osl⟩) (hcg : PySem.W.codeIn X.K cdv x = true) (hb : Binds X.K (PySem.W.fnOf x x pg bg sg dV kV doc pm an cdv ct) [a] []) (Sg : FnScope Ng [a] sg) (hNg : Ng[0]? = some a) (hva : Vis sg a)
    (give : LamX.GivesTo X Ng x sg g cdv bg a (X.env.qual ++ "<lambda>") TT) (TB : LamX.TabB X.base X.mg cA Pt) (hcode : X.env.code = .ref cA) (hr : Room (k + 2) X.A) (L : LamX.LamS X.env.scope sco) (hdef : defaultsOf prm X.env = ([], []))
    (hbind : ∀ (q : Str) (cl : List (Str × Addr)) (pm cv ctv : Value), bindArgs (PySem.W.kla_fn "<lambda>" q prm bd sco cl pm cv ctv) ⟨[], []⟩ = pure [])
    (hbody : ∀ (A : Around) (outer : List Env) (z : Shared) (G : Hp) (E : XK) (f cc : Addr), Room k (A.deeper (LamX.lamEnv X sco z.heap.objs.size f cc)) → PE (LamX.lamCx X A outer z G E sco f cc) bd (t E))
    (d1 : (x == ("__debug__" : Str)) = false := by decide) (d2 : (a == ("__debug__" : Str)) = false := by decide) (d3 : (a == ("__classdict__" : Str)) = false := by decide) :
    PE X (.Call (.Name x p1) [.Lambda prm bd sco p2] [] pos) (tCap Pt (X.env.qual ++ "<lambda>") TT t) := by
  constructor
  rintro pins z τ G W I ⟨tab, h⟩
  refine wpAny_Call_Name_kw (ld_glob I hg hm ?_ d1)
  refine PySem.W.callWith_K (h₀ := X.base) I.ok.mod.kin hk ?_ (by rfl) (by rfl)
  show wpAny _ _ (spliced ((false, eval (.Lambda prm bd sco p2) X.env) :: backTo pos (starEach [] X.env))) _ _ z
  have hfree := LamX.LamS.has L I.ok
  refine Calls.spliced_cons (cap_new I TB hcode tab hdef (closure_ok hfree) fun f cc pm' ctv G1 z1 J D hf hfn hfr hco => ?_)
  refine Calls.spliced_nil ⟨J.kIn, ?_⟩
  have ran : codeAny (model X.prog X.w) X.A (.call (.ref g) ⟨[.ref f], []⟩) (CR C8.CX0 X.stack X.prog X.w G1 z1 W C8.E0) z1 :=
    LamX.run_ofS (N := Ng) (ps := [a]) (us := [.ref f]) (vs := [.ref f]) lk hcg Sg hr J.env0 (hb z1 [.ref f] J.kIn rfl) (.cons rfl .nil) rfl fun hr' => by
      obtain ⟨t', w1, w2⟩ := give f cc z1 G1 W (fun E G2 W2 => t E τ G2 W2) (fun WW pn xe E p3 p4 tk hW => LamX.pe_act (i := 0) J L hf hfn hfr (hbind _ _ _ _ _) tk hW hr' (fun A outer z G hr2 => hbody A outer z G E f cc hr2) hNg hva d2 d3) hco (h G1 D)
      exact ⟨t', w1.nox, w2⟩
  refine wpAny_call (codeAny_mono ran fun r z2 hq => ?_)
  cases r with
  | error e => exact (show False from hq).elim
  | ok fl =>
    cases fl with
    | ret u => exact J.after hq
    | next | brk | cont => exact False.elim hq
/-! ### a deed told to the program -/
inductive Dd where
  | close (d : Int) (m : Str)
  | back (n : Str)
  | enter (e : Ent)
def DdAt (H : Hp) (a : Addr) : Dd → Prop
  | .close d m => H a = some (.tup [.str "close", .int d, .str m])
  | .back n => H a = some (.tup [.str "back", .str n])
  | .enter e => ∃ ea, H a = some (.tup [.str "enter", .ref ea]) ∧ H ea = some (.tup e.vals)
def DdW (P G HL : List Str) : Dd → Prop
  | .close _ m => m = "refuse" ∨ m = "up"
  | .back n => nameB n = true
  | .enter e => EntW P G HL e
theorem DdAt.on {H H' : Hp} {a : Addr} {x : Dd} (k : TK H H') (h : DdAt H a x) : DdAt H' a x := by
  cases x with
  | close d m => exact k _ _ h
  | back n => exact k _ _ h
  | enter e => exact h.imp fun ea h => ⟨k _ _ h.1, k _ _ h.2⟩
def outM (S : MS) : Dd → Rf × MS
  | .close d m => closeM S d m
  | .back n => backM S n
  | .enter e => enterM S e
theorem OkM.out {P G HL : List Str} {S : MS} (o : OkM P G HL S) {x : Dd} (w : DdW P G HL x) (h : (outM S x).1 = .ok) : OkM P G HL (outM S x).2 := by
  cases x with
  | close d m => exact o.close h
  | back n => exact o.backs w h
  | enter e => exact o.enter w h
/-! the lambdas' table among the others -/
theorem tabS_g {H : Hp} {Pt : Addr} {q : Str} (h : LamX.TabS H Pt q) : GxR.TabG H Pt := by
  obtain ⟨ps, h1, h2, _⟩ := h
  exact ⟨ps, h1, h2⟩
theorem tabS_sm {H H' : Hp} {Pt : Addr} {q : Str} (t : Same H H') (h : LamX.TabS H Pt q) : LamX.TabS H' Pt q := by
  obtain ⟨ps, h1, h2, h3⟩ := h
  refine ⟨ps, t _ _ h1, h2, fun at' cv e => ?_⟩
  obtain ⟨c, e1, e2⟩ := h3 at' cv e
  exact ⟨c, e1, t _ _ e2⟩
/-- all but the tables is as it was, and the lambdas' one is one -/
structure TBL (Ts : List Addr) (Pt : Addr) (q : Str) (H H' : Hp) : Prop where
  tb : TB1 (Pt :: Ts) H H'
  ts : LamX.TabS H' Pt q
theorem TBL.tg {Ts : List Addr} {Pt : Addr} {q : Str} {H H' : Hp} (t : TBL Ts Pt q H H') : TabsG Ts H' := fun T hT => t.tb.1 T (List.mem_cons_of_mem _ hT)
theorem TBL.tk {Ts : List Addr} {Pt : Addr} {q : Str} {H H' : Hp} (t : TBL Ts Pt q H H') : TK H H' := t.tb.tk
theorem TBL.tr {Ts : List Addr} {Pt : Addr} {q : Str} {H H1 H2 : Hp} (a : TBL Ts Pt q H H1) (b : TBL Ts Pt q H1 H2) : TBL Ts Pt q H H2 := ⟨a.tb.tr b.tb, b.ts⟩
theorem tabs_pt {Ts : List Addr} {H : Hp} {Pt : Addr} {q : Str} (g : TabsG Ts H) (h : LamX.TabS H Pt q) : TabsG (Pt :: Ts) H := fun T hT => by
  rcases List.mem_cons.mp hT with rfl | hT
  · exact tabS_g h
  · exact g T hT
theorem TBL.same {Ts : List Addr} {Pt : Addr} {q : Str} {H H' : Hp} (g : TabsG Ts H) (h : LamX.TabS H Pt q) (s : Same H H') : TBL Ts Pt q H H' := ⟨.same (tabs_pt g h) s, tabS_sm s h⟩
theorem TBL.of1 {Ts : List Addr} {Pt : Addr} {q : Str} {H H' : Hp} (n : Pt ∉ Ts) (h : LamX.TabS H Pt q) (t : TB1 Ts H H') : TBL Ts Pt q H H' := by
  obtain ⟨ps, h1, h2, h3⟩ := h
  have hs : LamX.TabS H' Pt q := ⟨ps, t.oth _ _ h1 n, h2, fun at' cv e => by
    obtain ⟨c, e1, e2⟩ := h3 at' cv e
    exact ⟨c, e1, t.kp _ _ e2 LamX.codeO_ne⟩⟩
  exact ⟨⟨tabs_pt t.1 hs, t.kp, t.free, fun a o e na => t.oth a o e fun z => na (List.mem_cons_of_mem _ z)⟩, hs⟩
theorem TBL.lam {Ts : List Addr} {Pt : Addr} {q : Str} {H H' : Hp} (n : Pt ∉ Ts) (g : TabsG Ts H) (h : LamX.TabS H Pt q) (d : LamD Pt q H H') : TBL Ts Pt q H H' := by
  refine ⟨⟨tabs_pt (fun T hT => ?_) d.tab, fun a o e nt => d.kp a o (fun z => ?_) e, d.free, fun a o e na => d.kp a o (fun z => na (z ▸ List.mem_cons_self)) e⟩, d.tab⟩
  · obtain ⟨ps, e, ok⟩ := g T hT
    exact ⟨ps, d.kp _ _ (fun z => n (z ▸ hT)) e, ok⟩
  · obtain ⟨ps, e', _⟩ := h
    rw [z, e'] at e
    exact nt ps (Option.some.inj e).symm
structure AskD (K : PySem.W.Frag) (mg : Str → Option Value) (A : RfA) (O : ClsO) (CE f : Addr) (oc kV doc pm cdv ct : Value) (od an : Option Addr) (osl : Array (Option Value)) : Prop where
  lk : K.lookup f = some ⟨oc, od, .func (PySem.W.fnOf "_law_asked" "_law_asked" (defArgs sAsked) (defBody sAsked) (defScope sAsked) .none kV doc pm an cdv ct), osl⟩
  cd : PySem.W.codeIn K cdv "_law_asked" = true
  g : mg "_law_asked" = some (.ref f)
  kp : PySem.W.keepIn K (.ref f) = true
  b : Binds K (PySem.W.fnOf "_law_asked" "_law_asked" (defArgs sAsked) (defBody sAsked) (defScope sAsked) .none kV doc pm an cdv ct) ["_law_ask"] []
  G : AskG mg A O CE
  D : AskF K A O CE
  mis : mg "isinstance" = none
  mv : mg "ValueError" = none
abbrev qLam : Str := (("_law_told_by" : Str) ++ ".<locals>.") ++ "<lambda>"
def spToldBy (Ts : List Addr) (Pt : Addr) : Sp := fun vs H Q _ => ∃ (s d a1 a2 : Addr) (P G HL : List Str) (S : MS) (x : Dd), vs = [.ref s, .ref d] ∧ SM H s a1 a2 P G S ∧ DdAt H d x ∧ StOk P G ∧ (∀ y ∈ HL, nameB y = true) ∧ OkM P G HL S ∧ DdW P G HL x ∧ TabsG Ts H ∧ LamX.TabS H Pt qLam ∧
  ((outM S x).1 = .ok → ∀ (t s' : Addr) (H' : Hp), TBL Ts Pt qLam H H' → H' t = some (.tup [.str "told", .ref s']) → SM H' s' a1 a2 P G (outM S x).2 → Q (.ref t) H') ∧
  ((outM S x).1 ≠ .ok → ∀ (t : Addr) (H' : Hp), TBL Ts Pt qLam H H' → H' t = some (.tup [.str (rfW (outM S x).1)]) → Q (.ref t) H')
theorem dec_str {a b : String} (h : (Str.ofString a == Str.ofString b) = false) : decide (V.str (Str.ofString a) = V.str (Str.ofString b)) = false := decide_eq_false fun z => wno h (V.str.inj z)
section
variable {P : Program} {w : World} {K : PySem.W.Frag} {mg : Str → Option Value} {base : Heap}
abbrev sToldByN : List Str := ["_law_state_here", "_law_deed_here"]
theorem sc_sToldBy : FnScope sToldByN ["_law_state_here", "_law_deed_here"] (defScope sToldBy) := ⟨rfl, rfl, rfl, by decide +kernel, rfl, by decide +kernel, by decide +kernel⟩
set_option maxHeartbeats 4000000 in
theorem ok_toldBy {f fA cR Pt fC fT fE : Addr} {Ts : List Addr} {A : RfA} {O : ClsO} {CE : Addr} {dC dT dE : FuncData} {oc kV doc pm ct oc' kV' doc' pm' cdv' ct' : Value} {od an od' an' : Option Addr} {osl osl' : Array (Option Value)}
    (lk : K.lookup f = some ⟨oc, od, .func (PySem.W.fnOf "_law_told_by" "_law_told_by" (defArgs sToldBy) (defBody sToldBy) (defScope sToldBy) .none kV doc pm an (.ref cR) ct), osl⟩) (cdI : PySem.W.codeIn K (.ref cR) "_law_told_by" = true)
    (TBL : LamX.TabB base mg cR Pt) (nPt : Pt ∉ Ts) (AS : AskD K mg A O CE fA oc' kV' doc' pm' cdv' ct' od' an' osl') (CB : DefX P w K mg base "closed_by" 3 fC dC ["state", "day", "mode"] (spClosedByX A)) (TKB : DefX P w K mg base "taken_back" 8 fT dT ["state", "name"] (spTakenX A Ts)) (ENT : DefX P w K mg base "entered" 8 fE dE ["state", "entry"] (spEnteredX A Ts)) :
    FnOk P w K mg base CX0 11 f (PySem.W.fnOf "_law_told_by" "_law_told_by" (defArgs sToldBy) (defBody sToldBy) (defScope sToldBy) .none kV doc pm an (.ref cR) ct) ["_law_state_here", "_law_deed_here"] (spToldBy Ts Pt) := by
  refine fn_of lk cdI sc_sToldBy (fun vs H Q E h => ?_) (fun A' outer s H vs Q E hr h => ?_)
  · obtain ⟨st, d, a1, a2, Ps, G, HL, S, x, rfl, _⟩ := h
    rfl
  · obtain ⟨st, d, a1, a2, Ps, G, HL, S, x, rfl, sm, hd, so, hH, o, dw, tg, tl, q1, q2⟩ := h
    have nd := sc_sToldBy.nd
    refine ⟨_, pss_cons (ps_if (pt_cmpR op_eq (pe_ix ix_tup (pv 1) pe_int (fun _ _ => rfl)) pe_str (nomark _)) (pss_one (ps_ret (pe_capcall (k := 8) (t := fun E2 => tCallS (spClosedByX A) (fun _ => E2) (tCons (tVar 0) (tCons (tOp (rIxT K) (tVar 1) (tC (V.int 1))) (tCons (tOp (rIxT K) (tVar 1) (tC (V.int 2))) tNil)))) (by rfl) AS.g AS.kp AS.lk AS.cd AS.b sc_sAsked rfl (.inl rfl) (asked_gives AS.G AS.D AS.mis AS.mv) TBL rfl hr (LamX.lamS_by (sc := defScope sToldBy) (by decide +kernel)) rfl (by intros; rfl) (fun A2 outer2 z2 G2 E2 f2 cc2 hrL => (pe_callS CB.ok (hrL.mono (by decide)) (by rfl) CB.g CB.kp CB.b (fun σ => passAt (takes_of rfl rfl rfl rfl) σ) (pa_cons (pv 0) (pa_cons (pe_ix ix_tup (pv 1) pe_int (fun _ _ => rfl)) (pa_cons (pe_ix ix_tup (pv 1) pe_int (fun _ _ => rfl)) pa_nil)))))))) pss_nil)
      (pss_cons (ps_if (pt_cmpR op_eq (pe_ix ix_tup (pv 1) pe_int (fun _ _ => rfl)) pe_str (nomark _)) (pss_one (ps_ret (pe_capcall (k := 8) (t := fun E2 => tCallS (spTakenX A Ts) (fun _ => E2) (tCons (tVar 0) (tCons (tOp (rIxT K) (tVar 1) (tC (V.int 1))) tNil))) (by rfl) AS.g AS.kp AS.lk AS.cd AS.b sc_sAsked rfl (.inl rfl) (asked_gives AS.G AS.D AS.mis AS.mv) TBL rfl hr (LamX.lamS_by (sc := defScope sToldBy) (by decide +kernel)) rfl (by intros; rfl) (fun A2 outer2 z2 G2 E2 f2 cc2 hrL => (pe_callS TKB.ok (hrL.mono (by decide)) (by rfl) TKB.g TKB.kp TKB.b (fun σ => passAt (takes_of rfl rfl rfl rfl) σ) (pa_cons (pv 0) (pa_cons (pe_ix ix_tup (pv 1) pe_int (fun _ _ => rfl)) pa_nil))))))) pss_nil)
      (pss_one (ps_ret (pe_capcall (k := 8) (t := fun E2 => tCallS (spEnteredX A Ts) (fun _ => E2) (tCons (tVar 0) (tCons (tOp (rIxT K) (tVar 1) (tC (V.int 1))) tNil))) (by rfl) AS.g AS.kp AS.lk AS.cd AS.b sc_sAsked rfl (.inl rfl) (asked_gives AS.G AS.D AS.mis AS.mv) TBL rfl hr (LamX.lamS_by (sc := defScope sToldBy) (by decide +kernel)) rfl (by intros; rfl) (fun A2 outer2 z2 G2 E2 f2 cc2 hrL => (pe_callS ENT.ok (hrL.mono (by decide)) (by rfl) ENT.g ENT.kp ENT.b (fun σ => passAt (takes_of rfl rfl rfl rfl) σ) (pa_cons (pv 0) (pa_cons (pe_ix ix_tup (pv 1) pe_int (fun _ _ => rfl)) pa_nil)))))))), ?_⟩
    cases x with
    | close dd m =>
      refine ⟨_, rfl, d, _, 0, _, rfl, rfl, SqT.of hd, atI_nat (j := 0) rfl, rfl, _, rfl, ?_⟩
      rw [decide_eq_true rfl]
      refine iteT ⟨tl, fun G1 D W hv => ?_⟩
      have t1 : Shelf.TBL Ts Pt qLam H G1 := .lam nPt tg tl D
      have hd1 := t1.tk _ _ hd
      refine ⟨_, rfl, _, rfl, d, _, 1, _, rfl, rfl, SqT.of hd1, atI_nat (j := 1) rfl, _, rfl, d, _, 2, _, rfl, rfl, SqT.of hd1, atI_nat (j := 2) rfl, st, a1, a2, Ps, G, S, dd, m, rfl, sm.on t1.tk, o.cm, fun hk s' H' s2 sm2 => hv _ H' fun t H2 s3 ht => ?_, fun hk => ⟨_, hk, rfl, rfl, fun t H2 s3 ht => ?_⟩⟩
      · exact q1 hk t s' H2 (t1.tr (.same t1.tg t1.ts (s2.trans s3))) ht (sm2.on (TK.of s3))
      · exact q2 hk t H2 (t1.tr (.same t1.tg t1.ts s3)) ht
    | back n =>
      refine ⟨_, rfl, d, _, 0, _, rfl, rfl, SqT.of hd, atI_nat (j := 0) rfl, rfl, _, rfl, ?_⟩
      rw [dec_str (by decide +kernel)]
      refine iteF ⟨_, rfl, d, _, 0, _, rfl, rfl, SqT.of hd, atI_nat (j := 0) rfl, rfl, _, rfl, ?_⟩
      rw [decide_eq_true rfl]
      refine iteT ⟨tl, fun G1 D W hv => ?_⟩
      have t1 : Shelf.TBL Ts Pt qLam H G1 := .lam nPt tg tl D
      have hd1 := t1.tk _ _ hd
      refine ⟨_, rfl, _, rfl, d, _, 1, _, rfl, rfl, SqT.of hd1, atI_nat (j := 1) rfl, st, a1, a2, Ps, G, HL, S, n, rfl, sm.on t1.tk, so, hH, o, dw, t1.tg, fun hk s' H' tb sm2 => hv _ H' fun t H2 s3 ht => ?_, fun hk H' tb => ⟨_, hk, rfl, rfl, fun t H2 s3 ht => ?_⟩⟩
      · have t2 : Shelf.TBL Ts Pt qLam G1 H' := .of1 nPt t1.ts tb
        exact q1 hk t s' H2 (t1.tr (t2.tr (.same t2.tg t2.ts s3))) ht (sm2.on (TK.of s3))
      · have t2 : Shelf.TBL Ts Pt qLam G1 H' := .of1 nPt t1.ts tb
        exact q2 hk t H2 (t1.tr (t2.tr (.same t2.tg t2.ts s3))) ht
    | enter e =>
      obtain ⟨ea, hd, hea⟩ := hd
      refine ⟨_, rfl, d, _, 0, _, rfl, rfl, SqT.of hd, atI_nat (j := 0) rfl, rfl, _, rfl, ?_⟩
      rw [dec_str (by decide +kernel)]
      refine iteF ⟨_, rfl, d, _, 0, _, rfl, rfl, SqT.of hd, atI_nat (j := 0) rfl, rfl, _, rfl, ?_⟩
      rw [dec_str (by decide +kernel)]
      refine iteF ⟨tl, fun G1 D W hv => ?_⟩
      have t1 : Shelf.TBL Ts Pt qLam H G1 := .lam nPt tg tl D
      have hd1 := t1.tk _ _ hd
      refine ⟨_, rfl, _, rfl, d, _, 1, _, rfl, rfl, SqT.of hd1, atI_nat (j := 1) rfl, st, ea, a1, a2, Ps, G, HL, S, e, rfl, sm.on t1.tk, t1.tk _ _ hea, so, hH, o, dw, t1.tg, fun hk s' H' tb sm2 => hv _ H' fun t H2 s3 ht => ?_, fun hk H' tb => ⟨_, hk, rfl, rfl, fun t H2 s3 ht => ?_⟩⟩
      · have t2 : Shelf.TBL Ts Pt qLam G1 H' := .of1 nPt t1.ts tb
        exact q1 hk t s' H2 (t1.tr (t2.tr (.same t2.tg t2.ts s3))) ht (sm2.on (TK.of s3))
      · have t2 : Shelf.TBL Ts Pt qLam G1 H' := .of1 nPt t1.ts tb
        exact q2 hk t H2 (t1.tr (t2.tr (.same t2.tg t2.ts s3))) ht
end
/-! ### the law's own account of a state: a dict of forms, backs, closed, mode -/
theorem mt_update {X : Cx} : MtR X "dict.update" (fun x vs H Q => ∃ (d o : Addr) (kvs more : List (Key × V)), x = .ref d ∧ vs = [.ref o] ∧ d ≠ o ∧ H d = some (.dK kvs) ∧ Rd H o (.dK more) ∧ kvs.length + more.length ≤ 1000 ∧ Q .non (upd H d (.dK (mergeK kvs more)))) := by
  intro pins s σ H x vs v us Q I rx rv h
  obtain ⟨d, o, kvs, more, rfl, rfl, ne, hd, ho, hz, q⟩ := h
  cases rx
  obtain ⟨u, rfl, r1⟩ := vals1 rv
  cases r1
  obtain ⟨zo, oS, vo, ro, dd⟩ := dk_rd I.hok ho
  obtain ⟨zd, dS, vd, rd, dd2⟩ := dk_of I.hok hd
  have e1 := rd.length
  have e2 := ro.length
  refine call_meetsIn PySem.F.slot_dict_update dd2.typeIs PySem.F.entry_dict_update (PySem.F.args_dict_update_2 _ _) (PySem.meets_dict_update (mixKind X.prog X.w) d o ne oS) ⟨vd, vo, dd2, dd, (by rw [← e1, ← e2, sizeLine_eq]; omega), fun h' d' _ hs => ?_⟩
  have hz2 : (mergeK kvs more).length ≤ sizeLine := by
    have := length_mergeK more kvs
    rw [sizeLine_eq]
    omega
  exact ⟨.non, _, d_write I (by rw [hd]; exact True.intro) hs (let ⟨q, _, _, hq, _⟩ := d'; ⟨q, hq⟩) (dk_new hz2 dS (ro.merge rd) d'), rfl, q⟩
abbrev kF : Key := Sum.inr "forms"
abbrev kB : Key := Sum.inr "backs"
abbrev kC : Key := Sum.inr "closed"
abbrev kM : Key := Sum.inr "mode"
def mdK (FL BL : Addr) (c m : V) : List (Key × V) := [(kF, .ref FL), (kB, .ref BL), (kC, c), (kM, m)]
theorem mdK_f {FL BL : Addr} {c m : V} : valV (mdK FL BL c m) kF = some (.ref FL) := rfl
theorem mdK_b {FL BL : Addr} {c m : V} : valV (mdK FL BL c m) kB = some (.ref BL) := rfl
theorem mdK_c {FL BL : Addr} {c m : V} : valV (mdK FL BL c m) kC = some c := rfl
theorem mdK_m {FL BL : Addr} {c m : V} : valV (mdK FL BL c m) kM = some m := rfl
theorem mdK_pf {FL BL A : Addr} {c m : V} : putK (mdK FL BL c m) kF (.ref A) = mdK A BL c m := rfl
theorem mdK_pb {FL BL A : Addr} {c m : V} : putK (mdK FL BL c m) kB (.ref A) = mdK FL A c m := rfl
theorem mdK_mg {FL BL : Addr} {c m x y : V} : mergeK (mdK FL BL c m) (mergeK [] [(kC, x), (kM, y)]) = mdK FL BL x y := rfl
theorem mdK_new {FL BL : Addr} : mergeK [] [(kF, V.ref FL), (kB, .ref BL), (kC, .non), (kM, .non)] = mdK FL BL .non .non := rfl
theorem dget_k {H : Hp} {d : Addr} {kvs : List (Key × V)} {x : Str} {v : V} (h : H d = some (.dK kvs)) (e : valV kvs (Sum.inr x) = some v) : DGet H d (.str x) (some v) := .inl ⟨kvs, Sum.inr x, .inl h, rfl, e.symm⟩
theorem dput_k {H : Hp} {d : Addr} {kvs : List (Key × V)} {x : Str} {v : V} (h : H d = some (.dK kvs)) (l : kvs.length < sizeLine) : DPut H d (.str x) v (upd H d (.dK (putK kvs (Sum.inr x) v))) := .inl ⟨kvs, Sum.inr x, h, rfl, l, rfl⟩
/-- the account d of S, its forms at FL, its backs at BL -/
structure MdAt (H : Hp) (d FL BL : Addr) (fs : List Fm) (S : MS) : Prop where
  d : H d = some (.dK (mdK FL BL (clV S.cl) (mdV S.md)))
  f : H FL = some (.lst (fs.map fun x => V.ref x.f))
  b : H BL = some (.lst (S.bs.map V.str))
  fm : ∀ x ∈ fs, FmAt H x
  e : fs.map emo = S.ps
theorem MdAt.same {H H' : Hp} {d FL BL : Addr} {fs : List Fm} {S : MS} (s : Same H H') (h : MdAt H d FL BL fs S) : MdAt H' d FL BL fs S := ⟨s _ _ h.d, s _ _ h.f, s _ _ h.b, fun x hx => (h.fm x hx).on (TK.of s), h.e⟩
theorem MdAt.kp {H H' : Hp} {p c : Addr} {n : Nat} {d FL BL : Addr} {fs : List Fm} {S : MS} (pen : PenAt H p c n) (k : Kp p H H') (nF : FL ≠ p) (nB : BL ≠ p) (h : MdAt H d FL BL fs S) : MdAt H' d FL BL fs S := by
  refine ⟨k _ _ h.d (fun _ z => nomatch z) ?_, k.lst nF h.f, k.lst nB h.b, fun x hx => (h.fm x hx).on (Kp.tk pen k), h.e⟩
  obtain ⟨ns, a, x, g1, _⟩ := pen.ex
  intro z
  exact nomatch (z ▸ h.d).symm.trans g1
def MS0 : MS := ⟨[], [], none, none⟩
def spLModel : Sp := fun vs H Q _ => vs = [] ∧ ∀ (d FL BL : Addr) (H' : Hp), H d = none → H FL = none → H BL = none → Same H H' → MdAt H' d FL BL [] MS0 → Q (.ref d) H'
def spLState : Sp := fun vs H Q _ => ∃ (st a1 a2 d FL BL : Addr) (P G : List Str) (fs : List Fm) (S : MS), vs = [.ref st, .ref d] ∧ StAt H st a1 a2 P G ∧ MdAt H d FL BL fs S ∧ ∀ (s' : Addr) (H' : Hp), Same H H' → SM H' s' a1 a2 P G S → Q (.ref s') H'
def spLClosedOnes : Sp := fun vs H Q _ => ∃ (d F0 B0 FL Ba : Addr) (cl : Option Int) (mv : V) (md : Option Str) (fs : List Fm) (bs : List Str), vs = [.ref d, .ref FL, .ref Ba] ∧ H d = some (.dK (mdK F0 B0 (clV cl) mv)) ∧ H FL = some (.lst (fs.map fun x => V.ref x.f)) ∧ (∀ x ∈ fs, FmAt H x) ∧ H Ba = some (.lst (bs.map V.str)) ∧ fs.length ≤ 100 ∧
  ∀ (D : Addr) (qr : List (Addr × Ent)) (H' : Hp), Same H H' → H' D = some (.lst (qr.map fun x => V.ref x.1)) → (∀ x ∈ qr, H' x.1 = some (.tup x.2.vals)) → qr.map (·.2) = closedL ⟨fs.map emo, bs, cl, md⟩ → Q (.ref D) H'
/-- the moment by the law -/
def momL (S : MS) (e : Ent) : Int := if closedB S.cl e.moment = true ∧ S.md = some "up" ∧ upB e = true then 100 * S.cl.getD 0 + 100 else e.moment
def spLMomFor : Sp := fun vs H Q _ => ∃ (d FL BL ea : Addr) (S : MS) (e : Ent), vs = [.ref d, .ref ea] ∧ H d = some (.dK (mdK FL BL (clV S.cl) (mdV S.md))) ∧ H ea = some (.tup e.vals) ∧ CmS S ∧ ∀ H', Same H H' → Q (.int (momL S e)) H'
def unupW : List V := [.str "swap", .str "count", .str "look"]
theorem unup_in (e : Ent) : inV (.str e.word) unupW = !upB e := by
  have h1 : inV (.str "come") unupW = false := by decide +kernel
  have h2 : inV (.str "go") unupW = false := by decide +kernel
  have h3 : inV (.str "move") unupW = false := by decide +kernel
  have h4 : inV (.str "some") unupW = false := by decide +kernel
  have h5 : inV (.str "swap") unupW = true := by decide +kernel
  have h6 : inV (.str "count") unupW = true := by decide +kernel
  have h7 : inV (.str "look") unupW = true := by decide +kernel
  cases e
  · exact h1
  · exact h2
  · exact h3
  · exact h4
  · exact h5
  · exact h6
  · exact h7
section
variable {P : Program} {w : World} {K : PySem.W.Frag} {mg : Str → Option Value} {base : Heap}
abbrev sLModelN : List Str := []
theorem sc_sLModel : FnScope sLModelN [] (defScope sLModel) := ⟨rfl, rfl, rfl, by decide +kernel, rfl, by decide +kernel, by decide +kernel⟩
theorem ok_lmodel {f : Addr} {fd : FuncData} (F : Fun K "_law_model" "_law_model" sLModel f fd) : FnOk P w K mg base CX0 1 f fd [] spLModel := by
  refine F.ok sc_sLModel (fun vs H Q E h => ?_) (fun cdv A outer s H vs Q E hr h => ?_)
  · obtain ⟨rfl, _⟩ := h
    rfl
  · obtain ⟨rfl, q⟩ := h
    have nd := sc_sLModel.nd
    refine ⟨_, pss_one (ps_ret (pe_disp (pps_cons pe_str (pe_lst pa_nil) (pps_cons pe_str (pe_lst pa_nil) (pps_cons pe_str pe_non (pps_cons pe_str pe_non pps_nil)))) (by rfl) (by rfl) (fun z => by cases z) (by decide))), ?_⟩
    refine fun d nd1 => ⟨Nat.zero_le _, fun FL nF => ⟨Nat.zero_le _, fun BL nB => ?_⟩⟩
    have s1 := @same_new _ _ (.dK []) nd1
    have s2 := @same_new _ _ (.lst []) nF
    have s3 := @same_new _ _ (.lst []) nB
    have hd := s3 _ _ (s2 _ _ (@upd_same H d (.dK [])))
    have hF := s3 _ _ (@upd_same (upd H d (.dK [])) FL (.lst []))
    have hB := @upd_same (upd (upd H d (.dK [])) FL (.lst [])) BL (.lst [])
    refine ⟨hd, [(kF, .ref FL), (kB, .ref BL), (kC, .non), (kM, .non)], rfl, (by show 4 ≤ 15; decide), ?_⟩
    rw [mdK_new]
    have n1 : FL ≠ d := fun z => (by rw [z, upd_same] at nF; cases nF)
    have n2 : BL ≠ d := fun z => (by rw [z, s2 _ _ upd_same] at nB; cases nB)
    refine q d FL BL _ nd1 (s1.free nF) (s1.free (s2.free nB)) (fun b o e => (upd_ne (ne_of_none e nd1)).trans (s3 _ _ (s2 _ _ (s1 _ _ e)))) ⟨upd_same, (upd_ne n1).trans hF, (upd_ne n2).trans hB, fun x hx => (nomatch hx), rfl⟩
abbrev sLStateN : List Str := ["_law_stand_here", "_law_model_here", "_law_forms"]
theorem sc_sLState : FnScope sLStateN ["_law_stand_here", "_law_model_here"] (defScope sLState) := ⟨rfl, rfl, rfl, by decide +kernel, rfl, by decide +kernel, by decide +kernel⟩
theorem ok_lstate {f : Addr} {fd : FuncData} (F : Fun K "_law_state" "_law_state" sLState f fd) (mt : mg "tuple" = none) : FnOk P w K mg base CX0 1 f fd ["_law_stand_here", "_law_model_here"] spLState := by
  refine F.ok sc_sLState (fun vs H Q E h => ?_) (fun cdv A outer s H vs Q E hr h => ?_)
  · obtain ⟨st, a1, a2, d, FL, BL, Ps, G, fs, S, rfl, _⟩ := h
    rfl
  · obtain ⟨st, a1, a2, d, FL, BL, Ps, G, fs, S, rfl, hs, md, q⟩ := h
    have hu := hu_of hr
    have nd := sc_sLState.nd
    refine ⟨_, pss_cons (ps_set (i := 2) nd rfl (Or.inl rfl) (pe_callTy call_tuple_of (by rfl) mt (by decide +kernel) (pa_cons (pe_dget hu (pv 1) pe_str (fun _ _ => rfl)) pa_nil)))
      (pss_one (ps_ret (pe_op op_catS (pv 0) (pe_tup (pa_cons (pv 2) (pa_cons (pe_callTy call_tuple_of (by rfl) mt (by decide +kernel) (pa_cons (pe_dget hu (pv 1) pe_str (fun _ _ => rfl)) pa_nil)) (pa_cons (pe_dget hu (pv 1) pe_str (fun _ _ => rfl)) (pa_cons (pe_dget hu (pv 1) pe_str (fun _ _ => rfl)) pa_nil)))))))), ?_⟩
    refine ⟨_, rfl, d, _, rfl, dget_k md.d mdK_f, FL, _, rfl, .inl ⟨SqL.of md.f, fun t1 n1 => ?_⟩⟩
    have s1 := @same_new _ _ (.tup (fs.map fun x => V.ref x.f)) n1
    have ht1 := @upd_same H t1 (.tup (fs.map fun x => V.ref x.f))
    generalize upd H t1 (.tup (fs.map fun x => V.ref x.f)) = H1 at s1 ht1 ⊢
    have md1 := md.same s1
    refine ⟨_, rfl, _, rfl, _, rfl, d, _, rfl, dget_k md1.d mdK_b, BL, _, rfl, .inl ⟨SqL.of md1.b, fun t2 n2 => ?_⟩⟩
    have s2 := @same_new _ _ (.tup (S.bs.map V.str)) n2
    have ht2 := @upd_same H1 t2 (.tup (S.bs.map V.str))
    generalize upd H1 t2 (.tup (S.bs.map V.str)) = H2 at s2 ht2 ⊢
    have md2 := md1.same s2
    refine ⟨_, rfl, d, _, rfl, dget_k md2.d mdK_c, _, rfl, d, _, rfl, dget_k md2.d mdK_m, (by show 4 ≤ sizeLine; decide), fun t3 n3 => ?_⟩
    have s3 := @same_new _ _ (.tup [V.ref t1, .ref t2, clV S.cl, mdV S.md]) n3
    have s13 := s1.trans (s2.trans s3)
    have hs3 := hs.on (TK.of s13)
    refine ⟨st, t3, _, _, rfl, rfl, hs3.at_, upd_same, (by intro z; cases z), (by show 2 + 4 ≤ sizeLine; decide), fun s' H4 s4 h4 => ?_⟩
    refine q s' H4 (s13.trans s4) ⟨t1, t2, fs, ⟨h4, s4 _ _ hs3.p, s4 _ _ hs3.g, s4 _ _ (s3 _ _ (s2 _ _ ht1)), s4 _ _ (s3 _ _ ht2), fun x hx => (md.fm x hx).on (TK.of (s13.trans s4))⟩, md.e⟩
abbrev sLClosedOnesN : List Str := ["_law_model_here", "_law_forms", "_law_backs", "_law_entry_here"]
theorem sc_sLClosedOnes : FnScope sLClosedOnesN ["_law_model_here", "_law_forms", "_law_backs"] (defScope sLClosedOnes) := ⟨rfl, rfl, rfl, by decide +kernel, rfl, by decide +kernel, by decide +kernel⟩
set_option maxHeartbeats 1000000 in
theorem ok_lclosed {f fS : Addr} {fd dS : FuncData} (F : Fun K "_law_closed_ones" "_law_closed_ones" sLClosedOnes f fd) (ST : DefT P w K mg base "_law_standing" 4 fS dS ["_law_forms", "_law_backs"] spLStanding) : FnOk P w K mg base CX0 5 f fd ["_law_model_here", "_law_forms", "_law_backs"] spLClosedOnes := by
  refine F.ok sc_sLClosedOnes (fun vs H Q E h => ?_) (fun cdv A outer s H vs Q E hr h => ?_)
  · obtain ⟨d, F0, B0, FL, Ba, cl, mv, md, fs, bs, rfl, _⟩ := h
    rfl
  · obtain ⟨d, F0, B0, FL, Ba, cl, mv, md, fs, bs, rfl, hd, hF, hfm, hB, lf, q⟩ := h
    have hu := hu_of hr
    have nd := sc_sLClosedOnes.nd
    refine ⟨_, pss_cons (ps_if (pt_cmpR op_isN (pe_dget hu (pv 0) pe_str (fun _ _ => rfl)) pe_non (by rfl)) (pss_one (ps_ret (pe_lst pa_nil))) pss_nil)
      (pss_one (ps_ret (pe_lc (own := [("_law_entry_here", 3)]) (g := gName 3) (tt := tTest (tOp (rI0 fun i j => .bl (decide (i ≤ j))) (tOp (rI CDiv fun i j => .int (i / j)) (tOp (rIxT K) (tVar 3) (tC (V.int 2))) (tC (V.int 100))) (tDGet (tVar 0) (tC (V.str "closed"))))) (te := tVar 3) rfl nd (pi_tup (pe_call ST.ok hr (by rfl) ST.g ST.kp ST.b .nil pass0 (pa_cons (pv 1) (pa_cons (pv 2) pa_nil)))) (blkOk_by (N := sLClosedOnesN) (sc := defScope sLClosedOnes) (by decide +kernel)) (fun _ _ _ _ _ => (pg_name (i := 3) nd rfl (Or.inl rfl))) (fun _ _ _ _ _ => (pts_one (pt_cmpR op_le (pe_op op_fdiv (pe_ix ix_tup (pv 3) pe_int (fun _ _ => rfl)) pe_int) (pe_dget hu (pv 0) pe_str (fun _ _ => rfl)) (nomark _)))) (fun _ _ _ _ _ => (pv 3))))), ?_⟩
    refine ⟨_, rfl, d, _, rfl, dget_k hd mdK_c, rfl, _, rfl, ?_⟩
    obtain rfl | ⟨k, rfl⟩ : cl = none ∨ ∃ k, cl = some k := by cases cl <;> simp
    · refine iteT ⟨Nat.zero_le _, fun D nD => ?_⟩
      refine q D ([] : List (Addr × Ent)) _ (same_new nD) upd_same (fun x hx => (nomatch hx)) ?_
      show [] = closedL _
      unfold closedL
      exact (List.filter_eq_nil_iff.mpr fun _ _ => by show ¬ (false = true); exact Bool.false_ne_true).symm
    · refine iteF ⟨_, rfl, _, rfl, FL, Ba, fs, bs, rfl, hF, hfm, .inl hB, lf, fun tp qr H1 s1 h1 hE eq => ⟨tp, rfl, ⟨_, SqT.of h1⟩, fun D nD => ?_⟩⟩
      rw [standL_P] at eq
      refine lc_tup (K := K) (a := tp) (xs := qr.map fun x => V.ref x.1) (fun i H' => Same H1 H' ∧ ∃ ps : List (Addr × Ent), H' D = some (.lst (ps.map fun x => V.ref x.1)) ∧ ps.length ≤ i ∧ ps = (qr.take i).filter fun x => closedB (some k) x.2.moment) ⟨same_new nD, [], upd_same, Nat.le_refl _, rfl⟩ (fun i H' _ h => SqT.of (h.1 _ _ h1)) ?_ ?_
      · rintro i v H' hx ⟨sm, ps, hD, lp, ep⟩
        rw [List.getElem?_map] at hx
        obtain ⟨x, hy, rfl⟩ := Option.map_eq_some_iff.mp hx
        have il := (List.getElem?_eq_some_iff.mp hy).1
        have lq : qr.length ≤ 100 := by
          have := congrArg List.length eq
          rw [List.length_map, sortEnt_len] at this
          have := standP_len (fs.map emo) bs
          rw [List.length_map] at this
          omega
        refine ⟨rfl, _, rfl, x.1, _, 2, _, rfl, rfl, SqT.of (sm _ _ (hE x (List.mem_of_getElem? hy))), at2 x.2, x.2.moment, 100, rfl, rfl, ⟨by decide, by decide⟩, _, rfl, d, _, rfl, dget_k (sm _ _ (s1 _ _ hd)) mdK_c, x.2.moment / 100, k, rfl, rfl, _, rfl, ?_⟩
        by_cases c : closedB (some k) x.2.moment = true
        · rw [show decide (x.2.moment / 100 ≤ k) = true from c]
          refine iteT ⟨_, rfl, _, hD, ?_, fun b o e => (upd_ne (ne_of_none e nD)).trans (sm b o e), ps ++ [x], ?_, ?_, ?_⟩
          · rw [List.length_map]
            exact small1000 (by omega)
          · rw [upd_same, List.map_append]
            rfl
          · rw [List.length_append]
            simp only [List.length_cons, List.length_nil]
            omega
          · rw [ep, take_sn hy, List.filter_append, List.filter_cons, if_pos c]
            rfl
        · rw [show decide (x.2.moment / 100 ≤ k) = false from Bool.eq_false_iff.mpr c]
          refine iteF ⟨sm, ps, hD, by omega, ?_⟩
          rw [ep, take_sn hy, List.filter_append, List.filter_cons, if_neg c, List.filter_nil, List.append_nil]
      · rintro H2 ⟨sm, ps, hD, lp, ep⟩
        rw [List.length_map, List.take_length] at ep
        refine q D ps H2 (s1.trans sm) hD (fun x hx => sm _ _ (hE x ?_)) ?_
        · rw [ep] at hx
          exact (List.mem_filter.mp hx).1
        · rw [ep]
          unfold closedL
          rw [← eq, List.filter_map]
          rfl
abbrev sLMomForN : List Str := ["_law_model_here", "_law_entry_here", "_law_closed"]
theorem sc_sLMomFor : FnScope sLMomForN ["_law_model_here", "_law_entry_here"] (defScope sLMomFor) := ⟨rfl, rfl, rfl, by decide +kernel, rfl, by decide +kernel, by decide +kernel⟩
theorem ok_lmomfor {f : Addr} {fd : FuncData} (F : Fun K "_law_moment_for" "_law_moment_for" sLMomFor f fd) : FnOk P w K mg base CX0 1 f fd ["_law_model_here", "_law_entry_here"] spLMomFor := by
  refine F.ok sc_sLMomFor (fun vs H Q E h => ?_) (fun cdv A outer s H vs Q E hr h => ?_)
  · obtain ⟨d, FL, BL, ea, S, e, rfl, _⟩ := h
    rfl
  · obtain ⟨d, FL, BL, ea, S, e, rfl, hd, he, cm, q⟩ := h
    have hu := hu_of hr
    have nd := sc_sLMomFor.nd
    refine ⟨_, pss_cons (ps_set (i := 2) nd rfl (Or.inl rfl) (pe_dget hu (pv 0) pe_str (fun _ _ => rfl)))
      (pss_cons (ps_if (PW.pt (pw_or (pt_cmpR op_isN (pv 2) pe_non (by rfl)) (pw_or (pt_cmpR op_gt (pe_op op_fdiv (pe_ix ix_tup (pv 1) pe_int (fun _ _ => rfl)) pe_int) (pv 2) (nomark _)) (pw_or (pt_cmpR op_eq (pe_dget hu (pv 0) pe_str (fun _ _ => rfl)) pe_str (nomark _)) (pw_or1 (pt_cmpR op_in_seq (pe_ix ix_tup (pv 1) pe_int (fun _ _ => rfl)) (pe_tup (pa_cons pe_str (pa_cons pe_str (pa_cons pe_str pa_nil)))) (by rfl))))))) (pss_one (ps_ret (pe_ix ix_tup (pv 1) pe_int (fun _ _ => rfl)))) pss_nil)
      (pss_one (ps_ret (pe_op op_add (pe_op op_mul pe_int (pv 2)) pe_int)))), ?_⟩
    have momE : momL S e = if closedB S.cl e.moment = true ∧ S.md = some "up" ∧ upB e = true then 100 * S.cl.getD 0 + 100 else e.moment := rfl
    refine ⟨_, rfl, d, _, rfl, dget_k hd mdK_c, _, rfl, rfl, _, rfl, ?_⟩
    have qe : momL S e = e.moment → ∀ {H' : Hp}, Same H H' → Q (.int e.moment) H' := fun z {H'} s => by rw [← z]; exact q H' s
    have s0 : Same H H := fun _ _ e => e
    rcases cm with ⟨c1, c2⟩ | ⟨k, m, c1, k0, k1, c2, hm⟩
    · rw [c1] at momE ⊢
      exact iteT ⟨_, rfl, ea, _, 2, _, rfl, rfl, SqT.of (s0 _ _ he), at2 e, qe (momE.trans (if_neg fun z => nomatch z.1)) s0⟩
    · rw [c1] at momE ⊢
      rw [c2] at momE hd
      refine iteF ⟨_, rfl, ea, _, 2, _, rfl, rfl, SqT.of he, at2 e, e.moment, 100, rfl, rfl, ⟨by decide, by decide⟩, _, rfl, e.moment / 100, k, rfl, rfl, _, rfl, ite2 (fun z => ?_) (fun z => ?_)⟩
      · have z : e.moment / 100 > k := of_decide_eq_true z
        exact ⟨_, rfl, ea, _, 2, _, rfl, rfl, SqT.of (s0 _ _ he), at2 e, qe (momE.trans (if_neg fun y => by have := of_decide_eq_true (show decide (e.moment / 100 ≤ k) = true from y.1); omega)) s0⟩
      · have z : ¬ e.moment / 100 > k := of_decide_eq_false (Bool.eq_false_iff.mpr z)
        have b1 : closedB (some k) e.moment = true := decide_eq_true (by omega)
        refine ⟨_, rfl, d, _, rfl, dget_k hd mdK_m, rfl, _, rfl, ?_⟩
        rcases hm with rfl | rfl
        · rw [show decide (mdV (some "refuse") = V.str "refuse") = true from decide_eq_true rfl]
          exact iteT ⟨_, rfl, ea, _, 2, _, rfl, rfl, SqT.of (s0 _ _ he), at2 e, qe (momE.trans (if_neg fun y => absurd (Option.some.inj y.2.1) (wno (by decide +kernel)))) s0⟩
        · rw [show decide (mdV (some "up") = V.str "refuse") = false from dec_str (by decide +kernel)]
          refine iteF ⟨_, rfl, ea, _, 0, _, rfl, rfl, SqT.of he, at0 e, (by show 3 ≤ sizeLine; decide), fun tp ntp => ?_⟩
          have s1 := @same_new _ _ (.tup unupW) ntp
          refine ⟨tp, unupW, rfl, .inr (SqT.of upd_same), rfl, rfl, _, congrArg V.bl (unup_in e), ?_⟩
          by_cases b3 : upB e = true
          · rw [b3]
            have qu : Q (.int (100 * k + 100)) (upd H tp (.tup unupW)) := by
              have := q _ s1
              rw [momE.trans (if_pos ⟨b1, rfl, b3⟩)] at this
              exact this
            exact iteF ⟨_, rfl, 100, k, rfl, rfl, .inl ⟨by decide, by decide⟩, _, _, rfl, rfl, qu⟩
          · rw [Bool.eq_false_iff.mpr b3]
            exact iteT ⟨_, rfl, ea, _, 2, _, rfl, rfl, SqT.of (s1 _ _ he), at2 e, qe (momE.trans (if_neg fun z => b3 z.2.2)) s1⟩
end
/-! ### what comes of a deed, by the law -/
theorem mom_LM {P G HL : List Str} {S : MS} (o : OkM P G HL S) {e : Ent} (w : EntW P G HL e) : (momL S e > 9999 ∧ momentM S e = none) ∨ (momL S e ≤ 9999 ∧ momentM S e = some (momL S e)) := by
  have e1 : momL S e = if closedB S.cl e.moment = true ∧ S.md = some "up" ∧ upB e = true then 100 * S.cl.getD 0 + 100 else e.moment := rfl
  have e2 : momentM S e = if closedB S.cl e.moment = true ∧ S.md = some "up" ∧ upB e = true then (if S.cl = some 99 then none else some ((S.cl.getD 0 + 1) * 100)) else some e.moment := rfl
  by_cases c : closedB S.cl e.moment = true ∧ S.md = some "up" ∧ upB e = true
  · rw [if_pos c] at e1 e2
    rcases o.cm with ⟨a, _⟩ | ⟨k, _, a, k0, k1, _⟩
    · rw [a] at c
      exact absurd c.1 Bool.false_ne_true
    · rw [a] at e1 e2
      have e1' : momL S e = 100 * k + 100 := e1
      by_cases k9 : k = 99
      · rw [k9] at e1' e2
        exact .inl ⟨by omega, e2.trans (if_pos rfl)⟩
      · rw [if_neg fun z => k9 (Option.some.inj z)] at e2
        refine .inr ⟨by omega, e2.trans (congrArg some ?_)⟩
        show (k + 1) * 100 = momL S e
        omega
  · rw [if_neg c] at e1 e2
    exact .inr ⟨by rw [e1]; exact w.m1, by rw [e2, e1]⟩
theorem allowed_self {P G HL : List Str} {S : MS} (o : OkM P G HL S) : allowedM S S = .ok := by
  unfold allowedM
  rw [if_pos rfl, if_neg]
  have := o.lf
  have := o.lb
  have := o.ls
  omega
def DdN : Dd → Prop
  | .close d _ => 0 ≤ d
  | _ => True
def spLDone : Sp := fun vs H Q _ => ∃ (d xa FL BL : Addr) (P G HL : List Str) (fs : List Fm) (S : MS) (x : Dd), vs = [.ref d, .ref xa] ∧ MdAt H d FL BL fs S ∧ DdAt H xa x ∧ StOk P G ∧ (∀ y ∈ HL, nameB y = true) ∧ OkM P G HL S ∧ DdW P G HL x ∧ DdN x ∧
  ((outM S x).1 = .ok → ∀ (d' FL' BL' : Addr) (fs' : List Fm) (H' : Hp), Same H H' → (FL' = FL ∨ H FL' = none) → (BL' = BL ∨ H BL' = none) → MdAt H' d' FL' BL' fs' (outM S x).2 → Q (.ref d') H') ∧
  ((outM S x).1 ≠ .ok → ∀ H', Same H H' → Q (.str (rfW (outM S x).1)) H')
theorem shL {P G HL : List Str} (so : StOk P G) (hH : ∀ y ∈ HL, nameB y = true) {U : MS} (wU : PsW P G HL U.ps) : SeqAt.shaped (.list ((closedL U).map entD)) = true := by
  unfold SeqAt.shaped
  have h1 : PyData.canLayAll0 ((closedL U).map entD) = true := lay_all fun d hd => by
    obtain ⟨e, he, rfl⟩ := List.mem_map.mp hd
    exact (standP_W (bs := U.bs) wU e (List.mem_filter.mp he).1).lay so hH
  have h2 : PyData.depthAll ((closedL U).map entD) ≤ 1 := depth_all fun d hd => by
    obtain ⟨e, he, rfl⟩ := List.mem_map.mp hd
    exact Nat.le_of_eq (entD_depth e)
  rw [PyData.canLay0, h1, PyData.depth, decide_eq_true (by omega)]
  rfl
theorem dpL {K : PySem.W.Frag} {H' : Hp} {D : Addr} {qr : List (Addr × Ent)} {l : List Ent} (hD : H' D = some (.lst (qr.map fun x => V.ref x.1))) (hE : ∀ x ∈ qr, H' x.1 = some (.tup x.2.vals)) (e : qr.map (·.2) = l) : Dp K H' (.ref D) (.list (l.map entD)) := by
  rw [← e]
  refine .lst (SqL.of hD) ?_
  have := dp_ents (K := K) (ents_pairs hE)
  rwa [List.map_map] at this
theorem fe_dp {K : PySem.W.Frag} {H : Hp} : ∀ {fs : List Fm}, (∀ x ∈ fs, FmAt H x) → DpAll K H (fs.map fun x => V.ref x.ea) (fs.map fun x => entD x.e)
  | [], _ => .nil
  | x :: r, h => .cons (dp_ent (h x List.mem_cons_self).e) (fe_dp fun y hy => h y (List.mem_cons_of_mem _ hy))
theorem fe_any {fs : List Fm} {ps : List (Ent × Int)} (h : fs.map emo = ps) (e : Ent) : ((fs.map fun x => entD x.e).any fun d => PyData.eqv d (entD e)) = decide (e ∈ ps.map (·.1)) := by
  rw [← h, Bool.eq_iff_iff, List.any_map, List.any_eq_true, decide_eq_true_eq, List.map_map, List.mem_map]
  constructor
  · rintro ⟨x, hx, z⟩
    exact ⟨x, hx, (eqv_ents _ _).mp z⟩
  · rintro ⟨x, hx, z⟩
    exact ⟨x, hx, (eqv_ents _ _).mpr z⟩
/-- a dict of one's own set anew -/
theorem same_put {H H1 : Hp} {d : Addr} {o : HO} (n : H d = none) (s : Same H H1) : Same H (upd H1 d o) := fun b u e => (upd_ne (ne_of_none e n)).trans (s b u e)
section
variable {P : Program} {w : World} {K : PySem.W.Frag} {mg : Str → Option Value} {base : Heap}
abbrev sLDoneN : List Str := ["_law_model_here", "_law_deed_here", "_law_later", "_law_form", "_law_moment_here", "_law_forms", "_law_before"]
theorem sc_sLDone : FnScope sLDoneN ["_law_model_here", "_law_deed_here"] (defScope sLDone) := ⟨rfl, rfl, rfl, by decide +kernel, rfl, by decide +kernel, by decide +kernel⟩
set_option maxHeartbeats 4000000 in
theorem ok_ldone {f fC fM fS : Addr} {fd dC dM dS : FuncData} (F : Fun K "_law_done" "_law_done" sLDone f fd) (CO : DefT P w K mg base "_law_closed_ones" 5 fC dC ["_law_model_here", "_law_forms", "_law_backs"] spLClosedOnes) (MF : DefT P w K mg base "_law_moment_for" 1 fM dM ["_law_model_here", "_law_entry_here"] spLMomFor)
    (ST : DefT P w K mg base "_law_standing" 4 fS dS ["_law_forms", "_law_backs"] spLStanding) (md : mg "dict" = none) (ms : mg "sorted" = none) (ml : mg "len" = none) : FnOk P w K mg base CX0 6 f fd ["_law_model_here", "_law_deed_here"] spLDone := by
  refine F.ok sc_sLDone (fun vs H Q E h => ?_) (fun cdv A outer s H vs Q E hr h => ?_)
  · obtain ⟨d, xa, FL, BL, Ps, G, HL, fs, S, x, rfl, _⟩ := h
    rfl
  · obtain ⟨d, xa, FL, BL, Ps, G, HL, fs, S, x, rfl, mdd, hx, so, hH, o, dw, dn, q1, q2⟩ := h
    have hu := hu_of hr
    have nd := sc_sLDone.nd
    have hr1 : Room 1 _ := hr.mono (by decide)
    have hr4 : Room 4 _ := hr.mono (by decide)
    refine ⟨_, pss_cons (ps_set (i := 2) nd rfl (Or.inl rfl) (pe_callTy call_dictD (by rfl) md (by decide +kernel) (pa_cons (pv 0) pa_nil)))
      (pss_cons (ps_if (pt_cmpR op_eq (pe_ix ix_tup (pv 1) pe_int (fun _ _ => rfl)) pe_str (nomark _)) (pss_cons (ps_if (PW.pt (pw_or (pt_cmpR op_gt (pe_ix ix_tup (pv 1) pe_int (fun _ _ => rfl)) pe_int (nomark _)) (pw_or1 (PW.pt (pw_and (pt_cmpR op_notN (pe_dget hu (pv 0) pe_str (fun _ _ => rfl)) pe_non (by rfl)) (pw_and1 (pt_cmpR op_le (pe_ix ix_tup (pv 1) pe_int (fun _ _ => rfl)) (pe_dget hu (pv 0) pe_str (fun _ _ => rfl)) (nomark _)))))))) (pss_one (ps_ret pe_str)) pss_nil)
        (pss_cons (ps_expr (pe_bm PySem.F.plainAttrs_dict PySem.F.slot_dict_update PySem.F.type_dict_update mt_update (pv 2) (pa_cons (pe_disp (pps_cons pe_str (pe_ix ix_tup (pv 1) pe_int (fun _ _ => rfl)) (pps_cons pe_str (pe_ix ix_tup (pv 1) pe_int (fun _ _ => rfl)) pps_nil)) (by rfl) (by rfl) (fun z => by cases z) (by decide)) pa_nil)))
        (pss_one (ps_ret (pv 2))))) pss_nil)
      (C8.pss_cut (ps_if (PW.pt (pw_and (pt_cmpR op_eq (pe_ix ix_tup (pv 1) pe_int (fun _ _ => rfl)) pe_str (nomark _)) (pw_and1 (pt_cmpR op_notIn_seq (pe_ix ix_tup (pv 1) pe_int (fun _ _ => rfl)) (pe_dget hu (pv 0) pe_str (fun _ _ => rfl)) (by rfl))))) (pss_one (ps_dput hu (pv 2) pe_str (pe_callB cr_sortedS (by rfl) ms (by decide +kernel) (pa_cons (pe_op op_cat (pe_dget hu (pv 0) pe_str (fun _ _ => rfl)) (pe_lst (pa_cons (pe_ix ix_tup (pv 1) pe_int (fun _ _ => rfl)) pa_nil))) pa_nil)) rfl)) pss_nil)
      (C8.pss_cut (ps_if (PW.pt (pw_and (pt_cmpR op_eq (pe_ix ix_tup (pv 1) pe_int (fun _ _ => rfl)) pe_str (nomark _)) (pw_and1 (pt_cmpR (op_notInD hr.units) (pe_ix ix_tup (pv 1) pe_int (fun _ _ => rfl)) (pe_lc (own := [("_law_form", 3)]) (g := gName 3) (tt := tYes) (te := tOp (rIxT K) (tVar 3) (tC (V.int 0))) rfl nd (pi_list (pe_dget hu (pv 0) pe_str (fun _ _ => rfl))) (blkOk_by (N := sLDoneN) (sc := defScope sLDone) (by decide +kernel)) (fun _ _ _ _ _ => (pg_name (i := 3) nd rfl (Or.inl rfl))) (fun _ _ _ _ _ => pts_nil) (fun _ _ _ _ _ => (pe_ix ix_tup (pv 3) pe_int (fun _ _ => rfl)))) (by rfl))))) (pss_cons (ps_set (i := 4) nd rfl (Or.inl rfl) (pe_call MF.ok hr1 (by rfl) MF.g MF.kp MF.b .nil pass0 (pa_cons (pv 0) (pa_cons (pe_ix ix_tup (pv 1) pe_int (fun _ _ => rfl)) pa_nil))))
        (pss_cons (ps_if (pt_cmpR op_gt (pv 4) pe_int (nomark _)) (pss_one (ps_ret pe_str)) pss_nil)
        (pss_one (ps_dput hu (pv 2) pe_str (pe_callB (cr_sortC hr.units) (by rfl) ms (by decide +kernel) (pa_cons (pe_op op_cat (pe_dget hu (pv 0) pe_str (fun _ _ => rfl)) (pe_lst (pa_cons (pe_tup (pa_cons (pe_ix ix_tup (pv 1) pe_int (fun _ _ => rfl)) (pa_cons (pv 4) pa_nil))) pa_nil))) pa_nil)) rfl)))) pss_nil)
      (pss_cons (ps_set (i := 5) nd rfl (Or.inl rfl) (pe_dget hu (pv 2) pe_str (fun _ _ => rfl)))
      (pss_cons (ps_set (i := 6) nd rfl (Or.inl rfl) (pe_call CO.ok hr (by rfl) CO.g CO.kp CO.b .nil pass0 (pa_cons (pv 0) (pa_cons (pe_dget hu (pv 0) pe_str (fun _ _ => rfl)) (pa_cons (pe_dget hu (pv 0) pe_str (fun _ _ => rfl)) pa_nil)))))
      (pss_cons (ps_if (pt_cmpR (op_neD hr.units) (pe_call CO.ok hr (by rfl) CO.g CO.kp CO.b .nil pass0 (pa_cons (pv 0) (pa_cons (pv 5) (pa_cons (pe_dget hu (pv 2) pe_str (fun _ _ => rfl)) pa_nil)))) (pv 6) (nomark _)) (pss_one (ps_ret pe_str)) pss_nil)
      (pss_cons (ps_if (PW.pt (pw_or (pt_cmpR op_gt (pe_callB call_len_seq (by rfl) ml PySem.boot_len (pa_cons (pv 5) pa_nil)) pe_int (nomark _)) (pw_or (pt_cmpR op_gt (pe_callB call_len_seq (by rfl) ml PySem.boot_len (pa_cons (pe_dget hu (pv 2) pe_str (fun _ _ => rfl)) pa_nil)) pe_int (nomark _)) (pw_or1 (pt_cmpR op_gt (pe_callB call_len_seq (by rfl) ml PySem.boot_len (pa_cons (pe_call ST.ok hr4 (by rfl) ST.g ST.kp ST.b .nil pass0 (pa_cons (pv 5) (pa_cons (pe_dget hu (pv 2) pe_str (fun _ _ => rfl)) pa_nil))) pa_nil)) pe_int (nomark _)))))) (pss_one (ps_ret pe_str)) pss_nil)
      (pss_one (ps_ret (pv 2)))))))))), ?_⟩
    have lf := o.lf
    have lb := o.lb
    have lfs : fs.length = S.ps.length := by rw [← mdd.e, List.length_map]
    refine ⟨_, rfl, d, _, rfl, .inl mdd.d, fun d' nd' => ?_⟩
    have s1 := @same_new _ _ (.dK (mdK FL BL (clV S.cl) (mdV S.md))) nd'
    have hd1 := @upd_same H d' (.dK (mdK FL BL (clV S.cl) (mdV S.md)))
    generalize upd H d' (.dK (mdK FL BL (clV S.cl) (mdV S.md))) = H1 at s1 hd1 ⊢
    have md1 := mdd.same s1
    have mx1 : MdAt H1 d' FL BL fs S := ⟨hd1, md1.f, md1.b, md1.fm, md1.e⟩
    have hx1 := hx.on (TK.of s1)
    obtain ⟨dd, m, rfl⟩ | ⟨wd, v, hxx, nc, nb, xs⟩ : (∃ dd m, x = .close dd m) ∨ ∃ wd v, H xa = some (.tup [.str wd, v]) ∧ decide (V.str wd = V.str "close") = false ∧ (wd = "back" ∨ wd = "enter") ∧ ((∃ n, x = .back n ∧ wd = "back" ∧ v = .str n) ∨ ∃ e ea, x = .enter e ∧ wd = "enter" ∧ v = .ref ea ∧ H ea = some (.tup e.vals)) := by
      cases x with
      | close dd m => exact .inl ⟨dd, m, rfl⟩
      | back n => exact .inr ⟨_, _, hx, dec_str (by decide +kernel), .inl rfl, .inl ⟨n, rfl, rfl, rfl⟩⟩
      | enter e => exact hx.elim fun ea h => .inr ⟨_, _, h.1, dec_str (by decide +kernel), .inr rfl, .inr ⟨e, ea, rfl, rfl, rfl, h.2⟩⟩
    · refine ⟨_, rfl, xa, _, 0, _, rfl, rfl, SqT.of hx1, atI_nat (j := 0) rfl, rfl, _, rfl, ?_⟩
      rw [decide_eq_true rfl]
      refine iteT ⟨_, rfl, xa, _, 1, _, rfl, rfl, SqT.of hx1, atI_nat (j := 1) rfl, dd, 99, rfl, rfl, _, rfl, ?_⟩
      have ou : outM S (.close dd m) = if (0 ≤ dd ∧ dd ≤ 99) ∧ (m = "refuse" ∨ m = "up") ∧ (∀ k, S.cl = some k → k < dd) then (.ok, { S with cl := some dd, md := some m }) else (.day, S) := rfl
      have day : ¬ ((0 ≤ dd ∧ dd ≤ 99) ∧ (m = "refuse" ∨ m = "up") ∧ (∀ k, S.cl = some k → k < dd)) → Q (.str "day") H1 := fun z => by
        rw [if_neg z] at ou
        rw [ou] at q2
        exact q2 (fun z => nomatch z) H1 s1
      have upd_ : (0 ≤ dd ∧ dd ≤ 99) ∧ (m = "refuse" ∨ m = "up") ∧ (∀ k, S.cl = some k → k < dd) → ∀ (p : Addr), H1 p = none → Q (.ref d') (upd (upd (upd H1 p (.dK [])) p (.dK (mergeK [] [(kC, .int dd), (kM, .str m)]))) d' (.dK (mergeK (mdK FL BL (clV S.cl) (mdV S.md)) (mergeK [] [(kC, .int dd), (kM, .str m)])))) := fun z p np => by
        rw [if_pos z] at ou
        rw [ou] at q1
        rw [mdK_mg]
        have s2 : Same H1 (upd (upd H1 p (.dK [])) p (.dK (mergeK [] [(kC, .int dd), (kM, .str m)]))) := fun b u e => (upd_ne (ne_of_none e np)).trans ((upd_ne (ne_of_none e np)).trans e)
        have s3 : Same H _ := same_put (o := .dK (mdK FL BL (.int dd) (.str m))) nd' (s1.trans s2)
        have md3 := mdd.same s3
        exact q1 rfl d' FL BL fs _ s3 (.inl rfl) (.inl rfl) ⟨upd_same, md3.f, md3.b, md3.fm, md3.e⟩
      refine ite2 (fun z => ?_) (fun z => ?_)
      · have z : dd > 99 := of_decide_eq_true z
        exact day fun y => by have := y.1.2; omega
      · have z : ¬ dd > 99 := of_decide_eq_false (Bool.eq_false_iff.mpr z)
        refine ⟨_, rfl, d, _, rfl, dget_k md1.d mdK_c, rfl, _, rfl, ?_⟩
        have fin : (∀ k, S.cl = some k → k < dd) → ∀ p, H1 p = none → _ := fun y p np => upd_ ⟨⟨dn, by omega⟩, dw, y⟩ p np
        obtain e | ⟨k, e⟩ : S.cl = none ∨ ∃ k, S.cl = some k := by cases S.cl <;> simp
        · rw [show (!decide (clV S.cl = V.non)) = false by rw [e]; rfl]
          refine iteF (iteF ⟨_, rfl, .inr (.inr (.inl ⟨rfl, .inl ⟨_, hd1⟩⟩)), fun p np => ?_⟩)
          have nxd : p ≠ d' := fun z => by rw [z, hd1] at np; cases np
          have s2 := @same_new _ _ (.dK []) np
          refine ⟨_, rfl, xa, _, 1, _, rfl, rfl, SqT.of (s2 _ _ hx1), atI_nat (j := 1) rfl, _, rfl, xa, _, 2, _, rfl, rfl, SqT.of (s2 _ _ hx1), atI_nat (j := 2) rfl, upd_same, [(kC, .int dd), (kM, .str m)], rfl, (by show 2 ≤ 15; decide), ?_⟩
          refine ⟨d', p, _, _, rfl, rfl, nxd.symm, (upd_ne nxd.symm).trans (s2 _ _ hd1), .inl upd_same, (by show 4 + 2 ≤ 1000; decide), _, rfl, fin (fun k z => nomatch e.symm.trans z) p np⟩
        · rw [show (!decide (clV S.cl = V.non)) = true by rw [e]; rfl]
          refine iteT ⟨_, rfl, xa, _, 1, _, rfl, rfl, SqT.of hx1, atI_nat (j := 1) rfl, _, rfl, d, _, rfl, dget_k md1.d mdK_c, dd, k, rfl, (by rw [e]; rfl), _, rfl, ite2 (fun z2 => ?_) (fun z2 => ⟨_, rfl, .inr (.inr (.inl ⟨rfl, .inl ⟨_, hd1⟩⟩)), fun p np => ?_⟩)⟩
          · have z2 : dd ≤ k := of_decide_eq_true z2
            exact day fun y => by have := y.2.2 k e; omega
          · have z2 : ¬ dd ≤ k := of_decide_eq_false (Bool.eq_false_iff.mpr z2)
            have nxd : p ≠ d' := fun z => by rw [z, hd1] at np; cases np
            have s2 := @same_new _ _ (.dK []) np
            refine ⟨_, rfl, xa, _, 1, _, rfl, rfl, SqT.of (s2 _ _ hx1), atI_nat (j := 1) rfl, _, rfl, xa, _, 2, _, rfl, rfl, SqT.of (s2 _ _ hx1), atI_nat (j := 2) rfl, upd_same, [(kC, .int dd), (kM, .str m)], rfl, (by show 2 ≤ 15; decide), ?_⟩
            refine ⟨d', p, _, _, rfl, rfl, nxd.symm, (upd_ne nxd.symm).trans (s2 _ _ hd1), .inl upd_same, (by show 4 + 2 ≤ 1000; decide), _, rfl, fin (fun k' z => by have := Option.some.inj (e.symm.trans z); omega) p np⟩
    · refine ⟨_, rfl, xa, _, 0, _, rfl, rfl, SqT.of (s1 _ _ hxx), atI_nat (j := 0) rfl, rfl, _, rfl, ?_⟩
      rw [nc]
      have base_ : S.ps.length ≤ 61 ∧ S.bs.length ≤ 61 := ⟨by omega, by omega⟩
      refine iteF ⟨fun σ' H' => σ' = [some (.ref d), some (.ref xa), some (.ref d'), none, none, none, none] ∧ ∃ BL' T, Same H H' ∧ MdAt H' d' FL BL' fs T ∧ (BL' = BL ∨ H BL' = none) ∧ ((∃ n, x = .back n ∧ outM S x = (allowedM S T, T) ∧ T.bs.length ≤ 61 ∧ T.ps = S.ps ∧ T.cl = S.cl ∧ T.md = S.md) ∨ (∃ e, x = .enter e ∧ T = S ∧ BL' = BL)), ?_, ?_⟩
      · refine ⟨_, rfl, xa, _, 0, _, rfl, rfl, SqT.of (s1 _ _ hxx), atI_nat (j := 0) rfl, rfl, _, rfl, ?_⟩
        rcases xs with ⟨n, rfl, rfl, rfl⟩ | ⟨e, ea, rfl, rfl, rfl, hea⟩
        · rw [decide_eq_true rfl]
          have ou : outM S (.back n) = if n ∈ S.bs then (.ok, S) else (allowedM S (S.back n), S.back n) := rfl
          refine iteT ⟨_, rfl, xa, _, 1, _, rfl, rfl, SqT.of (s1 _ _ hxx), atI_nat (j := 1) rfl, _, rfl, d, _, rfl, dget_k md1.d mdK_b, BL, S.bs.map V.str, rfl, .inl (SqL.of md1.b), rfl, all_flat _, ?_⟩
          rw [if_pos rfl, inV_iff]
          by_cases c : n ∈ S.bs
          · rw [decide_eq_true c]
            rw [if_pos c] at ou
            exact ⟨_, rfl, iteF ⟨rfl, BL, S, s1, mx1, .inl rfl, .inl ⟨n, rfl, by rw [ou, allowed_self o], base_.2, rfl, rfl, rfl⟩⟩⟩
          · rw [decide_eq_false c]
            rw [if_neg c] at ou
            refine ⟨_, rfl, iteT ⟨_, rfl, d, _, rfl, dget_k md1.d mdK_b, _, rfl, xa, _, 1, _, rfl, rfl, SqT.of (s1 _ _ hxx), atI_nat (j := 1) rfl, (by show 1 ≤ sizeLine; decide), fun l nl => ?_⟩⟩
            have s2 := @same_new _ _ (.lst [V.str n]) nl
            refine ⟨BL, l, _, _, rfl, rfl, s2 _ _ md1.b, upd_same, (by rw [List.length_map]; exact Nat.le_of_lt (small1000 (by show S.bs.length + 1 ≤ 1000; omega))), fun l2 nl2 => ?_⟩
            have e1 : S.bs.map V.str ++ [V.str n] = (S.bs ++ [n]).map V.str := by rw [List.map_append]; rfl
            rw [e1]
            have s3 := s2.trans (@same_new _ _ (.lst ((S.bs ++ [n]).map V.str)) nl2)
            have hl2 := @upd_same (upd H1 l (.lst [V.str n])) l2 (.lst ((S.bs ++ [n]).map V.str))
            generalize upd (upd H1 l (.lst [V.str n])) l2 (.lst ((S.bs ++ [n]).map V.str)) = H3 at s3 hl2 ⊢
            refine ⟨l2, S.bs ++ [n], rfl, SqL.of hl2, (by rw [List.length_append]; show S.bs.length + 1 < 64; omega), fun ys p pm so' np => ?_⟩
            obtain rfl : ys = insS n S.bs := sorted_one (pm.trans ((List.perm_append_comm (l₁ := S.bs) (l₂ := [n])).trans (insS_p n S.bs).symm)) so' (insS_sorted n _ o.sb)
            have s4 := s3.trans (@same_new _ _ (.lst ((insS n S.bs).map V.str)) np)
            have hp := @upd_same H3 p (.lst ((insS n S.bs).map V.str))
            have fp : H p = none := s1.free (s3.free np)
            generalize upd H3 p (.lst ((insS n S.bs).map V.str)) = H4 at s4 hp ⊢
            refine ⟨_, rfl, d', _, rfl, dput_k (s4 _ _ hd1) (by show 4 < sizeLine; decide), ?_⟩
            rw [mdK_pb]
            have s5 : Same H (upd H4 d' (.dK (mdK FL p (clV S.cl) (mdV S.md)))) := same_put nd' (s1.trans s4)
            have md5 := mdd.same s5
            have npd : p ≠ d' := ne_of hp (s4 _ _ hd1) (by intro z; cases z)
            exact ⟨rfl, p, S.back n, s5, ⟨upd_same, md5.f, (upd_ne npd).trans hp, md5.fm, md5.e⟩, .inr fp, .inl ⟨n, rfl, ou, by rw [show (S.back n).bs.length = S.bs.length + 1 from (insS_p n S.bs).length_eq]; omega, rfl, rfl, rfl⟩⟩
        · rw [dec_str (by decide +kernel)]
          exact iteF ⟨rfl, BL, S, s1, mx1, .inl rfl, .inr ⟨e, rfl, rfl, rfl⟩⟩
      · rintro σ' H2 ⟨rfl, BL', T, s2, mT, hBL, hT⟩
        refine ⟨fun σ' H' => (∃ y3 y4, σ' = [some (.ref d), some (.ref xa), some (.ref d'), y3, y4, none, none]) ∧ ∃ FL' BL' fs' T, Same H H' ∧ MdAt H' d' FL' BL' fs' T ∧ (FL' = FL ∨ H FL' = none) ∧ (BL' = BL ∨ H BL' = none) ∧ outM S x = (allowedM S T, T) ∧ T.cl = S.cl ∧ T.md = S.md ∧ PsW Ps G HL T.ps ∧ T.ps.length ≤ 61 ∧ T.bs.length ≤ 61, ?_, ?_⟩
        · refine ⟨_, rfl, xa, _, 0, _, rfl, rfl, SqT.of (s2 _ _ hxx), atI_nat (j := 0) rfl, rfl, _, rfl, ?_⟩
          rcases xs with ⟨n, rfl, rfl, rfl⟩ | ⟨e, ea, rfl, rfl, rfl, hea⟩
          · rw [dec_str (by decide +kernel)]
            rcases hT with ⟨n, _, ou, t1, t2, t3, t4⟩ | ⟨e, z, _⟩
            · exact iteF ⟨⟨_, _, rfl⟩, FL, BL', fs, T, s2, mT, .inl rfl, hBL, ou, t3, t4, by rw [t2]; exact o.pw, by rw [t2]; exact base_.1, t1⟩
            · exact nomatch z
          · rcases hT with ⟨n, z, _⟩ | ⟨e', z, rfl, rfl⟩
            · exact nomatch z
            cases z
            rw [decide_eq_true rfl]
            have ou : outM T (.enter e) = if e ∈ T.ps.map (·.1) then (.ok, T) else match momentM T e with | none => (.closed, T) | some m => (allowedM T (T.put e m), T.put e m) := rfl
            have md2 := mdd.same s2
            refine iteT ⟨_, rfl, xa, _, 1, _, rfl, rfl, SqT.of (s2 _ _ hxx), atI_nat (j := 1) rfl, _, rfl, d, _, rfl, dget_k md2.d mdK_f, FL, rfl, ⟨_, SqL.of md2.f⟩, fun D nD => ?_⟩
            refine lc_list (K := K) (a := FL) (xs := fs.map fun x => V.ref x.f) (fun i H' => Same H2 H' ∧ H' D = some (.lst ((fs.take i).map fun x => V.ref x.ea))) ⟨same_new nD, upd_same⟩ (fun i H' _ h => SqL.of (h.1 _ _ md2.f)) ?_ ?_
            · rintro i v H' hx ⟨sm, hD⟩
              rw [List.getElem?_map] at hx
              obtain ⟨x, hy, rfl⟩ := Option.map_eq_some_iff.mp hx
              have il := (List.getElem?_eq_some_iff.mp hy).1
              have fx := (md2.fm x (List.mem_of_getElem? hy)).on (TK.of sm)
              refine ⟨rfl, yesT ⟨_, rfl, x.f, _, 0, _, rfl, rfl, SqT.of fx.f, atI_nat (j := 0) rfl, _, hD, ?_, fun b o e => (upd_ne (ne_of_none e nD)).trans (sm b o e), ?_⟩⟩
              · rw [List.length_map, List.length_take]
                exact small1000 (by omega)
              · rw [upd_same, take_sn hy, List.map_append]
                rfl
            · rintro H3 ⟨sm3, hD⟩
              rw [List.length_map, List.take_length] at hD
              have s23 := s2.trans sm3
              have mT3 := mT.same sm3
              have md3 := mdd.same s23
              have me : ∀ x ∈ fs, EntW Ps G HL x.e := fun x hx => (o.pw (emo x) (by rw [← mdd.e]; exact List.mem_map.mpr ⟨x, hx, rfl⟩)).1
              refine ⟨entD e, fs.map fun x => entD x.e, dp_ent (s23 _ _ hea), .inl (.lst (SqL.of hD) (fe_dp md3.fm)), dw.lay so hH, lay_all fun d hd => ?_, (by rw [entD_depth]; decide), ?_⟩
              · obtain ⟨x, hx, rfl⟩ := List.mem_map.mp hd
                exact (me x hx).lay so hH
              rw [if_pos rfl, fe_any mdd.e]
              by_cases c : e ∈ T.ps.map (·.1)
              · rw [decide_eq_true c]
                rw [if_pos c] at ou
                exact ⟨_, rfl, iteF ⟨⟨_, _, rfl⟩, FL, BL', fs, T, s23, mT3, .inl rfl, hBL, by rw [ou, allowed_self o], rfl, rfl, o.pw, base_.1, base_.2⟩⟩
              · rw [decide_eq_false c]
                rw [if_neg c] at ou
                refine ⟨_, rfl, iteT ⟨_, rfl, _, rfl, xa, _, 1, _, rfl, rfl, SqT.of (s23 _ _ hxx), atI_nat (j := 1) rfl, d, FL, BL', ea, T, e, rfl, md3.d, s23 _ _ hea, o.cm, fun H4 s4 => ?_⟩⟩
                have s24 := s23.trans s4
                refine ⟨_, rfl, momL T e, 9999, rfl, rfl, _, rfl, ite2 (fun z => ?_) (fun z => ?_)⟩
                · have z : momL T e > 9999 := of_decide_eq_true z
                  rcases mom_LM o dw with ⟨_, mn⟩ | ⟨y, _⟩
                  · rw [mn] at ou
                    rw [ou] at q2
                    exact q2 (fun z => nomatch z) H4 s24
                  · omega
                · have z : ¬ momL T e > 9999 := of_decide_eq_false (Bool.eq_false_iff.mpr z)
                  rcases mom_LM o dw with ⟨y, _⟩ | ⟨y, mn⟩
                  · omega
                  rw [mn] at ou
                  have hm' := o.moment dw mn
                  generalize momL T e = m at ou hm' ⊢
                  have md4 := mdd.same s24
                  have mT4 := mT3.same s4
                  refine ⟨_, rfl, d, _, rfl, dget_k md4.d mdK_f, _, rfl, xa, _, 1, _, rfl, rfl, SqT.of (s24 _ _ hxx), atI_nat (j := 1) rfl, _, rfl, (by show 2 ≤ sizeLine; decide), fun fm nfm => ⟨(by show 1 ≤ sizeLine; decide), fun l nl => ?_⟩⟩
                  have s5 := @same_new _ _ (.tup [V.ref ea, .int m]) nfm
                  have s6 := @same_new _ _ (.lst [V.ref fm]) nl
                  have fx : FmAt (upd (upd H4 fm (.tup [V.ref ea, .int m])) l (.lst [V.ref fm])) ⟨fm, ea, e, m⟩ := ⟨s6 _ _ upd_same, s6 _ _ (s5 _ _ (s24 _ _ hea))⟩
                  have s46 := s5.trans s6
                  have hl := @upd_same (upd H4 fm (.tup [V.ref ea, .int m])) l (.lst [V.ref fm])
                  generalize upd (upd H4 fm (.tup [V.ref ea, .int m])) l (.lst [V.ref fm]) = H6 at s46 fx hl ⊢
                  refine ⟨FL, l, _, _, rfl, rfl, s46 _ _ md4.f, hl, (by rw [List.length_map]; exact Nat.le_of_lt (small1000 (by show fs.length + 1 ≤ 1000; omega))), fun l2 nl2 => ?_⟩
                  have eq1 : ((fs ++ [(⟨fm, ea, e, m⟩ : Fm)]).map fmV).map (·.1) = (fs.map fun x => V.ref x.f) ++ [V.ref fm] := by
                    rw [List.map_map, List.map_append]
                    rfl
                  have eq2 : ((fs ++ [(⟨fm, ea, e, m⟩ : Fm)]).map fmV).map (·.2) = (fs ++ [(⟨fm, ea, e, m⟩ : Fm)]).map formD := by
                    rw [List.map_map]
                    rfl
                  have eq3 : (fs ++ [(⟨fm, ea, e, m⟩ : Fm)]).map (fun x => V.ref x.f) = (fs.map fun x => V.ref x.f) ++ [V.ref fm] := by
                    rw [List.map_append]
                    rfl
                  have s7 := @same_new _ _ (.lst ((fs.map fun x => V.ref x.f) ++ [V.ref fm])) nl2
                  have hl2 := @upd_same H6 l2 (.lst ((fs.map fun x => V.ref x.f) ++ [V.ref fm]))
                  generalize upd H6 l2 (.lst ((fs.map fun x => V.ref x.f) ++ [V.ref fm])) = H7 at s7 hl2 ⊢
                  have s47 := s46.trans s7
                  have fm5 : ∀ x ∈ fs ++ [(⟨fm, ea, e, m⟩ : Fm)], FmAt H7 x := fun x hx => by
                    rcases List.mem_append.mp hx with hx | hx
                    · exact (md4.fm x hx).on (TK.of s47)
                    · rw [List.mem_singleton.mp hx]; exact fx.on (TK.of s7)
                  have lay5 : ∀ x ∈ fs ++ [(⟨fm, ea, e, m⟩ : Fm)], (formD x).canLay0 = true := fun x hx => by
                    rcases List.mem_append.mp hx with hx | hx
                    · exact (me x hx).layP (p := emo x) so hH
                    · rw [List.mem_singleton.mp hx]; exact dw.layP (p := (e, m)) so hH
                  have dp5 : DpAll K H7 (((fs ++ [(⟨fm, ea, e, m⟩ : Fm)]).map fmV).map (·.1)) (((fs ++ [(⟨fm, ea, e, m⟩ : Fm)]).map fmV).map (·.2)) := by
                    rw [eq1, eq2, ← eq3]
                    exact fms_dp fm5
                  refine ⟨l2, (fs ++ [(⟨fm, ea, e, m⟩ : Fm)]).map fmV, .type "tuple", rfl, .inl ?_, dp5, ?_, ?_, fun L nL => ?_⟩
                  · rw [eq1]; exact SqL.of hl2
                  · intro y hy
                    obtain ⟨x, hx, rfl⟩ := List.mem_map.mp hy
                    exact ⟨lay5 x hx, dep_fm x, _, _, rfl, ty_ent x.e⟩
                  · intro y hy z hz
                    obtain ⟨x, _, rfl⟩ := List.mem_map.mp hy
                    obtain ⟨x', _, rfl⟩ := List.mem_map.mp hz
                    exact cmp_fm x x'
                  rw [keyed_fm, List.map_map]
                  have s8 := @same_new _ _ (.lst ((sortFm (fs ++ [(⟨fm, ea, e, m⟩ : Fm)])).map ((fun x : V × PyData => x.1) ∘ fmV))) nL
                  have hL := @upd_same H7 L (.lst ((sortFm (fs ++ [(⟨fm, ea, e, m⟩ : Fm)])).map ((fun x : V × PyData => x.1) ∘ fmV)))
                  have fL : H L = none := s24.free (s47.free nL)
                  have s48 := s47.trans s8
                  have fm8 : ∀ x ∈ fs ++ [(⟨fm, ea, e, m⟩ : Fm)], FmAt _ x := fun x hx => (fm5 x hx).on (TK.of s8)
                  generalize upd H7 L (.lst ((sortFm (fs ++ [(⟨fm, ea, e, m⟩ : Fm)])).map ((fun x : V × PyData => x.1) ∘ fmV))) = H8 at s48 hL fm8 ⊢
                  have mT8 := mT4.same s48
                  refine ⟨_, rfl, d', _, rfl, dput_k mT8.d (by show 4 < sizeLine; decide), ?_⟩
                  rw [mdK_pf]
                  have s9 : Same H (upd H8 d' (.dK (mdK L BL' (clV T.cl) (mdV T.md)))) := same_put nd' (s24.trans s48)
                  have nLd : L ≠ d' := ne_of hL mT8.d (by intro z; cases z)
                  have nBd : BL' ≠ d' := ne_of mT8.b mT8.d (by intro z; cases z)
                  have pe := sortFm_p (fs ++ [(⟨fm, ea, e, m⟩ : Fm)])
                  have kD : TK H8 (upd H8 d' (.dK (mdK L BL' (clV T.cl) (mdV T.md)))) := TK.upd fun ys e => nomatch mT8.d.symm.trans e
                  have ep : (sortFm (fs ++ [(⟨fm, ea, e, m⟩ : Fm)])).map emo = (T.put e m).ps := by
                    rw [sortFm_emo, List.map_append, mdd.e]
                    rfl
                  have lp : (T.put e m).ps.length = T.ps.length + 1 := by
                    show (sortP (T.ps ++ [(e, m)])).length = _
                    rw [(sortP_p _).length_eq, List.length_append]
                    rfl
                  refine ⟨⟨_, _, rfl⟩, L, BL', sortFm (fs ++ [(⟨fm, ea, e, m⟩ : Fm)]), T.put e m, s9, ⟨upd_same, (upd_ne nLd).trans hL, (upd_ne nBd).trans mT8.b, fun x hx => (fm8 x (pe.mem_iff.mp hx)).on kD, ep⟩, .inr fL, hBL, ou, rfl, rfl, fun p hp => ?_, by omega, base_.2⟩
                  rcases List.mem_append.mp ((sortP_p _).mem_iff.mp hp) with z | z
                  · exact o.pw p z
                  · rw [List.mem_singleton.mp z]
                    exact ⟨dw, hm'⟩
        · rintro σ' H3 ⟨⟨y3, y4, rfl⟩, FL2, BL2, fs2, T2, s3, m3, f3, b3, ou, tc, tm, tw, tp, tb⟩
          have md3 := mdd.same s3
          have lf2 : fs2.length = T2.ps.length := by rw [← m3.e, List.length_map]
          refine ⟨_, rfl, d', _, rfl, dget_k m3.d mdK_f, ?_⟩
          refine ⟨_, rfl, _, rfl, d, _, rfl, dget_k md3.d mdK_f, _, rfl, d, _, rfl, dget_k md3.d mdK_b, d, FL, BL, FL, BL, S.cl, mdV S.md, S.md, fs, S.bs, rfl, md3.d, md3.f, md3.fm, md3.b, by omega, fun D1 qr1 H4 s4 hD1 hE1 e1 => ?_⟩
          have m4 := m3.same s4
          have md4 := md3.same s4
          rw [mdd.e] at e1
          refine ⟨_, rfl, _, rfl, _, rfl, d', _, rfl, dget_k m4.d mdK_b, d, FL, BL, FL2, BL2, S.cl, mdV S.md, S.md, fs2, T2.bs, rfl, md4.d, m4.f, m4.fm, m4.b, by omega, fun D2 qr2 H5 s5 hD2 hE2 e2 => ?_⟩
          have m5 := m4.same s5
          rw [m3.e, show (⟨T2.ps, T2.bs, S.cl, S.md⟩ : MS) = T2 by rw [← tc, ← tm]] at e2
          refine ⟨_, rfl, _, _, dpL hD2 hE2 e2, dpL (s5 _ _ hD1) (fun x hx => s5 _ _ (hE1 x hx)) e1, shL so hH tw, shL so hH o.pw, _, rfl, ?_⟩
          rw [eqv_entLL]
          have s35 := s3.trans (s4.trans s5)
          by_cases c1 : closedL T2 = closedL S
          · rw [decide_eq_true c1]
            have am : allowedM S T2 = if 60 < T2.ps.length ∨ 60 < T2.bs.length ∨ 30 < (standP T2.ps T2.bs).length then .many else .ok := if_pos c1
            rw [ou] at q1 q2
            rw [am] at q1 q2
            have cF : (fs2.map fun x => V.ref x.f).length = fs2.length := List.length_map _
            have cB : (T2.bs.map V.str).length = T2.bs.length := List.length_map _
            refine iteF ⟨_, rfl, FL2, _, rfl, .inl (SqL.of m5.f), _, 60, rfl, rfl, _, rfl, ite2 (fun z => ?_) (fun z => ?_)⟩
            · have z : ((fs2.map fun x => V.ref x.f).length : Int) > 60 := of_decide_eq_true z
              rw [if_pos (.inl (by omega))] at q2
              exact q2 (fun z => nomatch z) H5 s35
            · have z : ¬ ((fs2.map fun x => V.ref x.f).length : Int) > 60 := of_decide_eq_false (Bool.eq_false_iff.mpr z)
              refine ⟨_, rfl, d', _, rfl, dget_k m5.d mdK_b, BL2, _, rfl, .inl (SqL.of m5.b), _, 60, rfl, rfl, _, rfl, ite2 (fun z2 => ?_) (fun z2 => ?_)⟩
              · have z2 : ((T2.bs.map V.str).length : Int) > 60 := of_decide_eq_true z2
                rw [if_pos (.inr (.inl (by omega)))] at q2
                exact q2 (fun z => nomatch z) H5 s35
              · have z2 : ¬ ((T2.bs.map V.str).length : Int) > 60 := of_decide_eq_false (Bool.eq_false_iff.mpr z2)
                refine ⟨_, rfl, _, rfl, d', _, rfl, dget_k m5.d mdK_b, FL2, BL2, fs2, T2.bs, rfl, m5.f, m5.fm, .inl m5.b, by omega, fun tp qr H6 s6 h6 hE eq => ?_⟩
                have c3 : (qr.map fun x => V.ref x.1).length = (standP T2.ps T2.bs).length := by
                  rw [List.length_map, ← List.length_map (f := Prod.snd) (as := qr), eq, sortEnt_len, standL_P, m3.e]
                refine ⟨tp, _, rfl, .inr (SqT.of h6), _, 30, rfl, rfl, _, rfl, ite2 (fun z3 => ?_) (fun z3 => ?_)⟩
                · have z3 : ((qr.map fun x => V.ref x.1).length : Int) > 30 := of_decide_eq_true z3
                  rw [if_pos (.inr (.inr (by omega)))] at q2
                  exact q2 (fun z => nomatch z) H6 (s35.trans s6)
                · have z3 : ¬ ((qr.map fun x => V.ref x.1).length : Int) > 30 := of_decide_eq_false (Bool.eq_false_iff.mpr z3)
                  rw [if_neg (by omega)] at q1
                  exact ⟨_, rfl, q1 rfl d' FL2 BL2 fs2 H6 (s35.trans s6) f3 b3 (m5.same s6)⟩
          · rw [decide_eq_false c1]
            have am : allowedM S T2 = .closed := if_neg c1
            rw [ou] at q2
            rw [am] at q2
            exact iteT (q2 (fun z => nomatch z) H5 s35)
end
/-! ### a deed drawn -/
def Ent.setN (n : Str) : Ent → Ent
  | .come _ m g p k r => .come n m g p k r
  | .go _ m g p k => .go n m g p k
  | .move _ m g o t k => .move n m g o t k
  | .some_ _ m g o t => .some_ n m g o t
  | .swap _ m o t => .swap n m o t
  | .count _ m g p k h => .count n m g p k h
  | .look _ m g p => .look n m g p
theorem setN_vals (n : Str) (e : Ent) : e.vals.take 1 ++ [V.str n] ++ e.vals.drop 2 = (e.setN n).vals := by cases e <;> rfl
theorem setN_W {P G HL : List Str} {e : Ent} {n : Str} (h : EntW P G HL e) (hn : nameB n = true) : EntW P G HL (e.setN n) := by
  obtain ⟨_, a, b, c⟩ := h
  cases e <;> exact ⟨hn, a, b, c⟩
def spLDeed : Sp := fun vs H Q _ => ∃ (p c : Addr) (n : Nat) (w : Addr) (B : List Nat) (sp t : Nat) (st a1 a2 : Addr) (P G : List Str) (d FL BL : Addr) (fs : List Fm) (S : MS) (k : Nat), vs = [.ref p, .ref w, .ref st, .ref d, .int (k : Int)] ∧ PenAt H p c n ∧ n ≤ 70000 ∧ WdAt H w B sp t ∧ StAt H st a1 a2 P G ∧ StOk P G ∧ k < 200 ∧
  MdAt H d FL BL fs S ∧ FL ≠ p ∧ BL ≠ p ∧ OkM P G (nmsC B sp t 0 3) S ∧
  ∀ (xa : Addr) (x : Dd) (H' : Hp), DdAt H' xa x → DdW P G (nmsC B sp t 0 3) x → DdN x → PenAt H' p c (n + 30) → But p H H' → Q (.ref xa) H'
section
variable {P : Program} {w : World} {K : PySem.W.Frag} {mg : Str → Option Value} {base : Heap}
abbrev sLDeedN : List Str := ["_law_pen_here", "_law_words_here", "_law_stand_here", "_law_model_here", "_law_k", "_law_way", "_law_spot", "_law_few", "_law_entry_here", "_law_first", "_law_day", "_law_earlier"]
theorem sc_sLDeed : FnScope sLDeedN ["_law_pen_here", "_law_words_here", "_law_stand_here", "_law_model_here", "_law_k"] (defScope sLDeed) := ⟨rfl, rfl, rfl, by decide +kernel, rfl, by decide +kernel, by decide +kernel⟩
set_option maxHeartbeats 4000000 in
theorem ok_ldeed {f fT fE fN : Addr} {fd dT dE dN : FuncData} (F : Fun K "_law_deed" "_law_deed" sLDeed f fd) (T : DefT P w K mg base "_law_draw" 1 fT dT ["_law_pen_here", "_law_many_here"] spDraw) (EN : DefT P w K mg base "_law_entry" 3 fE dE ["_law_pen_here", "_law_words_here", "_law_stand_here", "_law_number"] spEntry)
    (LN : DefT P w K mg base "_law_name" 1 fN dN ["_law_words_here", "_law_number"] spLName) (ml : mg "len" = none) (mx : mg "max" = none) :
    FnOk P w K mg base CX0 4 f fd ["_law_pen_here", "_law_words_here", "_law_stand_here", "_law_model_here", "_law_k"] spLDeed := by
  refine F.ok sc_sLDeed (fun vs H Q E h => ?_) (fun cdv A outer s H vs Q E hr h => ?_)
  · obtain ⟨p, c, n, wd, B, sp, t, st, a1, a2, Ps, G, d, FL, BL, fs, S, k, rfl, _⟩ := h
    rfl
  · obtain ⟨p, c, n, wd, B, sp, t, st, a1, a2, Ps, G, d, FL, BL, fs, S, k, rfl, pen, hn, hw, hs, so, hk, md, nF, nB, o, q⟩ := h
    have hu := hu_of hr
    have nd := sc_sLDeed.nd
    have hr1 : Room 1 _ := hr.mono (by decide)
    refine ⟨_, pss_cons (ps_set (i := 5) nd rfl (Or.inl rfl) (pe_call T.ok hr1 (by rfl) T.g T.kp T.b .nil pass0 (pa_cons (pv 0) (pa_cons pe_int pa_nil))))
      (pss_cons (ps_set (i := 6) nd rfl (Or.inl rfl) (pe_call T.ok hr1 (by rfl) T.g T.kp T.b .nil pass0 (pa_cons (pv 0) (pa_cons (pe_callB (call_max2 rfl) (by rfl) mx (by decide +kernel) (pa_cons pe_int (pa_cons (pe_callB call_len_seq (by rfl) ml PySem.boot_len (pa_cons (pe_dget hu (pv 3) pe_str (fun _ _ => rfl)) pa_nil)) pa_nil))) pa_nil))))
      (pss_cons (ps_set (i := 7) nd rfl (Or.inl rfl) (pe_call T.ok hr1 (by rfl) T.g T.kp T.b .nil pass0 (pa_cons (pv 0) (pa_cons pe_int pa_nil))))
      (pss_cons (ps_set (i := 8) nd rfl (Or.inl rfl) (pe_call EN.ok hr (by rfl) EN.g EN.kp EN.b .nil pass0 (pa_cons (pv 0) (pa_cons (pv 1) (pa_cons (pv 2) (pa_cons (pv 4) pa_nil))))))
      (pss_cons (ps_if (pt_cmpR op_eq (pv 5) pe_int (nomark _)) (pss_cons (ps_set (i := 9) nd rfl (Or.inl rfl) pe_int)
        (C8.pss_cut (ps_if (pt_cmpR op_notN (pe_dget hu (pv 3) pe_str (fun _ _ => rfl)) pe_non (by rfl)) (pss_one (ps_set (i := 9) nd rfl (Or.inl rfl) (pe_op op_add (pe_dget hu (pv 3) pe_str (fun _ _ => rfl)) pe_int))) pss_nil)
        (pss_cons (ps_set (i := 10) nd rfl (Or.inl rfl) (pe_ix ix_list (pe_lst (pa_cons (pv 9) (pa_cons (pv 9) (pa_cons (pe_op op_add (pv 9) (pv 7)) (pa_cons (pe_call T.ok hr1 (by rfl) T.g T.kp T.b .nil pass0 (pa_cons (pv 0) (pa_cons pe_int pa_nil))) pa_nil))))) (pv 7) (fun _ _ => rfl)))
        (pss_one (ps_ret (pe_tup (pa_cons pe_str (pa_cons (pv 10) (pa_cons (pe_ix ix_list (pe_lst (pa_cons pe_str (pa_cons pe_str pa_nil))) (pe_call T.ok hr1 (by rfl) T.g T.kp T.b .nil pass0 (pa_cons (pv 0) (pa_cons pe_int pa_nil))) (fun _ _ => rfl)) pa_nil))))))))) pss_nil)
      (pss_cons (ps_if (pt_cmpR op_eq (pv 5) pe_int (nomark _)) (pss_one (ps_ret (pe_tup (pa_cons pe_str (pa_cons (pe_call LN.ok hr1 (by rfl) LN.g LN.kp LN.b .nil pass0 (pa_cons (pv 1) (pa_cons (pe_call T.ok hr1 (by rfl) T.g T.kp T.b .nil pass0 (pa_cons (pv 0) (pa_cons (pe_op op_add (pv 4) pe_int) pa_nil))) pa_nil))) pa_nil))))) pss_nil)
      (C8.pss_cut (ps_if (PW.pt (pw_and (pt_cmpR op_lt (pv 5) pe_int (nomark _)) (pw_and1 (pt_cmpR (op_neD hr.units) (pe_dget hu (pv 3) pe_str (fun _ _ => rfl)) (pe_lst pa_nil) (nomark _))))) (pss_cons (ps_set (i := 11) nd rfl (Or.inl rfl) (pe_ix ix_tup (pe_ix ix_list (pe_dget hu (pv 3) pe_str (fun _ _ => rfl)) (pv 6) (fun _ _ => rfl)) pe_int (fun _ _ => rfl)))
        (pss_one (ps_set (i := 8) nd rfl (Or.inl rfl) (pe_ix ix_list (pe_lst (pa_cons (pv 11) (pa_cons (pe_op op_catS (pe_op op_catS (pe_slice sl_S (pv 8) po_none (po_some pe_int)) (pe_tup (pa_cons (pe_ix ix_tup (pv 11) pe_int (fun _ _ => rfl)) pa_nil))) (pe_slice sl_S (pv 8) (po_some pe_int) po_none)) pa_nil))) (pe_op op_sub (pv 5) pe_int) (fun _ _ => rfl))))) pss_nil)
      (pss_one (ps_ret (pe_tup (pa_cons pe_str (pa_cons (pv 8) pa_nil))))))))))), ?_⟩
    have hH := nmsC_names hw.ok (lo := 0) (m := 3) (by omega)
    have lf := o.lf
    have lfs : fs.length = S.ps.length := by rw [← md.e, List.length_map]
    have cF : (fs.map fun x => V.ref x.f).length = fs.length := List.length_map _
    refine ⟨_, rfl, p, c, n, 8, rfl, pen, by omega, by decide, by decide, fun r1 H1 b1 d1 pen1 bt1 => ?_⟩
    have md1 := md.kp pen (Kp.but bt1) nF nB
    refine ⟨_, rfl, _, rfl, d, _, rfl, dget_k md1.d mdK_f, FL, _, rfl, .inl (SqL.of md1.f), 1, _, rfl, p, c, _, _, rfl, pen1, by omega, by rw [cF]; split <;> omega, by rw [cF]; split <;> omega, fun r2 H2 b2 d2 pen2 bt2 => ?_⟩
    rw [cF] at d2
    refine ⟨_, rfl, p, c, _, 4, rfl, pen2, by omega, by decide, by decide, fun r3 H3 b3 d3 pen3 bt3 => ?_⟩
    have bt13 := bt1.tr (bt2.tr bt3)
    have hw3 := hw.on (TK.pen pen bt13)
    have hs3 := hs.on (TK.pen pen bt13)
    refine ⟨_, rfl, _, rfl, _, rfl, _, rfl, p, c, _, wd, B, sp, t, st, a1, a2, Ps, G, k, rfl, pen3, by omega, hw3, hs3, so, by omega, fun ea e H4 nea hea en m0 m1 fr pen4 bt4 => ?_⟩
    have ew : EntW Ps G (nmsC B sp t 0 3) e := ⟨by rw [en]; exact nmC_name hw.ok (by omega), m0, m1, fr⟩
    have bt14 := bt13.tr bt4
    have md4 := md.kp pen (Kp.but bt14) nF nB
    have hw4 := hw.on (TK.pen pen bt14)
    refine ⟨_, rfl, rfl, _, rfl, ?_⟩
    by_cases z0 : r1 = 0
    · rw [decide_eq_true (congrArg V.int z0)]
      refine iteT ⟨fun σ' H' => ∃ f : Int, σ' = [some (.ref p), some (.ref wd), some (.ref st), some (.ref d), some (.int (k : Int)), some (.int r1), some (.int r2), some (.int r3), some (.ref ea), some (.int f), none, none] ∧ H' = H4 ∧ 0 ≤ f ∧ f ≤ 100, ?_, ?_⟩
      · refine ⟨_, rfl, d, _, rfl, dget_k md4.d mdK_c, rfl, _, rfl, ?_⟩
        rcases o.cm with ⟨e1, _⟩ | ⟨k', m', e1, k0, k1, _⟩
        · rw [show (!decide (clV S.cl = V.non)) = false by rw [e1]; rfl]
          exact iteF ⟨0, rfl, rfl, by decide, by decide⟩
        · rw [show (!decide (clV S.cl = V.non)) = true by rw [e1]; rfl]
          exact iteT ⟨_, rfl, d, _, rfl, dget_k md4.d mdK_c, k', 1, (by rw [e1]; rfl), rfl, k' + 1, rfl, rfl, by omega, by omega⟩
      · rintro σ' H' ⟨f, rfl, rfl, f0, f1⟩
        refine ⟨_, rfl, _, rfl, _, rfl, _, rfl, f, r3, rfl, rfl, _, rfl, p, c, _, 100, rfl, pen4, by omega, by decide, by decide, fun r5 H5 b5 d5 pen5 bt5 => ⟨(by show 4 ≤ sizeLine; decide), fun l nl => ?_⟩⟩
        have s6 := @same_new _ _ (.lst [V.int f, .int f, .int (f + r3), .int r5]) nl
        have hl := @upd_same H5 l (.lst [V.int f, .int f, .int (f + r3), .int r5])
        generalize upd H5 l (.lst [V.int f, .int f, .int (f + r3), .int r5]) = H6 at s6 hl ⊢
        obtain ⟨dd, h1, h2⟩ := at_ints (ns := [f, f, f + r3, r5]) (r := r3) b3 (by show r3 < 4; omega)
        have hdd : 0 ≤ dd := by
          simp only [List.mem_cons, List.not_mem_nil, or_false] at h2
          rcases h2 with rfl | rfl | rfl | rfl <;> omega
        refine ⟨_, rfl, l, _, _, _, rfl, rfl, SqL.of hl, h1, ?_⟩
        refine ⟨_, rfl, (by show 2 ≤ sizeLine; decide), fun l2 nl2 => ?_⟩
        have s7 := @same_new _ _ (.lst [V.str "refuse", .str "up"]) nl2
        have hl2 := @upd_same H6 l2 (.lst [V.str "refuse", .str "up"])
        generalize upd H6 l2 (.lst [V.str "refuse", .str "up"]) = H7 at s7 hl2 ⊢
        have s57 := s6.trans s7
        have pen7 := pen5.same s57
        have nl2p : l2 ≠ p := fun z => pen5.there (s6.free (z ▸ nl2))
        refine ⟨_, rfl, p, c, _, 2, rfl, pen7, by omega, by decide, by decide, fun r6 H8 b6 d6 pen8 bt8 => ?_⟩
        obtain ⟨m, hm, hm2⟩ : ∃ m : Str, atI [V.str "refuse", .str "up"] r6 = some (.str m) ∧ (m = "refuse" ∨ m = "up") := by
          have : r6 = 0 ∨ r6 = 1 := by omega
          rcases this with rfl | rfl
          · exact ⟨_, atI_nat (j := 0) rfl, .inl rfl⟩
          · exact ⟨_, atI_nat (j := 1) rfl, .inr rfl⟩
        refine ⟨l2, _, _, _, rfl, rfl, SqL.of (bt8 _ _ hl2 nl2p), hm, (by show 3 ≤ sizeLine; decide), fun xa nxa => ?_⟩
        have s9 := @same_new _ _ (.tup [V.str "close", .int dd, .str m]) nxa
        exact q xa (.close dd m) _ upd_same hm2 hdd ((pen8.mono (by omega)).same s9) (bt14.tr (bt5.tr ((But.of s57).tr (bt8.tr (.of s9)))))
    · rw [decide_eq_false fun z => z0 (V.int.inj z)]
      refine iteF ⟨_, rfl, rfl, _, rfl, ?_⟩
      by_cases z1 : r1 = 1
      · rw [decide_eq_true (congrArg V.int z1)]
        refine iteT ⟨_, rfl, _, rfl, _, rfl, k, 2, rfl, rfl, p, c, _, _, rfl, pen4, by omega, by omega, by omega, fun r5 H5 b5 d5 pen5 bt5 => ?_⟩
        have hw5 := hw4.on (TK.pen pen4 bt5)
        refine ⟨wd, B, sp, t, r5.toNat, (by rw [Int.toNat_of_nonneg b5]; rfl), hw5, by omega, (by show 2 ≤ sizeLine; decide), fun xa nxa => ?_⟩
        have s6 := @same_new _ _ (.tup [V.str "back", .str (sc (nmC B sp t r5.toNat))]) nxa
        exact q xa (.back _) _ upd_same (nmC_name hw.ok (by omega)) trivial ((pen5.mono (by omega)).same s6) (bt14.tr (bt5.tr (.of s6)))
      · rw [decide_eq_false fun z => z1 (V.int.inj z)]
        refine iteF ⟨fun σ' H' => ∃ (ea' : Addr) (e' : Ent) (y11 : Option V), σ' = [some (.ref p), some (.ref wd), some (.ref st), some (.ref d), some (.int (k : Int)), some (.int r1), some (.int r2), some (.int r3), some (.ref ea'), none, none, y11] ∧ H' ea' = some (.tup e'.vals) ∧ EntW Ps G (nmsC B sp t 0 3) e' ∧ PenAt H' p c (n + 29) ∧ But p H H', ?_, ?_⟩
        · refine ⟨_, rfl, r1, 4, rfl, rfl, _, rfl, ite2 (fun z => ?_) (fun z => ⟨ea, e, _, rfl, hea, ew, pen4.mono (by omega), bt14⟩)⟩
          have z : r1 < 4 := of_decide_eq_true z
          refine ⟨_, rfl, d, _, rfl, dget_k md4.d mdK_f, Nat.zero_le _, fun l0 nl0 => ?_⟩
          have s5 := @same_new _ _ (.lst []) nl0
          have md5 := md4.same s5
          have me : ∀ x ∈ fs, EntW Ps G (nmsC B sp t 0 3) x.e := fun x hx => (o.pw (emo x) (by rw [← md.e]; exact List.mem_map.mpr ⟨x, hx, rfl⟩)).1
          have gl : PyData.canLayAll0 (fs.map formD) = true := lay_all fun d hd => by
            obtain ⟨x, hx, rfl⟩ := List.mem_map.mp hd
            exact (me x hx).layP (p := emo x) so hH
          have gd : PyData.depthAll (fs.map formD) ≤ 2 := depth_all fun d hd => by
            obtain ⟨x, hx, rfl⟩ := List.mem_map.mp hd
            exact Nat.le_of_eq (formP_depth (emo x))
          refine ⟨.list (fs.map formD), .list [], .lst (SqL.of md5.f) (fms_dp md5.fm), .lst (SqL.of upd_same) .nil, ?_, rfl, _, rfl, ?_⟩
          · unfold SeqAt.shaped
            rw [PyData.canLay0, gl, PyData.depth, decide_eq_true (by omega)]
            rfl
          have pen5 := pen4.same s5
          have bt5 : But p H4 (upd H4 l0 (.lst [])) := .of s5
          have hea5 := s5 _ _ hea
          generalize upd H4 l0 (.lst []) = H5 at pen5 bt5 md5 hea5
          by_cases z2 : fs = []
          · rw [z2]
            exact iteF ⟨ea, e, _, rfl, hea5, ew, pen5.mono (by omega), bt14.tr bt5⟩
          · have : PyData.eqv (.list (fs.map formD)) (.list []) = false := by
              cases fs with
              | nil => exact absurd rfl z2
              | cons g r => rw [List.map_cons, PyData.eqv, PyData.eqvAll]
            rw [this]
            have lg0 : 0 < fs.length := List.length_pos_iff.mpr z2
            have d2' : r2 < (fs.length : Int) := by
              split at d2 <;> omega
            obtain ⟨y, hy, my⟩ := at_ex (xs := fs) (r := r2) b2 d2'
            have fy := md5.fm y my
            have hy4 : atI (fs.map fun x => V.ref x.f) r2 = some (V.ref y.f) := by
              have lt : r2.toNat < fs.length := by omega
              have e : ((r2.toNat : Nat) : Int) = r2 := by omega
              rw [← e] at hy ⊢
              rw [atI_nat (List.getElem?_eq_getElem lt)] at hy
              refine atI_nat ?_
              rw [List.getElem?_map, List.getElem?_eq_getElem lt, Option.some.inj hy]
              rfl
            refine iteT ⟨_, rfl, d, _, rfl, dget_k md5.d mdK_f, _, rfl, FL, _, _, _, rfl, rfl, SqL.of md5.f, hy4, y.f, _, 0, _, rfl, rfl, SqT.of fy.f, atI_nat (j := 0) rfl, ?_⟩
            refine ⟨_, rfl, _, rfl, 1, rfl, ea, _, rfl, hea5, fun t1 H6 s6 h6 => ?_⟩
            have c1 : cutV e.vals none (some (1 : Int)) = e.vals.take 1 := cut_head (k := 1)
            rw [c1] at h6
            refine ⟨_, rfl, y.ea, _, 1, _, rfl, rfl, SqT.of (s6 _ _ fy.e), at1 y.e, (by show 1 ≤ sizeLine; decide), fun t2 nt2 => ?_⟩
            have s7 := @same_new _ _ (.tup [V.str y.e.name]) nt2
            have l1 : (e.vals.take 1).length = 1 := by
              rw [List.length_take]
              have := (vals_len_e e).1
              omega
            refine ⟨t1, t2, _, _, rfl, rfl, s7 _ _ h6, upd_same, (by intro z; rw [z] at l1; cases l1), (by rw [l1]; show 1 + 1 ≤ sizeLine; decide), fun t3 H8 s8 h8 => ?_⟩
            have s68 := (s6.trans s7).trans s8
            refine ⟨_, rfl, 2, rfl, ea, _, rfl, s68 _ _ hea5, fun t4 H9 s9 h9 => ?_⟩
            have c2 : cutV e.vals (some (2 : Int)) none = e.vals.drop 2 := cut_tail (k := 2)
            rw [c2] at h9
            refine ⟨t3, t4, _, _, rfl, rfl, s9 _ _ h8, h9, (by intro z; have := congrArg List.length z; rw [List.length_append, l1] at this; cases this), ?_, fun t5 H10 s10 h10 => ?_⟩
            · rw [List.length_append, l1, List.length_drop]
              have := (vals_len_e e).2
              have bg : 100 ≤ sizeLine := by decide
              show 1 + 1 + _ ≤ _
              omega
            rw [setN_vals] at h10
            refine ⟨(by show 2 ≤ sizeLine; decide), fun l1 nl1 => ?_⟩
            have s11 := @same_new _ _ (.lst [V.ref y.ea, .ref t5]) nl1
            have sA := s68.trans (s9.trans (s10.trans s11))
            have ey := me y my
            have penZ := (pen5.mono (m := n + 29) (by omega)).same sA
            have btZ := (bt14.tr bt5).tr (.of sA)
            have r01 : r1 = 2 ∨ r1 = 3 := by omega
            refine ⟨_, rfl, r1, 2, rfl, rfl, l1, [V.ref y.ea, .ref t5], r1 - 2, ?_⟩
            rcases r01 with rfl | rfl
            · exact ⟨_, rfl, rfl, SqL.of upd_same, atI_nat (j := 0) rfl, y.ea, y.e, _, rfl, sA _ _ fy.e, ey, penZ, btZ⟩
            · exact ⟨_, rfl, rfl, SqL.of upd_same, atI_nat (j := 1) rfl, t5, e.setN y.e.name, _, rfl, s11 _ _ h10, setN_W ew ey.nm, penZ, btZ⟩
        · rintro σ' H' ⟨ea', e', y11, rfl, he', ew', pen', bt'⟩
          refine ⟨_, rfl, (by show 2 ≤ sizeLine; decide), fun xa nxa => ?_⟩
          have s6 := @same_new _ _ (.tup [V.str "enter", .ref ea']) nxa
          exact q xa (.enter e') _ ⟨ea', upd_same, s6 _ _ he'⟩ ew' trivial ((pen'.mono (by omega)).same s6) (bt'.tr (.of s6))
end
/-! ### is_entry, asked of anything -/
/-- a thing of the usual kinds -/
inductive Thg (H : Hp) : V → Prop where
  | str (z : Str) (h : z.length ≤ 1000) : Thg H (.str z)
  | int (i : Int) : Thg H (.int i)
  | bl (b : Bool) : Thg H (.bl b)
  | non : Thg H .non
  | lst {a : Addr} {xs : List V} (h : H a = some (.lst xs)) : Thg H (.ref a)
  | tup {a : Addr} {xs : List V} (h : H a = some (.tup xs)) : Thg H (.ref a)
  | dct {a : Addr} {kvs : List (Key × V)} (h : H a = some (.dK kvs)) : Thg H (.ref a)
theorem Thg.on {H H' : Hp} {v : V} (k : ∀ a o, v = .ref a → H a = some o → (∀ ps, o ≠ .tbl ps) → H' a = some o) (t : Thg H v) : Thg H' v := by
  cases t with
  | str z h => exact .str z h
  | int i => exact .int i
  | bl b => exact .bl b
  | non => exact .non
  | lst h => exact .lst (k _ _ rfl h fun ps z => nomatch z)
  | tup h => exact .tup (k _ _ rfl h fun ps z => nomatch z)
  | dct h => exact .dct (k _ _ rfl h fun ps z => nomatch z)
theorem Thg.of_part {H : Hp} {v : V} (p : Part v) : Thg H v := by
  rcases p with ⟨z, rfl, h⟩ | ⟨i, rfl⟩
  · exact .str z h
  · exact .int i
/-- the built-in kind of a thing -/
theorem Thg.ty {K : PySem.W.Frag} {H : Hp} {v : V} (t : Thg H v) : ∃ n : String, TyX K H v (.type n) ∧ n ∈ ["str", "int", "bool", "NoneType", "list", "tuple", "dict"] ∧ (n = "str" ↔ ∃ z, v = .str z) ∧ (n = "tuple" ↔ ∃ a xs, v = .ref a ∧ H a = some (.tup xs)) := by
  have no : ∀ {p q : Prop}, ¬ p → ¬ q → (p ↔ q) := fun a b => ⟨fun x => absurd x a, fun x => absurd x b⟩
  cases t with
  | str z h => exact ⟨"str", .base (.str z), by decide, ⟨fun _ => ⟨z, rfl⟩, fun _ => rfl⟩, no (by decide) (fun ⟨_, _, e, _⟩ => nomatch e)⟩
  | int i => exact ⟨"int", .base (.int i), by decide, no (by decide) (fun ⟨_, e⟩ => nomatch e), no (by decide) (fun ⟨_, _, e, _⟩ => nomatch e)⟩
  | bl b => exact ⟨"bool", .base (.bl b), by decide, no (by decide) (fun ⟨_, e⟩ => nomatch e), no (by decide) (fun ⟨_, _, e, _⟩ => nomatch e)⟩
  | non => exact ⟨"NoneType", .base .non, by decide, no (by decide) (fun ⟨_, e⟩ => nomatch e), no (by decide) (fun ⟨_, _, e, _⟩ => nomatch e)⟩
  | lst h => exact ⟨"list", .base (.lst h), by decide, no (by decide) (fun ⟨_, e⟩ => nomatch e), no (by decide) (fun ⟨_, _, e, h2⟩ => by cases e; rw [h] at h2; exact nomatch h2)⟩
  | tup h => exact ⟨"tuple", .base (.tup h), by decide, no (by decide) (fun ⟨_, e⟩ => nomatch e), ⟨fun _ => ⟨_, _, rfl, h⟩, fun _ => rfl⟩⟩
  | dct h => exact ⟨"dict", .base (.dK h), by decide, no (by decide) (fun ⟨_, e⟩ => nomatch e), no (by decide) (fun ⟨_, _, e, h2⟩ => by cases e; rw [h] at h2; exact nomatch h2)⟩
theorem kit_str {n : String} (m : n ∈ ["str", "int", "bool", "NoneType", "list", "tuple", "dict"]) : kitB n "str" = some (decide (n = "str")) := by
  simp only [List.mem_cons, List.not_mem_nil, or_false] at m
  rcases m with rfl | rfl | rfl | rfl | rfl | rfl | rfl <;> decide +kernel
theorem kit_tup {n : String} (m : n ∈ ["str", "int", "bool", "NoneType", "list", "tuple", "dict"]) : kitB n "tuple" = some (decide (n = "tuple")) := by
  simp only [List.mem_cons, List.not_mem_nil, or_false] at m
  rcases m with rfl | rfl | rfl | rfl | rfl | rfl | rfl <;> decide +kernel
namespace EqE
open PySem PySem.Spec in
theorem no_str (t : Str) (u : Tok) (l : Addr) (es : Array DictEntry) (n : Nat) (od : Option Addr) (sl : Array (Option Value)) :
    Meets (Builtin.«str.__eq__» ⟨[.str t u, .ref l], []⟩) (fun _ R z => z.heap.get? l = some ⟨.type "dict", od, .dict es n, sl⟩ ∧ R (.ok (.ret .notImplemented)) z) := by
  refine .of_wp fun prog w A R z h => ?_
  obtain ⟨hp, g, d, tk, os⟩ := z
  obtain ⟨hl, h⟩ := h
  wp_walk using wpAny_loadPart' hl, wpAny_load hl
  exact ⟨_, rfl, h⟩
theorem no_dict (t : Str) (u : Tok) (l : Addr) (es : Array DictEntry) (n : Nat) (od : Option Addr) (sl : Array (Option Value)) :
    Meets (Builtin.«dict.__eq__» ⟨[.ref l, .str t u], []⟩) (fun _ R z => z.heap.get? l = some ⟨.type "dict", od, .dict es n, sl⟩ ∧ R (.ok (.ret .notImplemented)) z) := by
  refine .of_wp fun prog w A R z h => ?_
  obtain ⟨hp, g, d, tk, os⟩ := z
  obtain ⟨hl, h⟩ := h
  have f1 := F.sub_str_dict
  wp_walk using wpAny_loadPart' hl, wpAny_load hl
  exact ⟨_, rfl, h⟩
theorem dict_txt {prog : Program} {w : World} {A : Around} {E : Value → Shared → Prop} {z : Shared} {Q : Value → Shared → Prop} {t : Str} {u : Tok} {l : Addr} {es : Array DictEntry} {n : Nat} {od : Option Addr} {sl : Array (Option Value)} (ho : z.heap.get? l = some ⟨.type "dict", od, .dict es n, sl⟩) (hu : A.units < cLine) (h : Q (.bool false) z) :
    wpAny (model prog w) A (compareOp .Eq (.ref l) (.str t u)) Q E z :=
  SeqAt.rc_eq_decline_or (k := false) ⟨_, ho, rfl⟩ (typeIs_str z t u) (by decide) F.sub_str_dict F.slot_dict_eq F.slot_str_eq_refl
    (fun _ hq => call_meets F.slot_dict_eq ⟨_, ho, rfl⟩ F.entry_dict_eq (F.args_dict_eq_2 _ _) (no_dict t u l es n od sl) ⟨ho, hq⟩)
    (fun _ hq => call_meets F.slot_str_eq_refl (typeIs_str z t u) F.entry_str_eq (F.args_str_eq_2 _ _) (no_str t u l es n od sl) ⟨ho, hq⟩)
    (fun _ hq => wpAny_of_eq (rfl : isSame (.ref l) (.str t u) = pure false) hq) (.inr hu) h
def rEqE : R2 := fun x y G W => ∃ s, y = V.str s ∧ Thg G x ∧ W (V.bl (decide (x = V.str s))) G
theorem op_eqE {X : Cx} (hu : X.A.units + 64 < cLine) : OpR X (compareOp .Eq) rEqE := by
  rintro pins z τ G x y v u W I rx ry ⟨s, rfl, th, q⟩
  obtain ⟨t, rfl⟩ : ∃ t, u = Value.str s t := ry
  cases th with
  | str z' h => exact op_eq pins z τ G (V.str z') (V.str s) v _ W I rx ⟨t, rfl⟩ ⟨rfl, q⟩
  | int i => exact op_eq pins z τ G (V.int i) (V.str s) v _ W I rx ⟨t, rfl⟩ ⟨rfl, q⟩
  | bl i => exact op_eq pins z τ G (V.bl i) (V.str s) v _ W I rx ⟨t, rfl⟩ ⟨rfl, q⟩
  | non => exact op_eq pins z τ G V.non (V.str s) v _ W I rx ⟨t, rfl⟩ ⟨rfl, q⟩
  | @lst a xs h =>
    obtain rfl : v = Value.ref a := rx
    rw [decide_eq_false fun q => nomatch q] at q
    obtain ⟨its, rv, pl, hz⟩ := I.list (SqL.of h)
    exact SeqAt.RcAt.list_str s t pl.isList (by omega) _ _ _ _ ⟨.bl false, G, I, rfl, q⟩
  | @tup a xs h =>
    obtain rfl : v = Value.ref a := rx
    rw [decide_eq_false fun q => nomatch q] at q
    obtain ⟨its, rv, pl, hz⟩ := I.tuple (SqT.of h)
    exact SeqAt.RcAt.tuple_str s t pl (by omega) _ _ _ _ ⟨.bl false, G, I, rfl, q⟩
  | @dct a kvs h =>
    obtain rfl : v = Value.ref a := rx
    rw [decide_eq_false fun q => nomatch q] at q
    obtain ⟨_, _, vs, _, o, es, ep, h1, h2, h3, _⟩ := (show ObjOk X.prog X.w G z.heap a (.dK kvs) from I.hok a _ h)
    obtain ⟨oc, od, dt, sl⟩ := o
    have z1 := h2.1
    dsimp only at z1 h3
    subst z1 h3
    exact dict_txt h1 (by omega) ⟨.bl false, G, I, rfl, q⟩
end EqE
/-- the words of the forms alone are keys -/
theorem forms_only {K : PySem.W.Frag} {a : Addr} {es : Array DictEntry} {n : Nat} (h : K.lookup a = some ⟨.type "dict", none, .dict es n, #[]⟩) (k : (es.toList.all fun e => match e.key with | .str s _ => words7.any fun y => s == y | _ => false) = true) (z : Str) (nz : z ∉ words7) : PySem.W.nsIn K a z = some none := by
  have all := List.all_eq_true.mp k
  have ks : ∀ e ∈ es.toList, ∃ s t, e.key = .str s t ∧ s ∈ words7 := fun e he => by
    have := all e he
    cases ek : e.key with
    | str s t =>
      rw [ek] at this
      obtain ⟨y, hy, e2⟩ := List.any_eq_true.mp this
      exact ⟨s, t, rfl, by rw [eq_of_beq e2]; exact hy⟩
    | _ => rw [ek] at this; exact nomatch this
  unfold PySem.W.nsIn
  rw [h]
  dsimp only
  have f1 : es.toList.find? (fun e => e.key.isStr z) = none := by
    rw [List.find?_eq_none]
    intro e he q
    obtain ⟨s, t, ek, hs⟩ := ks e he
    rw [ek] at q
    have q2 : (s == z) = true := q
    exact nz (by rw [← eq_of_beq q2]; exact hs)
  rw [f1]
  have f2 : es.toList.any (fun e => e.refKey) = false := by
    rw [List.any_eq_false]
    intro e he q
    obtain ⟨s, t, ek, hs⟩ := ks e he
    unfold DictEntry.refKey at q
    rw [ek] at q
    exact Bool.false_ne_true q
  dsimp only
  rw [f2]
  rfl
def spWholeA : Sp := fun vs H Q _ => ∃ v : V, vs = [v] ∧ Thg H v ∧ Q (.bl (match v with | .int _ => true | _ => false)) H
def spFitsA (T1 : Addr) : Sp := fun vs H Q _ => ∃ (v : V) (x : Str), vs = [v, .str x] ∧ Thg H v ∧ x ∈ sorts6 ∧ GxR.TabG H T1 ∧ ∀ H', GxR.Tabbed T1 H H' → Q (.bl (fitB v x)) H'
/-- the parts of an entry -/
def IsE (xs : List V) : Prop := ∃ e : Ent, e.Fine ∧ xs = e.vals
/-- what is an entry, and what is none -/
def spIsEntryA (T1 T2 : Addr) : Sp := fun vs H Q _ => ∃ v : V, vs = [v] ∧ GxR.TabG H T1 ∧ GxR.TabG H T2 ∧
  ((Thg H v ∧ (∀ a xs, v = .ref a → H a ≠ some (.tup xs)) ∧ ∀ H', TB2 T1 T2 H H' → Q (.bl false) H') ∨
   ∃ (a : Addr) (xs : List V), v = .ref a ∧ H a = some (.tup xs) ∧ xs.length ≤ 1000 ∧ (∀ x ∈ xs, Thg H x) ∧ (IsE xs → ∀ H', TB2 T1 T2 H H' → Q (.bl true) H') ∧ (¬ IsE xs → ∀ H', TB2 T1 T2 H H' → Q (.bl false) H'))
theorem vals_len (e : Ent) : e.vals.length = e.sorts.length + 1 := by cases e <;> rfl
theorem sorts_word {e f : Ent} (h : e.word = f.word) : e.sorts = f.sorts := by
  cases e <;> cases f <;> first
    | rfl
    | (exact absurd h (wno (by decide +kernel)))
theorem word_of {z : Str} (h : z ∈ words7) : ∃ e : Ent, e.word = z := by
  simp only [words7, List.mem_cons, List.not_mem_nil, or_false] at h
  rcases h with rfl | rfl | rfl | rfl | rfl | rfl | rfl
  · exact ⟨.come "" 0 "" "" 0 0, rfl⟩
  · exact ⟨.go "" 0 "" "" 0, rfl⟩
  · exact ⟨.move "" 0 "" "" "" 0, rfl⟩
  · exact ⟨.some_ "" 0 "" "" "", rfl⟩
  · exact ⟨.swap "" 0 "" "", rfl⟩
  · exact ⟨.count "" 0 "" "" 0 "", rfl⟩
  · exact ⟨.look "" 0 "" "", rfl⟩
theorem fit_str {v : V} {x : Str} (h : fitB v x = true) (hx : x = "name" ∨ x = "end") : ∃ s, v = .str s := by
  rcases hx with rfl | rfl
  · unfold fitB at h
    rw [if_pos rfl] at h
    cases v with
    | str s => exact ⟨s, rfl⟩
    | _ => exact nomatch h
  · unfold fitB at h
    rw [if_neg ken, if_pos rfl] at h
    cases v with
    | str s => exact ⟨s, rfl⟩
    | int i => simp [nmV] at h
    | bl i => simp [nmV] at h
    | non => simp [nmV] at h
    | ref i => simp [nmV] at h
    | _ => simp [nmV] at h
theorem fit_int {v : V} {x : Str} (h : fitB v x = true) (hx : x ∈ sorts4) : ∃ i, v = .int i := by
  have n1 : x ≠ "name" ∧ x ≠ "end" := by
    simp only [sorts4, List.mem_cons, List.not_mem_nil, or_false] at hx
    rcases hx with rfl | rfl | rfl | rfl
    · exact ⟨kmn, kme⟩
    · exact ⟨kyn, kye⟩
    · exact ⟨kcn, kce⟩
    · exact ⟨kpn, kpe⟩
  unfold fitB at h
  rw [if_neg n1.1, if_neg n1.2] at h
  cases v with
  | int i => exact ⟨i, rfl⟩
  | _ => exact nomatch h
theorem fit_part {H : Hp} {v : V} {x : Str} (t : Thg H v) (h : fitB v x = true) (hx : x ∈ sorts6) : Part v := by
  have : (∃ s, v = .str s) ∨ ∃ i, v = .int i := by
    simp only [sorts6, List.mem_cons, List.not_mem_nil, or_false] at hx
    rcases hx with rfl | rfl | rfl | rfl | rfl | rfl
    · exact .inl (fit_str h (.inl rfl))
    · exact .inl (fit_str h (.inr rfl))
    · exact .inr (fit_int h (by simp [sorts4]))
    · exact .inr (fit_int h (by simp [sorts4]))
    · exact .inr (fit_int h (by simp [sorts4]))
    · exact .inr (fit_int h (by simp [sorts4]))
  rcases this with ⟨s, rfl⟩ | ⟨i, rfl⟩
  · cases t with
    | str _ h => exact .inl ⟨s, rfl, h⟩
  · exact .inr ⟨i, rfl⟩
/-- parts that fit are those of an entry -/
theorem ent_of {f : Ent} {ps : List V} (l : ps.length = f.sorts.length) (h : ∀ (i : Nat) (v : V) (x : Str), ps[i]? = some v → f.sorts[i]? = some x → fitB v x = true) : ∃ e : Ent, e.word = f.word ∧ e.parts = ps := by
  have s : ∀ (i : Nat) (x : Str), f.sorts[i]? = some x → x = "name" ∨ x = "end" → ∃ s, ps[i]? = some (.str s) := fun i x hx k => by
    have lt : i < ps.length := by rw [l]; exact (List.getElem?_eq_some_iff.mp hx).1
    obtain ⟨s, e⟩ := fit_str (h i _ x (List.getElem?_eq_getElem lt) hx) k
    exact ⟨s, by rw [List.getElem?_eq_getElem lt, e]⟩
  have n : ∀ (i : Nat) (x : Str), f.sorts[i]? = some x → x ∈ sorts4 → ∃ j, ps[i]? = some (.int j) := fun i x hx k => by
    have lt : i < ps.length := by rw [l]; exact (List.getElem?_eq_some_iff.mp hx).1
    obtain ⟨s, e⟩ := fit_int (h i _ x (List.getElem?_eq_getElem lt) hx) k
    exact ⟨s, by rw [List.getElem?_eq_getElem lt, e]⟩
  have m4 : ("moment" : Str) ∈ sorts4 ∧ ("many" : Str) ∈ sorts4 ∧ ("counted" : Str) ∈ sorts4 ∧ ("price" : Str) ∈ sorts4 := by simp [sorts4]
  cases f with
  | come =>
    match ps, l with
    | [p0, p1, p2, p3, p4, p5], _ =>
      obtain ⟨a0, e0⟩ := s 0 _ rfl (.inl rfl); obtain ⟨a1, e1⟩ := n 1 _ rfl m4.1; obtain ⟨a2, e2⟩ := s 2 _ rfl (.inl rfl); obtain ⟨a3, e3⟩ := s 3 _ rfl (.inl rfl); obtain ⟨a4, e4⟩ := n 4 _ rfl m4.2.1; obtain ⟨a5, e5⟩ := n 5 _ rfl m4.2.2.2
      cases e0; cases e1; cases e2; cases e3; cases e4; cases e5
      exact ⟨.come a0 a1 a2 a3 a4 a5, rfl, rfl⟩
  | go =>
    match ps, l with
    | [p0, p1, p2, p3, p4], _ =>
      obtain ⟨a0, e0⟩ := s 0 _ rfl (.inl rfl); obtain ⟨a1, e1⟩ := n 1 _ rfl m4.1; obtain ⟨a2, e2⟩ := s 2 _ rfl (.inl rfl); obtain ⟨a3, e3⟩ := s 3 _ rfl (.inl rfl); obtain ⟨a4, e4⟩ := n 4 _ rfl m4.2.1
      cases e0; cases e1; cases e2; cases e3; cases e4
      exact ⟨.go a0 a1 a2 a3 a4, rfl, rfl⟩
  | move =>
    match ps, l with
    | [p0, p1, p2, p3, p4, p5], _ =>
      obtain ⟨a0, e0⟩ := s 0 _ rfl (.inl rfl); obtain ⟨a1, e1⟩ := n 1 _ rfl m4.1; obtain ⟨a2, e2⟩ := s 2 _ rfl (.inl rfl); obtain ⟨a3, e3⟩ := s 3 _ rfl (.inl rfl); obtain ⟨a4, e4⟩ := s 4 _ rfl (.inl rfl); obtain ⟨a5, e5⟩ := n 5 _ rfl m4.2.1
      cases e0; cases e1; cases e2; cases e3; cases e4; cases e5
      exact ⟨.move a0 a1 a2 a3 a4 a5, rfl, rfl⟩
  | some_ =>
    match ps, l with
    | [p0, p1, p2, p3, p4], _ =>
      obtain ⟨a0, e0⟩ := s 0 _ rfl (.inl rfl); obtain ⟨a1, e1⟩ := n 1 _ rfl m4.1; obtain ⟨a2, e2⟩ := s 2 _ rfl (.inl rfl); obtain ⟨a3, e3⟩ := s 3 _ rfl (.inl rfl); obtain ⟨a4, e4⟩ := s 4 _ rfl (.inr rfl)
      cases e0; cases e1; cases e2; cases e3; cases e4
      exact ⟨.some_ a0 a1 a2 a3 a4, rfl, rfl⟩
  | swap =>
    match ps, l with
    | [p0, p1, p2, p3], _ =>
      obtain ⟨a0, e0⟩ := s 0 _ rfl (.inl rfl); obtain ⟨a1, e1⟩ := n 1 _ rfl m4.1; obtain ⟨a2, e2⟩ := s 2 _ rfl (.inl rfl); obtain ⟨a3, e3⟩ := s 3 _ rfl (.inl rfl)
      cases e0; cases e1; cases e2; cases e3
      exact ⟨.swap a0 a1 a2 a3, rfl, rfl⟩
  | count =>
    match ps, l with
    | [p0, p1, p2, p3, p4, p5], _ =>
      obtain ⟨a0, e0⟩ := s 0 _ rfl (.inl rfl); obtain ⟨a1, e1⟩ := n 1 _ rfl m4.1; obtain ⟨a2, e2⟩ := s 2 _ rfl (.inl rfl); obtain ⟨a3, e3⟩ := s 3 _ rfl (.inl rfl); obtain ⟨a4, e4⟩ := n 4 _ rfl m4.2.2.1; obtain ⟨a5, e5⟩ := s 5 _ rfl (.inl rfl)
      cases e0; cases e1; cases e2; cases e3; cases e4; cases e5
      exact ⟨.count a0 a1 a2 a3 a4 a5, rfl, rfl⟩
  | look =>
    match ps, l with
    | [p0, p1, p2, p3], _ =>
      obtain ⟨a0, e0⟩ := s 0 _ rfl (.inl rfl); obtain ⟨a1, e1⟩ := n 1 _ rfl m4.1; obtain ⟨a2, e2⟩ := s 2 _ rfl (.inl rfl); obtain ⟨a3, e3⟩ := s 3 _ rfl (.inl rfl)
      cases e0; cases e1; cases e2; cases e3
      exact ⟨.look a0 a1 a2 a3, rfl, rfl⟩
theorem once_len_nd {e : Ent} (h : ¬ e.places.Nodup) : (once e.places).length ≠ e.places.length := by
  have two : ∀ o t : Str, ¬ [o, t].Nodup → (once [o, t]).length ≠ 2 := fun o t h => by
    have e : o = t := Classical.byContradiction fun z => h (List.nodup_cons.mpr ⟨fun q => z (List.mem_singleton.mp q), nd1 _⟩)
    subst e
    have : once [o, o] = [o] := by
      show (if ([o] : List Str).contains o = true then [o] else [o] ++ [o]) = [o]
      rw [if_pos (by simp)]
    rw [this]
    exact fun z => by cases z
  cases e with
  | some_ n m g o t =>
    by_cases z : t = ""
    · rw [show Ent.places (.some_ n m g o t) = [o] from if_pos z] at h
      exact absurd (nd1 _) h
    · rw [show Ent.places (.some_ n m g o t) = [o, t] from if_neg z] at h ⊢
      exact two o t h
  | move n m g o t k => exact two o t h
  | swap n m o t => exact two o t h
  | come => exact absurd (nd1 _) h
  | go => exact absurd (nd1 _) h
  | count => exact absurd (nd1 _) h
  | look => exact absurd (nd1 _) h
section
variable {P : Program} {w : World} {K : PySem.W.Frag} {mg : Str → Option Value} {base : Heap}
theorem ok_wholeA {f : Addr} {fd : FuncData} (F : Fun K "is_whole" "is_whole" sWhole f fd) (mi : mg "isinstance" = none) (m1 : mg "int" = none) (m2 : mg "bool" = none) : FnOk P w K mg base CX0 1 f fd ["thing"] spWholeA := by
  refine F.ok scWhole (fun vs H Q E h => ?_) (fun cdv A outer s H vs Q E hr h => ?_)
  · obtain ⟨v, rfl, _⟩ := h
    rfl
  · obtain ⟨v, rfl, pt, q⟩ := h
    refine ⟨_, pss_one (ps_ret (pe_and (pe_callB call_isi (by rfl) mi (by decide +kernel) (pa_cons (pv 0) (pa_cons (pe_bltn (v := .ty "int") (u := .type "int") (by rfl) m1 (by decide +kernel) rfl) pa_nil)))
      (pe_one (pe_not (pe_callB call_isi (by rfl) mi (by decide +kernel) (pa_cons (pv 0) (pa_cons (pe_bltn (v := .ty "bool") (u := .type "bool") (by rfl) m2 (by decide +kernel) rfl) pa_nil))))))), ?_⟩
    cases pt with
    | str z h => exact ⟨_, rfl, _, _, _, _, false, rfl, .ty "int", .base (.str z), kit_ty (by decide +kernel), _, rfl, iteF q⟩
    | int i => exact ⟨_, rfl, _, _, _, _, true, rfl, .ty "int", .base (.int i), kit_ty (by decide +kernel), _, rfl, iteT ⟨_, rfl, _, _, _, _, false, rfl, .ty "bool", .base (.int i), kit_ty (by decide +kernel), _, rfl, q⟩⟩
    | bl b => exact ⟨_, rfl, _, _, _, _, true, rfl, .ty "int", .base (.bl b), kit_ty (by decide +kernel), _, rfl, iteT ⟨_, rfl, _, _, _, _, true, rfl, .ty "bool", .base (.bl b), kit_ty (by decide +kernel), _, rfl, q⟩⟩
    | non => exact ⟨_, rfl, _, _, _, _, false, rfl, .ty "int", .base .non, kit_ty (by decide +kernel), _, rfl, iteF q⟩
    | lst h => exact ⟨_, rfl, _, _, _, _, false, rfl, .ty "int", .base (.lst h), kit_ty (by decide +kernel), _, rfl, iteF q⟩
    | tup h => exact ⟨_, rfl, _, _, _, _, false, rfl, .ty "int", .base (.tup h), kit_ty (by decide +kernel), _, rfl, iteF q⟩
    | dct h => exact ⟨_, rfl, _, _, _, _, false, rfl, .ty "int", .base (.dK h), kit_ty (by decide +kernel), _, rfl, iteF q⟩
theorem ok_fitsA {f fN fW aB T1 : Addr} {fd dN dW : FuncData} (F : Fun K "fits" "fits" sFits f fd) (N : DefT P w K mg base "is_name" 1 fN dN ["thing"] (spName K T1)) (W : DefT P w K mg base "is_whole" 1 fW dW ["thing"] spWholeA)
    (mB : mg "BOUNDS" = some (.ref aB)) (hB : ∀ x ∈ sorts4, ∃ aT, KDct K w aB x (.ref aT) ∧ ∀ H, SqT K H aT [.int (bnd x).1, .int (bnd x).2]) : FnOk P w K mg base CX0 2 f fd ["part", "sort"] (spFitsA T1) := by
  refine F.ok scFits (fun vs H Q E h => ?_) (fun cdv A outer s H vs Q E hr h => ?_)
  · obtain ⟨v, x, rfl, _⟩ := h
    rfl
  · obtain ⟨v, x, rfl, pt, hx, tg, q⟩ := h
    have nd := scFits.nd
    have hu64 := hr.units
    refine ⟨_, pss_cons (ps_if (pt_cmpR op_eq (pv 1) pe_str (nomark _)) (pss_one (ps_ret (pe_call N.ok hr (by rfl) N.g N.kp N.b .nil pass0 (pa_cons (pv 0) pa_nil)))) pss_nil)
      (pss_cons (ps_if (pt_cmpR op_eq (pv 1) pe_str (nomark _)) (pss_one (ps_ret (pe_or (pe_cmpR (EqE.op_eqE hu64) (pv 0) pe_str (nomark _)) (pe_one (pe_call N.ok hr (by rfl) N.g N.kp N.b .nil pass0 (pa_cons (pv 0) pa_nil)))))) pss_nil)
      (pss_cons (ps_asg (pe_ix ix_kdict (pe_glob (v := .ref aB) rfl mB rfl) (pv 1) (fun _ _ => rfl)) (pg_tup (by rfl) (pgs_cons (pg_name (i := 2) nd rfl (Or.inl rfl)) (pgs_cons (pg_name (i := 3) nd rfl (Or.inl rfl)) pgs_nil))))
      (pss_one (ps_ret (pe_and (pe_call W.ok hr (by rfl) W.g W.kp W.b .nil pass0 (pa_cons (pv 0) pa_nil)) (pe_one (pe_chain op_le op_le (pv 2) (pv 0) (pv 3)))))))), ?_⟩
    have same0 : GxR.Tabbed T1 H H := ⟨tg, fun _ _ => rfl⟩
    -- is_name of the part
    have nm : ∀ (Q1 : VK), (∀ H2, GxR.Tabbed T1 H H2 → Q1 (.bl (nmV v)) H2) → spName K T1 ([v] ++ []) H Q1 E0 := fun Q1 h1 => by
      obtain ⟨n, ty, m, st, _⟩ := pt.ty (K := K)
      by_cases z : n = "str"
      · obtain ⟨s, rfl⟩ := st.mp z
        cases pt with
        | str _ lz => exact ⟨_, rfl, tg, .inl ⟨s, rfl, small_sz lz, h1⟩⟩
      · have e : nmV v = false := by
          cases v with
          | str s => exact absurd (st.mpr ⟨s, rfl⟩) z
          | _ => rfl
        rw [e] at h1
        exact ⟨_, rfl, tg, .inr ⟨n, ty, by rw [kit_str m, decide_eq_false z], h1 H same0⟩⟩
    refine ⟨_, rfl, rfl, _, rfl, ite2 (fun e => ?_) (fun e => ?_)⟩
    · have e' : x = "name" := V.str.inj (of_decide_eq_true e)
      refine ⟨_, rfl, nm _ fun H2 tb => ?_⟩
      have z := q H2 tb
      unfold fitB at z
      rw [if_pos e'] at z
      exact z
    · have e1 : ¬ x = "name" := fun h => e (decide_eq_true (congrArg V.str h))
      refine ⟨_, rfl, rfl, _, rfl, ite2 (fun e => ?_) (fun e => ?_)⟩
      · have e' : x = "end" := V.str.inj (of_decide_eq_true e)
        have fe : fitB v x = (decide (v = .str "") || nmV v) := by
          unfold fitB
          rw [if_neg e1, if_pos e']
        rw [fe] at q
        refine ⟨_, rfl, _, rfl, pt, decide (v = .str ""), rfl, ?_⟩
        cases hd : decide (v = V.str "") with
        | true =>
          rw [hd] at q
          exact iteT (q H same0)
        | false =>
          rw [hd] at q
          exact iteF ⟨_, rfl, nm _ fun H2 tb => q H2 tb⟩
      · have e2 : ¬ x = "end" := fun h => e (decide_eq_true (congrArg V.str h))
        have x4 : x ∈ sorts4 := by
          simp only [sorts6, sorts4, List.mem_cons, List.not_mem_nil, or_false] at hx ⊢
          rcases hx with h | h | h | h | h | h
          · exact absurd h e1
          · exact absurd h e2
          · exact .inl h
          · exact .inr (.inl h)
          · exact .inr (.inr (.inl h))
          · exact .inr (.inr (.inr h))
        obtain ⟨aT, kd, sq⟩ := hB x x4
        have fe : fitB v x = inB x v := by
          unfold fitB
          rw [if_neg e1, if_neg e2]
        rw [fe] at q
        have q0 := q H same0
        refine ⟨_, rfl, aB, x, _, rfl, rfl, kd, aT, _, rfl, sq H, rfl, _, _, rfl, _, _, rfl, rfl, _, rfl, v, rfl, pt, ?_⟩
        cases v with
        | int i =>
          refine ⟨_, rfl, iteT ⟨_, rfl, _, rfl, (bnd x).1, i, rfl, rfl, _, rfl, ite2 (fun a1 => ?_) (fun a1 => ?_)⟩⟩
          · refine ⟨_, rfl, i, (bnd x).2, rfl, rfl, ?_⟩
            have z : inB x (.int i) = decide (i ≤ (bnd x).2) := by
              show (decide ((bnd x).1 ≤ i) && decide (i ≤ (bnd x).2)) = _
              rw [a1, Bool.true_and]
            rw [z] at q0
            exact q0
          · have z : inB x (.int i) = false := by
              show (decide ((bnd x).1 ≤ i) && decide (i ≤ (bnd x).2)) = _
              rw [Bool.eq_false_iff.mpr a1, Bool.false_and]
            rw [z] at q0
            exact q0
        | _ => exact ⟨_, rfl, iteF q0⟩
theorem ok_isEntryA {f cE T1 T2 aF fF fP : Addr} {dF dP : FuncData} {oc kV doc pm ct : Value} {od an : Option Addr} {osl : Array (Option Value)} {es : Array DictEntry} {nE : Nat}
    (lk : K.lookup f = some ⟨oc, od, .func (PySem.W.fnOf "is_entry" "is_entry" (defArgs sIsEntry) (defBody sIsEntry) (defScope sIsEntry) .none kV doc pm an (.ref cE) ct), osl⟩) (cdI : PySem.W.codeIn K (.ref cE) "is_entry" = true)
    (TB : GxR.TabB base mg cE T2) (ne : T1 ≠ T2) (FI : DefT P w K mg base "fits" 2 fF dF ["part", "sort"] (spFitsA T1)) (PO : DefT P w K mg base "places_of" 1 fP dP ["entry"] spPlaces)
    (mi : mg "isinstance" = none) (mt : mg "tuple" = none) (ml : mg "len" = none) (mst : mg "str" = none) (ma : mg "all" = none) (mz : mg "zip" = none) (ms : mg "set" = none) (mF : mg "FORMS" = some (.ref aF)) (D : KDict K w aF es nE)
    (hF : ∀ e : Ent, ∃ aS, KDct K w aF e.word (.ref aS) ∧ ∀ H, SqT K H aS (e.sorts.map V.str)) (hO : ∀ z : Str, z ∉ words7 → PySem.W.nsIn K aF z = some none) :
    FnOk P w K mg base CX0 4 f (PySem.W.fnOf "is_entry" "is_entry" (defArgs sIsEntry) (defBody sIsEntry) (defScope sIsEntry) .none kV doc pm an (.ref cE) ct) ["thing"] (spIsEntryA T1 T2) := by
  refine fn_of lk cdI scIs (fun vs H Q E h => ?_) (fun A outer s H vs Q E hr h => ?_)
  · obtain ⟨v, rfl, _⟩ := h
    rfl
  · obtain ⟨v, rfl, t1, t2, h⟩ := h
    have nd := scIs.nd
    have hr1 : Room 1 _ := hr.mono (by decide)
    refine ⟨_, pss_cons (ps_if (PW.pt (pw_or (pt_not (pt_val (pe_callB call_isi (by rfl) mi (by decide +kernel) (pa_cons (pv 0) (pa_cons (pe_bltn (v := .ty "tuple") (u := .type "tuple") (by rfl) mt (by decide +kernel) rfl) pa_nil)))))
          (pw_or1 (pt_cmpR op_eq (pe_callB call_len_seq (by rfl) ml PySem.boot_len (pa_cons (pv 0) pa_nil)) pe_int (nomark _))))) (pss_one (ps_ret pe_bl)) pss_nil)
      (pss_cons (ps_if (PW.pt (pw_or (pt_not (pt_val (pe_callB call_isi (by rfl) mi (by decide +kernel) (pa_cons (pe_ix ix_tup (pv 0) pe_int (fun _ _ => rfl)) (pa_cons (pe_bltn (v := .ty "str") (u := .type "str") (by rfl) mst (by decide +kernel) rfl) pa_nil)))))
          (pw_or1 (pt_cmpR (op_notIn_kd D) (pe_ix ix_tup (pv 0) pe_int (fun _ _ => rfl)) (pe_glob (v := .ref aF) rfl mF rfl) (by rfl))))) (pss_one (ps_ret pe_bl)) pss_nil)
      (pss_cons (ps_set (i := 1) nd rfl (Or.inl rfl) (pe_ix ix_kdict (pe_glob (v := .ref aF) rfl mF rfl) (pe_ix ix_tup (pv 0) pe_int (fun _ _ => rfl)) (fun _ _ => rfl)))
      (pss_cons (ps_if (pt_cmpR op_ne (pe_callB call_len_seq (by rfl) ml PySem.boot_len (pa_cons (pv 0) pa_nil)) (pe_op op_add (pe_callB call_len_seq (by rfl) ml PySem.boot_len (pa_cons (pv 1) pa_nil)) pe_int) (nomark _)) (pss_one (ps_ret pe_bl)) pss_nil)
      (pss_cons (ps_if (pt_not (pt_val (pe_allG (T := T2) (c := cE) (k := 2) (own := [("part", 3), ("sort", 4)]) (g := gTup K 2 (gCons (gName 3) (gCons (gName 4) gNil))) (tt := tYes) (te := tCall (spFitsA T1) [] E0 (tCons (tVar 3) (tCons (tVar 4) tNil)))
          hr (by rfl) ma rfl nd TB rfl ⟨blkOk_by (N := isN) (sc := defScope sIsEntry) (by decide +kernel), rfl, by decide +kernel, rfl⟩
          (RZ.pi_zipA (by rfl) mz (pa_cons (pe_slice sl_tup (pv 0) (po_some pe_int) po_none) (pa_cons (pv 1) pa_nil)))
          (fun _ _ _ _ _ _ => pg_tup (by rfl) (pgs_cons (pg_name (i := 3) nd rfl (Or.inl rfl)) (pgs_cons (pg_name (i := 4) nd rfl (Or.inl rfl)) pgs_nil)))
          (fun _ _ _ _ _ _ _ => pts_nil) (fun _ _ _ _ _ _ hr' => pe_call FI.ok hr' (by rfl) FI.g FI.kp FI.b .nil pass0 (pa_cons (pv 3) (pa_cons (pv 4) pa_nil)))))) (pss_one (ps_ret pe_bl)) pss_nil)
      (pss_cons (ps_set (i := 2) nd rfl (Or.inl rfl) (pe_call PO.ok hr1 (by rfl) PO.g PO.kp PO.b .nil pass0 (pa_cons (pv 0) pa_nil)))
      (pss_one (ps_ret (pe_cmpR op_eq (pe_lenSetX rfl (by rfl) ml (by rfl) ms (pv 2)) (pe_callB call_len_seq (by rfl) ml PySem.boot_len (pa_cons (pv 2) pa_nil)) (nomark _))))))))), ?_⟩
    have tb0 : TB2 T1 T2 H H := TB2.same t1 t2 fun _ _ e => e
    rcases h with ⟨th, nt, q⟩ | ⟨a, xs, rfl, ha, lx, hT, qT, qF⟩
    · obtain ⟨n, ty, m, _, tt⟩ := th.ty (K := K)
      have nn : n ≠ "tuple" := fun z => by
        obtain ⟨a, xs, e, h2⟩ := tt.mp z
        exact nt a xs e h2
      exact ⟨_, rfl, _, _, _, _, false, rfl, .ty "tuple", ty, kit_ty (by rw [kit_tup m, decide_eq_false nn]), _, rfl, iteT (q H tb0)⟩
    -- a tuple
    refine ⟨_, rfl, _, _, _, _, true, rfl, .ty "tuple", .base (.tup ha), kit_ty (by decide +kernel), _, rfl, iteF ?_⟩
    match xs, ha, lx, hT, qT, qF with
    | [], ha, lx, hT, qT, qF =>
      refine ⟨_, rfl, a, _, rfl, .inr (SqT.of ha), rfl, true, rfl, iteT (qF ?_ H tb0)⟩
      rintro ⟨e, _, h⟩
      exact nomatch h
    | x0 :: ps, ha, lx, hT, qT, qF =>
    refine ⟨_, rfl, a, _, rfl, .inr (SqT.of ha), rfl, false, congrArg V.bl (decide_eq_false fun z => ?_), iteF ?_⟩
    · have z' : (((x0 :: ps).length : Nat) : Int) = 0 := V.int.inj z
      rw [List.length_cons] at z'
      omega
    have at0x : atI (x0 :: ps) 0 = some x0 := atI_nat (j := 0) rfl
    obtain ⟨n0, ty0, m0, st0, _⟩ := (hT x0 List.mem_cons_self).ty (K := K)
    by_cases zs : n0 = "str"
    rotate_left
    · refine ⟨_, rfl, a, _, 0, _, rfl, rfl, SqT.of ha, at0x, _, _, _, _, false, rfl, .ty "str", ty0, kit_ty (by rw [kit_str m0, decide_eq_false zs]), _, rfl, iteT (qF ?_ H tb0)⟩
      rintro ⟨e, _, h⟩
      exact zs (st0.mpr ⟨e.word, (List.cons.inj h).1⟩)
    obtain ⟨z, rfl⟩ := st0.mp zs
    refine ⟨_, rfl, a, _, 0, _, rfl, rfl, SqT.of ha, at0x, _, _, _, _, true, rfl, .ty "str", ty0, kit_ty (by rw [kit_str m0, decide_eq_true zs]), _, rfl, iteF ?_⟩
    by_cases zw : z ∈ words7
    rotate_left
    · refine ⟨_, rfl, a, _, 0, _, rfl, rfl, SqT.of ha, at0x, z, none, rfl, rfl, hO z zw, _, rfl, iteT (qF ?_ H tb0)⟩
      rintro ⟨e, _, h⟩
      have : z = e.word := V.str.inj (List.cons.inj h).1
      exact zw (this ▸ e.word_in)
    obtain ⟨f0, rfl⟩ := word_of zw
    obtain ⟨aS, kd, sq⟩ := hF f0
    obtain ⟨es', n', u, hl, hlit, hns, ru⟩ := id kd
    refine ⟨_, rfl, a, _, 0, _, rfl, rfl, SqT.of ha, at0x, f0.word, some u, rfl, rfl, hns, _, rfl, iteF ?_⟩
    refine ⟨_, rfl, a, _, 0, _, rfl, rfl, SqT.of ha, at0x, aF, f0.word, _, rfl, rfl, kd, ?_⟩
    by_cases ll : ps.length = f0.sorts.length
    rotate_left
    · refine ⟨_, rfl, a, _, rfl, .inr (SqT.of ha), _, rfl, aS, _, rfl, .inr (sq H), _, 1, rfl, rfl, rfl, true, ?_, iteT (qF ?_ H tb0)⟩
      · refine congrArg V.bl ?_
        have l1 : ¬ ((((V.str f0.word) :: ps).length : Nat) : Int) = ((f0.sorts.map V.str).length : Int) + 1 := by
          rw [List.length_cons, List.length_map]
          omega
        rw [decide_eq_false fun q => l1 (V.int.inj q)]
        rfl
      · rintro ⟨e, _, h⟩
        have w0 : e.word = f0.word := V.str.inj (List.cons.inj h).1.symm
        have := congrArg List.length h
        rw [vals_len, sorts_word w0, List.length_cons] at this
        omega
    refine ⟨_, rfl, a, _, rfl, .inr (SqT.of ha), _, rfl, aS, _, rfl, .inr (sq H), _, 1, rfl, rfl, rfl, false, ?_, iteF ?_⟩
    · refine congrArg V.bl ?_
      have l1 : ((((V.str f0.word) :: ps).length : Nat) : Int) = ((f0.sorts.map V.str).length : Int) + 1 := by
        rw [List.length_cons, List.length_map, ll]
        rfl
      rw [l1, decide_eq_true rfl]
      rfl
    -- all fit
    have cut : cutV ((V.str f0.word) :: ps) (some 1) none = ps := by
      have h : cutV ((V.str f0.word) :: ps) (some ((1 : Nat) : Int)) none = ps := by
        unfold cutV
        rw [HT.sIx_nat, HT.sIx_none, Nat.min_eq_left (by rw [List.length_cons]; omega)]
        show ps.take (ps.length + 1 - 1) = ps
        rw [Nat.add_sub_cancel]
        exact List.take_length
      exact h
    refine ⟨_, rfl, 1, rfl, a, _, rfl, SqT.of ha, ?_, fun pp npp => ?_⟩
    · rintro ⟨z, _⟩
      rw [show HT.sIx ((V.str f0.word) :: ps).length 0 (some 1) = min 1 ((V.str f0.word) :: ps).length from HT.sIx_nat _ _ 1, List.length_cons] at z
      omega
    rw [cut]
    have sp := @same_new _ _ (.tup ps) npp
    have hpp := @upd_same H pp (.tup ps)
    generalize upd H pp (.tup ps) = H1 at sp hpp ⊢
    refine ⟨_, rfl, pp, aS, ps, f0.sorts.map V.str, rfl, .inr ⟨SqT.of hpp, sq _, tabg_same sp t2, fun H2 tb2 => ?_⟩⟩
    have b0 : TB2 T1 T2 H H2 := (TB2.same t1 t2 sp).tr (.two ne (tabg_same sp t1) tb2)
    have b1 : TB2 T1 T2 H1 H2 := .two ne (tabg_same sp t1) tb2
    have hp2 : H2 pp = some (.tup ps) := b1.keep (tabg_same sp t1) (tabg_same sp t2) hpp (by intro ps z; cases z)
    refine ⟨fun i m H' => m = ps.length - i ∧ i ≤ ps.length ∧ H' pp = some (.tup ps) ∧ TB2 T1 T2 H H' ∧ ∀ (j : Nat) (v : V) (x : Str), j < i → ps[j]? = some v → f0.sorts[j]? = some x → fitB v x = true, ⟨_, rfl, Nat.zero_le _, hp2, b0, fun j v x hj => absurd hj (Nat.not_lt_zero _)⟩, ?_⟩
    rintro i m H3 ⟨rfl, hi, hp3, b3, hfit⟩
    by_cases lt : i < ps.length
    · refine .inr ⟨⟨ps, f0.sorts.map V.str, ps[i], .str (f0.sorts[i]'(by rw [← ll]; exact lt)), SqT.of hp3, sq _, List.getElem?_eq_getElem lt, ?_⟩, fun v H4 y => ?_⟩
      · rw [List.getElem?_map, List.getElem?_eq_getElem (by rw [← ll]; exact lt)]
        rfl
      · obtain ⟨TT, x', y', rfl, nT, rfl, f1, f2⟩ := y
        have g1 := f1 ps (SqT.of hp3)
        have g2 := f2 (f0.sorts.map V.str) (sq _)
        rw [List.getElem?_map] at g2
        obtain ⟨srt, hsrt, rfl⟩ := Option.map_eq_some_iff.mp g2
        have s4 := @same_new _ _ (.tup [x', V.str srt]) nT
        have b4 : TB2 T1 T2 H (upd H3 TT (.tup [x', V.str srt])) := b3.tr (.same b3.2.1 b3.2.2 s4)
        have hx' : Thg (upd H3 TT (.tup [x', V.str srt])) x' := (hT x' (List.mem_cons_of_mem _ (List.mem_of_getElem? g1))).on fun a' o' _ e' n' => b4.keep t1 t2 e' n'
        refine ⟨TT, _, rfl, SqT.of upd_same, rfl, _, _, rfl, _, _, rfl, rfl, rfl, yesT ?_⟩
        refine ⟨_, rfl, _, rfl, x', srt, rfl, hx', f0.sorts_in srt (List.mem_of_getElem? hsrt), b4.2.1, fun H5 tb5 => ?_⟩
        have b5 : TB2 T1 T2 H H5 := b4.tr (.one ne b4.2.2 tb5)
        have b45 : TB2 T1 T2 (upd H3 TT (.tup [x', V.str srt])) H5 := .one ne b4.2.2 tb5
        cases fit : fitB x' srt with
        | true =>
          refine ⟨true, rfl, iteT ⟨_, by omega, rfl, lt, b45.keep b4.2.1 b4.2.2 (s4 _ _ hp3) (by intro ps z; cases z), b5, fun j v x hj hv hx => ?_⟩⟩
          by_cases ej : j = i
          · subst ej
            rw [g1] at hv
            rw [hsrt] at hx
            rw [← Option.some.inj hv, ← Option.some.inj hx]
            exact fit
          · exact hfit j v x (by omega) hv hx
        | false =>
          refine ⟨false, rfl, iteF ⟨false, rfl, iteT (qF ?_ H5 b5)⟩⟩
          rintro ⟨e, fine, h⟩
          have w0 : e.word = f0.word := V.str.inj (List.cons.inj h).1.symm
          have hps : ps = e.parts := (List.cons.inj h).2
          rw [hps] at g1
          have := (fine.fit i x' srt g1 (by rw [sorts_word w0]; exact hsrt)).2
          rw [fit] at this
          exact nomatch this
    · have ei : i = ps.length := by omega
      subst ei
      obtain ⟨e, we, rfl⟩ := ent_of ll fun j v x hv hx => hfit j v x (List.getElem?_eq_some_iff.mp hv).1 hv hx
      have ev : e.vals = (V.str f0.word) :: e.parts := by
        rw [← we]
        rfl
      refine .inl ⟨⟨e.parts, f0.sorts.map V.str, SqT.of hp3, sq _, .inl (Nat.le_refl _)⟩, ?_⟩
      refine ⟨true, rfl, iteF ?_⟩
      -- unlike places
      rw [← ev] at ha qT qF
      have ha3 : H3 a = some (.tup e.vals) := b3.keep t1 t2 ha (by intro ps z; cases z)
      refine ⟨_, rfl, a, e, rfl, ha3, fun tp H4 s4 ht => ?_⟩
      have b4 := b3.tr (.same b3.2.1 b3.2.2 s4)
      refine ⟨_, rfl, tp, e.places, rfl, SqT.of ht, Nat.le_trans (places_le e) (by decide), _, rfl, tp, _, rfl, .inr (SqT.of ht), rfl, ?_⟩
      by_cases ndp : e.places.Nodup
      · rw [once_nodup ndp, List.length_map, decide_eq_true rfl]
        refine qT ⟨e, ⟨fun j v x hv hx => ?_, ndp⟩, rfl⟩ H4 b4
        have hx2 : f0.sorts[j]? = some x := by rw [← sorts_word we]; exact hx
        have ft := hfit j v x (List.getElem?_eq_some_iff.mp hv).1 hv hx2
        exact ⟨fit_part (hT v (List.mem_cons_of_mem _ (List.mem_of_getElem? hv))) ft (f0.sorts_in x (List.mem_of_getElem? hx2)), ft⟩
      · rw [List.length_map, decide_eq_false fun q => once_len_nd ndp (by have := V.int.inj q; omega)]
        refine qF ?_ H4 b4
        rintro ⟨e', fine, h⟩
        rw [vals_inj h] at ndp
        exact ndp fine.apart
end
/-- of entries the old promise holds -/
theorem isE_old {T1 T2 : Addr} {vs : List V} {H : Hp} {Q : VK} {E : XK} (h : spIsEntry T1 T2 vs H Q E) : spIsEntryA T1 T2 vs H Q E := by
  obtain ⟨a, e, rfl, ha, fine, t1, t2, q⟩ := h
  refine ⟨_, rfl, t1, t2, .inr ⟨a, e.vals, rfl, ha, ?_, fun x hx => ?_, fun _ => q, fun n => absurd ⟨e, fine, rfl⟩ n⟩⟩
  · cases e <;> exact Nat.le_of_ble_eq_true rfl
  · rcases List.mem_cons.mp hx with rfl | hx
    · exact .str _ ((by decide +kernel : ∀ w ∈ words7, w.length ≤ 1000) _ e.word_in)
    · obtain ⟨i, hi⟩ := List.mem_iff_getElem?.mp hx
      have lt := (List.getElem?_eq_some_iff.mp hi).1
      exact .of_part (fine.fit i x _ hi (List.getElem?_eq_getElem (by rw [← e.len_parts]; exact lt))).1
/-! ### what is no entry, entered -/
theorem FnOk.or {P : Program} {w : World} {K : PySem.W.Frag} {mg : Str → Option Value} {base : Heap} {CX : CXT} {k : Nat} {f : Addr} {fd : FuncData} {ps : List Str} {s1 s2 : Sp} (F : FnOk P w K mg base CX k f fd ps s1) (G : FnOk P w K mg base CX k f fd ps s2) :
    FnOk P w K mg base CX k f fd ps (fun vs H Q E => s1 vs H Q E ∨ s2 vs H Q E) :=
  ⟨fun vs H Q E h => h.elim (F.len vs H Q E) (G.len vs H Q E), fun A outer s H args us vs Q E hr he hb hv hs => hs.elim (F.run A outer s H args us vs Q E hr he hb hv) (G.run A outer s H args us vs Q E hr he hb hv)⟩
/-- no entry of these places and goods -/
def NoE (H : Hp) (P G : List Str) (v : V) : Prop := (Thg H v ∧ ∀ a xs, v = .ref a → H a ≠ some (.tup xs)) ∨
  ∃ (a : Addr) (xs : List V), v = .ref a ∧ H a = some (.tup xs) ∧ xs.length ≤ 1000 ∧ (∀ x ∈ xs, Thg H x) ∧ ¬ ∃ e : Ent, e.Fine ∧ ofB e P G = true ∧ xs = e.vals
theorem NoE.on {H H' : Hp} {P G : List Str} {v : V} (k : ∀ a o, H a = some o → (∀ ps, o ≠ .tbl ps) → H' a = some o) (h : NoE H P G v) : NoE H' P G v := by
  rcases h with ⟨t, n⟩ | ⟨a, xs, rfl, ha, lx, hT, no⟩
  · refine .inl ⟨t.on fun a o _ => k a o, fun a xs e h2 => ?_⟩
    subst e
    cases t with
    | lst h => rw [k _ _ h (fun ps z => nomatch z)] at h2; exact nomatch h2
    | tup h => exact n _ _ rfl h
    | dct h => rw [k _ _ h (fun ps z => nomatch z)] at h2; exact nomatch h2
  · exact .inr ⟨a, xs, rfl, k _ _ ha (fun ps z => nomatch z), lx, fun x hx => (hT x hx).on fun a o _ => k a o, no⟩
def spNoEntryOf (Ts : List Addr) : Sp := fun vs H Q _ => ∃ (v : V) (pl gl : Addr) (P G : List Str), vs = [v, .ref pl, .ref gl] ∧ NoE H P G v ∧ H pl = some (.tup (P.map V.str)) ∧ H gl = some (.tup (G.map V.str)) ∧ TabsG Ts H ∧ ∀ H', TB1 Ts H H' → Q (.bl false) H'
def spNoE1 (Ts : List Addr) : Sp := fun vs H Q _ => ∃ (v p1 p2 : V), vs = [v, p1, p2] ∧ TabsG Ts H ∧
  ((Thg H v ∧ ∀ a xs, v = .ref a → H a ≠ some (.tup xs)) ∨ ∃ (a : Addr) (xs : List V), v = .ref a ∧ H a = some (.tup xs) ∧ xs.length ≤ 1000 ∧ (∀ x ∈ xs, Thg H x) ∧ ¬ IsE xs) ∧ ∀ H', TB1 Ts H H' → Q (.bl false) H'
theorem noE_split {Ts : List Addr} {vs : List V} {H : Hp} {Q : VK} {E : XK} (h : spNoEntryOf Ts vs H Q E) : spIsEntryOf Ts vs H Q E ∨ spNoE1 Ts vs H Q E := by
  obtain ⟨v, pl, gl, P, G, rfl, no, hp, hg, tg, q⟩ := h
  rcases no with h | ⟨a, xs, rfl, ha, lx, hT, no⟩
  · exact .inr ⟨_, _, _, rfl, tg, .inl h, q⟩
  · by_cases i : IsE xs
    · obtain ⟨e, fi, rfl⟩ := i
      have ob : ofB e P G = false := Bool.eq_false_iff.mpr fun z => no ⟨e, fi, z, rfl⟩
      exact .inl ⟨a, pl, gl, e, P, G, rfl, ha, fi, hp, hg, tg, fun H' t => by rw [ob]; exact q H' t⟩
    · exact .inr ⟨_, _, _, rfl, tg, .inr ⟨a, xs, rfl, ha, lx, hT, i⟩, q⟩
def spEnteredNo (A : RfA) (Ts : List Addr) : Sp := fun vs H _ E => ∃ (s a1 a2 : Addr) (v : V) (P G : List Str) (S : MS), vs = [.ref s, v] ∧ SM H s a1 a2 P G S ∧ NoE H P G v ∧ TabsG Ts H ∧ ∀ H', TB1 Ts H H' → E (.ref A.ne) none H'
section
variable {P : Program} {w : World} {K : PySem.W.Frag} {mg : Str → Option Value} {base : Heap}
theorem ok_noEntry1 {f cR T1 T2 T4 fI fG fP : Addr} {Ts : List Addr} {dI dG dP : FuncData} {oc kV doc pm ct : Value} {od an : Option Addr} {osl : Array (Option Value)}
    (lk : K.lookup f = some ⟨oc, od, .func (PySem.W.fnOf "is_entry_of" "is_entry_of" (defArgs sIsEntryOf) (defBody sIsEntryOf) (defScope sIsEntryOf) .none kV doc pm an (.ref cR) ct), osl⟩) (cdI : PySem.W.codeIn K (.ref cR) "is_entry_of" = true)
    (TB : GxR.TabB base mg cR T4) (i1 : T1 ∈ Ts) (i2 : T2 ∈ Ts) (i4 : T4 ∈ Ts) (IE : DefT P w K mg base "is_entry" 4 fI dI ["thing"] (spIsEntryA T1 T2)) (GO : DefT P w K mg base "good_of" 1 fG dG ["entry"] spGood) (PO : DefT P w K mg base "places_of" 1 fP dP ["entry"] spPlaces)
    (mal : mg "all" = none) :
    FnOk P w K mg base CX0 5 f (PySem.W.fnOf "is_entry_of" "is_entry_of" (defArgs sIsEntryOf) (defBody sIsEntryOf) (defScope sIsEntryOf) .none kV doc pm an (.ref cR) ct) ["thing", "places", "goods"] (spNoE1 Ts) := by
  refine fn_of lk cdI sc_sIsEntryOf (fun vs H Q E h => ?_) (fun A outer s H vs Q E hr h => ?_)
  · obtain ⟨v, p1, p2, rfl, _⟩ := h
    rfl
  · obtain ⟨v, p1, p2, rfl, tg, no, q⟩ := h
    have nd := sc_sIsEntryOf.nd
    have hr1 : Room 1 _ := hr.mono (by decide)
    refine ⟨_, pss_cons (ps_if (pt_not (pt_val (pe_call IE.ok hr (by rfl) IE.g IE.kp IE.b .nil pass0 (pa_cons (pv 0) pa_nil)))) (pss_one (ps_ret pe_bl)) pss_nil)
      (pss_cons (ps_set (i := 3) nd rfl (Or.inl rfl) (pe_call GO.ok hr1 (by rfl) GO.g GO.kp GO.b .nil pass0 (pa_cons (pv 0) pa_nil)))
      (pss_cons (ps_if (PW.pt (pw_and (pt_cmpR op_notN (pv 3) pe_non (by rfl)) (pw_and1 (pt_cmpR op_notIn_seq (pv 3) (pv 2) (by rfl))))) (pss_one (ps_ret pe_bl)) pss_nil)
      (pss_one (ps_ret (pe_allG (T := T4) (c := cR) (k := 1) (own := [("place", 4)]) (g := gName 4) (tt := tYes) (te := tOp (rIn K false) (tVar 4) (tVar 1))
          (hr.mono (by decide)) (by rfl) mal rfl nd TB rfl ⟨blkOk_by (N := sIsEntryOfN) (sc := defScope sIsEntryOf) (by decide +kernel), rfl, by decide +kernel, rfl⟩
          (pi_tup (pe_call PO.ok hr1 (by rfl) PO.g PO.kp PO.b .nil pass0 (pa_cons (pv 0) pa_nil))) (fun _ _ _ _ _ _ => pg_name (i := 4) nd rfl (Or.inl rfl)) (fun _ _ _ _ _ _ _ => pts_nil) (fun _ _ _ _ _ _ _ => pe_cmpR op_in_seq (pv 4) (pv 1) (by rfl))))))), ?_⟩
    have fin : ∀ H1, TB2 T1 T2 H H1 → Q (.bl false) H1 := fun H1 b => q H1 (TB1.of2 tg i1 i2 b)
    rcases no with ⟨th, nt⟩ | ⟨a, xs, rfl, ha, lx, hT, no⟩
    · exact ⟨_, rfl, _, rfl, tg T1 i1, tg T2 i2, .inl ⟨th, nt, fun H1 b => ⟨false, rfl, iteT (fin H1 b)⟩⟩⟩
    · exact ⟨_, rfl, _, rfl, tg T1 i1, tg T2 i2, .inr ⟨a, xs, rfl, ha, lx, hT, fun y => absurd y no, fun _ H1 b => ⟨false, rfl, iteT (fin H1 b)⟩⟩⟩
theorem ok_enteredNo {f cR T5 fI fT fA : Addr} {Ts : List Addr} {A : RfA} {dI dT dA : FuncData} {oc kV doc pm ct : Value} {od an : Option Addr} {osl : Array (Option Value)}
    (lk : K.lookup f = some ⟨oc, od, .func (PySem.W.fnOf "entered" "entered" (defArgs sEntered) (defBody sEntered) (defScope sEntered) .none kV doc pm an (.ref cR) ct), osl⟩) (cdI : PySem.W.codeIn K (.ref cR) "entered" = true)
    (TB : GxR.TabB base mg cR T5) (i5 : T5 ∈ Ts) (IO : DefT P w K mg base "is_entry_of" 5 fI dI ["thing", "places", "goods"] (spNoEntryOf Ts)) (TS : DefX P w K mg base "moment_to_stand" 3 fT dT ["entry", "closed", "mode"] (spToStandX A)) (AL : DefX P w K mg base "allowed" 7 fA dA ["state", "later"] (spAllowedX A)) (EN : Err K mg "NoEntry" A.ne)
    (man : mg "any" = none) (mt : mg "tuple" = none) (ms : mg "sorted" = none) :
    FnOk P w K mg base (L2.CX P w) 8 f (PySem.W.fnOf "entered" "entered" (defArgs sEntered) (defBody sEntered) (defScope sEntered) .none kV doc pm an (.ref cR) ct) ["state", "entry"] (spEnteredNo A Ts) := by
  refine fn_of lk cdI sc_sEntered (fun vs H Q E h => ?_) (fun A' outer s H vs Q E hr h => ?_)
  · obtain ⟨st, a1, a2, v, Ps, G, S, rfl, _⟩ := h
    rfl
  · obtain ⟨st, a1, a2, v, Ps, G, S, rfl, sm, no, tg, q⟩ := h
    have nd := sc_sEntered.nd
    have nd := sc_sEntered.nd
    have hr3 : Room 3 _ := hr.mono (by decide)
    have hr5 : Room 5 _ := hr.mono (by decide)
    refine ⟨_, pss_cons (ps_asg (pv 0) (pg_tup (by rfl) (pgs_cons (pg_name (i := 2) nd rfl (Or.inl rfl)) (pgs_cons (pg_name (i := 3) nd rfl (Or.inl rfl)) (pgs_cons (pg_name (i := 4) nd rfl (Or.inl rfl)) (pgs_cons (pg_name (i := 5) nd rfl (Or.inl rfl)) (pgs_cons (pg_name (i := 6) nd rfl (Or.inl rfl)) (pgs_cons (pg_name (i := 7) nd rfl (Or.inl rfl)) pgs_nil))))))))
      (pss_cons (ps_if (pt_not (pt_val (pe_call IO.ok hr5 (by rfl) IO.g IO.kp IO.b .nil pass0 (pa_cons (pv 1) (pa_cons (pv 2) (pa_cons (pv 3) pa_nil)))))) (pss_one (ps_raise rfl (takes_of rfl rfl rfl rfl) (pmk_own PySem.F.excBase_ValueError EN.ex EN.gC EN.kp (raises_own EN.sb EN.ty) rfl))) pss_nil)
      (pss_cons (ps_if (PT.nox (pt_val (pe_anyG (T := T5) (c := cR) (k := 1) (own := [("form", 8)]) (g := gName 8) (tt := tYes) (te := tOp (rEqD K) (tOp (rIxT K) (tVar 8) (tC (V.int 0))) (tVar 1)) (hr.mono (by decide)) (by rfl) man rfl nd TB rfl ⟨blkOk_by (N := sEnteredN) (sc := defScope sEntered) (by decide +kernel), rfl, by decide +kernel, rfl⟩ (pi_tup (pv 4)) (fun _ _ _ _ _ _ => pg_name (i := 8) nd rfl (Or.inl rfl)) (fun _ _ _ _ _ _ _ => pts_nil) (fun _ _ _ _ _ _ hr' => pe_cmpR (op_eqD hr'.units) (pe_ix ix_tup (pv 8) pe_int (fun _ _ => rfl)) (pv 1) (nomark _))))) (pss_one (ps_ret (pv 0))) pss_nil)
      (pss_cons (ps_set (i := 8) nd rfl (Or.inl rfl) (pe_tup (pa_cons (pv 1) (pa_cons (pe_callS TS.ok hr3 (by rfl) TS.g TS.kp TS.b (fun σ => passAt (takes_of rfl rfl rfl rfl) σ) (pa_cons (pv 1) (pa_cons (pv 6) (pa_cons (pv 7) pa_nil)))) pa_nil))))
      (pss_one (ps_ret (pe_callS AL.ok hr (by rfl) AL.g AL.kp AL.b (fun σ => passAt (takes_of rfl rfl rfl rfl) σ) (pa_cons (pv 0) (pa_cons (pe_tup (pa_cons (pv 2) (pa_cons (pv 3) (pa_cons (pe_callTy call_tuple_of (by rfl) mt (by decide +kernel) (pa_cons (pe_callB (cr_sortC hr.units) (by rfl) ms (by decide +kernel) (pa_cons (pe_op op_catA (pv 4) (pe_tup (pa_cons (pv 8) pa_nil))) pa_nil)) pa_nil)) (pa_cons (pv 5) (pa_cons (pv 6) (pa_cons (pv 7) pa_nil))))))) pa_nil)))))))), ?_⟩
    obtain ⟨Fa, Ba, fs, sa, ef⟩ := sm.ex
    refine ⟨_, rfl, st, _, rfl, SqT.of sa.s, rfl, _, _, rfl, _, _, rfl, _, _, rfl, _, _, rfl, _, _, rfl, _, _, rfl, rfl, ?_⟩
    refine ⟨_, rfl, _, rfl, _, rfl, v, a1, a2, Ps, G, rfl, no, sa.p, sa.g, tg, fun H1 b1 => ⟨false, rfl, iteT ?_⟩⟩
    exact q H1 b1
end
/-! ### parts that make no entry -/
/-- with v in the place of its part i it is no entry where n is no name -/
def Bad (n : Str) (e : Ent) (i : Nat) (v : V) : Prop := ∀ P G : List Str, n ∉ P → n ∉ G → ¬ ∃ e' : Ent, e'.Fine ∧ ofB e' P G = true ∧ e.vals.set i v = e'.vals
theorem bad_word {n : Str} {e : Ent} {v : V} (h : v ∉ words7.map V.str) : Bad n e 0 v := fun P G _ _ ⟨e', _, _, q⟩ => by
  have : v = .str e'.word := (List.cons.inj q).1
  exact h (by rw [this]; exact List.mem_map.mpr ⟨_, e'.word_in, rfl⟩)
theorem bad_fit {n : Str} {e : Ent} {i : Nat} {v : V} {x : Str} (hx : e.sorts[i]? = some x) (h : fitB v x = false) : Bad n e (i + 1) v := fun P G _ _ ⟨e', fi, _, q⟩ => by
  have q1 : V.str e.word = V.str e'.word := (List.cons.inj q).1
  have q2 : e.parts.set i v = e'.parts := (List.cons.inj q).2
  have hx' : e'.sorts[i]? = some x := by rw [sorts_word (V.str.inj q1).symm]; exact hx
  have li : i < e.parts.length := by
    rw [e.len_parts]
    exact (List.getElem?_eq_some_iff.mp hx).1
  have hv : e'.parts[i]? = some v := by
    rw [← q2, List.getElem?_set_self li]
  have := (fi.fit i v x hv hx').2
  rw [h] at this
  exact nomatch this
theorem of_good {e : Ent} {P G : List Str} {g : Str} (o : ofB e P G = true) (h : e.goodV = .str g) : g ∈ G := by
  have := (Bool.and_eq_true_iff.mp o).1
  unfold goodOk at this
  rw [h] at this
  exact of_decide_eq_true this
theorem of_place {e : Ent} {P G : List Str} {y : Str} (o : ofB e P G = true) (h : y ∈ e.places) : y ∈ P := by
  have := (Bool.and_eq_true_iff.mp o).2
  exact of_decide_eq_true (List.all_eq_true.mp this y h)
theorem pos3 {e : Ent} {y : Str} (h : e.vals[3]? = some (.str y)) : e.goodV = .str y ∨ y ∈ e.places := by
  cases e with
  | swap n m o t =>
    have := V.str.inj (Option.some.inj h)
    exact .inr (by rw [← this]; exact List.mem_cons_self)
  | _ => exact .inl (Option.some.inj h)
theorem pos4 {e : Ent} {y : Str} (h : e.vals[4]? = some (.str y)) : y ∈ e.places := by
  cases e with
  | swap n m o t =>
    have := V.str.inj (Option.some.inj h)
    exact (by rw [← this]; exact List.mem_cons_of_mem _ List.mem_cons_self)
  | some_ n m g o t =>
    have := V.str.inj (Option.some.inj h)
    show y ∈ (if t = "" then [o] else [o, t])
    rw [← this]
    split <;> exact List.mem_cons_self
  | _ =>
    have := V.str.inj (Option.some.inj h)
    exact (by rw [← this]; exact List.mem_cons_self)
theorem pos5 {e : Ent} {y : Str} (w : e.word = "move" ∨ e.word = "some") (ny : y ≠ "") (h : e.vals[5]? = some (.str y)) : y ∈ e.places := by
  cases e with
  | move n m g o t k =>
    have := V.str.inj (Option.some.inj h)
    exact (by rw [← this]; exact List.mem_cons_of_mem _ List.mem_cons_self)
  | some_ n m g o t =>
    have := V.str.inj (Option.some.inj h)
    show y ∈ (if t = "" then [o] else [o, t])
    rw [if_neg (by rw [this]; exact ny), ← this]
    exact List.mem_cons_of_mem _ List.mem_cons_self
  | come => rcases w with w | w <;> exact absurd w (wno (by decide +kernel))
  | go => rcases w with w | w <;> exact absurd w (wno (by decide +kernel))
  | swap => rcases w with w | w <;> exact absurd w (wno (by decide +kernel))
  | count => rcases w with w | w <;> exact absurd w (wno (by decide +kernel))
  | look => rcases w with w | w <;> exact absurd w (wno (by decide +kernel))
theorem bad_new {n : Str} {e : Ent} {i : Nat} (ne : n ≠ "") (hi : i = 3 ∨ i = 4 ∨ (i = 5 ∧ (e.word = "move" ∨ e.word = "some"))) : Bad n e i (.str n) := fun P G hP hG ⟨e', fi, o, q⟩ => by
  have li : i < e.vals.length := by
    have h5 := vals_len_e e
    rcases hi with rfl | rfl | ⟨rfl, w⟩
    · omega
    · omega
    · cases e with
      | move => exact Nat.le_of_ble_eq_true rfl
      | some_ => exact Nat.le_of_ble_eq_true rfl
      | come => rcases w with w | w <;> exact absurd w (wno (by decide +kernel))
      | go => rcases w with w | w <;> exact absurd w (wno (by decide +kernel))
      | swap => rcases w with w | w <;> exact absurd w (wno (by decide +kernel))
      | count => rcases w with w | w <;> exact absurd w (wno (by decide +kernel))
      | look => rcases w with w | w <;> exact absurd w (wno (by decide +kernel))
  have hv : e'.vals[i]? = some (.str n) := by rw [← q, List.getElem?_set_self li]
  rcases hi with rfl | rfl | ⟨rfl, w⟩
  · rcases pos3 hv with h | h
    · exact hG (of_good o h)
    · exact hP (of_place o h)
  · exact hP (of_place o (pos4 hv))
  · have q1 : V.str e.word = V.str e'.word := by
      have := congrArg (fun l : List V => l[0]?) q
      rw [show e.vals.set 5 (.str n) = .str e.word :: (e.parts.set 4 (.str n)) from rfl] at this
      exact Option.some.inj this
    rw [V.str.inj q1] at w
    exact hP (of_place o (pos5 w ne hv))
theorem no_pair {o : Str} : ¬ ([o, o] : List Str).Nodup := fun h => (List.nodup_cons.mp h).1 (List.mem_singleton.mpr rfl)
theorem bad_swap3 {n nme o t : Str} {m : Int} : Bad n (.swap nme m o t) 3 (.str t) := fun P G _ _ ⟨e', fi, _, q⟩ => by
  have q1 : (Ent.swap nme m t t).vals = e'.vals := q
  rw [← vals_inj q1] at fi
  exact no_pair fi.apart
theorem bad_swap4 {n nme o t : Str} {m : Int} : Bad n (.swap nme m o t) 4 (.str o) := fun P G _ _ ⟨e', fi, _, q⟩ => by
  have q1 : (Ent.swap nme m o o).vals = e'.vals := q
  rw [← vals_inj q1] at fi
  exact no_pair fi.apart
theorem bad_move4 {n nme g o t : Str} {m k : Int} : Bad n (.move nme m g o t k) 4 (.str t) := fun P G _ _ ⟨e', fi, _, q⟩ => by
  have q1 : (Ent.move nme m g t t k).vals = e'.vals := q
  rw [← vals_inj q1] at fi
  exact no_pair fi.apart
theorem bad_move5 {n nme g o t : Str} {m k : Int} : Bad n (.move nme m g o t k) 5 (.str o) := fun P G _ _ ⟨e', fi, _, q⟩ => by
  have q1 : (Ent.move nme m g o o k).vals = e'.vals := q
  rw [← vals_inj q1] at fi
  exact no_pair fi.apart
theorem fit_nm {v : V} : fitB v "name" = nmV v := if_pos rfl
theorem bad_some4 {n nme g o t : Str} {m : Int} : Bad n (.some_ nme m g o t) 4 (.str t) := by
  by_cases z : t = ""
  · refine bad_fit (e := .some_ nme m g o t) (i := 3) (x := "name") rfl ?_
    rw [fit_nm, z]
    decide +kernel
  · exact fun P G _ _ ⟨e', fi, _, q⟩ => by
      have q1 : (Ent.some_ nme m g t t).vals = e'.vals := q
      rw [← vals_inj q1] at fi
      have := fi.apart
      rw [show Ent.places (.some_ nme m g t t) = [t, t] from if_neg z] at this
      exact no_pair this
theorem bad_some5 {n nme g o t : Str} {m : Int} (z : o ≠ "") : Bad n (.some_ nme m g o t) 5 (.str o) := fun P G _ _ ⟨e', fi, _, q⟩ => by
  have q1 : (Ent.some_ nme m g o o).vals = e'.vals := q
  rw [← vals_inj q1] at fi
  have := fi.apart
  rw [show Ent.places (.some_ nme m g o o) = [o, o] from if_neg z] at this
  exact no_pair this
/-- what is no name -/
def oddV (t l d : Addr) : List V := [.str "", .str "A", .str "abcdefghi", .non, .int 7, .str "a b", .str "a1", .ref t, .ref l, .bl true, .ref d, .str "-"]
theorem odd_nm {t l d : Addr} : ∀ v ∈ oddV t l d, nmV v = false := by
  intro v hv
  simp only [oddV, List.mem_cons, List.not_mem_nil, or_false] at hv
  rcases hv with rfl | rfl | rfl | rfl | rfl | rfl | rfl | rfl | rfl | rfl | rfl | rfl <;> first | rfl | decide +kernel
theorem odd_end {t l d : Addr} : ∀ v ∈ (oddV t l d).drop 1, fitB v "end" = false := by
  have e : ∀ v : V, fitB v "end" = (decide (v = .str "") || nmV v) := fun v => by
    unfold fitB
    rw [if_neg ken, if_pos rfl]
  intro v hv
  rw [e, odd_nm v (List.mem_of_mem_drop hv), Bool.or_false]
  refine decide_eq_false fun z => ?_
  subst z
  have hv' : V.str "" ∈ ([.str "A", .str "abcdefghi", .non, .int 7, .str "a b", .str "a1", .ref t, .ref l, .bl true, .ref d, .str "-"] : List V) := hv
  simp only [List.mem_cons, List.not_mem_nil, or_false, reduceCtorEq, false_or, V.str.injEq] at hv'
  revert hv'
  decide +kernel
theorem fit_int_no {x : Str} (hx : x ∈ sorts4) {v : V} (h : ∀ i, v ≠ .int i) : fitB v x = false := by
  cases e : fitB v x with
  | false => rfl
  | true =>
    obtain ⟨i, r⟩ := fit_int e hx
    exact absurd r (h i)
theorem fit_low {x : Str} (hx : x ∈ sorts4) {i : Int} (h : i < 0 ∨ 1000000000 < i) : fitB (.int i) x = false := by
  simp only [sorts4, List.mem_cons, List.not_mem_nil, or_false] at hx
  have d : ∀ {p q : Prop} [Decidable p] [Decidable q], ¬ (p ∧ q) → (decide p && decide q) = false := fun {p q} _ _ h => by
    by_cases z : p
    · rw [decide_eq_false (fun y => h ⟨z, y⟩ : ¬ q), Bool.and_false]
    · rw [decide_eq_false z, Bool.false_and]
  rcases hx with rfl | rfl | rfl | rfl
  · unfold fitB inB bnd
    rw [if_neg kmn, if_neg kme, if_pos rfl]
    exact d (by rintro ⟨a, b⟩; dsimp only at a b; omega)
  · unfold fitB inB bnd
    rw [if_neg kyn, if_neg kye, if_neg kym, if_pos rfl]
    exact d (by rintro ⟨a, b⟩; dsimp only at a b; omega)
  · unfold fitB inB bnd
    rw [if_neg kcn, if_neg kce, if_neg kcm, if_neg kcy]
    exact d (by rintro ⟨a, b⟩; dsimp only at a b; omega)
  · unfold fitB inB bnd
    rw [if_neg kpn, if_neg kpe, if_neg kpm, if_neg kpy]
    exact d (by rintro ⟨a, b⟩; dsimp only at a b; omega)
theorem fit_m10 {i : Int} (h : 9999 < i) : fitB (.int i) "moment" = false := by
  unfold fitB inB bnd
  rw [if_neg kmn, if_neg kme, if_pos rfl]
  rw [Bool.and_eq_false_iff]
  exact .inr (decide_eq_false (by show ¬ i ≤ 9999; omega))
theorem fit_y0 : fitB (.int 0) "many" = false := by
  unfold fitB inB bnd
  rw [if_neg kyn, if_neg kye, if_neg kym, if_pos rfl]
  rfl
theorem bad_num {n : Str} {e : Ent} {k : Nat} {x : Str} (hx : x ∈ sorts4) (hs : e.sorts[k]? = some x) {H H' : Hp} {l : Addr} (nl : H l = none) (hl : H' l = some (.lst [])) {a b : Int} (ha : 1000000000 < a) (hb : 1000000000 < b) :
    ∀ v ∈ ([V.int (-1), .int a, .bl true, .non, .str "5", .int b, .ref l] : List V), Thg H' v ∧ (∀ c, v = .ref c → H c = none) ∧ Bad n e (k + 1) v := by
  intro v hv
  simp only [List.mem_cons, List.not_mem_nil, or_false] at hv
  rcases hv with rfl | rfl | rfl | rfl | rfl | rfl | rfl
  · exact ⟨.int _, fun c e => (nomatch e), bad_fit hs (fit_low hx (.inl (by decide)))⟩
  · exact ⟨.int _, fun c e => (nomatch e), bad_fit hs (fit_low hx (.inr ha))⟩
  · exact ⟨.bl _, fun c e => (nomatch e), bad_fit hs (fit_int_no hx fun i e => nomatch e)⟩
  · exact ⟨.non, fun c e => (nomatch e), bad_fit hs (fit_int_no hx fun i e => nomatch e)⟩
  · exact ⟨.str _ (by decide +kernel), fun c e => (nomatch e), bad_fit hs (fit_int_no hx fun i e => nomatch e)⟩
  · exact ⟨.int _, fun c e => (nomatch e), bad_fit hs (fit_low hx (.inr hb))⟩
  · exact ⟨.lst hl, fun c e => by rw [← V.ref.inj e]; exact nl, bad_fit hs (fit_int_no hx fun i e => nomatch e)⟩
theorem is_swap {e : Ent} (h : e.word = "swap") : ∃ n m o t, e = .swap n m o t := by
  cases e with
  | swap n m o t => exact ⟨n, m, o, t, rfl⟩
  | _ => exact absurd h (wno (by decide +kernel))
theorem is_ms {e : Ent} (h : e.word = "move" ∨ e.word = "some") : (∃ n m g o t k, e = .move n m g o t k) ∨ ∃ n m g o t, e = .some_ n m g o t := by
  cases e with
  | move n m g o t k => exact .inl ⟨n, m, g, o, t, k, rfl⟩
  | some_ n m g o t => exact .inr ⟨n, m, g, o, t, rfl⟩
  | _ => rcases h with h | h <;> exact absurd h (wno (by decide +kernel))
theorem ms_in (e : Ent) : inV (.str e.word) [V.str "move", .str "some"] = decide (e.word = "move" ∨ e.word = "some") := by
  have h : ∀ y : Str, y ∈ words7 → inV (.str y) [V.str "move", .str "some"] = decide (y = "move" ∨ y = "some") := by
    intro y hy
    simp only [words7, List.mem_cons, List.not_mem_nil, or_false] at hy
    rcases hy with rfl | rfl | rfl | rfl | rfl | rfl | rfl <;> decide +kernel
  exact h _ e.word_in
theorem cgc_in (e : Ent) : inV (.str e.word) [V.str "come", .str "go", .str "count"] = decide (e.word = "come" ∨ e.word = "go" ∨ e.word = "count") := by
  have h : ∀ y : Str, y ∈ words7 → inV (.str y) [V.str "come", .str "go", .str "count"] = decide (y = "come" ∨ y = "go" ∨ y = "count") := by
    intro y hy
    simp only [words7, List.mem_cons, List.not_mem_nil, or_false] at hy
    rcases hy with rfl | rfl | rfl | rfl | rfl | rfl | rfl <;> decide +kernel
  exact h _ e.word_in
/-! ### odd names, odd parts, odd entries -/
structure OddAt (H H' : Hp) (L t l d : Addr) : Prop where
  sm : Same H H'
  nL : H L = none
  nt : H t = none
  nl : H l = none
  nd : H d = none
  hL : H' L = some (.lst (oddV t l d))
  ht : H' t = some (.tup [.str "a"])
  hl : H' l = some (.lst [.str "a"])
  hd : H' d = some (.dK [])
theorem OddAt.thg {H H' : Hp} {L t l d : Addr} (o : OddAt H H' L t l d) : ∀ v ∈ oddV t l d, Thg H' v ∧ ∀ a, v = .ref a → H a = none := by
  have s : ∀ z : Str, z ∈ (["", "A", "abcdefghi", "a b", "a1", "-"] : List Str) → z.length ≤ 1000 := by decide +kernel
  intro v hv
  simp only [oddV, List.mem_cons, List.not_mem_nil, or_false] at hv
  rcases hv with rfl | rfl | rfl | rfl | rfl | rfl | rfl | rfl | rfl | rfl | rfl | rfl
  · exact ⟨.str _ (s _ (by simp)), fun a e => nomatch e⟩
  · exact ⟨.str _ (s _ (by simp)), fun a e => nomatch e⟩
  · exact ⟨.str _ (s _ (by simp)), fun a e => nomatch e⟩
  · exact ⟨.non, fun a e => nomatch e⟩
  · exact ⟨.int _, fun a e => nomatch e⟩
  · exact ⟨.str _ (s _ (by simp)), fun a e => nomatch e⟩
  · exact ⟨.str _ (s _ (by simp)), fun a e => nomatch e⟩
  · exact ⟨.tup o.ht, fun a e => by rw [← V.ref.inj e]; exact o.nt⟩
  · exact ⟨.lst o.hl, fun a e => by rw [← V.ref.inj e]; exact o.nl⟩
  · exact ⟨.bl _, fun a e => nomatch e⟩
  · exact ⟨.dct o.hd, fun a e => by rw [← V.ref.inj e]; exact o.nd⟩
  · exact ⟨.str _ (s _ (by simp)), fun a e => nomatch e⟩
def spOddN : Sp := fun vs H Q _ => vs = [] ∧ ∀ (L t l d : Addr) (H' : Hp), OddAt H H' L t l d → Q (.ref L) H'
/-- things in a new list, each of which makes the entry none -/
structure BadL (n : Str) (e : Ent) (i : Nat) (H H' : Hp) (L : Addr) (vs : List V) : Prop where
  sm : Same H H'
  nL : H L = none
  hL : H' L = some (.lst vs)
  le : 1 ≤ vs.length ∧ vs.length ≤ 20
  bad : ∀ v ∈ vs, Thg H' v ∧ (∀ a, v = .ref a → H a = none) ∧ Bad n e i v
abbrev nm3 (B : List Nat) (sp t : Nat) : Str := sc (nmC B sp t 300)
def spOddP : Sp := fun vs H Q _ => ∃ (wd ea : Addr) (B : List Nat) (sp t : Nat) (e : Ent) (i : Nat), vs = [.ref wd, .ref ea, .int (i : Int)] ∧ WdAt H wd B sp t ∧ H ea = some (.tup e.vals) ∧ i < e.vals.length ∧ (∀ y ∈ e.places, nameB y = true) ∧
  ∀ (L : Addr) (us : List V) (H' : Hp), BadL (nm3 B sp t) e i H H' L us → Q (.ref L) H'
theorem nn {a b : Int} (h : a ≠ b) : V.bl (decide (V.int a = V.int b)) = V.bl false := congrArg V.bl (decide_eq_false fun z => h (V.int.inj z))
theorem yy {a b : Int} (h : a = b) : V.bl (decide (V.int a = V.int b)) = V.bl true := congrArg V.bl (decide_eq_true (congrArg V.int h))
theorem sn {a b : String} (h : (Str.ofString a == Str.ofString b) = false) : V.bl (decide (V.str (Str.ofString a) = V.str (Str.ofString b))) = V.bl false := congrArg V.bl (decide_eq_false fun z => wno h (V.str.inj z))
theorem sy {a : Str} : V.bl (decide (V.str a = V.str a)) = V.bl true := congrArg V.bl (decide_eq_true rfl)
theorem yyS {a : Str} : V.bl (decide (V.str a = V.str a)) = V.bl true := congrArg V.bl (decide_eq_true rfl)
theorem nnS {a b : Str} (h : a ≠ b) : V.bl (decide (V.str a = V.str b)) = V.bl false := congrArg V.bl (decide_eq_false fun z => h (V.str.inj z))
theorem up_bad (e : Ent) : V.str (Txt.upper e.word) ∉ words7.map V.str := by
  have h : ∀ w ∈ words7, Txt.upper w ∉ words7 := by decide +kernel
  intro z
  obtain ⟨y, hy, q⟩ := List.mem_map.mp z
  exact h _ e.word_in (V.str.inj q ▸ hy)
theorem sp_bad (e : Ent) : V.str (e.word ++ " ") ∉ words7.map V.str := by
  have h : ∀ w ∈ words7, (w ++ " " : Str) ∉ words7 := by decide +kernel
  intro z
  obtain ⟨y, hy, q⟩ := List.mem_map.mp z
  exact h _ e.word_in (V.str.inj q ▸ hy)
theorem up_short (e : Ent) : (Txt.upper e.word).length ≤ 1000 ∧ (e.word ++ " " : Str).length ≤ 1000 ∧ e.word.length ≤ 1000 := by
  have h : ∀ w ∈ words7, (Txt.upper w).length ≤ 1000 ∧ (w ++ " " : Str).length ≤ 1000 ∧ w.length ≤ 1000 := by decide +kernel
  exact h _ e.word_in
theorem not_word {v : V} (h : ∀ z, v = .str z → z ∉ words7) : v ∉ words7.map V.str := fun q => by
  obtain ⟨y, hy, rfl⟩ := List.mem_map.mp q
  exact h y rfl hy
section
variable {P : Program} {w : World} {K : PySem.W.Frag} {mg : Str → Option Value} {base : Heap}
abbrev sOddNN : List Str := []
theorem sc_sOddN : FnScope sOddNN [] (defScope sOddN) := ⟨rfl, rfl, rfl, by decide +kernel, rfl, by decide +kernel, by decide +kernel⟩
theorem ok_oddN {f : Addr} {fd : FuncData} (F : Fun K "_law_odd_names" "_law_odd_names" sOddN f fd) : FnOk P w K mg base CX0 1 f fd [] spOddN := by
  refine F.ok sc_sOddN (fun vs H Q E h => ?_) (fun cdv A outer s H vs Q E hr h => ?_)
  · obtain ⟨rfl, _⟩ := h
    rfl
  · obtain ⟨rfl, q⟩ := h
    have nd := sc_sOddN.nd
    refine ⟨_, pss_one (ps_ret (pe_lst (pa_cons pe_str (pa_cons pe_str (pa_cons pe_str (pa_cons pe_non (pa_cons pe_int (pa_cons pe_str (pa_cons pe_str (pa_cons (pe_tup (pa_cons pe_str pa_nil)) (pa_cons (pe_lst (pa_cons pe_str pa_nil)) (pa_cons pe_bl (pa_cons pe_dnewK (pa_cons pe_str pa_nil)))))))))))))), ?_⟩
    refine ⟨(by show 1 ≤ sizeLine; decide), fun t nt => ⟨(by show 1 ≤ sizeLine; decide), fun l nl => ?_⟩⟩
    have s1 := @same_new _ _ (.tup [V.str "a"]) nt
    have h1 := @upd_same H t (.tup [V.str "a"])
    generalize upd H t (.tup [V.str "a"]) = H1 at s1 h1 nl ⊢
    have s2 := @same_new _ _ (.lst [V.str "a"]) nl
    have h2 := @upd_same H1 l (.lst [V.str "a"])
    refine fun d nd1 => ?_
    generalize upd H1 l (.lst [V.str "a"]) = H2 at s2 h2 nd1 ⊢
    have s3 := @same_new _ _ (.dK []) nd1
    have h3 := @upd_same H2 d (.dK [])
    generalize upd H2 d (.dK []) = H3 at s3 h3 ⊢
    refine ⟨(by show 12 ≤ sizeLine; decide), fun L nL => ?_⟩
    have s4 := @same_new _ _ (.lst (oddV t l d)) nL
    have s14 := s1.trans (s2.trans (s3.trans s4))
    exact q L t l d _ ⟨s14, s1.free (s2.free (s3.free nL)), nt, s1.free nl, s1.free (s2.free nd1), upd_same, s4 _ _ (s3 _ _ (s2 _ _ h1)), s4 _ _ (s3 _ _ h2), s4 _ _ h3⟩
abbrev sOddPN : List Str := ["_law_words_here", "_law_entry_here", "_law_spot", "_law_word", "_law_odd"]
theorem sc_sOddP : FnScope sOddPN ["_law_words_here", "_law_entry_here", "_law_spot"] (defScope sOddP) := ⟨rfl, rfl, rfl, by decide +kernel, rfl, by decide +kernel, by decide +kernel⟩
set_option maxHeartbeats 4000000 in
theorem ok_oddP {f fN fO : Addr} {fd dN dO : FuncData} (F : Fun K "_law_odd_parts" "_law_odd_parts" sOddP f fd) (LN : DefT P w K mg base "_law_name" 1 fN dN ["_law_words_here", "_law_number"] spLName) (ON : DefT P w K mg base "_law_odd_names" 1 fO dO [] spOddN) (mi : mg "int" = none) :
    FnOk P w K mg base CX0 2 f fd ["_law_words_here", "_law_entry_here", "_law_spot"] spOddP := by
  refine F.ok sc_sOddP (fun vs H Q E h => ?_) (fun cdv A outer s H vs Q E hr h => ?_)
  · obtain ⟨wd, ea, B, sp, t, e, i, rfl, _⟩ := h
    rfl
  · obtain ⟨wd, ea, B, sp, t, e, i, rfl, hw, he, li, hpn, q⟩ := h
    have nd := sc_sOddP.nd
    refine ⟨_, pss_cons (ps_set (i := 3) nd rfl (Or.inl rfl) (pe_ix ix_tup (pv 1) pe_int (fun _ _ => rfl)))
      (pss_cons (ps_if (pt_cmpR op_eq (pv 2) pe_int (nomark _)) (pss_one (ps_ret (pe_lst (pa_cons (pe_upper (pv 3)) (pa_cons pe_str (pa_cons pe_str (pa_cons pe_non (pa_cons pe_int (pa_cons (pe_lst (pa_cons (pv 3) pa_nil)) (pa_cons pe_bl (pa_cons (pe_op op_add_str (pv 3) pe_str) pa_nil))))))))))) pss_nil)
      (pss_cons (ps_if (pt_cmpR op_eq (pv 2) pe_int (nomark _)) (pss_one (ps_ret (pe_lst (pa_cons (pe_un un_neg pe_int) (pa_cons pe_int (pa_cons pe_bl (pa_cons pe_non (pa_cons pe_str (pa_cons (pe_op op_pow pe_int pe_int) (pa_cons (pe_lst pa_nil) (pa_cons (pe_un un_neg (pe_op op_pow pe_int pe_int)) pa_nil))))))))))) pss_nil)
      (pss_cons (ps_if (PW.pt (pw_or (PW.pt (pw_and (pt_cmpR op_eq (pv 2) pe_int (nomark _)) (pw_and1 (pt_cmpR op_in_seq (pv 3) (pe_tup (pa_cons pe_str (pa_cons pe_str (pa_cons pe_str pa_nil)))) (by rfl))))) (pw_or1 (PW.pt (pw_and (pt_cmpR op_eq (pv 2) pe_int (nomark _)) (pw_and1 (pt_cmpR op_eq (pv 3) pe_str (nomark _)))))))) (pss_one (ps_ret (pe_lst (pa_cons (pe_un un_neg pe_int) (pa_cons (pe_op op_add (pe_op op_pow pe_int pe_int) pe_int) (pa_cons pe_bl (pa_cons pe_non (pa_cons pe_str (pa_cons (pe_op op_pow pe_int pe_int) (pa_cons (pe_lst pa_nil) (pa_cons (pe_op op_sub pe_int (pe_callTy call_int1 (by rfl) mi (by decide +kernel) (pa_cons (pe_cmpR op_eq (pv 3) pe_str (nomark _)) pa_nil))) pa_nil))))))))))) pss_nil)
      (pss_cons (ps_if (PW.pt (pw_and (pt_cmpR op_eq (pv 2) pe_int (nomark _)) (pw_and1 (pt_cmpR op_eq (pv 3) pe_str (nomark _))))) (pss_one (ps_ret (pe_lst (pa_cons (pe_un un_neg pe_int) (pa_cons (pe_op op_add (pe_op op_pow pe_int pe_int) pe_int) (pa_cons pe_bl (pa_cons pe_non (pa_cons pe_str (pa_cons (pe_op op_pow pe_int pe_int) (pa_cons (pe_lst pa_nil) pa_nil)))))))))) pss_nil)
      (pss_cons (ps_if (PW.pt (pw_or (pt_cmpR op_eq (pv 2) pe_int (nomark _)) (pw_or1 (pt_cmpR op_eq (pv 2) pe_int (nomark _))))) (pss_one (ps_ret (pe_call0 ON.ok hr (by rfl) ON.g ON.kp ON.b .nil pass0))) pss_nil)
      (pss_cons (ps_set (i := 4) nd rfl (Or.inl rfl) (pe_op op_cat (pe_lst (pa_cons (pe_call LN.ok hr (by rfl) LN.g LN.kp LN.b .nil pass0 (pa_cons (pv 0) (pa_cons pe_int pa_nil))) pa_nil)) (pe_call0 ON.ok hr (by rfl) ON.g ON.kp ON.b .nil pass0)))
      (pss_cons (ps_if (pt_cmpR op_eq (pv 3) pe_str (nomark _)) (pss_one (ps_ret (pe_op op_cat (pv 4) (pe_lst (pa_cons (pe_ix ix_tup (pv 1) (pe_op op_sub pe_int (pv 2)) (fun _ _ => rfl)) pa_nil))))) pss_nil)
      (pss_cons (ps_if (PW.pt (pw_and (pt_cmpR op_gt (pv 2) pe_int (nomark _)) (pw_and1 (pt_cmpR op_in_seq (pv 3) (pe_tup (pa_cons pe_str (pa_cons pe_str pa_nil))) (by rfl))))) (pss_one (ps_ret (pe_op op_cat (pe_op op_cat (pe_slice sl_list (pv 4) po_none (po_some pe_int)) (pe_slice sl_list (pv 4) (po_some pe_int) po_none)) (pe_lst (pa_cons (pe_ix ix_tup (pv 1) (pe_op op_sub pe_int (pv 2)) (fun _ _ => rfl)) pa_nil))))) pss_nil)
      (pss_one (ps_ret (pv 4))))))))))), ?_⟩
    refine ⟨_, rfl, ea, _, 0, _, rfl, rfl, SqT.of he, at0 e, ?_⟩
    have l7 := vals_len_e e
    have cpow : CPow 10 59 := by show (0 : Int) ≤ 59 ∧ (59 : Int) ≤ 1000000 ∧ (10 : Int).natAbs < 2 ^ 64; decide
    have cpow9 : CPow 10 9 := by show (0 : Int) ≤ 9 ∧ (9 : Int) ≤ 1000000 ∧ (10 : Int).natAbs < 2 ^ 64; decide
    have big : (10000000000 : Int) ≤ 10 ^ (59 : Int).toNat := by decide +kernel
    have e9 : (10 : Int) ^ (9 : Int).toNat = 1000000000 := by decide
    have n3 : nameB (nm3 B sp t) = true := nmC_name hw.ok (by decide)
    have ne3 : nm3 B sp t ≠ "" := name_ne n3
    have sh3 : (nm3 B sp t).length ≤ 1000 := Nat.le_trans (name_len n3).2 (by decide)
    have i7 : i = 0 ∨ i = 1 ∨ i = 2 ∨ i = 3 ∨ i = 4 ∨ i = 5 ∨ i = 6 := by omega
    -- a list of scalars and of one new list
    have scal_ : ∀ {v : V}, (∀ a, v ≠ .ref a) → ∀ a, v = .ref a → H a = none := fun h a e => absurd e (h a)
    rcases i7 with rfl | rfl | rfl | rfl | rfl | rfl | rfl
    · -- the word
      refine ⟨_, rfl, rfl, true, yy rfl, iteT ⟨_, rfl, ⟨_, rfl⟩, _, rfl, rfl, (Nat.le_trans (up_short e).2.2 (by decide)), ?_⟩⟩
      refine ⟨_, rfl, (by show 1 ≤ sizeLine; decide), fun l nl => ?_⟩
      have s1 := @same_new _ _ (.lst [V.str e.word]) nl
      have h1 := @upd_same H l (.lst [V.str e.word])
      refine ⟨_, rfl, _, _, rfl, rfl, (Nat.le_trans (by have := (up_short e).2.1; rw [Str.length_append] at this; exact this) (by decide)), (by show 8 ≤ sizeLine; decide), fun L nL => ?_⟩
      generalize upd H l (.lst [V.str e.word]) = H1 at s1 h1 nL ⊢
      have s2 := @same_new _ _ (.lst [V.str (Txt.upper e.word), .str "", .str "comes", .non, .int 7, .ref l, .bl true, .str (e.word ++ " ")]) nL
      refine q L _ _ ⟨s1.trans s2, s1.free nL, upd_same, by show 1 ≤ 8 ∧ 8 ≤ 20; decide, fun v hv => ?_⟩
      simp only [List.mem_cons, List.not_mem_nil, or_false] at hv
      rcases hv with rfl | rfl | rfl | rfl | rfl | rfl | rfl | rfl
      · exact ⟨.str _ (up_short e).1, scal_ fun a => nofun, bad_word (up_bad e)⟩
      · exact ⟨.str _ (by decide +kernel), scal_ fun a => nofun, bad_word (not_word fun z h => by cases h; decide +kernel)⟩
      · exact ⟨.str _ (by decide +kernel), scal_ fun a => nofun, bad_word (not_word fun z h => by cases h; decide +kernel)⟩
      · exact ⟨.non, scal_ fun a => nofun, bad_word (not_word fun z h => nomatch h)⟩
      · exact ⟨.int _, scal_ fun a => nofun, bad_word (not_word fun z h => nomatch h)⟩
      · exact ⟨.lst (s2 _ _ h1), fun a h => by rw [← V.ref.inj h]; exact nl, bad_word (not_word fun z h => nomatch h)⟩
      · exact ⟨.bl _, scal_ fun a => nofun, bad_word (not_word fun z h => nomatch h)⟩
      · exact ⟨.str _ (up_short e).2.1, scal_ fun a => nofun, bad_word (sp_bad e)⟩
    · -- the name
      refine ⟨_, rfl, rfl, false, nn (by decide), iteF ⟨_, rfl, rfl, false, nn (by decide), iteF ⟨_, rfl, rfl, false, nn (by decide), iteF ⟨_, rfl, rfl, false, nn (by decide), iteF ?_⟩⟩⟩⟩
      refine ⟨_, rfl, rfl, false, nn (by decide), iteF ⟨_, rfl, rfl, true, yy rfl, iteT ⟨rfl, fun L t l d H' oa => ?_⟩⟩⟩
      have hx : e.sorts[0]? = some ("name" : Str) := by cases e <;> rfl
      exact q L _ H' ⟨oa.sm, oa.nL, oa.hL, by show 1 ≤ 12 ∧ 12 ≤ 20; decide, fun v hv => ⟨(oa.thg v hv).1, (oa.thg v hv).2, bad_fit hx (fit_nm.trans (odd_nm v hv))⟩⟩
    · -- the moment
      refine ⟨_, rfl, rfl, false, nn (by decide), iteF ⟨_, rfl, rfl, true, yy rfl, iteT ?_⟩⟩
      refine ⟨1, rfl, 10, 59, rfl, rfl, cpow, Nat.zero_le _, fun l nl => ?_⟩
      have s1 := @same_new _ _ (.lst []) nl
      have h1 := @upd_same H l (.lst [])
      refine ⟨10, 59, rfl, rfl, cpow, _, rfl, (by show 8 ≤ sizeLine; decide), fun L nL => ?_⟩
      generalize upd H l (.lst []) = H1 at s1 h1 nL ⊢
      have s2 := @same_new _ _ (.lst [V.int (-1), .int 10000, .bl true, .non, .str "7", .int (10 ^ (59 : Int).toNat), .ref l, .int (-(10 ^ (59 : Int).toNat))]) nL
      have hx : e.sorts[1]? = some ("moment" : Str) := by cases e <;> rfl
      have hm : ("moment" : Str) ∈ sorts4 := by simp [sorts4]
      refine q L [V.int (-1), .int 10000, .bl true, .non, .str "7", .int (10 ^ (59 : Int).toNat), .ref l, .int (-(10 ^ (59 : Int).toNat))] _ ⟨s1.trans s2, s1.free nL, upd_same, by show 1 ≤ 8 ∧ 8 ≤ 20; decide, fun v hv => ?_⟩
      simp only [List.mem_cons, List.not_mem_nil, or_false] at hv
      rcases hv with rfl | rfl | rfl | rfl | rfl | rfl | rfl | rfl
      · exact ⟨.int _, scal_ fun a => nofun, bad_fit hx (fit_low hm (.inl (by decide)))⟩
      · exact ⟨.int _, scal_ fun a => nofun, bad_fit hx (fit_m10 (by decide))⟩
      · exact ⟨.bl _, scal_ fun a => nofun, bad_fit hx (fit_int_no hm fun i h => nomatch h)⟩
      · exact ⟨.non, scal_ fun a => nofun, bad_fit hx (fit_int_no hm fun i h => nomatch h)⟩
      · exact ⟨.str _ (by decide +kernel), scal_ fun a => nofun, bad_fit hx (fit_int_no hm fun i h => nomatch h)⟩
      · exact ⟨.int _, scal_ fun a => nofun, bad_fit hx (fit_m10 (by omega))⟩
      · exact ⟨.lst (s2 _ _ h1), fun a h => by rw [← V.ref.inj h]; exact nl, bad_fit hx (fit_int_no hm fun i h => nomatch h)⟩
      · exact ⟨.int _, scal_ fun a => nofun, bad_fit hx (fit_low hm (.inl (by omega)))⟩
    · -- the good, or a place
      refine ⟨_, rfl, rfl, false, nn (by decide), iteF ⟨_, rfl, rfl, false, nn (by decide), iteF ⟨_, rfl, rfl, false, nn (by decide), iteF ⟨_, rfl, rfl, false, nn (by decide), iteF ?_⟩⟩⟩⟩
      refine ⟨_, rfl, rfl, false, nn (by decide), iteF ⟨_, rfl, rfl, false, nn (by decide), iteF ⟨_, rfl, rfl, false, nn (by decide), iteF ?_⟩⟩⟩
      refine ⟨_, rfl, wd, B, sp, t, 300, rfl, hw, by decide, (by show 1 ≤ sizeLine; decide), fun l1 nl1 => ?_⟩
      have s1 := @same_new _ _ (.lst [V.str (nm3 B sp t)]) nl1
      have h1 := @upd_same H l1 (.lst [V.str (nm3 B sp t)])
      generalize upd H l1 (.lst [V.str (nm3 B sp t)]) = H1 at s1 h1 ⊢
      refine ⟨rfl, fun L0 t0 l0 d0 H2 oa => ⟨l1, L0, _, _, rfl, rfl, oa.sm _ _ h1, oa.hL, (by show 1 + 12 ≤ sizeLine; decide), fun L2 nL2 => ?_⟩⟩
      have s3 : Same H2 (upd H2 L2 (.lst ([V.str (nm3 B sp t)] ++ oddV t0 l0 d0))) := same_new nL2
      have h3 : (upd H2 L2 (.lst ([V.str (nm3 B sp t)] ++ oddV t0 l0 d0))) L2 = some (.lst (V.str (nm3 B sp t) :: oddV t0 l0 d0)) := upd_same
      have s03 : Same H (upd H2 L2 (.lst ([V.str (nm3 B sp t)] ++ oddV t0 l0 d0))) := s1.trans (oa.sm.trans s3)
      have free2 : ∀ a, H2 a = none → H a = none := fun a h => s1.free (oa.sm.free h)
      generalize upd H2 L2 (.lst ([V.str (nm3 B sp t)] ++ oddV t0 l0 d0)) = H3 at s3 h3 s03 ⊢
      have he3 := s03 _ _ he
      have hx : e.sorts[2]? = some ("name" : Str) := by cases e <;> rfl
      have bb : ∀ {H4 : Hp}, Same H3 H4 → ∀ v ∈ V.str (nm3 B sp t) :: oddV t0 l0 d0, Thg H4 v ∧ (∀ a, v = .ref a → H a = none) ∧ Bad (nm3 B sp t) e 3 v := fun s4 v hv => by
        rcases List.mem_cons.mp hv with rfl | hv
        · exact ⟨.str _ sh3, scal_ fun a => nofun, bad_new ne3 (.inl rfl)⟩
        · exact ⟨(oa.thg v hv).1.on fun a o _ h _ => s4 _ _ (s3 _ _ h), fun a h => s1.free ((oa.thg v hv).2 a h), bad_fit hx (fit_nm.trans (odd_nm v hv))⟩
      by_cases sw : e.word = "swap"
      · obtain ⟨nme, m, o, tt, rfl⟩ := is_swap sw
        refine ⟨_, rfl, rfl, true, yyS, iteT ⟨_, rfl, _, rfl, _, rfl, 7, _, rfl, rfl, ea, _, 4, _, rfl, rfl, SqT.of he3, atI_nat (j := 4) rfl, (by show 1 ≤ sizeLine; decide), fun l4 nl4 => ?_⟩⟩
        have s4 := @same_new _ _ (.lst [V.str tt]) nl4
        have h4 := @upd_same H3 l4 (.lst [V.str tt])
        generalize upd H3 l4 (.lst [V.str tt]) = H4 at s4 h4 ⊢
        refine ⟨L2, l4, _, _, rfl, rfl, s4 _ _ h3, h4, (by show 13 + 1 ≤ sizeLine; decide), fun L5 nL5 => ?_⟩
        have s5 := @same_new _ _ (.lst ((V.str (nm3 B sp t) :: oddV t0 l0 d0) ++ [V.str tt])) nL5
        refine q L5 ((V.str (nm3 B sp t) :: oddV t0 l0 d0) ++ [V.str tt]) _ ⟨s03.trans (s4.trans s5), free2 _ (s3.free (s4.free nL5)), upd_same, by show 1 ≤ 14 ∧ 14 ≤ 20; decide, fun v hv => ?_⟩
        rcases List.mem_append.mp hv with hv | hv
        · exact bb (s4.trans s5) v hv
        · rw [List.mem_singleton.mp hv]
          exact ⟨.str _ (Nat.le_trans (name_len (hpn tt (List.mem_cons_of_mem _ List.mem_cons_self))).2 (by decide)), scal_ fun a => nofun, bad_swap3⟩
      · refine ⟨_, rfl, rfl, false, nnS sw, iteF ⟨_, rfl, (3 : Int), 3, rfl, rfl, false, rfl, iteF ⟨_, rfl, ?_⟩⟩⟩
        exact q L2 _ H3 ⟨s03, free2 _ nL2, h3, by show 1 ≤ 13 ∧ 13 ≤ 20; decide, bb fun _ _ h => h⟩
    · -- a place
      refine ⟨_, rfl, rfl, false, nn (by decide), iteF ⟨_, rfl, rfl, false, nn (by decide), iteF ⟨_, rfl, rfl, false, nn (by decide), iteF ⟨_, rfl, rfl, false, nn (by decide), iteF ?_⟩⟩⟩⟩
      refine ⟨_, rfl, rfl, false, nn (by decide), iteF ⟨_, rfl, rfl, false, nn (by decide), iteF ⟨_, rfl, rfl, false, nn (by decide), iteF ?_⟩⟩⟩
      refine ⟨_, rfl, wd, B, sp, t, 300, rfl, hw, by decide, (by show 1 ≤ sizeLine; decide), fun l1 nl1 => ?_⟩
      have s1 := @same_new _ _ (.lst [V.str (nm3 B sp t)]) nl1
      have h1 := @upd_same H l1 (.lst [V.str (nm3 B sp t)])
      generalize upd H l1 (.lst [V.str (nm3 B sp t)]) = H1 at s1 h1 ⊢
      refine ⟨rfl, fun L0 t0 l0 d0 H2 oa => ⟨l1, L0, _, _, rfl, rfl, oa.sm _ _ h1, oa.hL, (by show 1 + 12 ≤ sizeLine; decide), fun L2 nL2 => ?_⟩⟩
      have s3 : Same H2 (upd H2 L2 (.lst ([V.str (nm3 B sp t)] ++ oddV t0 l0 d0))) := same_new nL2
      have h3 : (upd H2 L2 (.lst ([V.str (nm3 B sp t)] ++ oddV t0 l0 d0))) L2 = some (.lst (V.str (nm3 B sp t) :: oddV t0 l0 d0)) := upd_same
      have s03 : Same H (upd H2 L2 (.lst ([V.str (nm3 B sp t)] ++ oddV t0 l0 d0))) := s1.trans (oa.sm.trans s3)
      have free2 : ∀ a, H2 a = none → H a = none := fun a h => s1.free (oa.sm.free h)
      generalize upd H2 L2 (.lst ([V.str (nm3 B sp t)] ++ oddV t0 l0 d0)) = H3 at s3 h3 s03 ⊢
      have he3 := s03 _ _ he
      have hx : e.sorts[3]? = some ("name" : Str) := by cases e <;> rfl
      have bb : ∀ {H4 : Hp}, Same H3 H4 → ∀ v ∈ V.str (nm3 B sp t) :: oddV t0 l0 d0, Thg H4 v ∧ (∀ a, v = .ref a → H a = none) ∧ Bad (nm3 B sp t) e 4 v := fun s4 v hv => by
        rcases List.mem_cons.mp hv with rfl | hv
        · exact ⟨.str _ sh3, scal_ fun a => nofun, bad_new ne3 (.inr (.inl rfl))⟩
        · exact ⟨(oa.thg v hv).1.on fun a o _ h _ => s4 _ _ (s3 _ _ h), fun a h => s1.free ((oa.thg v hv).2 a h), bad_fit hx (fit_nm.trans (odd_nm v hv))⟩
      by_cases sw : e.word = "swap"
      · obtain ⟨nme, m, o, tt, rfl⟩ := is_swap sw
        refine ⟨_, rfl, rfl, true, yyS, iteT ⟨_, rfl, _, rfl, _, rfl, 7, _, rfl, rfl, ea, _, 3, _, rfl, rfl, SqT.of he3, atI_nat (j := 3) rfl, (by show 1 ≤ sizeLine; decide), fun l4 nl4 => ?_⟩⟩
        have s4 := @same_new _ _ (.lst [V.str o]) nl4
        have h4 := @upd_same H3 l4 (.lst [V.str o])
        generalize upd H3 l4 (.lst [V.str o]) = H4 at s4 h4 ⊢
        refine ⟨L2, l4, _, _, rfl, rfl, s4 _ _ h3, h4, (by show 13 + 1 ≤ sizeLine; decide), fun L5 nL5 => ?_⟩
        have s5 := @same_new _ _ (.lst ((V.str (nm3 B sp t) :: oddV t0 l0 d0) ++ [V.str o])) nL5
        refine q L5 ((V.str (nm3 B sp t) :: oddV t0 l0 d0) ++ [V.str o]) _ ⟨s03.trans (s4.trans s5), free2 _ (s3.free (s4.free nL5)), upd_same, by show 1 ≤ 14 ∧ 14 ≤ 20; decide, fun v hv => ?_⟩
        rcases List.mem_append.mp hv with hv | hv
        · exact bb (s4.trans s5) v hv
        · rw [List.mem_singleton.mp hv]
          exact ⟨.str _ (Nat.le_trans (name_len (hpn o List.mem_cons_self)).2 (by decide)), scal_ fun a => nofun, bad_swap4⟩
      · refine ⟨_, rfl, rfl, false, nnS sw, iteF ⟨_, rfl, (4 : Int), 3, rfl, rfl, true, rfl, iteT ?_⟩⟩
        refine ⟨_, rfl, (by show 2 ≤ sizeLine; decide), fun tp ntp => ?_⟩
        have s4 := @same_new _ _ (.tup [V.str "move", .str "some"]) ntp
        have h4 := @upd_same H3 tp (.tup [V.str "move", .str "some"])
        generalize upd H3 tp (.tup [V.str "move", .str "some"]) = H4 at s4 h4 ⊢
        refine ⟨tp, _, rfl, .inr (SqT.of h4), rfl, rfl, _, congrArg V.bl (ms_in e), ?_⟩
        by_cases ms : e.word = "move" ∨ e.word = "some"
        · rw [decide_eq_true ms]
          refine iteT ⟨_, rfl, 1, rfl, L2, _, rfl, SqL.of (s4 _ _ h3), fun M1 nM1 => ?_⟩
          have s5 := @same_new _ _ (.lst [V.str (nm3 B sp t)]) nM1
          have h5 : (upd H4 M1 (.lst (cutV (V.str (nm3 B sp t) :: oddV t0 l0 d0) none (some 1)))) M1 = some (.lst [V.str (nm3 B sp t)]) := upd_same
          have s5 : Same H4 (upd H4 M1 (.lst (cutV (V.str (nm3 B sp t) :: oddV t0 l0 d0) none (some 1)))) := same_new nM1
          generalize upd H4 M1 (.lst (cutV (V.str (nm3 B sp t) :: oddV t0 l0 d0) none (some 1))) = H5 at s5 h5 ⊢
          refine ⟨_, rfl, 2, rfl, L2, _, rfl, SqL.of (s5 _ _ (s4 _ _ h3)), fun M2 nM2 => ?_⟩
          have h6 : (upd H5 M2 (.lst (cutV (V.str (nm3 B sp t) :: oddV t0 l0 d0) (some 2) none))) M2 = some (.lst ((oddV t0 l0 d0).drop 1)) := upd_same
          have s6 : Same H5 (upd H5 M2 (.lst (cutV (V.str (nm3 B sp t) :: oddV t0 l0 d0) (some 2) none))) := same_new nM2
          generalize upd H5 M2 (.lst (cutV (V.str (nm3 B sp t) :: oddV t0 l0 d0) (some 2) none)) = H6 at s6 h6 ⊢
          refine ⟨M1, M2, _, _, rfl, rfl, s6 _ _ h5, h6, (by show 1 + 11 ≤ sizeLine; decide), fun M3 nM3 => ?_⟩
          have h7 : (upd H6 M3 (.lst ([V.str (nm3 B sp t)] ++ (oddV t0 l0 d0).drop 1))) M3 = some (.lst ([V.str (nm3 B sp t)] ++ (oddV t0 l0 d0).drop 1)) := upd_same
          have s7 : Same H6 (upd H6 M3 (.lst ([V.str (nm3 B sp t)] ++ (oddV t0 l0 d0).drop 1))) := same_new nM3
          generalize upd H6 M3 (.lst ([V.str (nm3 B sp t)] ++ (oddV t0 l0 d0).drop 1)) = H7 at s7 h7 ⊢
          have s47 : Same H3 H7 := s4.trans (s5.trans (s6.trans s7))
          have part : ∃ y : Str, e.vals[5]? = some (.str y) ∧ y.length ≤ 1000 ∧ Bad (nm3 B sp t) e 4 (.str y) := by
            rcases is_ms ms with ⟨n1, m1, g1, o1, t1, k1, rfl⟩ | ⟨n1, m1, g1, o1, t1, rfl⟩
            · exact ⟨t1, rfl, Nat.le_trans (name_len (hpn t1 (List.mem_cons_of_mem _ List.mem_cons_self))).2 (by decide), bad_move4⟩
            · refine ⟨t1, rfl, ?_, bad_some4⟩
              by_cases z : t1 = ""
              · rw [z]; decide +kernel
              · refine Nat.le_trans (name_len (hpn t1 ?_)).2 (by decide)
                show t1 ∈ (if t1 = "" then [o1] else [o1, t1])
                rw [if_neg z]
                exact List.mem_cons_of_mem _ List.mem_cons_self
          obtain ⟨y, y1, y2, y3⟩ := part
          refine ⟨_, rfl, _, rfl, 9, _, rfl, rfl, ea, _, 5, _, rfl, rfl, SqT.of (s47 _ _ he3), atI_nat (j := 5) y1, (by show 1 ≤ sizeLine; decide), fun l8 nl8 => ?_⟩
          have s8 := @same_new _ _ (.lst [V.str y]) nl8
          have h8 := @upd_same H7 l8 (.lst [V.str y])
          generalize upd H7 l8 (.lst [V.str y]) = H8 at s8 h8 ⊢
          refine ⟨M3, l8, _, _, rfl, rfl, s8 _ _ h7, h8, (by show 12 + 1 ≤ sizeLine; decide), fun L9 nL9 => ?_⟩
          have s9 := @same_new _ _ (.lst (([V.str (nm3 B sp t)] ++ (oddV t0 l0 d0).drop 1) ++ [V.str y])) nL9
          refine q L9 (([V.str (nm3 B sp t)] ++ (oddV t0 l0 d0).drop 1) ++ [V.str y]) _ ⟨s03.trans (s47.trans (s8.trans s9)), free2 _ (s3.free (s47.free (s8.free nL9))), upd_same, by show 1 ≤ 13 ∧ 13 ≤ 20; decide, fun v hv => ?_⟩
          rcases List.mem_append.mp hv with hv | hv
          · refine bb (s47.trans (s8.trans s9)) v ?_
            rcases List.mem_append.mp hv with hv | hv
            · rw [List.mem_singleton.mp hv]
              exact List.mem_cons_self
            · exact List.mem_cons_of_mem _ (List.mem_of_mem_drop hv)
          · rw [List.mem_singleton.mp hv]
            exact ⟨.str _ y2, scal_ fun a => nofun, y3⟩
        · rw [decide_eq_false ms]
          refine iteF ⟨_, rfl, ?_⟩
          exact q L2 _ H4 ⟨s03.trans s4, free2 _ nL2, s4 _ _ h3, by show 1 ≤ 13 ∧ 13 ≤ 20; decide, bb s4⟩
    · -- the fifth part
      refine ⟨_, rfl, rfl, false, nn (by decide), iteF ⟨_, rfl, rfl, false, nn (by decide), iteF ⟨_, rfl, rfl, true, yy rfl, iteT ?_⟩⟩⟩
      refine ⟨_, rfl, (by show 3 ≤ sizeLine; decide), fun tp ntp => ?_⟩
      have s0 := @same_new _ _ (.tup [V.str "come", .str "go", .str "count"]) ntp
      have h0 := @upd_same H tp (.tup [V.str "come", .str "go", .str "count"])
      generalize upd H tp (.tup [V.str "come", .str "go", .str "count"]) = H0 at s0 h0 ⊢
      refine ⟨tp, _, rfl, .inr (SqT.of h0), rfl, rfl, _, congrArg V.bl (cgc_in e), ?_⟩
      by_cases cg : e.word = "come" ∨ e.word = "go" ∨ e.word = "count"
      · rw [decide_eq_true cg]
        refine iteT ⟨1, rfl, 10, 9, rfl, rfl, cpow9, _, 1, rfl, rfl, 10, 59, rfl, rfl, cpow, Nat.zero_le _, fun l nl => ?_⟩
        have s1 := @same_new _ _ (.lst []) nl
        have h1 := @upd_same H0 l (.lst [])
        generalize upd H0 l (.lst []) = H1 at s1 h1 ⊢
        refine ⟨_, rfl, rfl, .inr ⟨_, rfl, 0, _, rfl, rfl, (by show 8 ≤ sizeLine; decide), fun L nL => ?_⟩⟩
        obtain ⟨x, x1, x2, x3⟩ : ∃ x : Str, e.sorts[4]? = some x ∧ x ∈ sorts4 ∧ fitB (.int (0 - if decide (V.str e.word = V.str "count") = true then 1 else 0)) x = false := by
          have m1 : ("many" : Str) ∈ sorts4 := by simp [sorts4]
          have m2 : ("counted" : Str) ∈ sorts4 := by simp [sorts4]
          cases e with
          | come => exact ⟨"many", rfl, m1, by rw [show decide (V.str (Ent.come _ _ _ _ _ _).word = V.str "count") = false from dec_str (by decide +kernel)]; exact fit_y0⟩
          | go => exact ⟨"many", rfl, m1, by rw [show decide (V.str (Ent.go _ _ _ _ _).word = V.str "count") = false from dec_str (by decide +kernel)]; exact fit_y0⟩
          | count => exact ⟨"counted", rfl, m2, by rw [show decide (V.str (Ent.count _ _ _ _ _ _).word = V.str "count") = true from decide_eq_true rfl]; exact fit_low m2 (.inl (by decide))⟩
          | _ => rcases cg with h | h | h <;> exact absurd h (wno (by decide +kernel))
        have s2 := @same_new _ _ (.lst ([V.int (-1), .int (10 ^ (9 : Int).toNat + 1), .bl true, .non, .str "5", .int (10 ^ (59 : Int).toNat), .ref l] ++ [.int (0 - if decide (V.str e.word = V.str "count") = true then 1 else 0)])) nL
        refine q L ([V.int (-1), .int (10 ^ (9 : Int).toNat + 1), .bl true, .non, .str "5", .int (10 ^ (59 : Int).toNat), .ref l] ++ [.int (0 - if decide (V.str e.word = V.str "count") = true then 1 else 0)]) _ ⟨s0.trans (s1.trans s2), s0.free (s1.free nL), upd_same, by show 1 ≤ 8 ∧ 8 ≤ 20; decide, fun v hv => ?_⟩
        rcases List.mem_append.mp hv with hv | hv
        · exact bad_num (H := H) x2 x1 (s0.free nl) (s2 _ _ h1) (by rw [e9]; decide) (by omega) v hv
        · rw [List.mem_singleton.mp hv]
          exact ⟨.int _, scal_ fun a => nofun, bad_fit x1 x3⟩
      · rw [decide_eq_false cg]
        have ms : e.word = "move" ∨ e.word = "some" := by
          cases e with
          | move => exact .inl rfl
          | some_ => exact .inr rfl
          | come => exact absurd (.inl rfl) cg
          | go => exact absurd (.inr (.inl rfl)) cg
          | count => exact absurd (.inr (.inr rfl)) cg
          | swap => exact absurd li (by show ¬ 5 < 5; decide)
          | look => exact absurd li (by show ¬ 5 < 5; decide)
        have nsw : e.word ≠ "swap" := fun z => by rcases ms with h | h <;> exact absurd (h.symm.trans z) (wno (by decide +kernel))
        refine iteF ⟨_, rfl, rfl, false, nn (by decide), iteF ⟨_, rfl, rfl, false, nn (by decide), iteF ⟨_, rfl, rfl, false, nn (by decide), iteF ⟨_, rfl, rfl, false, nn (by decide), iteF ?_⟩⟩⟩⟩
        have hw0 := hw.on (TK.of s0)
        refine ⟨_, rfl, wd, B, sp, t, 300, rfl, hw0, by decide, (by show 1 ≤ sizeLine; decide), fun l1 nl1 => ?_⟩
        have s1 := @same_new _ _ (.lst [V.str (nm3 B sp t)]) nl1
        have h1 := @upd_same H0 l1 (.lst [V.str (nm3 B sp t)])
        generalize upd H0 l1 (.lst [V.str (nm3 B sp t)]) = H1 at s1 h1 ⊢
        refine ⟨rfl, fun L0 t0 l0 d0 H2 oa => ⟨l1, L0, _, _, rfl, rfl, oa.sm _ _ h1, oa.hL, (by show 1 + 12 ≤ sizeLine; decide), fun L2 nL2 => ?_⟩⟩
        have s3 : Same H2 (upd H2 L2 (.lst ([V.str (nm3 B sp t)] ++ oddV t0 l0 d0))) := same_new nL2
        have h3 : (upd H2 L2 (.lst ([V.str (nm3 B sp t)] ++ oddV t0 l0 d0))) L2 = some (.lst (V.str (nm3 B sp t) :: oddV t0 l0 d0)) := upd_same
        have s03 : Same H (upd H2 L2 (.lst ([V.str (nm3 B sp t)] ++ oddV t0 l0 d0))) := s0.trans (s1.trans (oa.sm.trans s3))
        have free2 : ∀ a, H2 a = none → H a = none := fun a h => s0.free (s1.free (oa.sm.free h))
        generalize upd H2 L2 (.lst ([V.str (nm3 B sp t)] ++ oddV t0 l0 d0)) = H3 at s3 h3 s03 ⊢
        have he3 := s03 _ _ he
        refine ⟨_, rfl, rfl, false, nnS nsw, iteF ⟨_, rfl, (5 : Int), 3, rfl, rfl, true, rfl, iteT ?_⟩⟩
        refine ⟨_, rfl, (by show 2 ≤ sizeLine; decide), fun tp2 ntp2 => ?_⟩
        have s4 := @same_new _ _ (.tup [V.str "move", .str "some"]) ntp2
        have h4 := @upd_same H3 tp2 (.tup [V.str "move", .str "some"])
        generalize upd H3 tp2 (.tup [V.str "move", .str "some"]) = H4 at s4 h4 ⊢
        refine ⟨tp2, _, rfl, .inr (SqT.of h4), rfl, rfl, _, congrArg V.bl (ms_in e), ?_⟩
        rw [decide_eq_true ms]
        refine iteT ⟨_, rfl, 1, rfl, L2, _, rfl, SqL.of (s4 _ _ h3), fun M1 nM1 => ?_⟩
        have h5 : (upd H4 M1 (.lst (cutV (V.str (nm3 B sp t) :: oddV t0 l0 d0) none (some 1)))) M1 = some (.lst [V.str (nm3 B sp t)]) := upd_same
        have s5 : Same H4 (upd H4 M1 (.lst (cutV (V.str (nm3 B sp t) :: oddV t0 l0 d0) none (some 1)))) := same_new nM1
        generalize upd H4 M1 (.lst (cutV (V.str (nm3 B sp t) :: oddV t0 l0 d0) none (some 1))) = H5 at s5 h5 ⊢
        refine ⟨_, rfl, 2, rfl, L2, _, rfl, SqL.of (s5 _ _ (s4 _ _ h3)), fun M2 nM2 => ?_⟩
        have h6 : (upd H5 M2 (.lst (cutV (V.str (nm3 B sp t) :: oddV t0 l0 d0) (some 2) none))) M2 = some (.lst ((oddV t0 l0 d0).drop 1)) := upd_same
        have s6 : Same H5 (upd H5 M2 (.lst (cutV (V.str (nm3 B sp t) :: oddV t0 l0 d0) (some 2) none))) := same_new nM2
        generalize upd H5 M2 (.lst (cutV (V.str (nm3 B sp t) :: oddV t0 l0 d0) (some 2) none)) = H6 at s6 h6 ⊢
        refine ⟨M1, M2, _, _, rfl, rfl, s6 _ _ h5, h6, (by show 1 + 11 ≤ sizeLine; decide), fun M3 nM3 => ?_⟩
        have h7 : (upd H6 M3 (.lst ([V.str (nm3 B sp t)] ++ (oddV t0 l0 d0).drop 1))) M3 = some (.lst ([V.str (nm3 B sp t)] ++ (oddV t0 l0 d0).drop 1)) := upd_same
        have s7 : Same H6 (upd H6 M3 (.lst ([V.str (nm3 B sp t)] ++ (oddV t0 l0 d0).drop 1))) := same_new nM3
        generalize upd H6 M3 (.lst ([V.str (nm3 B sp t)] ++ (oddV t0 l0 d0).drop 1)) = H7 at s7 h7 ⊢
        have s47 : Same H3 H7 := s4.trans (s5.trans (s6.trans s7))
        have part : ∃ y : Str, e.vals[4]? = some (.str y) ∧ y.length ≤ 1000 ∧ Bad (nm3 B sp t) e 5 (.str y) ∧ ∀ v ∈ (oddV t0 l0 d0).drop 1, Bad (nm3 B sp t) e 5 v := by
          rcases is_ms ms with ⟨n1, m1, g1, o1, t1, k1, rfl⟩ | ⟨n1, m1, g1, o1, t1, rfl⟩
          · exact ⟨o1, rfl, Nat.le_trans (name_len (hpn o1 List.mem_cons_self)).2 (by decide), bad_move5, fun v hv => bad_fit (i := 4) (x := "name") rfl (fit_nm.trans (odd_nm v (List.mem_of_mem_drop hv)))⟩
          · have ho : nameB o1 = true := hpn o1 (by
              show o1 ∈ (if t1 = "" then [o1] else [o1, t1])
              split <;> exact List.mem_cons_self)
            exact ⟨o1, rfl, Nat.le_trans (name_len ho).2 (by decide), bad_some5 (name_ne ho), fun v hv => bad_fit (i := 4) (x := "end") rfl (odd_end v hv)⟩
        obtain ⟨y, y1, y2, y3, y4⟩ := part
        refine ⟨_, rfl, _, rfl, 9, _, rfl, rfl, ea, _, 4, _, rfl, rfl, SqT.of (s47 _ _ he3), atI_nat (j := 4) y1, (by show 1 ≤ sizeLine; decide), fun l8 nl8 => ?_⟩
        have s8 := @same_new _ _ (.lst [V.str y]) nl8
        have h8 := @upd_same H7 l8 (.lst [V.str y])
        generalize upd H7 l8 (.lst [V.str y]) = H8 at s8 h8 ⊢
        refine ⟨M3, l8, _, _, rfl, rfl, s8 _ _ h7, h8, (by show 12 + 1 ≤ sizeLine; decide), fun L9 nL9 => ?_⟩
        have s9 := @same_new _ _ (.lst (([V.str (nm3 B sp t)] ++ (oddV t0 l0 d0).drop 1) ++ [V.str y])) nL9
        refine q L9 (([V.str (nm3 B sp t)] ++ (oddV t0 l0 d0).drop 1) ++ [V.str y]) _ ⟨s03.trans (s47.trans (s8.trans s9)), free2 _ (s3.free (s47.free (s8.free nL9))), upd_same, by show 1 ≤ 13 ∧ 13 ≤ 20; decide, fun v hv => ?_⟩
        have s39 := s47.trans (s8.trans s9)
        rcases List.mem_append.mp hv with hv | hv
        · rcases List.mem_append.mp hv with hv | hv
          · rw [List.mem_singleton.mp hv]
            exact ⟨.str _ sh3, scal_ fun a => nofun, bad_new ne3 (.inr (.inr ⟨rfl, ms⟩))⟩
          · have hm := List.mem_of_mem_drop hv
            exact ⟨(oa.thg v hm).1.on fun a o _ h _ => s39 _ _ (s3 _ _ h), fun a h => s0.free (s1.free ((oa.thg v hm).2 a h)), y4 v hv⟩
        · rw [List.mem_singleton.mp hv]
          exact ⟨.str _ y2, scal_ fun a => nofun, y3⟩
    · -- the sixth part
      refine ⟨_, rfl, rfl, false, nn (by decide), iteF ⟨_, rfl, rfl, false, nn (by decide), iteF ⟨_, rfl, rfl, false, nn (by decide), iteF ⟨_, rfl, rfl, true, yy rfl, iteT ?_⟩⟩⟩⟩
      cases e with
      | move n1 m1 g1 o1 t1 k1 =>
        have my : ("many" : Str) ∈ sorts4 := by simp [sorts4]
        refine ⟨_, rfl, rfl, true, yyS, iteT ⟨1, rfl, 10, 9, rfl, rfl, cpow9, _, 1, rfl, rfl, 10, 59, rfl, rfl, cpow, Nat.zero_le _, fun l nl => ?_⟩⟩
        have s1 := @same_new _ _ (.lst []) nl
        have h1 := @upd_same H l (.lst [])
        generalize upd H l (.lst []) = H1 at s1 h1 ⊢
        refine ⟨_, rfl, rfl, .inr ⟨_, rfl, 0, _, rfl, rfl, (by show 8 ≤ sizeLine; decide), fun L nL => ?_⟩⟩
        rw [show decide (V.str (Ent.move n1 m1 g1 o1 t1 k1).word = V.str "count") = false from dec_str (by decide +kernel)]
        have s2 := @same_new _ _ (.lst ([V.int (-1), .int (10 ^ (9 : Int).toNat + 1), .bl true, .non, .str "5", .int (10 ^ (59 : Int).toNat), .ref l] ++ [.int 0])) nL
        refine q L ([V.int (-1), .int (10 ^ (9 : Int).toNat + 1), .bl true, .non, .str "5", .int (10 ^ (59 : Int).toNat), .ref l] ++ [.int 0]) _ ⟨s1.trans s2, s1.free nL, upd_same, by show 1 ≤ 8 ∧ 8 ≤ 20; decide, fun v hv => ?_⟩
        rcases List.mem_append.mp hv with hv | hv
        · exact bad_num (H := H) (k := 5) my rfl nl (s2 _ _ h1) (by rw [e9]; decide) (by omega) v hv
        · rw [List.mem_singleton.mp hv]
          exact ⟨.int _, scal_ fun a => nofun, bad_fit (i := 5) (x := "many") rfl fit_y0⟩
      | come n1 m1 g1 p1 k1 r1 =>
        have my : ("price" : Str) ∈ sorts4 := by simp [sorts4]
        refine ⟨_, rfl, rfl, false, sn (by decide +kernel), iteF ⟨_, rfl, rfl, true, yy rfl, iteT ⟨_, rfl, rfl, true, yyS, iteT ⟨1, rfl, 10, 9, rfl, rfl, cpow9, _, 1, rfl, rfl, 10, 59, rfl, rfl, cpow, Nat.zero_le _, fun l nl => ?_⟩⟩⟩⟩
        have s1 := @same_new _ _ (.lst []) nl
        have h1 := @upd_same H l (.lst [])
        generalize upd H l (.lst []) = H1 at s1 h1 ⊢
        refine ⟨(by show 7 ≤ sizeLine; decide), fun L nL => ?_⟩
        have s2 := @same_new _ _ (.lst [V.int (-1), .int (10 ^ (9 : Int).toNat + 1), .bl true, .non, .str "5", .int (10 ^ (59 : Int).toNat), .ref l]) nL
        refine q L [V.int (-1), .int (10 ^ (9 : Int).toNat + 1), .bl true, .non, .str "5", .int (10 ^ (59 : Int).toNat), .ref l] _ ⟨s1.trans s2, s1.free nL, upd_same, by show 1 ≤ 7 ∧ 7 ≤ 20; decide, fun v hv => ?_⟩
        exact bad_num (H := H) (k := 5) my rfl nl (s2 _ _ h1) (by rw [e9]; decide) (by omega) v hv
      | count n1 m1 g1 p1 k1 h1 =>
        refine ⟨_, rfl, rfl, false, sn (by decide +kernel), iteF ⟨_, rfl, rfl, true, yy rfl, iteT ⟨_, rfl, rfl, false, sn (by decide +kernel), iteF ⟨_, rfl, rfl, false, nn (by decide), iteF ⟨_, rfl, rfl, true, yy rfl, iteT ⟨rfl, fun L t l d H' oa => ?_⟩⟩⟩⟩⟩⟩
        exact q L _ H' ⟨oa.sm, oa.nL, oa.hL, by show 1 ≤ 12 ∧ 12 ≤ 20; decide, fun v hv => ⟨(oa.thg v hv).1, (oa.thg v hv).2, bad_fit (i := 5) (x := "name") rfl (fit_nm.trans (odd_nm v hv))⟩⟩
      | go => exact absurd li (by show ¬ 6 < 6; decide)
      | some_ => exact absurd li (by show ¬ 6 < 6; decide)
      | swap => exact absurd li (by show ¬ 6 < 5; decide)
      | look => exact absurd li (by show ¬ 6 < 5; decide)
end
/-! ### what is no day, no mode, no name, told to the program -/
namespace EqE
theorem at_dict {A : Around} {z : Shared} {t : Str} {u : Tok} {l : Addr} {es : Array DictEntry} {n : Nat} {od : Option Addr} {sl : Array (Option Value)} (ho : z.heap.get? l = some ⟨.type "dict", od, .dict es n, sl⟩) (hu : A.units < cLine) : SeqAt.EqAt A z (.str t u) (.ref l) false := fun prog w E Q h => by
  unfold eqBool
  refine wpAny_holding (wpAny_ite_split (fun q => absurd (eq_of_beq q) nofun) fun _ => ?_)
  refine wpAny_bind ?_
  exact SeqAt.rc_eq_decline_or (k := false) (typeIs_str z t u) ⟨_, ho, rfl⟩ (by decide) F.sub_dict_str F.slot_str_eq F.slot_dict_eq_refl
    (fun _ hq => call_meets F.slot_str_eq (typeIs_str z t u) F.entry_str_eq (F.args_str_eq_2 _ _) (no_str t u l es n od sl) ⟨ho, hq⟩)
    (fun _ hq => call_meets F.slot_dict_eq_refl ⟨_, ho, rfl⟩ F.entry_dict_eq (F.args_dict_eq_2 _ _) (no_dict t u l es n od sl) ⟨ho, hq⟩)
    (fun _ hq => wpAny_of_eq (rfl : isSame (.str t u) (.ref l) = pure false) hq) (.inr hu) (wpAny_truthy_bool h)
def rOutM (K : PySem.W.Frag) : R2 := fun x y G W => ∃ (a : Addr) (ns : List Str), y = V.ref a ∧ SqT K G a (ns.map V.str) ∧ Thg G x ∧ W (V.bl (!decide (x ∈ ns.map V.str))) G
theorem op_outM {X : Cx} (hu : X.A.units + 64 < cLine) : OpR X (compareOp .NotIn) (rOutM X.K) := by
  rintro pins z τ G x y v u W I rx ry ⟨l, ns, rfl, hl, th, q⟩
  obtain rfl : u = Value.ref l := ry
  obtain ⟨its, rv, pl, hz⟩ := I.tuple hl
  have item : ∀ w ∈ its, ∃ n t, n ∈ ns ∧ w = Value.str n t := fun w hw => by
    obtain ⟨i, hi⟩ := List.mem_iff_getElem?.mp hw
    have lt := (List.getElem?_eq_some_iff.mp hi).1
    have lt' : i < ns.length := by rw [← rv.length, List.length_map] at lt; exact lt
    obtain ⟨w', hw', t', e'⟩ := rv.get (i := i) (x := .str ns[i]) (by simp [lt'])
    rw [hi] at hw'
    obtain rfl := Option.some.inj hw'
    exact ⟨ns[i], t', List.getElem_mem lt', e'⟩
  have hu1 : X.A.in1.units < cLine := by show X.A.units + 1 < cLine; omega
  have one : ∀ w ∈ its, SeqAt.EqAt X.A.in1 z w v (match w with | .str n _ => decide (x = V.str n) | _ => false) := fun w hw => by
    obtain ⟨n, t, hn, rfl⟩ := item w hw
    show SeqAt.EqAt X.A.in1 z (.str n t) v (decide (x = V.str n))
    cases th with
    | str s' h =>
      obtain ⟨t', rfl⟩ : ∃ t', v = Value.str s' t' := rx
      have e : decide (V.str s' = V.str n) = (n == s') := by
        by_cases w : n = s'
        · rw [w, decide_eq_true rfl]
          exact (beq_self_eq_true s').symm
        · rw [decide_eq_false fun q => w (V.str.inj q).symm]
          exact (beq_eq_false_iff_ne.mpr w).symm
      rw [e]
      exact SeqAt.EqAt.str_str n t s' t'
    | int i =>
      obtain ⟨t', rfl⟩ : ∃ t', v = Value.int i t' := rx
      exact SeqAt.EqAt.str_int n t i t'
    | bl b =>
      obtain rfl : v = Value.bool b := rx
      exact SeqAt.EqAt.str_bool n t b
    | non =>
      obtain rfl : v = Value.none := rx
      exact SeqAt.EqAt.str_none n t
    | @lst a xs h =>
      obtain rfl : v = Value.ref a := rx
      obtain ⟨its2, rv2, pl2, hz2⟩ := I.list (SqL.of h)
      exact SeqAt.EqAt.str_list n t pl2.isList hu1
    | @tup a xs h =>
      obtain rfl : v = Value.ref a := rx
      obtain ⟨its2, rv2, pl2, hz2⟩ := I.tuple (SqT.of h)
      exact SeqAt.EqAt.str_tuple n t pl2 hu1
    | @dct a kvs h =>
      obtain rfl : v = Value.ref a := rx
      obtain ⟨_, _, vs, _, o, es, ep, h1, h2, h3, _⟩ := (show ObjOk X.prog X.w G z.heap a (.dK kvs) from I.hok a _ h)
      obtain ⟨oc, od, dt, sl⟩ := o
      have z1 := h2.1
      dsimp only at z1 h3
      subst z1 h3
      exact at_dict h1 hu1
  refine SeqAt.notIn_tupleAt (fun w => match w with | .str n _ => decide (x = V.str n) | _ => false) pl (fun w hw => one w (by simpa using hw)) ⟨.bl _, G, I, rfl, ?_⟩
  have e : (its.toArray.any fun w => match w with | .str n _ => decide (x = V.str n) | _ => false) = decide (x ∈ ns.map V.str) := by
    by_cases w : x ∈ ns.map V.str
    · rw [decide_eq_true w]
      obtain ⟨n, hn, rfl⟩ := List.mem_map.mp w
      obtain ⟨i, hi⟩ := List.mem_iff_getElem?.mp hn
      obtain ⟨w', hw', t', e'⟩ := rv.get (i := i) (x := .str n) (by rw [List.getElem?_map, hi]; rfl)
      rw [List.any_toArray]
      refine List.any_eq_true.mpr ⟨w', List.mem_of_getElem? hw', ?_⟩
      rw [e']
      exact decide_eq_true rfl
    · rw [decide_eq_false w, List.any_toArray]
      refine List.any_eq_false.mpr fun w' hw' => ?_
      obtain ⟨n, t, hn, rfl⟩ := item w' hw'
      intro y
      exact w (by rw [of_decide_eq_true y]; exact List.mem_map.mpr ⟨n, hn, rfl⟩)
  rw [e]
  exact q
end EqE
def dayB : V → Bool
  | .int i => decide (0 ≤ i) && decide (i ≤ 99)
  | _ => false
def spIsDayA : Sp := fun vs H Q _ => ∃ v : V, vs = [v] ∧ Thg H v ∧ Q (.bl (dayB v)) H
/-- no day that can be closed, or no mode -/
def NoD (S : MS) (d m : V) : Prop := dayB d = false ∨ m ∉ modesW ∨ ∃ i k, d = .int i ∧ S.cl = some k ∧ i ≤ k
def spClosedNo (A : RfA) : Sp := fun vs H _ E => ∃ (s a1 a2 : Addr) (d m : V) (P G : List Str) (S : MS), vs = [.ref s, d, m] ∧ SM H s a1 a2 P G S ∧ Thg H d ∧ Thg H m ∧ NoD S d m ∧ E (.ref A.nd) none H
def spTakenNo (A : RfA) (Ts : List Addr) : Sp := fun vs H _ E => ∃ (s a1 a2 : Addr) (v : V) (P G : List Str) (S : MS), vs = [.ref s, v] ∧ SM H s a1 a2 P G S ∧ Thg H v ∧ nmV v = false ∧ TabsG Ts H ∧ ∀ H', TB1 Ts H H' → E (.ref A.nn) none H'
section
variable {P : Program} {w : World} {K : PySem.W.Frag} {mg : Str → Option Value} {base : Heap}
theorem ok_isDayA {f fW : Addr} {fd dW : FuncData} (F : Fun K "is_day" "is_day" sIsDay f fd) (WH : DefT P w K mg base "is_whole" 1 fW dW ["thing"] spWholeA) (mL : ∃ t, mg "LAST_DAY" = some (.int 99 t)) : FnOk P w K mg base CX0 2 f fd ["thing"] spIsDayA := by
  obtain ⟨tL, mL⟩ := mL
  refine F.ok sc_sIsDay (fun vs H Q E h => ?_) (fun cdv A' outer s H vs Q E hr h => ?_)
  · obtain ⟨i, rfl, _⟩ := h
    rfl
  · obtain ⟨v, rfl, th, q⟩ := h
    have nd := sc_sIsDay.nd
    refine ⟨_, pss_one (ps_ret (pe_and (pe_call WH.ok hr (by rfl) WH.g WH.kp WH.b .nil pass0 (pa_cons (pv 0) pa_nil)) (pe_one (pe_chain op_le op_le pe_int (pv 0) (pe_glob (v := .int 99) rfl mL ⟨_, rfl⟩))))), ?_⟩
    refine ⟨_, rfl, v, rfl, th, ?_⟩
    cases v with
    | int i =>
      refine ⟨true, rfl, iteT ?_⟩
      refine ⟨_, rfl, 0, i, rfl, rfl, _, rfl, ite2 (fun z => ?_) (fun z => ?_)⟩
      · refine ⟨i, 99, rfl, rfl, ?_⟩
        have q : Q (.bl (decide (0 ≤ i) && decide (i ≤ 99))) H := q
        rw [z, Bool.true_and] at q
        exact q
      · have q : Q (.bl (decide (0 ≤ i) && decide (i ≤ 99))) H := q
        rw [Bool.eq_false_iff.mpr z, Bool.false_and] at q
        exact q
    | _ => exact ⟨false, rfl, iteF q⟩
theorem ok_closedNo {f fI aM : Addr} {fd dI : FuncData} {A : RfA} (F : Fun K "closed_by" "closed_by" sClosedBy f fd) (IY : DefT P w K mg base "is_day" 2 fI dI ["thing"] spIsDayA) (EN : Err K mg "NoDay" A.nd) (mM : mg "MODES" = some (.ref aM)) (hM : ∀ H, SqT K H aM modesW) : FnOk P w K mg base (L2.CX P w) 3 f fd ["state", "day", "mode"] (spClosedNo A) := by
  refine F.okX sc_sClosedBy (fun vs H Q E h => ?_) (fun cdv A' outer s H vs Q E hr h => ?_)
  · obtain ⟨st, a1, a2, d, m, Ps, G, S, rfl, _⟩ := h
    rfl
  · obtain ⟨st, a1, a2, d, m, Ps, G, S, rfl, sm, td, tm, no, q⟩ := h
    have nd := sc_sClosedBy.nd
    refine ⟨_, pss_cons (ps_asg (pv 0) (pg_tup (by rfl) (pgs_cons (pg_name (i := 3) nd rfl (Or.inl rfl)) (pgs_cons (pg_name (i := 4) nd rfl (Or.inl rfl)) (pgs_cons (pg_name (i := 5) nd rfl (Or.inl rfl)) (pgs_cons (pg_name (i := 6) nd rfl (Or.inl rfl)) (pgs_cons (pg_name (i := 7) nd rfl (Or.inl rfl)) (pgs_cons (pg_name (i := 8) nd rfl (Or.inl rfl)) pgs_nil))))))))
      (pss_cons (ps_if (PW.pt (pw_or (pt_not (pt_val (pe_call IY.ok hr (by rfl) IY.g IY.kp IY.b .nil pass0 (pa_cons (pv 1) pa_nil)))) (pw_or1 (pt_cmpR (EqE.op_outM hr.units) (pv 2) (pe_glob (v := .ref aM) (u := .ref aM) (by rfl) mM rfl) (by rfl))))) (pss_one (ps_raise rfl (takes_of rfl rfl rfl rfl) (pmk_own PySem.F.excBase_ValueError EN.ex EN.gC EN.kp (raises_own EN.sb EN.ty) rfl))) pss_nil)
      (pss_cons (ps_if (PW.pt (pw_and (pt_cmpR op_notN (pv 7) pe_non (by rfl)) (pw_and1 (pt_cmpR op_le (pv 1) (pv 7) (nomark _))))) (pss_one (ps_raise rfl (takes_of rfl rfl rfl rfl) (pmk_own PySem.F.excBase_ValueError EN.ex EN.gC EN.kp (raises_own EN.sb EN.ty) rfl))) pss_nil)
      (pss_one (ps_ret (pe_tup (pa_cons (pv 3) (pa_cons (pv 4) (pa_cons (pv 5) (pa_cons (pv 6) (pa_cons (pv 1) (pa_cons (pv 2) pa_nil))))))))))), ?_⟩
    obtain ⟨Fa, Ba, fs, sa, ef⟩ := sm.ex
    refine ⟨_, rfl, st, _, rfl, SqT.of sa.s, rfl, _, _, rfl, _, _, rfl, _, _, rfl, _, _, rfl, _, _, rfl, _, _, rfl, rfl, ?_⟩
    refine ⟨_, rfl, d, rfl, td, ?_⟩
    cases dB : dayB d with
    | false => exact ⟨false, rfl, iteT q⟩
    | true =>
      refine ⟨true, rfl, iteF ?_⟩
      refine ⟨_, rfl, aM, ["refuse", "up"], rfl, hM _, tm, _, rfl, ?_⟩
      by_cases c2 : m ∈ (["refuse", "up"] : List Str).map V.str
      rotate_left
      · rw [decide_eq_false c2]
        exact iteT q
      rw [decide_eq_true c2]
      refine iteF ?_
      rcases no with z | z | ⟨i, k, rfl, hc, hik⟩
      · rw [z] at dB
        exact nomatch dB
      · exact absurd c2 z
      · refine ⟨_, rfl, rfl, true, by rw [hc]; rfl, iteT ⟨_, rfl, _, rfl, i, k, rfl, by rw [hc]; rfl, _, rfl, ?_⟩⟩
        rw [decide_eq_true hik]
        exact iteT q
theorem ok_takenNo {f fN fA T1 : Addr} {fd dN dA : FuncData} {Ts : List Addr} {A : RfA} (F : Fun K "taken_back" "taken_back" sTakenBack f fd) (i1 : T1 ∈ Ts) (NM : DefT P w K mg base "is_name" 1 fN dN ["thing"] (spName K T1)) (AL : DefX P w K mg base "allowed" 7 fA dA ["state", "later"] (spAllowedX A)) (EN : Err K mg "NoName" A.nn)
    (mt : mg "tuple" = none) (ms : mg "sorted" = none) : FnOk P w K mg base (L2.CX P w) 8 f fd ["state", "name"] (spTakenNo A Ts) := by
  refine F.okX sc_sTakenBack (fun vs H Q E h => ?_) (fun cdv A' outer s H vs Q E hr h => ?_)
  · obtain ⟨st, a1, a2, v, Ps, G, S, rfl, _⟩ := h
    rfl
  · obtain ⟨st, a1, a2, v, Ps, G, S, rfl, sm, th, nv, tg, q⟩ := h
    have nd := sc_sTakenBack.nd
    have hr1 : Room 1 _ := hr.mono (by decide)
    refine ⟨_, pss_cons (ps_asg (pv 0) (pg_tup (by rfl) (pgs_cons (pg_name (i := 2) nd rfl (Or.inl rfl)) (pgs_cons (pg_name (i := 3) nd rfl (Or.inl rfl)) (pgs_cons (pg_name (i := 4) nd rfl (Or.inl rfl)) (pgs_cons (pg_name (i := 5) nd rfl (Or.inl rfl)) (pgs_cons (pg_name (i := 6) nd rfl (Or.inl rfl)) (pgs_cons (pg_name (i := 7) nd rfl (Or.inl rfl)) pgs_nil))))))))
      (pss_cons (ps_if (pt_not (pt_val (pe_call NM.ok hr1 (by rfl) NM.g NM.kp NM.b .nil pass0 (pa_cons (pv 1) pa_nil)))) (pss_one (ps_raise rfl (takes_of rfl rfl rfl rfl) (pmk_own PySem.F.excBase_ValueError EN.ex EN.gC EN.kp (raises_own EN.sb EN.ty) rfl))) pss_nil)
      (pss_cons (ps_if (pt_cmpR op_in_seq (pv 1) (pv 5) (by rfl)) (pss_one (ps_ret (pv 0))) pss_nil)
      (pss_one (ps_ret (pe_callS AL.ok hr (by rfl) AL.g AL.kp AL.b (fun σ => passAt (takes_of rfl rfl rfl rfl) σ) (pa_cons (pv 0) (pa_cons (pe_tup (pa_cons (pv 2) (pa_cons (pv 3) (pa_cons (pv 4) (pa_cons (pe_callTy call_tuple_of (by rfl) mt (by decide +kernel) (pa_cons (pe_callB cr_sortedTS (by rfl) ms (by decide +kernel) (pa_cons (pe_op op_catA (pv 5) (pe_tup (pa_cons (pv 1) pa_nil))) pa_nil)) pa_nil)) (pa_cons (pv 6) (pa_cons (pv 7) pa_nil))))))) pa_nil))))))), ?_⟩
    obtain ⟨Fa, Ba, fs, sa, ef⟩ := sm.ex
    refine ⟨_, rfl, st, _, rfl, SqT.of sa.s, rfl, _, _, rfl, _, _, rfl, _, _, rfl, _, _, rfl, _, _, rfl, _, _, rfl, rfl, ?_⟩
    obtain ⟨n, ty, m, stt, _⟩ := th.ty (K := K)
    by_cases z : n = "str"
    · obtain ⟨s, rfl⟩ := stt.mp z
      cases th with
      | str _ lz =>
        refine ⟨_, rfl, _, rfl, tg T1 i1, .inl ⟨s, rfl, small_sz lz, fun H1 tb => ?_⟩⟩
        rw [show nameB s = false from nv]
        exact ⟨false, rfl, iteT (q H1 (.tab tb tg i1))⟩
    · exact ⟨_, rfl, _, rfl, tg T1 i1, .inr ⟨n, ty, by rw [kit_str m, decide_eq_false z], ⟨false, rfl, iteT (q H (.same tg fun _ _ e => e))⟩⟩⟩
end
/-! ### odd deeds told to the program -/
def spToldNo (Ts : List Addr) (Pt : Addr) : Sp := fun vs H Q _ => ∃ (s d a1 a2 : Addr) (P G : List Str) (S : MS) (r : Rf), vs = [.ref s, .ref d] ∧ SM H s a1 a2 P G S ∧
  ((∃ v, H d = some (.tup [.str "enter", v]) ∧ NoE H P G v ∧ r = .entry) ∨ (∃ v, H d = some (.tup [.str "back", v]) ∧ Thg H v ∧ nmV v = false ∧ r = .name) ∨ (∃ dv mv, H d = some (.tup [.str "close", dv, mv]) ∧ Thg H dv ∧ Thg H mv ∧ NoD S dv mv ∧ r = .day)) ∧ TabsG Ts H ∧ LamX.TabS H Pt qLam ∧
  ∀ (t : Addr) (H' : Hp), TBL Ts Pt qLam H H' → H' t = some (.tup [.str (rfW r)]) → Q (.ref t) H'
section
variable {P : Program} {w : World} {K : PySem.W.Frag} {mg : Str → Option Value} {base : Heap}
set_option maxHeartbeats 4000000 in
theorem ok_toldNo {f fA cR Pt fC fT fE : Addr} {Ts : List Addr} {A : RfA} {O : ClsO} {CE : Addr} {dC dT dE : FuncData} {oc kV doc pm ct oc' kV' doc' pm' cdv' ct' : Value} {od an od' an' : Option Addr} {osl osl' : Array (Option Value)}
    (lk : K.lookup f = some ⟨oc, od, .func (PySem.W.fnOf "_law_told_by" "_law_told_by" (defArgs sToldBy) (defBody sToldBy) (defScope sToldBy) .none kV doc pm an (.ref cR) ct), osl⟩) (cdI : PySem.W.codeIn K (.ref cR) "_law_told_by" = true)
    (TBL : LamX.TabB base mg cR Pt) (nPt : Pt ∉ Ts) (AS : AskD K mg A O CE fA oc' kV' doc' pm' cdv' ct' od' an' osl') (CB : DefX P w K mg base "closed_by" 3 fC dC ["state", "day", "mode"] (spClosedNo A)) (TKB : DefX P w K mg base "taken_back" 8 fT dT ["state", "name"] (spTakenNo A Ts)) (ENT : DefX P w K mg base "entered" 8 fE dE ["state", "entry"] (spEnteredNo A Ts)) :
    FnOk P w K mg base CX0 11 f (PySem.W.fnOf "_law_told_by" "_law_told_by" (defArgs sToldBy) (defBody sToldBy) (defScope sToldBy) .none kV doc pm an (.ref cR) ct) ["_law_state_here", "_law_deed_here"] (spToldNo Ts Pt) := by
  refine fn_of lk cdI sc_sToldBy (fun vs H Q E h => ?_) (fun A' outer s H vs Q E hr h => ?_)
  · obtain ⟨st, d, a1, a2, Ps, G, S, r, rfl, _⟩ := h
    rfl
  · obtain ⟨st, d, a1, a2, Ps, G, S, r, rfl, sm, no, tg, tl, q⟩ := h
    have nd := sc_sToldBy.nd
    refine ⟨_, pss_cons (ps_if (pt_cmpR op_eq (pe_ix ix_tup (pv 1) pe_int (fun _ _ => rfl)) pe_str (nomark _)) (pss_one (ps_ret (pe_capcall (k := 8) (t := fun E2 => tCallS (spClosedNo A) (fun _ => E2) (tCons (tVar 0) (tCons (tOp (rIxT K) (tVar 1) (tC (V.int 1))) (tCons (tOp (rIxT K) (tVar 1) (tC (V.int 2))) tNil)))) (by rfl) AS.g AS.kp AS.lk AS.cd AS.b sc_sAsked rfl (.inl rfl) (asked_gives AS.G AS.D AS.mis AS.mv) TBL rfl hr (LamX.lamS_by (sc := defScope sToldBy) (by decide +kernel)) rfl (by intros; rfl) (fun A2 outer2 z2 G2 E2 f2 cc2 hrL => (pe_callS CB.ok (hrL.mono (by decide)) (by rfl) CB.g CB.kp CB.b (fun σ => passAt (takes_of rfl rfl rfl rfl) σ) (pa_cons (pv 0) (pa_cons (pe_ix ix_tup (pv 1) pe_int (fun _ _ => rfl)) (pa_cons (pe_ix ix_tup (pv 1) pe_int (fun _ _ => rfl)) pa_nil)))))))) pss_nil)
      (pss_cons (ps_if (pt_cmpR op_eq (pe_ix ix_tup (pv 1) pe_int (fun _ _ => rfl)) pe_str (nomark _)) (pss_one (ps_ret (pe_capcall (k := 8) (t := fun E2 => tCallS (spTakenNo A Ts) (fun _ => E2) (tCons (tVar 0) (tCons (tOp (rIxT K) (tVar 1) (tC (V.int 1))) tNil))) (by rfl) AS.g AS.kp AS.lk AS.cd AS.b sc_sAsked rfl (.inl rfl) (asked_gives AS.G AS.D AS.mis AS.mv) TBL rfl hr (LamX.lamS_by (sc := defScope sToldBy) (by decide +kernel)) rfl (by intros; rfl) (fun A2 outer2 z2 G2 E2 f2 cc2 hrL => (pe_callS TKB.ok (hrL.mono (by decide)) (by rfl) TKB.g TKB.kp TKB.b (fun σ => passAt (takes_of rfl rfl rfl rfl) σ) (pa_cons (pv 0) (pa_cons (pe_ix ix_tup (pv 1) pe_int (fun _ _ => rfl)) pa_nil))))))) pss_nil)
      (pss_one (ps_ret (pe_capcall (k := 8) (t := fun E2 => tCallS (spEnteredNo A Ts) (fun _ => E2) (tCons (tVar 0) (tCons (tOp (rIxT K) (tVar 1) (tC (V.int 1))) tNil))) (by rfl) AS.g AS.kp AS.lk AS.cd AS.b sc_sAsked rfl (.inl rfl) (asked_gives AS.G AS.D AS.mis AS.mv) TBL rfl hr (LamX.lamS_by (sc := defScope sToldBy) (by decide +kernel)) rfl (by intros; rfl) (fun A2 outer2 z2 G2 E2 f2 cc2 hrL => (pe_callS ENT.ok (hrL.mono (by decide)) (by rfl) ENT.g ENT.kp ENT.b (fun σ => passAt (takes_of rfl rfl rfl rfl) σ) (pa_cons (pv 0) (pa_cons (pe_ix ix_tup (pv 1) pe_int (fun _ _ => rfl)) pa_nil)))))))), ?_⟩
    rcases no with ⟨v, hd, no, rfl⟩ | ⟨v, hd, th, nv, rfl⟩ | ⟨dv, mv, hd, td, tm, no, rfl⟩
    · refine ⟨_, rfl, d, _, 0, _, rfl, rfl, SqT.of hd, atI_nat (j := 0) rfl, rfl, _, rfl, ?_⟩
      rw [dec_str (by decide +kernel)]
      refine iteF ⟨_, rfl, d, _, 0, _, rfl, rfl, SqT.of hd, atI_nat (j := 0) rfl, rfl, _, rfl, ?_⟩
      rw [dec_str (by decide +kernel)]
      refine iteF ⟨tl, fun G1 D W hv => ?_⟩
      have t1 : Shelf.TBL Ts Pt qLam H G1 := .lam nPt tg tl D
      have hd1 := t1.tk _ _ hd
      refine ⟨_, rfl, _, rfl, d, _, 1, _, rfl, rfl, SqT.of hd1, atI_nat (j := 1) rfl, st, a1, a2, v, Ps, G, S, rfl, sm.on t1.tk, no.on t1.tb.kp, t1.tg, fun H' tb => ⟨Rf.entry, (fun z => nomatch z), rfl, rfl, fun t H2 s3 ht => ?_⟩⟩
      have t2 : Shelf.TBL Ts Pt qLam G1 H' := .of1 nPt t1.ts tb
      exact q t H2 (t1.tr (t2.tr (.same t2.tg t2.ts s3))) ht
    · refine ⟨_, rfl, d, _, 0, _, rfl, rfl, SqT.of hd, atI_nat (j := 0) rfl, rfl, _, rfl, ?_⟩
      rw [dec_str (by decide +kernel)]
      refine iteF ⟨_, rfl, d, _, 0, _, rfl, rfl, SqT.of hd, atI_nat (j := 0) rfl, rfl, _, rfl, ?_⟩
      rw [decide_eq_true rfl]
      refine iteT ⟨tl, fun G1 D W hv => ?_⟩
      have t1 : Shelf.TBL Ts Pt qLam H G1 := .lam nPt tg tl D
      have hd1 := t1.tk _ _ hd
      refine ⟨_, rfl, _, rfl, d, _, 1, _, rfl, rfl, SqT.of hd1, atI_nat (j := 1) rfl, st, a1, a2, v, Ps, G, S, rfl, sm.on t1.tk, th.on (fun a o _ => t1.tb.kp a o), nv, t1.tg, fun H' tb => ⟨Rf.name, (fun z => nomatch z), rfl, rfl, fun t H2 s3 ht => ?_⟩⟩
      have t2 : Shelf.TBL Ts Pt qLam G1 H' := .of1 nPt t1.ts tb
      exact q t H2 (t1.tr (t2.tr (.same t2.tg t2.ts s3))) ht
    · refine ⟨_, rfl, d, _, 0, _, rfl, rfl, SqT.of hd, atI_nat (j := 0) rfl, rfl, _, rfl, ?_⟩
      rw [decide_eq_true rfl]
      refine iteT ⟨tl, fun G1 D W hv => ?_⟩
      have t1 : Shelf.TBL Ts Pt qLam H G1 := .lam nPt tg tl D
      have hd1 := t1.tk _ _ hd
      refine ⟨_, rfl, _, rfl, d, _, 1, _, rfl, rfl, SqT.of hd1, atI_nat (j := 1) rfl, _, rfl, d, _, 2, _, rfl, rfl, SqT.of hd1, atI_nat (j := 2) rfl, st, a1, a2, dv, mv, Ps, G, S, rfl, sm.on t1.tk, td.on (fun a o _ => t1.tb.kp a o), tm.on (fun a o _ => t1.tb.kp a o), no, ⟨Rf.day, (fun z => nomatch z), rfl, rfl, fun t H2 s3 ht => ?_⟩⟩
      exact q t H2 (t1.tr (.same t1.tg t1.ts s3)) ht
end
/-! ### an odd entry -/
theorem at_any {xs : List V} {r : Int} (h0 : 0 ≤ r) (h1 : r < (xs.length : Int)) : ∃ v, atI xs r = some v ∧ v ∈ xs := by
  obtain ⟨k, rfl⟩ : ∃ k : Nat, r = k := ⟨r.toNat, (Int.toNat_of_nonneg h0).symm⟩
  have lt : k < xs.length := by omega
  exact ⟨xs[k], atI_nat (List.getElem?_eq_getElem lt), List.getElem_mem lt⟩
theorem Thg.but {H H' : Hp} {p : Addr} {v : V} (t : Thg H v) (b : But p H H') (n : ∀ a, v = .ref a → a ≠ p) : Thg H' v := t.on fun a o e h _ => b a o h (n a e)
theorem NoE.but {H H' : Hp} {P G : List Str} {p : Addr} {v : V} (b : But p H H') (n : ∀ a, v = .ref a → a ≠ p) (n2 : ∀ a xs, v = .ref a → H a = some (.tup xs) → ∀ x ∈ xs, ∀ c, x = .ref c → c ≠ p) (h : NoE H P G v) : NoE H' P G v := by
  rcases h with ⟨t, no⟩ | ⟨a, xs, rfl, ha, lx, hT, no⟩
  · refine .inl ⟨t.but b n, fun a xs e h2 => ?_⟩
    subst e
    cases t with
    | lst h => rw [b _ _ h (n _ rfl)] at h2; exact nomatch h2
    | tup h => exact no _ _ rfl h
    | dct h => rw [b _ _ h (n _ rfl)] at h2; exact nomatch h2
  · exact .inr ⟨a, xs, rfl, b _ _ ha (n _ rfl), lx, fun x hx => (hT x hx).but b (n2 a xs rfl ha x hx), no⟩
theorem vals_dropLast (e : Ent) : ∃ xs y, e.vals = xs ++ [y] ∧ xs ≠ [] := ⟨e.vals.dropLast, e.vals.getLast (by cases e <;> exact fun z => nomatch z), (List.dropLast_concat_getLast _).symm, by cases e <;> exact fun z => nomatch z⟩
theorem cut_lastV {xs : List V} {y : V} : cutV (xs ++ [y]) none (some (-1)) = xs := by
  unfold cutV
  have e : HT.sIx (xs ++ [y]).length (xs ++ [y]).length (some (-1)) = xs.length := by
    unfold HT.sIx
    rw [List.length_append]
    simp only [List.length_cons, List.length_nil]
    rw [if_pos (by decide)]
    omega
  rw [e]
  show ((xs ++ [y]).drop 0).take (xs.length - 0) = xs
  rw [List.drop_zero, Nat.sub_zero, List.take_left]
theorem ents_thg {e : Ent} (fi : e.Fine) (H : Hp) : ∀ x ∈ e.vals, Thg H x := by
  intro x hx
  rcases List.mem_cons.mp hx with rfl | hx
  · exact .str _ ((by decide +kernel : ∀ w ∈ words7, w.length ≤ 1000) _ e.word_in)
  · obtain ⟨i, hi⟩ := List.mem_iff_getElem?.mp hx
    have lt := (List.getElem?_eq_some_iff.mp hi).1
    exact .of_part (fi.fit i x _ hi (List.getElem?_eq_getElem (by rw [← e.len_parts]; exact lt))).1
theorem ents_flat (e : Ent) : ∀ x ∈ e.vals, ∀ a, x ≠ .ref a := fun x hx a z => by
  rcases vals_sn e x hx with ⟨i, rfl⟩ | ⟨s, rfl⟩ <;> exact nomatch z
/-- another number of parts, the word as it was -/
theorem no_len {e : Ent} {ys : List V} {P G : List Str} (l : (V.str e.word :: ys).length ≠ e.vals.length) : ¬ ∃ e' : Ent, e'.Fine ∧ ofB e' P G = true ∧ V.str e.word :: ys = e'.vals := fun ⟨e', _, _, h⟩ => by
  have w : e.word = e'.word := V.str.inj (List.cons.inj h).1
  have := congrArg List.length h
  rw [vals_len, ← sorts_word w, ← vals_len] at this
  exact l this
/-- an odd one of eleven -/
theorem some_no {e : Ent} (fi : e.Fine) {H : Hp} {P G : List Str} {ea l0 t7 t8 t9 l10 d11 t12 : Addr} (hea : H ea = some (.tup e.vals)) (h0 : H l0 = some (.lst e.vals)) (h7 : H t7 = some (.tup (e.vals ++ [.int 0]))) (h8 : H t8 = some (.tup (cutV e.vals none (some (-1))))) (h9 : H t9 = some (.tup [])) (h10 : H l10 = some (.lst [.ref ea])) (h11 : H d11 = some (.dK [])) (h12 : H t12 = some (.tup [.ref ea])) :
    ∀ v ∈ ([.ref l0, .ref t7, .ref t8, .ref t9, .non, .int 0, .bl true, .str e.word, .ref l10, .ref d11, .ref t12] : List V), NoE H P G v := by
  have l7 := vals_len_e e
  intro v hv
  simp only [List.mem_cons, List.not_mem_nil, or_false] at hv
  rcases hv with rfl | rfl | rfl | rfl | rfl | rfl | rfl | rfl | rfl | rfl | rfl
  · exact .inl ⟨.lst h0, fun a xs e h2 => by cases e; rw [h0] at h2; exact nomatch h2⟩
  · refine .inr ⟨t7, _, rfl, h7, by rw [List.length_append]; show e.vals.length + 1 ≤ 1000; omega, fun x hx => ?_, ?_⟩
    · rcases List.mem_append.mp hx with hx | hx
      · exact ents_thg fi H x hx
      · rw [List.mem_singleton.mp hx]; exact .int 0
    · exact no_len (ys := e.parts ++ [.int 0]) (by show (e.vals ++ [V.int 0]).length ≠ _; rw [List.length_append]; show e.vals.length + 1 ≠ _; omega)
  · obtain ⟨xs, y, ev, nx⟩ := vals_dropLast e
    have e8 : cutV e.vals none (some (-1)) = xs := by rw [ev, cut_lastV]
    rw [e8] at h8
    cases xs with
    | nil => exact absurd rfl nx
    | cons x0 r =>
      have w : x0 = .str e.word := (List.cons.inj ev).1.symm
      subst w
      have lev := congrArg List.length ev
      rw [List.length_append] at lev
      refine .inr ⟨t8, _, rfl, h8, ?_, fun x hx => ents_thg fi H x (by rw [ev]; exact List.mem_append_left _ hx), no_len ?_⟩
      · simp only [List.length_cons, List.length_nil] at lev ⊢
        omega
      · simp only [List.length_cons, List.length_nil] at lev ⊢
        omega
  · exact .inr ⟨t9, _, rfl, h9, Nat.zero_le _, fun x hx => (nomatch hx), fun ⟨e', _, _, h⟩ => nomatch h⟩
  · exact .inl ⟨.non, fun a xs e => nomatch e⟩
  · exact .inl ⟨.int _, fun a xs e => nomatch e⟩
  · exact .inl ⟨.bl _, fun a xs e => nomatch e⟩
  · exact .inl ⟨.str _ (up_short e).2.2, fun a xs e => nomatch e⟩
  · exact .inl ⟨.lst h10, fun a xs e h2 => by cases e; rw [h10] at h2; exact nomatch h2⟩
  · exact .inl ⟨.dct h11, fun a xs e h2 => by cases e; rw [h11] at h2; exact nomatch h2⟩
  · refine .inr ⟨t12, _, rfl, h12, Nat.le_of_ble_eq_true rfl, fun x hx => ?_, fun ⟨e', _, _, h⟩ => ?_⟩
    · rw [List.mem_singleton.mp hx]
      exact .tup hea
    · exact nomatch (List.cons.inj h).1
def spOddE : Sp := fun vs H Q _ => ∃ (p c wd ea : Addr) (n : Nat) (B : List Nat) (sp t : Nat) (e : Ent) (P G : List Str), vs = [.ref p, .ref wd, .ref ea] ∧ PenAt H p c n ∧ n ≤ 80000 ∧ WdAt H wd B sp t ∧ H ea = some (.tup e.vals) ∧ e.Fine ∧ (∀ y ∈ e.places, nameB y = true) ∧ nm3 B sp t ∉ P ∧ nm3 B sp t ∉ G ∧
  ∀ (v : V) (H' : Hp), NoE H' P G v → PenAt H' p c (n + 4) → But p H H' → Q v H'
section
variable {P : Program} {w : World} {K : PySem.W.Frag} {mg : Str → Option Value} {base : Heap}
/-- a tuple behind another -/
theorem cat_tup {a b : Addr} {xs ys : List V} {H : Hp} {Q : VK} (ha : H a = some (.tup xs)) (hb : H b = some (.tup ys)) (ne : ys ≠ []) (hz : xs.length + ys.length ≤ sizeLine) (q : ∀ p H', Same H H' → H' p = some (.tup (xs ++ ys)) → Q (.ref p) H') : rCatA K (.ref a) (.ref b) H Q :=
  ⟨a, b, xs, ys, rfl, rfl, SqT.of ha, SqT.of hb, hz, fun e0 => q b H (fun _ _ h => h) (by rw [e0]; exact hb), fun _ e => absurd e ne, fun _ _ p np => q p _ (same_new np) upd_same⟩
abbrev sOddEN : List Str := ["_law_pen_here", "_law_words_here", "_law_entry_here", "_law_way", "_law_spot", "_law_some", "_law_odd"]
theorem sc_sOddE : FnScope sOddEN ["_law_pen_here", "_law_words_here", "_law_entry_here"] (defScope sOddE) := ⟨rfl, rfl, rfl, by decide +kernel, rfl, by decide +kernel, by decide +kernel⟩
set_option maxHeartbeats 4000000 in
theorem ok_oddE {f fT fO : Addr} {fd dT dO : FuncData} (F : Fun K "_law_odd_entry" "_law_odd_entry" sOddE f fd) (T : DefT P w K mg base "_law_draw" 1 fT dT ["_law_pen_here", "_law_many_here"] spDraw) (OP : DefT P w K mg base "_law_odd_parts" 2 fO dO ["_law_words_here", "_law_entry_here", "_law_spot"] spOddP) (ml : mg "len" = none) (mli : mg "list" = none) :
    FnOk P w K mg base CX0 3 f fd ["_law_pen_here", "_law_words_here", "_law_entry_here"] spOddE := by
  refine F.ok sc_sOddE (fun vs H Q E h => ?_) (fun cdv A outer s H vs Q E hr h => ?_)
  · obtain ⟨p, c, wd, ea, n, B, sp, t, e, Ps, G, rfl, _⟩ := h
    rfl
  · obtain ⟨p, c, wd, ea, n, B, sp, t, e, Ps, G, rfl, pen, hn, hw, he, fi, hpn, nP, nG, q⟩ := h
    have nd := sc_sOddE.nd
    have hr1 : Room 1 _ := hr.mono (by decide)
    refine ⟨_, pss_cons (ps_set (i := 3) nd rfl (Or.inl rfl) (pe_call T.ok hr1 (by rfl) T.g T.kp T.b .nil pass0 (pa_cons (pv 0) (pa_cons pe_int pa_nil))))
      (pss_cons (ps_set (i := 4) nd rfl (Or.inl rfl) (pe_call T.ok hr1 (by rfl) T.g T.kp T.b .nil pass0 (pa_cons (pv 0) (pa_cons (pe_callB call_len_seq (by rfl) ml PySem.boot_len (pa_cons (pv 2) pa_nil)) pa_nil))))
      (pss_cons (ps_set (i := 5) nd rfl (Or.inl rfl) (pe_lst (pa_cons (pe_callTy call_list_of (by rfl) mli (by decide +kernel) (pa_cons (pv 2) pa_nil)) (pa_cons (pe_op op_catS (pv 2) (pe_tup (pa_cons pe_int pa_nil))) (pa_cons (pe_slice sl_S (pv 2) po_none (po_some (pe_un un_neg pe_int))) (pa_cons (pe_tup pa_nil) (pa_cons pe_non (pa_cons pe_int (pa_cons pe_bl (pa_cons (pe_ix ix_tup (pv 2) pe_int (fun _ _ => rfl)) (pa_cons (pe_lst (pa_cons (pv 2) pa_nil)) (pa_cons pe_dnewK (pa_cons (pe_tup (pa_cons (pv 2) pa_nil)) pa_nil)))))))))))))
      (pss_cons (ps_if (pt_cmpR op_eq (pv 3) pe_int (nomark _)) (pss_one (ps_ret (pe_ix ix_list (pv 5) (pe_call T.ok hr1 (by rfl) T.g T.kp T.b .nil pass0 (pa_cons (pv 0) (pa_cons pe_int pa_nil))) (fun _ _ => rfl)))) pss_nil)
      (pss_cons (ps_set (i := 6) nd rfl (Or.inl rfl) (pe_call OP.ok hr (by rfl) OP.g OP.kp OP.b .nil pass0 (pa_cons (pv 1) (pa_cons (pv 2) (pa_cons (pv 4) pa_nil)))))
      (pss_one (ps_ret (pe_op op_catS (pe_op op_catA (pe_slice sl_S (pv 2) po_none (po_some (pv 4))) (pe_tup (pa_cons (pe_ix ix_list (pv 6) (pe_call T.ok hr1 (by rfl) T.g T.kp T.b .nil pass0 (pa_cons (pv 0) (pa_cons (pe_callB call_len_seq (by rfl) ml PySem.boot_len (pa_cons (pv 6) pa_nil)) pa_nil))) (fun _ _ => rfl)) pa_nil))) (pe_slice sl_S (pv 2) (po_some (pe_op op_add (pv 4) pe_int)) po_none)))))))), ?_⟩
    have l7 := vals_len_e e
    refine ⟨_, rfl, p, c, _, 4, rfl, pen, by omega, by decide, by decide, fun way H1 x1 y1 pen1 bt1 => ?_⟩
    have he1 := TK.pen pen bt1 _ _ he
    refine ⟨_, rfl, _, rfl, ea, _, rfl, .inr (SqT.of he1), p, c, _, _, rfl, pen1, by omega, by omega, by omega, fun spt H2 x2 y2 pen2 bt2 => ?_⟩
    obtain ⟨i, rfl⟩ : ∃ m : Nat, spt = m := ⟨spt.toNat, (Int.toNat_of_nonneg x2).symm⟩
    have hi : i < e.vals.length := by omega
    have bt12 := bt1.tr bt2
    have he2 := TK.pen pen bt12 _ _ he
    have hw2 := hw.on (TK.pen pen bt12)
    -- eleven
    refine ⟨_, rfl, ea, _, rfl, .inr (SqT.of he2), fun l0 nl0 => ?_⟩
    have s0 := @same_new _ _ (.lst e.vals) nl0
    have h0 := @upd_same H2 l0 (.lst e.vals)
    generalize upd H2 l0 (.lst e.vals) = G0 at s0 h0 ⊢
    refine ⟨_, rfl, (by show 1 ≤ sizeLine; decide), fun t6 nt6 => ?_⟩
    have s1 := @same_new _ _ (.tup [V.int 0]) nt6
    have h1 := @upd_same G0 t6 (.tup [V.int 0])
    generalize upd G0 t6 (.tup [V.int 0]) = G1 at s1 h1 ⊢
    refine ⟨ea, t6, _, _, rfl, rfl, s1 _ _ (s0 _ _ he2), h1, (fun z => nomatch z), Nat.le_of_lt (small1000 (by show e.vals.length + 1 ≤ 1000; omega)), fun t7 G2 s2 h2 => ?_⟩
    refine ⟨_, rfl, 1, rfl, -1, rfl, ea, _, rfl, s2 _ _ (s1 _ _ (s0 _ _ he2)), fun t8 G3 s3 h3 => ?_⟩
    refine ⟨Nat.zero_le _, fun t9 nt9 => ?_⟩
    have s4 := @same_new _ _ (.tup []) nt9
    have h4 := @upd_same G3 t9 (.tup [])
    generalize upd G3 t9 (.tup []) = G4 at s4 h4 ⊢
    have s04 := s0.trans (s1.trans (s2.trans (s3.trans s4)))
    refine ⟨_, rfl, ea, _, 0, _, rfl, rfl, SqT.of (s04 _ _ he2), at0 e, ?_⟩
    refine ⟨_, rfl, (by show 1 ≤ sizeLine; decide), fun l10 nl10 => ?_⟩
    have s5 := @same_new _ _ (.lst [V.ref ea]) nl10
    have h5 := @upd_same G4 l10 (.lst [V.ref ea])
    generalize upd G4 l10 (.lst [V.ref ea]) = G5 at s5 h5 ⊢
    refine fun d11 nd11 => ?_
    have s6 := @same_new _ _ (.dK []) nd11
    have h6 := @upd_same G5 d11 (.dK [])
    generalize upd G5 d11 (.dK []) = G6 at s6 h6 ⊢
    refine ⟨_, rfl, (by show 1 ≤ sizeLine; decide), fun t12 nt12 => ?_⟩
    have s7 := @same_new _ _ (.tup [V.ref ea]) nt12
    have h7 := @upd_same G6 t12 (.tup [V.ref ea])
    generalize upd G6 t12 (.tup [V.ref ea]) = G7 at s7 h7 ⊢
    refine ⟨(by show 11 ≤ sizeLine; decide), fun LS nLS => ?_⟩
    have s8 := @same_new _ _ (.lst [V.ref l0, .ref t7, .ref t8, .ref t9, .non, .int 0, .bl true, .str e.word, .ref l10, .ref d11, .ref t12]) nLS
    have h8 := @upd_same G7 LS (.lst [V.ref l0, .ref t7, .ref t8, .ref t9, .non, .int 0, .bl true, .str e.word, .ref l10, .ref d11, .ref t12])
    generalize upd G7 LS (.lst [V.ref l0, .ref t7, .ref t8, .ref t9, .non, .int 0, .bl true, .str e.word, .ref l10, .ref d11, .ref t12]) = G8 at s8 h8 ⊢
    have s58 := s5.trans (s6.trans (s7.trans s8))
    have s48 := s4.trans s58
    have s28 := s3.trans s48
    have s08 : Same H2 G8 := s0.trans (s1.trans (s2.trans s28))
    have k0 := s28 _ _ (s2 _ _ (s1 _ _ h0))
    have k7 := s28 _ _ h2
    have k8 := s48 _ _ h3
    have k9 := s58 _ _ h4
    have k10 := (s6.trans (s7.trans s8)) _ _ h5
    have k11 := (s7.trans s8) _ _ h6
    have k12 := s8 _ _ h7
    have hea8 := s08 _ _ he2
    have pen8 := pen2.same s08
    have bt8 : But p H G8 := bt12.tr (.of s08)
    have ne_pen : ∀ {a : Addr} {o : HO}, G8 a = some o → (∀ b x y, o ≠ .lst [.ref b, .int x, .int y]) → a ≠ p := fun {a o} h n z => by
      obtain ⟨ns, a', l, g1, _⟩ := pen8.ex
      rw [z, g1] at h
      exact n _ _ _ (Option.some.inj h).symm
    refine ⟨_, rfl, rfl, _, rfl, ite2 (fun _ => ?_) (fun _ => ?_)⟩
    · refine ⟨_, rfl, _, rfl, p, c, _, 11, rfl, pen8, by omega, by decide, by decide, fun r H9 x9 y9 pen9 bt9 => ?_⟩
      obtain ⟨v, v1, v2⟩ := at_any (xs := [V.ref l0, .ref t7, .ref t8, .ref t9, .non, .int 0, .bl true, .str e.word, .ref l10, .ref d11, .ref t12]) x9 (by show r < 11; omega)
      have nLS : LS ≠ p := ne_pen h8 (fun b x y z => nomatch z)
      refine ⟨LS, _, _, _, rfl, rfl, SqL.of (bt9 _ _ h8 nLS), v1, ?_⟩
      have no := some_no (P := Ps) (G := G) fi hea8 k0 k7 k8 k9 k10 k11 k12 v v2
      have hl0 : ∀ b x y, HO.lst e.vals ≠ .lst [.ref b, .int x, .int y] := fun b x y z => by
        have := HO.lst.inj z
        exact nomatch (List.cons.inj this).1
      have pens : ∀ a, v = .ref a → a ≠ p := fun a ev => by
        subst ev
        simp only [List.mem_cons, List.not_mem_nil, or_false, V.ref.injEq, reduceCtorEq, false_or] at v2
        rcases v2 with rfl | rfl | rfl | rfl | rfl | rfl | rfl
        · exact ne_pen k0 hl0
        · exact ne_pen k7 (fun b x y z => nomatch z)
        · exact ne_pen k8 (fun b x y z => nomatch z)
        · exact ne_pen k9 (fun b x y z => nomatch z)
        · exact ne_pen k10 (fun b x y z => nomatch z)
        · exact ne_pen k11 (fun b x y z => nomatch z)
        · exact ne_pen k12 (fun b x y z => nomatch z)
      have eap : ea ≠ p := pen8.tup hea8
      refine q v H9 (no.but bt9 pens fun a xs ev ha x hx b eb => ?_) (pen9.mono (by omega)) (bt8.tr bt9)
      subst ev eb
      have v3 := v2
      simp only [List.mem_cons, List.not_mem_nil, or_false, V.ref.injEq, reduceCtorEq, false_or] at v3
      have flat : ∀ ys : List V, (∀ y ∈ ys, y ∈ e.vals ∨ y = .int 0) → V.ref b ∈ ys → b ≠ p := fun ys h m => by
        rcases h _ m with h | h
        · exact absurd rfl (ents_flat e _ h b)
        · exact nomatch h
      rcases v3 with rfl | rfl | rfl | rfl | rfl | rfl | rfl
      · rw [k0] at ha; exact nomatch ha
      · rw [k7] at ha
        obtain rfl := HO.tup.inj (Option.some.inj ha)
        exact flat _ (fun y hy => (List.mem_append.mp hy).imp id fun h => List.mem_singleton.mp h) hx
      · rw [k8] at ha
        obtain rfl := HO.tup.inj (Option.some.inj ha)
        exact flat _ (fun y hy => .inl (by unfold cutV at hy; exact List.mem_of_mem_drop (List.mem_of_mem_take hy))) hx
      · rw [k9] at ha
        obtain rfl := HO.tup.inj (Option.some.inj ha)
        exact nomatch hx
      · rw [k10] at ha; exact nomatch ha
      · rw [k11] at ha; exact nomatch ha
      · rw [k12] at ha
        obtain rfl := HO.tup.inj (Option.some.inj ha)
        rw [V.ref.inj (List.mem_singleton.mp hx)]
        exact eap
    · have hw8 := hw2.on (TK.of s08)
      refine ⟨_, rfl, _, rfl, _, rfl, wd, ea, B, sp, t, e, i, rfl, hw8, hea8, hi, hpn, fun L us H9 bl => ?_⟩
      have pen9 := pen8.same bl.sm
      have hea9 := bl.sm _ _ hea8
      have li := bl.le
      refine ⟨_, rfl, _, rfl, (i : Int), rfl, ea, _, rfl, hea9, fun t13 H10 s10 h10 => ?_⟩
      rw [cut_head] at h10
      have nLp : L ≠ p := fun z => pen8.there (z ▸ bl.nL)
      refine ⟨_, rfl, _, rfl, _, rfl, L, _, rfl, .inl (SqL.of (s10 _ _ bl.hL)), p, c, _, _, rfl, pen9.same s10, by omega, by omega, by omega, fun r H11 x11 y11 pen11 bt11 => ?_⟩
      obtain ⟨v, v1, v2⟩ := at_any (xs := us) x11 (by omega)
      obtain ⟨tv, fv, bv⟩ := bl.bad v v2
      have npv : ∀ a, v = .ref a → a ≠ p := fun a ev z => pen8.there (z ▸ fv a ev)
      refine ⟨L, _, _, _, rfl, rfl, SqL.of (bt11 _ _ (s10 _ _ bl.hL) nLp), v1, (by show 1 ≤ sizeLine; decide), fun t14 nt14 => ?_⟩
      have s12 := @same_new _ _ (.tup [v]) nt14
      have h12 := @upd_same H11 t14 (.tup [v])
      generalize upd H11 t14 (.tup [v]) = H12 at s12 h12 ⊢
      have h13 := s12 _ _ (TK.pen (pen9.same s10) bt11 _ _ h10)
      refine cat_tup (K := K) h13 h12 (fun z => nomatch z) (Nat.le_of_lt (small1000 (by rw [List.length_take]; show min i e.vals.length + 1 ≤ 1000; omega))) fun t15 H13 s13 h15 => ?_
      have hea12 := s12 _ _ (TK.pen (pen9.same s10) bt11 _ _ (s10 _ _ hea9))
      refine ⟨_, rfl, _, rfl, (i : Int), 1, rfl, rfl, (i : Int) + 1, rfl, ea, _, rfl, s13 _ _ hea12, fun t16 H14 s14 h16 => ?_⟩
      rw [show (some ((i : Int) + 1)) = some ((i + 1 : Nat) : Int) from rfl, cut_tail] at h16
      refine ⟨t15, t16, _, _, rfl, rfl, s14 _ _ h15, h16, (fun z => by have := congrArg List.length z; rw [List.length_append] at this; simp only [List.length_cons, List.length_nil] at this; omega), Nat.le_of_lt (small1000 (by rw [List.length_append, List.length_take, List.length_drop]; show min i e.vals.length + 1 + (e.vals.length - (i + 1)) ≤ 1000; omega)), fun t17 H15 s15 h17 => ?_⟩
      have eset : e.vals.take i ++ [v] ++ e.vals.drop (i + 1) = e.vals.set i v := by
        rw [List.set_eq_take_append_cons_drop, if_pos hi, List.append_assoc]
        rfl
      rw [eset] at h17
      have s1215 := s13.trans (s14.trans s15)
      have t15v : Thg H15 v := by
        have a1 : Thg H10 v := tv.on fun a o _ h _ => s10 _ _ h
        have a2 : Thg H11 v := a1.but bt11 npv
        exact a2.on fun a o _ h _ => s1215 _ _ (s12 _ _ h)
      refine q _ H15 (.inr ⟨t17, _, rfl, h17, by rw [List.length_set]; omega, fun x hx => ?_, bv Ps G nP nG⟩) ((pen11.mono (by omega)).same (s12.trans s1215)) ((bt8.tr (.of (bl.sm.trans s10))).tr (bt11.tr (.of (s12.trans s1215))))
      rcases List.mem_or_eq_of_mem_set hx with hx | rfl
      · exact ents_thg fi H15 x hx
      · exact t15v
end
/-! ### days, what begins, the law -/
theorem tabS_but {H H' : Hp} {p c Pt : Addr} {n : Nat} {q : Str} (h : LamX.TabS H Pt q) (pen : PenAt H p c n) (b : But p H H') : LamX.TabS H' Pt q := by
  obtain ⟨ps, h1, h2, h3⟩ := h
  obtain ⟨ns, a, x, g1, _⟩ := pen.ex
  refine ⟨ps, b _ _ h1 (ne_of h1 g1 (by intro z; cases z)), h2, fun at' cv e => ?_⟩
  obtain ⟨c', e1, e2⟩ := h3 at' cv e
  exact ⟨c', e1, b _ _ e2 (ne_of e2 g1 (by intro z; cases z))⟩
/-- what holds all along -/
structure IB (H : Hp) (p c wd st a1 a2 : Addr) (n : Nat) (B : List Nat) (sp t : Nat) (P G : List Str) (Ts : List Addr) (Pt : Addr) : Prop where
  pen : PenAt H p c n
  hw : WdAt H wd B sp t
  hs : StAt H st a1 a2 P G
  tg : TabsG Ts H
  tl : LamX.TabS H Pt qLam
theorem IB.same {H H' : Hp} {p c wd st a1 a2 : Addr} {n : Nat} {B : List Nat} {sp t : Nat} {P G : List Str} {Ts : List Addr} {Pt : Addr} (i : IB H p c wd st a1 a2 n B sp t P G Ts Pt) (s : Same H H') : IB H' p c wd st a1 a2 n B sp t P G Ts Pt :=
  ⟨i.pen.same s, i.hw.on (TK.of s), i.hs.on (TK.of s), tabs_sm s i.tg, tabS_sm s i.tl⟩
theorem IB.tbl {H H' : Hp} {p c wd st a1 a2 : Addr} {n : Nat} {B : List Nat} {sp t : Nat} {P G : List Str} {Ts : List Addr} {Pt : Addr} (i : IB H p c wd st a1 a2 n B sp t P G Ts Pt) (s : TBL Ts Pt qLam H H') : IB H' p c wd st a1 a2 n B sp t P G Ts Pt :=
  ⟨i.pen.tb s.tb, i.hw.on s.tk, i.hs.on s.tk, s.tg, s.ts⟩
theorem IB.but {H H' : Hp} {p c wd st a1 a2 : Addr} {n m : Nat} {B : List Nat} {sp t : Nat} {P G : List Str} {Ts : List Addr} {Pt : Addr} (i : IB H p c wd st a1 a2 n B sp t P G Ts Pt) (b : But p H H') (pen : PenAt H' p c m) : IB H' p c wd st a1 a2 m B sp t P G Ts Pt :=
  ⟨pen, i.hw.on (TK.pen i.pen b), i.hs.on (TK.pen i.pen b), tabs_but i.tg i.pen b, tabS_but i.tl i.pen b⟩
theorem IB.mono {H : Hp} {p c wd st a1 a2 : Addr} {n m : Nat} {B : List Nat} {sp t : Nat} {P G : List Str} {Ts : List Addr} {Pt : Addr} (i : IB H p c wd st a1 a2 n B sp t P G Ts Pt) (h : n ≤ m) : IB H p c wd st a1 a2 m B sp t P G Ts Pt := ⟨i.pen.mono h, i.hw, i.hs, i.tg, i.tl⟩
theorem IB.t0 {H : Hp} {p c wd st a1 a2 : Addr} {n : Nat} {B : List Nat} {sp t : Nat} {P G : List Str} {Ts : List Addr} {Pt : Addr} (i : IB H p c wd st a1 a2 n B sp t P G Ts Pt) : TBL Ts Pt qLam H H := .same i.tg i.tl fun _ _ e => e
theorem shaped_rf (r : Rf) : SeqAt.shaped (.tuple [.str (rfW r)]) = true := by cases r <;> decide +kernel
theorem ok_ms0 {P G HL : List Str} : OkM P G HL MS0 := ⟨fun p hp => (nomatch hp), (List.mergeSort_nil).symm, fun y hy => (nomatch hy), rfl, Nat.zero_le _, Nat.zero_le _, Nat.zero_le _, .inl ⟨rfl, rfl⟩⟩
def spStart0 (Ts : List Addr) (Pt : Addr) : Sp := fun vs H Q _ => ∃ (a1 a2 : Addr) (P G : List Str), vs = [.ref a1, .ref a2] ∧ H a1 = some (.tup (P.map V.str)) ∧ H a2 = some (.tup (G.map V.str)) ∧ StOk P G ∧ TabsG Ts H ∧ LamX.TabS H Pt qLam ∧ Pt ∉ Ts ∧
  ∀ (s b1 b2 : Addr) (H' : Hp), TBL Ts Pt qLam H H' → SM H' s b1 b2 P G MS0 → Q (.ref s) H'
theorem start0 {Ts : List Addr} {Pt : Addr} {vs : List V} {H : Hp} {Q : VK} {E : XK} (h : spStart0 Ts Pt vs H Q E) : spStart Ts vs H Q E := by
  obtain ⟨a1, a2, P, G, rfl, hp, hg, so, tg, tl, nPt, q⟩ := h
  have lp := so.pl
  have lg := so.gl
  have ox : (onceR P).Perm P := onceR_perm so.pd (fun x h => h) fun x h => h
  have oy : (onceR G).Perm G := onceR_perm so.gd (fun x h => h) fun x h => h
  refine ⟨a1, a2, P, G, rfl, .inr hp, .inr hg, so.pn, by omega, by rw [ox.length_eq]; omega, by rw [ox.length_eq]; omega, so.gn, by omega, by rw [oy.length_eq]; omega, by rw [oy.length_eq]; omega, tg, fun s1 b1' b2' F1 B1 P1 G1 H6 pm1 so1 pm2 so2 tb6 sa6 => ?_⟩
  obtain rfl : P1 = P := sorted_one (pm1.trans ox) so1 so.ps
  obtain rfl : G1 = G := sorted_one (pm2.trans oy) so2 so.gs
  exact q s1 b1' b2' H6 (.of1 nPt tl tb6) ⟨F1, B1, [], sa6, rfl⟩
def spDays (Ts : List Addr) (Pt : Addr) : Sp := fun vs H Q _ => ∃ (p c wd st a1 a2 s b1 b2 d FL BL : Addr) (n : Nat) (B : List Nat) (sp t : Nat) (P G : List Str) (S : MS), vs = [.ref p, .ref s, .ref d] ∧ IB H p c wd st a1 a2 n B sp t P G Ts Pt ∧ n ≤ 60000 ∧ SM H s b1 b2 P G S ∧ H d = some (.dK (mdK FL BL (clV S.cl) (mdV S.md))) ∧ CmS S ∧
  ∀ H', IB H' p c wd st a1 a2 (n + 3) B sp t P G Ts Pt → Kp p H H' → Q (.bl true) H'
def spBegun (Ts : List Addr) (Pt : Addr) : Sp := fun vs H Q _ => ∃ (p c wd st a1 a2 : Addr) (n m : Nat) (B : List Nat) (sp t : Nat) (P G : List Str), vs = [.ref p, .ref wd, .ref st, .int (m : Int)] ∧ IB H p c wd st a1 a2 n B sp t P G Ts Pt ∧ n ≤ 1000 ∧ m ≤ 9 ∧ StOk P G ∧ Pt ∉ Ts ∧
  ∀ (bt s b1 b2 d FL BL : Addr) (fs : List Fm) (S : MS) (H' : Hp), H' bt = some (.tup [.ref s, .ref d]) → IB H' p c wd st a1 a2 (n + 300) B sp t P G Ts Pt → SM H' s b1 b2 P G S → MdAt H' d FL BL fs S → FL ≠ p → BL ≠ p → OkM P G (nmsC B sp t 0 3) S → Q (.ref bt) H'
def spLaw (K : PySem.W.Frag) (Ts : List Addr) (Pt : Addr) : Sp := fun vs H Q _ => ∃ (a : Addr) (ns : List Int), vs = [.ref a] ∧ SqL K H a (ns.map V.int) ∧ TabsG Ts H ∧ LamX.TabS H Pt qLam ∧ ∀ H', Q (.bl true) H'
theorem IB.kp {H H' : Hp} {p c wd st a1 a2 : Addr} {n m : Nat} {B : List Nat} {sp t : Nat} {P G : List Str} {Ts : List Addr} {Pt : Addr} (i : IB H p c wd st a1 a2 n B sp t P G Ts Pt) (k : Kp p H H') {a : Addr} {xs : List V} (h : H a = some (.tup xs)) : H' a = some (.tup xs) := Kp.tk i.pen k _ _ h
abbrev oddDV (dy : Int) (l : Addr) : List V := [V.int (-1), .int 100, .bl true, .bl false, .non, .str "7", .int (10 ^ (59 : Int).toNat), .ref l, .int (dy - 1)]
theorem odd_days {S : MS} (cm : CmS S) {H : Hp} {l : Addr} (hl : H l = some (.lst [])) : ∀ v ∈ oddDV (S.cl.getD (-1) + 1) l, Thg H v ∧ (dayB v = false ∨ ∃ i k, v = .int i ∧ S.cl = some k ∧ i ≤ k) := by
  have big : (10000000000 : Int) ≤ 10 ^ (59 : Int).toNat := by decide +kernel
  intro v hv
  simp only [oddDV, List.mem_cons, List.not_mem_nil, or_false] at hv
  rcases hv with rfl | rfl | rfl | rfl | rfl | rfl | rfl | rfl | rfl
  · exact ⟨.int _, .inl rfl⟩
  · exact ⟨.int _, .inl rfl⟩
  · exact ⟨.bl _, .inl rfl⟩
  · exact ⟨.bl _, .inl rfl⟩
  · exact ⟨.non, .inl rfl⟩
  · exact ⟨.str _ (by decide +kernel), .inl rfl⟩
  · refine ⟨.int _, .inl ?_⟩
    show (decide ((0 : Int) ≤ (10 : Int) ^ (59 : Int).toNat) && decide ((10 : Int) ^ (59 : Int).toNat ≤ 99)) = false
    rw [decide_eq_false (show ¬ (10 : Int) ^ (59 : Int).toNat ≤ 99 by omega), Bool.and_false]
  · exact ⟨.lst hl, .inl rfl⟩
  · refine ⟨.int _, ?_⟩
    rcases cm with ⟨c, _⟩ | ⟨k, m, c, _⟩
    · rw [c]
      exact .inl rfl
    · rw [c]
      exact .inr ⟨_, k, rfl, rfl, by show k + 1 - 1 ≤ k; omega⟩
abbrev oddMV (l t : Addr) : List V := [V.str "", .str "Up", .str "refuses", .non, .int 7, .bl true, .ref l, .ref t, .str "up "]
theorem odd_modes {H : Hp} {l t : Addr} (hl : H l = some (.lst [.str "up"])) (ht : H t = some (.tup [.str "up"])) : ∀ v ∈ oddMV l t, Thg H v ∧ v ∉ modesW := by
  have no : ∀ z : Str, z ∈ (["", "Up", "refuses", "up "] : List Str) → z.length ≤ 1000 ∧ z ∉ (["refuse", "up"] : List Str) := by decide +kernel
  have ns : ∀ z : Str, z ∉ (["refuse", "up"] : List Str) → V.str z ∉ modesW := fun z h q => by
    obtain ⟨y, hy, e⟩ := List.mem_map.mp (show V.str z ∈ (["refuse", "up"] : List Str).map V.str from q)
    exact h (V.str.inj e ▸ hy)
  have nr : ∀ v : V, (∀ z, v ≠ .str z) → v ∉ modesW := fun v h q => by
    obtain ⟨y, hy, e⟩ := List.mem_map.mp (show v ∈ (["refuse", "up"] : List Str).map V.str from q)
    exact h y e.symm
  intro v hv
  simp only [oddMV, List.mem_cons, List.not_mem_nil, or_false] at hv
  rcases hv with rfl | rfl | rfl | rfl | rfl | rfl | rfl | rfl | rfl
  · exact ⟨.str _ (no _ (by simp)).1, ns _ (no _ (by simp)).2⟩
  · exact ⟨.str _ (no _ (by simp)).1, ns _ (no _ (by simp)).2⟩
  · exact ⟨.str _ (no _ (by simp)).1, ns _ (no _ (by simp)).2⟩
  · exact ⟨.non, nr _ fun z e => nomatch e⟩
  · exact ⟨.int _, nr _ fun z e => nomatch e⟩
  · exact ⟨.bl _, nr _ fun z e => nomatch e⟩
  · exact ⟨.lst hl, nr _ fun z e => nomatch e⟩
  · exact ⟨.tup ht, nr _ fun z e => nomatch e⟩
  · exact ⟨.str _ (no _ (by simp)).1, ns _ (no _ (by simp)).2⟩
section
variable {P : Program} {w : World} {K : PySem.W.Frag} {mg : Str → Option Value} {base : Heap}
abbrev sDaysN : List Str := ["_law_pen_here", "_law_state_here", "_law_model_here", "_law_day", "_law_odd", "_law_mode", "_law_one", "_law_other"]
theorem sc_sDays : FnScope sDaysN ["_law_pen_here", "_law_state_here", "_law_model_here"] (defScope sDays) := ⟨rfl, rfl, rfl, by decide +kernel, rfl, by decide +kernel, by decide +kernel⟩
set_option maxHeartbeats 4000000 in
theorem ok_days {f fT fB Pt : Addr} {fd dT dB : FuncData} {Ts : List Addr} (F : Fun K "_law_days_right" "_law_days_right" sDays f fd) (T : DefT P w K mg base "_law_draw" 1 fT dT ["_law_pen_here", "_law_many_here"] spDraw)
    (TO : DefT P w K mg base "_law_told_by" 11 fB dB ["_law_state_here", "_law_deed_here"] (fun vs H Q E => spToldBy Ts Pt vs H Q E ∨ spToldNo Ts Pt vs H Q E)) :
    FnOk P w K mg base CX0 12 f fd ["_law_pen_here", "_law_state_here", "_law_model_here"] (spDays Ts Pt) := by
  refine F.ok sc_sDays (fun vs H Q E h => ?_) (fun cdv A outer s H vs Q E hr h => ?_)
  · obtain ⟨p, c, wd, st, a1, a2, s, b1, b2, d, FL, BL, n, B, sp, t, Ps, G, S, rfl, _⟩ := h
    rfl
  · obtain ⟨p, c, wd, st, a1, a2, s, b1, b2, d, FL, BL, n, B, sp, t, Ps, G, S, rfl, ib, hn, sm, hd, cm, q⟩ := h
    have hu := hu_of hr
    have nd := sc_sDays.nd
    have hr1 : Room 1 _ := hr.mono (by decide)
    refine ⟨_, pss_cons (ps_set (i := 3) nd rfl (Or.inl rfl) pe_int)
      (C8.pss_cut (ps_if (pt_cmpR op_notN (pe_dget hu (pv 2) pe_str (fun _ _ => rfl)) pe_non (by rfl)) (pss_one (ps_set (i := 3) nd rfl (Or.inl rfl) (pe_op op_add (pe_dget hu (pv 2) pe_str (fun _ _ => rfl)) pe_int))) pss_nil)
      (pss_cons (ps_set (i := 4) nd rfl (Or.inl rfl) (pe_ix ix_list (pe_lst (pa_cons (pe_un un_neg pe_int) (pa_cons pe_int (pa_cons pe_bl (pa_cons pe_bl (pa_cons pe_non (pa_cons pe_str (pa_cons (pe_op op_pow pe_int pe_int) (pa_cons (pe_lst pa_nil) (pa_cons (pe_op op_sub (pv 3) pe_int) pa_nil)))))))))) (pe_call T.ok hr1 (by rfl) T.g T.kp T.b .nil pass0 (pa_cons (pv 0) (pa_cons pe_int pa_nil))) (fun _ _ => rfl)))
      (pss_cons (ps_set (i := 5) nd rfl (Or.inl rfl) (pe_ix ix_list (pe_lst (pa_cons pe_str (pa_cons pe_str (pa_cons pe_str (pa_cons pe_non (pa_cons pe_int (pa_cons pe_bl (pa_cons (pe_lst (pa_cons pe_str pa_nil)) (pa_cons (pe_tup (pa_cons pe_str pa_nil)) (pa_cons pe_str pa_nil)))))))))) (pe_call T.ok hr1 (by rfl) T.g T.kp T.b .nil pass0 (pa_cons (pv 0) (pa_cons pe_int pa_nil))) (fun _ _ => rfl)))
      (pss_cons (ps_for PassesOwn.never rfl (pi_list (pe_lst (pa_cons (pe_tup (pa_cons (pv 4) (pa_cons pe_str pa_nil))) (pa_cons (pe_tup (pa_cons (pv 3) (pa_cons (pv 5) pa_nil))) (pa_cons (pe_tup (pa_cons (pv 4) (pa_cons (pv 5) pa_nil))) (pa_cons (pe_tup (pa_cons (pv 4) (pa_cons pe_str pa_nil))) pa_nil)))))) (pg_tup (by rfl) (pgs_cons (pg_name (i := 6) nd rfl (Or.inl rfl)) (pgs_cons (pg_name (i := 7) nd rfl (Or.inl rfl)) pgs_nil)))
        (pss_one (ps_if (pt_cmpR (op_neD hr.units) (pe_call TO.ok hr (by rfl) TO.g TO.kp TO.b .nil pass0 (pa_cons (pv 1) (pa_cons (pe_tup (pa_cons pe_str (pa_cons (pv 6) (pa_cons (pv 7) pa_nil)))) pa_nil))) (pe_tup (pa_cons pe_str pa_nil)) (nomark _)) (pss_one (ps_ret pe_bl)) pss_nil)))
      (pss_one (ps_ret pe_bl)))))), ?_⟩
    have cpow : CPow 10 59 := by show (0 : Int) ≤ 59 ∧ (59 : Int) ≤ 1000000 ∧ (10 : Int).natAbs < 2 ^ 64; decide
    refine ⟨fun σ' H' => σ' = [some (.ref p), some (.ref s), some (.ref d), some (.int (S.cl.getD (-1) + 1)), none, none, none, none] ∧ H' = H, ?_, ?_⟩
    · rcases cm with ⟨e, _⟩ | ⟨k, m, e, _⟩
      · rw [e] at hd ⊢
        exact ⟨_, rfl, d, _, rfl, dget_k hd mdK_c, rfl, false, rfl, iteF ⟨rfl, rfl⟩⟩
      · rw [e] at hd ⊢
        exact ⟨_, rfl, d, _, rfl, dget_k hd mdK_c, rfl, true, rfl, iteT ⟨_, rfl, d, _, rfl, dget_k hd mdK_c, k, 1, rfl, rfl, rfl, rfl⟩⟩
    rintro σ' H' ⟨rfl, rfl⟩
    generalize hdy : S.cl.getD (-1) + 1 = dy
    refine ⟨1, rfl, 10, 59, rfl, rfl, cpow, Nat.zero_le _, fun l nl => ?_⟩
    have s1 := @same_new _ _ (.lst []) nl
    have h1 := @upd_same H' l (.lst [])
    generalize upd H' l (.lst []) = H1 at s1 h1 ⊢
    refine ⟨_, rfl, dy, 1, rfl, rfl, (by show 9 ≤ sizeLine; decide), fun LO nLO => ?_⟩
    have s2 := @same_new _ _ (.lst (oddDV dy l)) nLO
    have h2 := @upd_same H1 LO (.lst (oddDV dy l))
    have ib2 := (ib.same s1).same s2
    have nLp : LO ≠ p := fun z => (ib.same s1).pen.there (z ▸ nLO)
    have nlp : l ≠ p := fun z => ib.pen.there (z ▸ nl)
    refine ⟨_, rfl, p, c, _, 9, rfl, ib2.pen, by omega, by decide, by decide, fun r1 H3 x3 y3 pen3 bt3 => ?_⟩
    have ib3 := ib2.but bt3 pen3
    have kp3 : Kp p H' H3 := (Kp.same (s1.trans s2)).tr (Kp.but bt3)
    have h3l : H3 l = some (.lst []) := bt3 _ _ (s2 _ _ h1) nlp
    obtain ⟨od, o1, o2⟩ := at_any (xs := oddDV dy l) x3 (by show r1 < 9; omega)
    refine ⟨LO, _, _, _, rfl, rfl, SqL.of (bt3 _ _ h2 nLp), o1, ?_⟩
    clear h2 s2 ib2
    refine ⟨(by show 1 ≤ sizeLine; decide), fun lm nlm => ?_⟩
    have s4 := @same_new _ _ (.lst [V.str "up"]) nlm
    have h4 := @upd_same H3 lm (.lst [V.str "up"])
    generalize upd H3 lm (.lst [V.str "up"]) = H4 at s4 h4 ⊢
    refine ⟨(by show 1 ≤ sizeLine; decide), fun tm ntm => ?_⟩
    have s5 := @same_new _ _ (.tup [V.str "up"]) ntm
    have h5 := @upd_same H4 tm (.tup [V.str "up"])
    generalize upd H4 tm (.tup [V.str "up"]) = H5 at s5 h5 ⊢
    refine ⟨(by show 9 ≤ sizeLine; decide), fun LM nLM => ?_⟩
    have s6 := @same_new _ _ (.lst (oddMV lm tm)) nLM
    have h6 := @upd_same H5 LM (.lst (oddMV lm tm))
    have ib5 := (ib3.same s4).same s5
    have ib6 := ib5.same s6
    have nMp : LM ≠ p := fun z => ib5.pen.there (z ▸ nLM)
    have nmp : lm ≠ p := fun z => ib3.pen.there (z ▸ nlm)
    have ntp : tm ≠ p := fun z => (ib3.same s4).pen.there (z ▸ ntm)
    refine ⟨_, rfl, p, c, _, 9, rfl, ib6.pen, by omega, by decide, by decide, fun r2 H7 x7 y7 pen7 bt7 => ?_⟩
    have ib7 := ib6.but bt7 pen7
    have kp7 : Kp p H' H7 := kp3.tr ((Kp.same (s4.trans (s5.trans s6))).tr (Kp.but bt7))
    have h7l : H7 l = some (.lst []) := bt7 _ _ (s6 _ _ (s5 _ _ (s4 _ _ h3l))) nlp
    have h7m : H7 lm = some (.lst [.str "up"]) := bt7 _ _ (s6 _ _ (s5 _ _ h4)) nmp
    have h7t : H7 tm = some (.tup [.str "up"]) := bt7 _ _ (s6 _ _ h5) ntp
    obtain ⟨om, m1, m2⟩ := at_any (xs := oddMV lm tm) x7 (by show r2 < 9; omega)
    refine ⟨LM, _, _, _, rfl, rfl, SqL.of (bt7 _ _ h6 nMp), m1, ?_⟩
    clear h6 s6 ib6 s5 s4 ib5 h5 h4
    have fd : ∀ {H8 : Hp}, Same H7 H8 → Thg H8 od ∧ (dayB od = false ∨ ∃ i k, od = .int i ∧ S.cl = some k ∧ i ≤ k) := fun s8 => by
      have := odd_days cm (s8 _ _ h7l) od (by rw [hdy]; exact o2)
      exact this
    have fm : ∀ {H8 : Hp}, Same H7 H8 → Thg H8 om ∧ om ∉ modesW := fun s8 => odd_modes (s8 _ _ h7m) (s8 _ _ h7t) om m2
    have noD : ∀ m : V, NoD S od m := fun m => by
      rcases (fd fun _ _ h => h).2 with h | h
      · exact .inl h
      · exact .inr (.inr h)
    have lu : (V.str "up") = V.str "up" := rfl
    -- four pairs
    refine ⟨_, rfl, (by show 2 ≤ sizeLine; decide), fun t1 nt1 => ?_⟩
    have u1 := @same_new _ _ (.tup [od, V.str "up"]) nt1
    have g1 := @upd_same H7 t1 (.tup [od, V.str "up"])
    generalize upd H7 t1 (.tup [od, V.str "up"]) = G1 at u1 g1 ⊢
    refine ⟨_, rfl, _, rfl, (by show 2 ≤ sizeLine; decide), fun t2 nt2 => ?_⟩
    have u2 := @same_new _ _ (.tup [V.int dy, om]) nt2
    have g2 := @upd_same G1 t2 (.tup [V.int dy, om])
    generalize upd G1 t2 (.tup [V.int dy, om]) = G2 at u2 g2 ⊢
    refine ⟨_, rfl, _, rfl, (by show 2 ≤ sizeLine; decide), fun t3 nt3 => ?_⟩
    have u3 := @same_new _ _ (.tup [od, om]) nt3
    have g3 := @upd_same G2 t3 (.tup [od, om])
    generalize upd G2 t3 (.tup [od, om]) = G3 at u3 g3 ⊢
    refine ⟨_, rfl, (by show 2 ≤ sizeLine; decide), fun t4 nt4 => ?_⟩
    have u4 := @same_new _ _ (.tup [od, V.str "refuse"]) nt4
    have g4 := @upd_same G3 t4 (.tup [od, V.str "refuse"])
    generalize upd G3 t4 (.tup [od, V.str "refuse"]) = G4 at u4 g4 ⊢
    refine ⟨(by show 4 ≤ sizeLine; decide), fun L4 nL4 => ?_⟩
    have u5 := @same_new _ _ (.lst [V.ref t1, .ref t2, .ref t3, .ref t4]) nL4
    have g5 := @upd_same G4 L4 (.lst [V.ref t1, .ref t2, .ref t3, .ref t4])
    generalize upd G4 L4 (.lst [V.ref t1, .ref t2, .ref t3, .ref t4]) = G5 at u5 g5 ⊢
    have u35 := u4.trans u5
    have u25 := u3.trans u35
    have u15 := u2.trans u25
    have u05 : Same H7 G5 := u1.trans u15
    have pairs : ∀ x ∈ ([V.ref t1, .ref t2, .ref t3, .ref t4] : List V), ∃ a one oth, x = .ref a ∧ G5 a = some (.tup [one, oth]) ∧ Thg G5 one ∧ Thg G5 oth ∧ NoD S one oth := fun x hx => by
      have ls : ∀ z : Str, z ∈ (["up", "refuse"] : List Str) → z.length ≤ 1000 := by decide +kernel
      simp only [List.mem_cons, List.not_mem_nil, or_false] at hx
      rcases hx with rfl | rfl | rfl | rfl
      · exact ⟨t1, od, _, rfl, u15 _ _ g1, (fd u05).1, .str _ (ls _ (by simp)), noD _⟩
      · exact ⟨t2, _, om, rfl, u25 _ _ g2, .int _, (fm u05).1, .inr (.inl (fm u05).2)⟩
      · exact ⟨t3, od, om, rfl, u35 _ _ g3, (fd u05).1, (fm u05).1, noD _⟩
      · exact ⟨t4, od, _, rfl, u5 _ _ g4, (fd u05).1, .str _ (ls _ (by simp)), noD _⟩
    have ibG := ib7.same u05
    have kpG : Kp p H' G5 := kp7.tr (Kp.same u05)
    have smG := sm.on (Kp.tk ib.pen kpG)
    refine ⟨L4, rfl, ⟨_, SqL.of g5⟩, for_list (K := K) (a := L4) (xs := [V.ref t1, .ref t2, .ref t3, .ref t4]) (fun i σ H9 => ∃ y6 y7, σ = [some (.ref p), some (.ref s), some (.ref d), some (.int dy), some od, some om, y6, y7] ∧ TBL Ts Pt qLam G5 H9) ⟨_, _, rfl, ibG.t0⟩ (fun i σ H9 _ ⟨_, _, _, tb⟩ => SqL.of (tb.tb.lst g5)) ?_ ?_⟩
    · rintro i v σ H9 hv ⟨y6, y7, rfl, tb9⟩
      obtain ⟨a, one, oth, rfl, ha, ta, to, no⟩ := pairs v (List.mem_of_getElem? hv)
      refine ⟨a, _, rfl, SqT.of (tb9.tk _ _ ha), rfl, _, _, rfl, _, _, rfl, rfl, ?_⟩
      refine ⟨_, rfl, _, rfl, _, rfl, (by show 3 ≤ sizeLine; decide), fun dd ndd => ?_⟩
      have s10 := @same_new _ _ (.tup [V.str "close", one, oth]) ndd
      have h10 := @upd_same H9 dd (.tup [V.str "close", one, oth])
      generalize upd H9 dd (.tup [V.str "close", one, oth]) = H10 at s10 h10 ⊢
      have tb10 := tb9.tr (.same tb9.tg tb9.ts s10)
      refine .inr ⟨s, dd, b1, b2, Ps, G, S, .day, rfl, smG.on tb10.tk, .inr (.inr ⟨one, oth, h10, ta.on (fun a o _ => tb10.tb.kp a o), to.on (fun a o _ => tb10.tb.kp a o), no, rfl⟩), tb10.tg, tb10.ts, fun tt H11 tb11 ht11 => ⟨(by show 1 ≤ sizeLine; decide), fun t5 nt5 => ?_⟩⟩
      have s12 := @same_new _ _ (.tup [V.str "day"]) nt5
      have she : SeqAt.shaped (.tuple [.str "day"]) = true := shaped_rf .day
      refine ⟨_, _, .tup (SqT.of (s12 _ _ ht11)) (.cons (.str _) .nil), .tup (SqT.of upd_same) (.cons (.str _) .nil), she, she, _, rfl, ?_⟩
      rw [show PyData.eqv (.tuple [.str (rfW .day)]) (.tuple [.str "day"]) = true from SeqAt.eqv_refl _ (SeqAt.canLay_of_shaped she)]
      exact iteF ⟨_, _, rfl, (tb10.tr tb11).tr (.same tb11.tg tb11.ts s12)⟩
    · rintro σ H9 ⟨y6, y7, rfl, tb9⟩
      exact q H9 ((ibG.tbl tb9).mono (by omega)) (kpG.tr (Kp.tb tb9.tb))
end
/-! ### what begins, and the law -/
theorem rf_told {r : Rf} (h : r ≠ .ok) : decide (V.str (rfW r) = V.str "told") = false := by
  cases r
  · exact absurd rfl h
  all_goals exact dec_str (by decide +kernel)
section
variable {P : Program} {w : World} {K : PySem.W.Frag} {mg : Str → Option Value} {base : Heap}
abbrev sBegunN : List Str := ["_law_pen_here", "_law_words_here", "_law_stand_here", "_law_many_here", "_law_state_here", "_law_model_here", "_law_k", "_law_deed_here", "_law_later", "_law_found"]
theorem sc_sBegun : FnScope sBegunN ["_law_pen_here", "_law_words_here", "_law_stand_here", "_law_many_here"] (defScope sBegun) := ⟨rfl, rfl, rfl, by decide +kernel, rfl, by decide +kernel, by decide +kernel⟩
set_option maxHeartbeats 4000000 in
theorem ok_begun {f fS fO fD fB fG Pt : Addr} {fd dS dO dD dB dG : FuncData} {Ts : List Addr} (F : Fun K "_law_begun" "_law_begun" sBegun f fd)
    (ST : DefT P w K mg base "start" 8 fS dS ["places", "goods"] (spStart0 Ts Pt))
    (MO : DefT P w K mg base "_law_model" 1 fO dO [] spLModel) (DE : DefT P w K mg base "_law_deed" 4 fD dD ["_law_pen_here", "_law_words_here", "_law_stand_here", "_law_model_here", "_law_k"] spLDeed)
    (DO : DefT P w K mg base "_law_done" 6 fB dB ["_law_model_here", "_law_deed_here"] spLDone) (TO : DefT P w K mg base "_law_told_by" 11 fG dG ["_law_state_here", "_law_deed_here"] (fun vs H Q E => spToldBy Ts Pt vs H Q E ∨ spToldNo Ts Pt vs H Q E))
    (mr : mg "range" = none) (mis : mg "isinstance" = none) (mT_str : mg "str" = none) : FnOk P w K mg base CX0 12 f fd ["_law_pen_here", "_law_words_here", "_law_stand_here", "_law_many_here"] (spBegun Ts Pt) := by
  refine F.ok sc_sBegun (fun vs H Q E h => ?_) (fun cdv A outer s H vs Q E hr h => ?_)
  · obtain ⟨p, c, wd, st, a1, a2, n, m, B, sp, t, Ps, G, rfl, _⟩ := h
    rfl
  · obtain ⟨p, c, wd, st, a1, a2, n, m, B, sp, t, Ps, G, rfl, ib, hn, hm, so, nPt, q⟩ := h
    have nd := sc_sBegun.nd
    have hr1 : Room 1 _ := hr.mono (by decide)
    have hr4 : Room 4 _ := hr.mono (by decide)
    have hr6 : Room 6 _ := hr.mono (by decide)
    have hr8 : Room 8 _ := hr.mono (by decide)
    refine ⟨_, pss_cons (ps_set (i := 4) nd rfl (Or.inl rfl) (pe_call ST.ok hr8 (by rfl) ST.g ST.kp ST.b .nil pass0 (pa_cons (pe_ix ix_tup (pv 2) pe_int (fun _ _ => rfl)) (pa_cons (pe_ix ix_tup (pv 2) pe_int (fun _ _ => rfl)) pa_nil))))
      (pss_cons (ps_set (i := 5) nd rfl (Or.inl rfl) (pe_call0 MO.ok hr1 (by rfl) MO.g MO.kp MO.b .nil pass0))
      (pss_cons (ps_for PassesOwn.never rfl (pi_range1 rfl mr (pa_cons (pv 3) pa_nil)) (pg_name (i := 6) nd rfl (Or.inl rfl))
        (pss_cons (ps_set (i := 7) nd rfl (Or.inl rfl) (pe_call DE.ok hr4 (by rfl) DE.g DE.kp DE.b .nil pass0 (pa_cons (pv 0) (pa_cons (pv 1) (pa_cons (pv 2) (pa_cons (pv 5) (pa_cons (pv 6) pa_nil)))))))
        (pss_cons (ps_set (i := 8) nd rfl (Or.inl rfl) (pe_call DO.ok hr6 (by rfl) DO.g DO.kp DO.b .nil pass0 (pa_cons (pv 5) (pa_cons (pv 7) pa_nil))))
        (pss_cons (ps_set (i := 9) nd rfl (Or.inl rfl) (pe_call TO.ok hr (by rfl) TO.g TO.kp TO.b .nil pass0 (pa_cons (pv 4) (pa_cons (pv 7) pa_nil))))
        (pss_cons (ps_if (pt_cmpR op_ne (pe_callB call_isi (by rfl) mis (by decide +kernel) (pa_cons (pv 8) (pa_cons (pe_bltn (v := .ty "str") (u := .type "str") (by rfl) mT_str (by decide +kernel) rfl) pa_nil))) (pe_cmpR op_ne (pe_ix ix_tup (pv 9) pe_int (fun _ _ => rfl)) pe_str (nomark _)) (nomark _)) (pss_one (ps_ret pe_non)) pss_nil)
        (pss_one (ps_if (pt_not (pt_val (pe_callB call_isi (by rfl) mis (by decide +kernel) (pa_cons (pv 8) (pa_cons (pe_bltn (v := .ty "str") (u := .type "str") (by rfl) mT_str (by decide +kernel) rfl) pa_nil))))) (pss_cons (ps_set (i := 5) nd rfl (Or.inl rfl) (pv 8))
          (pss_one (ps_set (i := 4) nd rfl (Or.inl rfl) (pe_ix ix_tup (pv 9) pe_int (fun _ _ => rfl))))) pss_nil)))))))
      (pss_one (ps_ret (pe_tup (pa_cons (pv 4) (pa_cons (pv 5) pa_nil))))))), ?_⟩
    have hH := nmsC_names ib.hw.ok (lo := 0) (m := 3) (by omega)
    refine ⟨_, rfl, st, _, 0, _, rfl, rfl, SqT.of ib.hs.at_, atI_nat (j := 0) rfl, _, rfl, st, _, 1, _, rfl, rfl, SqT.of ib.hs.at_, atI_nat (j := 1) rfl, a1, a2, Ps, G, rfl, ib.hs.p, ib.hs.g, so, ib.tg, ib.tl, nPt, fun s1 b1 b2 H1 tb1 sm1 => ?_⟩
    have ib1 := ib.tbl tb1
    refine ⟨rfl, fun d FL BL H2 nd2 nFL nBL s2 md2 => ?_⟩
    have ib2 := ib1.same s2
    refine ⟨_, rfl, m, rfl, by omega, by omega, for_range (lo := 0) (n := m) (fun j σ H' => ∃ y6 y7 y8 y9 s b1 b2 d FL BL fs S, σ = [some (.ref p), some (.ref wd), some (.ref st), some (.int (m : Int)), some (.ref s), some (.ref d), y6, y7, y8, y9] ∧ IB H' p c wd st a1 a2 (n + 30 * j) B sp t Ps G Ts Pt ∧ SM H' s b1 b2 Ps G S ∧ MdAt H' d FL BL fs S ∧ FL ≠ p ∧ BL ≠ p ∧ OkM Ps G (nmsC B sp t 0 3) S)
      ⟨_, _, _, _, s1, b1, b2, d, FL, BL, [], MS0, rfl, ib2, sm1.on (TK.of s2), md2, fun z => ib1.pen.there (z ▸ nFL), fun z => ib1.pen.there (z ▸ nBL), ok_ms0⟩ ?_ ?_⟩
    · rintro j σ H8 hj ⟨y6, y7, y8, y9, s8, c1, c2, d, FL, BL, fs, S, rfl, ib8, sm8, md8, nF, nB, ow⟩
      refine ⟨_, rfl, _, rfl, _, rfl, _, rfl, _, rfl, p, c, _, wd, B, sp, t, st, a1, a2, Ps, G, d, FL, BL, fs, S, j, (by rw [Int.zero_add]; rfl), ib8.pen, by omega, ib8.hw, ib8.hs, so, by omega, md8, nF, nB, ow, fun xa x H9 hx dw dn pen9 bt9 => ?_⟩
      have ib9 := ib8.but bt9 pen9
      have md9 := md8.kp ib8.pen (Kp.but bt9) nF nB
      have sm9 := sm8.on (TK.pen ib8.pen bt9)
      by_cases hk : (outM S x).1 = .ok
      · refine ⟨_, rfl, _, rfl, d, xa, FL, BL, Ps, G, nmsC B sp t 0 3, fs, S, x, rfl, md9, hx, so, hH, ow, dw, dn, fun _ d' FL' BL' fs' H10 s10 fF fB md10 => ?_, fun z => absurd hk z⟩
        have ib10 := ib9.same s10
        have nF' : FL' ≠ p := fF.elim (fun z => z ▸ nF) fun z y => ib9.pen.there (y ▸ z)
        have nB' : BL' ≠ p := fB.elim (fun z => z ▸ nB) fun z y => ib9.pen.there (y ▸ z)
        refine ⟨_, rfl, _, rfl, .inl ⟨s8, xa, c1, c2, Ps, G, nmsC B sp t 0 3, S, x, rfl, sm9.on (TK.of s10), hx.on (TK.of s10), so, hH, ow, dw, ib10.tg, ib10.tl, fun _ tt s' H11 tb11 ht sm11 => ?_, fun z => absurd hk z⟩⟩
        have md11 := md10.kp ib10.pen (Kp.tb tb11.tb) nF' nB'
        have ow' := ow.out dw hk
        refine ⟨_, rfl, _, _, _, _, false, rfl, .ty "str", .base (.dK md11.d), kit_ty (by decide +kernel), _, rfl, tt, _, 0, _, rfl, rfl, SqT.of ht, atI_nat (j := 0) rfl, rfl, rfl, _, rfl, ?_⟩
        rw [show (!decide (V.bl false = V.bl (!decide (V.str "told" = V.str "told")))) = false by rw [decide_eq_true (rfl : V.str "told" = V.str "told")]; rfl]
        refine iteF ⟨_, rfl, _, _, _, _, false, rfl, .ty "str", .base (.dK md11.d), kit_ty (by decide +kernel), _, rfl, iteT ⟨_, rfl, _, rfl, tt, _, 1, _, rfl, rfl, SqT.of ht, atI_nat (j := 1) rfl, ?_⟩⟩
        exact ⟨_, _, _, _, s', c1, c2, d', FL', BL', fs', (outM S x).2, rfl, (ib10.tbl tb11).mono (by omega), sm11, md11, nF', nB', ow'⟩
      · refine ⟨_, rfl, _, rfl, d, xa, FL, BL, Ps, G, nmsC B sp t 0 3, fs, S, x, rfl, md9, hx, so, hH, ow, dw, dn, fun z => absurd z hk, fun _ H10 s10 => ?_⟩
        have ib10 := ib9.same s10
        refine ⟨_, rfl, _, rfl, .inl ⟨s8, xa, c1, c2, Ps, G, nmsC B sp t 0 3, S, x, rfl, sm9.on (TK.of s10), hx.on (TK.of s10), so, hH, ow, dw, ib10.tg, ib10.tl, fun z => absurd z hk, fun _ tt H11 tb11 ht => ?_⟩⟩
        have md11 := (md9.same s10).kp ib10.pen (Kp.tb tb11.tb) nF nB
        have sm11 := (sm9.on (TK.of s10)).on tb11.tk
        refine ⟨_, rfl, _, _, _, _, true, rfl, .ty "str", .base (.str _), kit_ty (by decide +kernel), _, rfl, tt, _, 0, _, rfl, rfl, SqT.of ht, atI_nat (j := 0) rfl, rfl, rfl, _, rfl, ?_⟩
        rw [show (!decide (V.bl true = V.bl (!decide (V.str (rfW (outM S x).1) = V.str "told")))) = false by rw [rf_told hk]; rfl]
        refine iteF ⟨_, rfl, _, _, _, _, true, rfl, .ty "str", .base (.str _), kit_ty (by decide +kernel), _, rfl, iteF ?_⟩
        exact ⟨_, _, _, _, s8, c1, c2, d, FL, BL, fs, S, rfl, (ib10.tbl tb11).mono (by omega), sm11, md11, nF, nB, ow⟩
    · rintro σ H8 ⟨y6, y7, y8, y9, s8, c1, c2, d, FL, BL, fs, S, rfl, ib8, sm8, md8, nF, nB, ow⟩
      refine ⟨_, rfl, _, rfl, (by show 2 ≤ sizeLine; decide), fun bt nbt => ?_⟩
      have s9 := @same_new _ _ (.tup [V.ref s8, .ref d]) nbt
      exact q bt s8 c1 c2 d FL BL fs S _ upd_same ((ib8.same s9).mono (by omega)) (sm8.on (TK.of s9)) (md8.same s9) nF nB ow
abbrev sLawN : List Str := ["_law_script", "_law_pen_here", "_law_many_here", "_law_words_here", "_law_stand_here", "_law_begun_here", "_law_state_here", "_law_model_here", "_law_before", "_law_k", "_law_entry_here", "_law_due", "_law_found"]
theorem sc_sLaw : FnScope sLawN ["_law_script"] (defScope sLaw) := ⟨rfl, rfl, rfl, by decide +kernel, rfl, by decide +kernel, by decide +kernel⟩
set_option maxHeartbeats 4000000 in
theorem ok_law {f fP fT fW fL fB fA fE fO fN fG fR fM fD Pt : Addr} {fd dP dT dW dL dB dA dE dO dN dG dR dM dD : FuncData} {Ts : List Addr} (F : Fun K "law" "law" sLaw f fd) (nPt : Pt ∉ Ts)
    (GP : DefT P w K mg base "_law_pen" 1 fP dP ["_law_script"] (spPen K)) (T : DefT P w K mg base "_law_draw" 1 fT dT ["_law_pen_here", "_law_many_here"] spDraw)
    (W : DefT P w K mg base "_law_words" 2 fW dW ["_law_pen_here"] spWords) (LS : DefT P w K mg base "_law_stand" 2 fL dL ["_law_pen_here", "_law_words_here"] spLStand)
    (BE : DefT P w K mg base "_law_begun" 12 fB dB ["_law_pen_here", "_law_words_here", "_law_stand_here", "_law_many_here"] (spBegun Ts Pt)) (SA : DefT P w K mg base "_law_state" 1 fA dA ["_law_stand_here", "_law_model_here"] spLState)
    (EN : DefT P w K mg base "_law_entry" 3 fE dE ["_law_pen_here", "_law_words_here", "_law_stand_here", "_law_number"] spEntry) (OE : DefT P w K mg base "_law_odd_entry" 3 fO dO ["_law_pen_here", "_law_words_here", "_law_entry_here"] spOddE)
    (ON : DefT P w K mg base "_law_odd_names" 1 fN dN [] spOddN) (TO : DefT P w K mg base "_law_told_by" 11 fG dG ["_law_state_here", "_law_deed_here"] (fun vs H Q E => spToldBy Ts Pt vs H Q E ∨ spToldNo Ts Pt vs H Q E))
    (DR : DefT P w K mg base "_law_days_right" 12 fR dR ["_law_pen_here", "_law_state_here", "_law_model_here"] (spDays Ts Pt)) (SM : DefT P w K mg base "_law_same" 5 fM dM ["_law_found", "_law_due"] (spSame K 4))
    (DO : DefT P w K mg base "_law_done" 6 fD dD ["_law_model_here", "_law_deed_here"] spLDone)
    (mr : mg "range" = none) (mis : mg "isinstance" = none) (mT_str : mg "str" = none) : FnOk P w K mg base CX0 13 f fd ["_law_script"] (spLaw K Ts Pt) := by
  refine F.ok sc_sLaw (fun vs H Q E h => ?_) (fun cdv A outer s H vs Q E hr h => ?_)
  · obtain ⟨a, ns, rfl, _⟩ := h
    rfl
  · obtain ⟨a, ns, rfl, hS, tg0, tl0, q⟩ := h
    have nd := sc_sLaw.nd
    have hr1 : Room 1 _ := hr.mono (by decide)
    have hr2 : Room 2 _ := hr.mono (by decide)
    have hr3 : Room 3 _ := hr.mono (by decide)
    have hr5 : Room 5 _ := hr.mono (by decide)
    have hr6 : Room 6 _ := hr.mono (by decide)
    have hr11 : Room 11 _ := hr.mono (by decide)
    refine ⟨_, pss_cons (ps_set (i := 1) nd rfl (Or.inl rfl) (pe_call GP.ok hr1 (by rfl) GP.g GP.kp GP.b .nil pass0 (pa_cons (pv 0) pa_nil)))
      (pss_cons (ps_set (i := 2) nd rfl (Or.inl rfl) (pe_call T.ok hr1 (by rfl) T.g T.kp T.b .nil pass0 (pa_cons (pv 1) (pa_cons pe_int pa_nil))))
      (pss_cons (ps_set (i := 3) nd rfl (Or.inl rfl) (pe_call W.ok hr2 (by rfl) W.g W.kp W.b .nil pass0 (pa_cons (pv 1) pa_nil)))
      (pss_cons (ps_set (i := 4) nd rfl (Or.inl rfl) (pe_call LS.ok hr2 (by rfl) LS.g LS.kp LS.b .nil pass0 (pa_cons (pv 1) (pa_cons (pv 3) pa_nil))))
      (pss_cons (ps_set (i := 5) nd rfl (Or.inl rfl) (pe_call BE.ok hr (by rfl) BE.g BE.kp BE.b .nil pass0 (pa_cons (pv 1) (pa_cons (pv 3) (pa_cons (pv 4) (pa_cons (pv 2) pa_nil))))))
      (pss_cons (ps_if (pt_cmpR op_isN (pv 5) pe_non (by rfl)) (pss_one (ps_ret pe_bl)) pss_nil)
      (pss_cons (ps_asg (pv 5) (pg_tup (by rfl) (pgs_cons (pg_name (i := 6) nd rfl (Or.inl rfl)) (pgs_cons (pg_name (i := 7) nd rfl (Or.inl rfl)) pgs_nil))))
      (pss_cons (ps_set (i := 8) nd rfl (Or.inl rfl) (pe_call SA.ok hr1 (by rfl) SA.g SA.kp SA.b .nil pass0 (pa_cons (pv 4) (pa_cons (pv 7) pa_nil))))
      (pss_cons (ps_for PassesOwn.never rfl (pi_range1 rfl mr (pa_cons pe_int pa_nil)) (pg_name (i := 9) nd rfl (Or.inl rfl))
        (pss_cons (ps_set (i := 10) nd rfl (Or.inl rfl) (pe_call EN.ok hr3 (by rfl) EN.g EN.kp EN.b .nil pass0 (pa_cons (pv 1) (pa_cons (pv 3) (pa_cons (pv 4) (pa_cons (pe_op op_add (pv 2) (pv 9)) pa_nil))))))
        (pss_cons (ps_if (pt_cmpR (op_neD hr.units) (pe_call TO.ok hr11 (by rfl) TO.g TO.kp TO.b .nil pass0 (pa_cons (pv 6) (pa_cons (pe_tup (pa_cons pe_str (pa_cons (pe_call OE.ok hr3 (by rfl) OE.g OE.kp OE.b .nil pass0 (pa_cons (pv 1) (pa_cons (pv 3) (pa_cons (pv 10) pa_nil)))) pa_nil))) pa_nil))) (pe_tup (pa_cons pe_str pa_nil)) (nomark _)) (pss_one (ps_ret pe_bl)) pss_nil)
        (pss_cons (ps_if (pt_cmpR (op_neD hr.units) (pe_call TO.ok hr11 (by rfl) TO.g TO.kp TO.b .nil pass0 (pa_cons (pv 6) (pa_cons (pe_tup (pa_cons pe_str (pa_cons (pe_ix ix_list (pe_call0 ON.ok hr1 (by rfl) ON.g ON.kp ON.b .nil pass0) (pe_call T.ok hr1 (by rfl) T.g T.kp T.b .nil pass0 (pa_cons (pv 1) (pa_cons pe_int pa_nil))) (fun _ _ => rfl)) pa_nil))) pa_nil))) (pe_tup (pa_cons pe_str pa_nil)) (nomark _)) (pss_one (ps_ret pe_bl)) pss_nil)
        (pss_cons (ps_if (PW.pt (pw_or (pt_not (pt_val (pe_call DR.ok hr (by rfl) DR.g DR.kp DR.b .nil pass0 (pa_cons (pv 1) (pa_cons (pv 6) (pa_cons (pv 7) pa_nil)))))) (pw_or1 (pt_not (pt_val (pe_call SM.ok hr5 (by rfl) SM.g SM.kp SM.b .nil pass0 (pa_cons (pv 6) (pa_cons (pv 8) pa_nil)))))))) (pss_one (ps_ret pe_bl)) pss_nil)
        (pss_cons (ps_set (i := 11) nd rfl (Or.inl rfl) (pe_call DO.ok hr6 (by rfl) DO.g DO.kp DO.b .nil pass0 (pa_cons (pv 7) (pa_cons (pe_tup (pa_cons pe_str (pa_cons (pv 10) pa_nil))) pa_nil))))
        (pss_cons (ps_set (i := 12) nd rfl (Or.inl rfl) (pe_call TO.ok hr11 (by rfl) TO.g TO.kp TO.b .nil pass0 (pa_cons (pv 6) (pa_cons (pe_tup (pa_cons pe_str (pa_cons (pv 10) pa_nil))) pa_nil))))
        (pss_cons (ps_if (PW.pt (pw_and (pt_val (pe_callB call_isi (by rfl) mis (by decide +kernel) (pa_cons (pv 11) (pa_cons (pe_bltn (v := .ty "str") (u := .type "str") (by rfl) mT_str (by decide +kernel) rfl) pa_nil)))) (pw_and1 (pt_cmpR (op_neD hr.units) (pv 12) (pe_tup (pa_cons (pv 11) pa_nil)) (nomark _))))) (pss_one (ps_ret pe_bl)) pss_nil)
        (pss_one (ps_if (PW.pt (pw_and (pt_not (pt_val (pe_callB call_isi (by rfl) mis (by decide +kernel) (pa_cons (pv 11) (pa_cons (pe_bltn (v := .ty "str") (u := .type "str") (by rfl) mT_str (by decide +kernel) rfl) pa_nil))))) (pw_and1 (PW.pt (pw_or (pt_cmpR op_ne (pe_ix ix_tup (pv 12) pe_int (fun _ _ => rfl)) pe_str (nomark _)) (pw_or1 (pt_not (pt_val (pe_call SM.ok hr5 (by rfl) SM.g SM.kp SM.b .nil pass0 (pa_cons (pe_ix ix_tup (pv 12) pe_int (fun _ _ => rfl)) (pa_cons (pe_call SA.ok hr1 (by rfl) SA.g SA.kp SA.b .nil pass0 (pa_cons (pv 4) (pa_cons (pv 11) pa_nil))) pa_nil))))))))))) (pss_one (ps_ret pe_bl)) pss_nil))))))))))
      (pss_one (ps_ret pe_bl)))))))))), ?_⟩
    refine ⟨_, rfl, a, ns, rfl, hS, fun p c H1 np nc pen1 sm1 => ?_⟩
    refine ⟨_, rfl, p, c, _, 9, rfl, pen1, by omega, by decide, by decide, fun r1 H2 x2 y2 pen2 bt2 => ?_⟩
    obtain ⟨m, rfl⟩ : ∃ m : Nat, r1 = m := ⟨r1.toNat, (Int.toNat_of_nonneg x2).symm⟩
    refine ⟨_, rfl, p, c, _, rfl, pen2, by omega, fun wd B sp t H3 nwd hw pen3 bt3 => ?_⟩
    refine ⟨_, rfl, _, rfl, p, c, _, wd, B, sp, t, rfl, pen3, by omega, hw, fun st a1 a2 Ps G H4 nst hs so nms pen4 bt4 => ?_⟩
    have hw4 := hw.on (TK.pen pen3 bt4)
    have tg4 : TabsG Ts H4 := tabs_but (tabs_but (tabs_but (tabs_sm sm1 tg0) pen1 bt2) pen2 bt3) pen3 bt4
    have tl4 : LamX.TabS H4 Pt qLam := tabS_but (tabS_but (tabS_but (tabS_sm sm1 tl0) pen1 bt2) pen2 bt3) pen3 bt4
    have hH := nmsC_names hw.ok (lo := 0) (m := 3) (by omega)
    have ib4 : IB H4 p c wd st a1 a2 200 B sp t Ps G Ts Pt := ⟨pen4.mono (by omega), hw4, hs, tg4, tl4⟩
    have n3 : ∀ y ∈ Ps ++ G, y ≠ nm3 B sp t := fun y hy e => by
      obtain ⟨k, hk, e2⟩ := nms y hy
      have e3 : nmC B sp t k = nmC B sp t 300 := by
        have := congrArg (fun s : Str => s.cps.toList) (e2.symm.trans e)
        simpa using this
      have := nmC_inj hw.ok (by omega) (by decide) e3
      omega
    have nP : nm3 B sp t ∉ Ps := fun z => n3 _ (List.mem_append_left _ z) rfl
    have nG : nm3 B sp t ∉ G := fun z => n3 _ (List.mem_append_right _ z) rfl
    refine ⟨_, rfl, _, rfl, _, rfl, _, rfl, p, c, wd, st, a1, a2, _, m, B, sp, t, Ps, G, rfl, ib4, by omega, by omega, so, nPt, fun bg s b1 b2 d FL BL fs S H5 hbg ib5 sm5 md5 nF nB ow => ?_⟩
    refine ⟨_, rfl, rfl, false, rfl, iteF ?_⟩
    refine ⟨_, rfl, bg, _, rfl, SqT.of hbg, rfl, _, _, rfl, _, _, rfl, rfl, ?_⟩
    refine ⟨_, rfl, _, rfl, st, a1, a2, d, FL, BL, Ps, G, fs, S, rfl, ib5.hs, md5, fun bf H6 s6 smb => ?_⟩
    have ib6 := ib5.same s6
    have shs := short_ms so hH ow
    refine ⟨6, rfl, by decide, by decide, for_range (lo := 0) (n := 6) (fun j σ H' => ∃ y9 y10 y11 y12, σ = [some (.ref a), some (.ref p), some (.int (m : Int)), some (.ref wd), some (.ref st), some (.ref bg), some (.ref s), some (.ref d), some (.ref bf), y9, y10, y11, y12] ∧ IB H' p c wd st a1 a2 (500 + 60 * j) B sp t Ps G Ts Pt ∧ Shelf.SM H' s b1 b2 Ps G S ∧ Shelf.SM H' bf a1 a2 Ps G S ∧ MdAt H' d FL BL fs S)
      ⟨_, _, _, _, rfl, ib6.mono (by omega), sm5.on (TK.of s6), smb, md5.same s6⟩ ?_ ?_⟩
    rotate_left
    · rintro σ H' _
      exact q _
    rintro j σ H8 hj ⟨y9, y10, y11, y12, rfl, ib8, sm8, bf8, md8⟩
    refine ⟨_, rfl, _, rfl, _, rfl, _, rfl, _, rfl, m, 0 + (j : Int), rfl, rfl, p, c, _, wd, B, sp, t, st, a1, a2, Ps, G, m + j, (by rw [Int.zero_add, Int.natCast_add]; rfl), ib8.pen, by omega, ib8.hw, ib8.hs, so, by omega, fun ea e H9 nea he en m0 m1 fr pen9 bt9 => ?_⟩
    have ib9 := ib8.but bt9 pen9
    have ew : EntW Ps G (nmsC B sp t 0 3) e := ⟨by rw [en]; exact nmC_name hw.ok (by omega), m0, m1, fr⟩
    obtain ⟨fi, hpn⟩ := fine_of ew.fr so.pd so.pn so.gn hH ew.nm ew.m0 ew.m1
    have kp9 : Kp p H8 H9 := Kp.but bt9
    -- an odd entry
    refine ⟨_, rfl, _, rfl, _, rfl, _, rfl, p, c, wd, ea, _, B, sp, t, e, Ps, G, rfl, ib9.pen, by omega, ib9.hw, he, fi, hpn, nP, nG, fun v H10 no pen10 bt10 => ⟨(by show 2 ≤ sizeLine; decide), fun d1 nd1 => ?_⟩⟩
    have ib10 := ib9.but bt10 pen10
    have kp10 := kp9.tr (Kp.but bt10)
    have he10 := TK.pen ib9.pen bt10 _ _ he
    have s11 := @same_new _ _ (.tup [V.str "enter", v]) nd1
    have h11 := @upd_same H10 d1 (.tup [V.str "enter", v])
    generalize upd H10 d1 (.tup [V.str "enter", v]) = H11 at s11 h11 ⊢
    have ib11 := ib10.same s11
    have kp11 := kp10.tr (Kp.same s11)
    refine .inr ⟨s, d1, b1, b2, Ps, G, S, .entry, rfl, sm8.on (Kp.tk ib8.pen kp11), .inl ⟨v, h11, no.on (fun a o h _ => s11 _ _ h), rfl⟩, ib11.tg, ib11.tl, fun t1 H12 tb12 ht12 => ⟨(by show 1 ≤ sizeLine; decide), fun t2 nt2 => ?_⟩⟩
    have s13 := @same_new _ _ (.tup [V.str "entry"]) nt2
    have she : SeqAt.shaped (.tuple [.str "entry"]) = true := shaped_rf .entry
    refine ⟨_, _, .tup (SqT.of (s13 _ _ ht12)) (.cons (.str _) .nil), .tup (SqT.of upd_same) (.cons (.str _) .nil), she, she, _, rfl, ?_⟩
    rw [show PyData.eqv (.tuple [.str (rfW .entry)]) (.tuple [.str "entry"]) = true from SeqAt.eqv_refl _ (SeqAt.canLay_of_shaped she)]
    refine iteF ?_
    generalize upd H12 t2 (.tup [V.str "entry"]) = H13 at s13 ⊢
    have ib13 := (ib11.tbl tb12).same s13
    have kp13 := kp11.tr ((Kp.tb tb12.tb).tr (Kp.same s13))
    have he13 := s13 _ _ (tb12.tk _ _ (s11 _ _ he10))
    -- an odd name
    refine ⟨_, rfl, rfl, fun L tt l dd H14 oa => ?_⟩
    have nLp : L ≠ p := fun z => ib13.pen.there (z ▸ oa.nL)
    have ib14 := ib13.same oa.sm
    refine ⟨_, rfl, p, c, _, 12, rfl, ib14.pen, by omega, by decide, by decide, fun r2 H15 x15 y15 pen15 bt15 => ?_⟩
    have ib15 := ib14.but bt15 pen15
    have kp15 := kp13.tr ((Kp.same oa.sm).tr (Kp.but bt15))
    have he15 := TK.pen ib14.pen bt15 _ _ (oa.sm _ _ he13)
    obtain ⟨ov, o1, o2⟩ := at_any (xs := oddV tt l dd) x15 (by show r2 < 12; omega)
    have tv : Thg H15 ov := (oa.thg ov o2).1.but bt15 fun a ev z => ib13.pen.there (z ▸ (oa.thg ov o2).2 a ev)
    refine ⟨L, _, _, _, rfl, rfl, SqL.of (bt15 _ _ oa.hL nLp), o1, (by show 2 ≤ sizeLine; decide), fun d2 nd2 => ?_⟩
    have s16 := @same_new _ _ (.tup [V.str "back", ov]) nd2
    have h16 := @upd_same H15 d2 (.tup [V.str "back", ov])
    generalize upd H15 d2 (.tup [V.str "back", ov]) = H16 at s16 h16 ⊢
    have ib16 := ib15.same s16
    have kp16 := kp15.tr (Kp.same s16)
    refine .inr ⟨s, d2, b1, b2, Ps, G, S, .name, rfl, sm8.on (Kp.tk ib8.pen kp16), .inr (.inl ⟨ov, h16, tv.on (fun a o _ h _ => s16 _ _ h), odd_nm ov o2, rfl⟩), ib16.tg, ib16.tl, fun t3 H17 tb17 ht17 => ⟨(by show 1 ≤ sizeLine; decide), fun t4 nt4 => ?_⟩⟩
    have s18 := @same_new _ _ (.tup [V.str "name"]) nt4
    have shn : SeqAt.shaped (.tuple [.str "name"]) = true := shaped_rf .name
    refine ⟨_, _, .tup (SqT.of (s18 _ _ ht17)) (.cons (.str _) .nil), .tup (SqT.of upd_same) (.cons (.str _) .nil), shn, shn, _, rfl, ?_⟩
    rw [show PyData.eqv (.tuple [.str (rfW .name)]) (.tuple [.str "name"]) = true from SeqAt.eqv_refl _ (SeqAt.canLay_of_shaped shn)]
    refine iteF ?_
    generalize upd H17 t4 (.tup [V.str "name"]) = H18 at s18 ⊢
    have ib18 := (ib16.tbl tb17).same s18
    have kp18 := kp16.tr ((Kp.tb tb17.tb).tr (Kp.same s18))
    have he18 := s18 _ _ (tb17.tk _ _ (s16 _ _ he15))
    have md18 := md8.kp ib8.pen kp18 nF nB
    -- days and modes
    refine ⟨_, rfl, _, rfl, _, rfl, p, c, wd, st, a1, a2, s, b1, b2, d, FL, BL, _, B, sp, t, Ps, G, S, rfl, ib18, by omega, sm8.on (Kp.tk ib8.pen kp18), md18.d, ow.cm, fun H19 ib19 kp19' => ⟨true, rfl, iteF ?_⟩⟩
    have kp19 := kp18.tr kp19'
    have he19 := Kp.tk ib18.pen kp19' _ _ he18
    have sm19 := sm8.on (Kp.tk ib8.pen kp19)
    refine ⟨_, rfl, _, rfl, .ref s, .ref bf, msD Ps G S, rfl, sm19.dp, (bf8.on (Kp.tk ib8.pen kp19)).dp, shs.dp, by have := shs.bk; omega, fun H20 s20 => ⟨true, rfl, iteF ?_⟩⟩
    have kp20 := kp19.tr (Kp.same s20)
    have ib20 := ib19.same s20
    have he20 := s20 _ _ he19
    -- the entry itself
    refine ⟨_, rfl, _, rfl, (by show 2 ≤ sizeLine; decide), fun d3 nd3 => ?_⟩
    have s21 := @same_new _ _ (.tup [V.str "enter", .ref ea]) nd3
    have h21 := @upd_same H20 d3 (.tup [V.str "enter", .ref ea])
    generalize upd H20 d3 (.tup [V.str "enter", .ref ea]) = H21 at s21 h21 ⊢
    have ib21 := ib20.same s21
    have kp21 := kp20.tr (Kp.same s21)
    have md21 := md8.kp ib8.pen kp21 nF nB
    have hx21 : DdAt H21 d3 (.enter e) := ⟨ea, h21, s21 _ _ he20⟩
    have dn : DdN (.enter e) := trivial
    have nx : (500 + 60 * (j + 1)) = 500 + 60 * j + 60 := by omega
    by_cases hk : (outM S (.enter e)).1 = .ok
    · refine ⟨d, d3, FL, BL, Ps, G, nmsC B sp t 0 3, fs, S, .enter e, rfl, md21, hx21, so, hH, ow, ew, dn, fun _ d' FL' BL' fs' H22 s22 fF fB md22 => ?_, fun z => absurd hk z⟩
      have ib22 := ib21.same s22
      have kp22 := kp21.tr (Kp.same s22)
      have nF' : FL' ≠ p := fF.elim (fun z => z ▸ nF) fun z y => ib21.pen.there (y ▸ z)
      have nB' : BL' ≠ p := fB.elim (fun z => z ▸ nB) fun z y => ib21.pen.there (y ▸ z)
      refine ⟨_, rfl, _, rfl, (by show 2 ≤ sizeLine; decide), fun d4 nd4 => ?_⟩
      have s23 := @same_new _ _ (.tup [V.str "enter", .ref ea]) nd4
      have h23 := @upd_same H22 d4 (.tup [V.str "enter", .ref ea])
      generalize upd H22 d4 (.tup [V.str "enter", .ref ea]) = H23 at s23 h23 ⊢
      have ib23 := ib22.same s23
      have kp23 := kp22.tr (Kp.same s23)
      refine .inl ⟨s, d4, b1, b2, Ps, G, nmsC B sp t 0 3, S, .enter e, rfl, sm8.on (Kp.tk ib8.pen kp23), ⟨ea, h23, s23 _ _ (s22 _ _ (s21 _ _ he20))⟩, so, hH, ow, ew, ib23.tg, ib23.tl, fun _ t5 s' H24 tb24 ht24 sm24 => ?_, fun z => absurd hk z⟩
      have ib24 := ib23.tbl tb24
      have kp24 := kp23.tr (Kp.tb tb24.tb)
      have md24 := (md22.same s23).kp ib23.pen (Kp.tb tb24.tb) nF' nB'
      have ow' := ow.out (x := .enter e) ew hk
      have shs' := short_ms so hH ow'
      refine ⟨_, rfl, _, _, _, _, false, rfl, .ty "str", .base (.dK md24.d), kit_ty (by decide +kernel), _, rfl, iteF ?_⟩
      refine ⟨_, rfl, _, _, _, _, false, rfl, .ty "str", .base (.dK md24.d), kit_ty (by decide +kernel), _, rfl, iteT ?_⟩
      refine ⟨_, rfl, t5, _, 0, _, rfl, rfl, SqT.of ht24, atI_nat (j := 0) rfl, rfl, _, rfl, ?_⟩
      rw [show (!decide (V.str "told" = V.str "told")) = false by rw [decide_eq_true rfl]; rfl]
      refine iteF ⟨_, rfl, t5, _, 1, _, rfl, rfl, SqT.of ht24, atI_nat (j := 1) rfl, _, rfl, _, rfl, st, a1, a2, d', FL', BL', Ps, G, fs', (outM S (.enter e)).2, rfl, ib24.hs, md24, fun s3 H25 s25 sn25 => ?_⟩
      refine ⟨.ref s', .ref s3, msD Ps G (outM S (.enter e)).2, rfl, (sm24.on (TK.of s25)).dp, sn25.dp, shs'.dp, by have := shs'.bk; omega, fun H26 s26 => ⟨true, rfl, iteF ?_⟩⟩
      have kp26 := kp24.tr (Kp.same (s25.trans s26))
      exact ⟨_, _, _, _, rfl, (ib24.same (s25.trans s26)).mono (by omega), sm8.on (Kp.tk ib8.pen kp26), bf8.on (Kp.tk ib8.pen kp26), md8.kp ib8.pen kp26 nF nB⟩
    · refine ⟨d, d3, FL, BL, Ps, G, nmsC B sp t 0 3, fs, S, .enter e, rfl, md21, hx21, so, hH, ow, ew, dn, fun z => absurd z hk, fun _ H22 s22 => ?_⟩
      have ib22 := ib21.same s22
      have kp22 := kp21.tr (Kp.same s22)
      refine ⟨_, rfl, _, rfl, (by show 2 ≤ sizeLine; decide), fun d4 nd4 => ?_⟩
      have s23 := @same_new _ _ (.tup [V.str "enter", .ref ea]) nd4
      have h23 := @upd_same H22 d4 (.tup [V.str "enter", .ref ea])
      generalize upd H22 d4 (.tup [V.str "enter", .ref ea]) = H23 at s23 h23 ⊢
      have ib23 := ib22.same s23
      have kp23 := kp22.tr (Kp.same s23)
      refine .inl ⟨s, d4, b1, b2, Ps, G, nmsC B sp t 0 3, S, .enter e, rfl, sm8.on (Kp.tk ib8.pen kp23), ⟨ea, h23, s23 _ _ (s22 _ _ (s21 _ _ he20))⟩, so, hH, ow, ew, ib23.tg, ib23.tl, fun z => absurd z hk, fun _ t5 H24 tb24 ht24 => ?_⟩
      have ib24 := ib23.tbl tb24
      have kp24 := kp23.tr (Kp.tb tb24.tb)
      refine ⟨_, rfl, _, _, _, _, true, rfl, .ty "str", .base (.str _), kit_ty (by decide +kernel), _, rfl, iteT ?_⟩
      refine ⟨_, rfl, _, rfl, (by show 1 ≤ sizeLine; decide), fun t6 nt6 => ?_⟩
      have s25 := @same_new _ _ (.tup [V.str (rfW (outM S (.enter e)).1)]) nt6
      refine ⟨.tuple [.str (rfW (outM S (.enter e)).1)], .tuple [.str (rfW (outM S (.enter e)).1)], .tup (SqT.of (s25 _ _ ht24)) (.cons (.str _) .nil), .tup (SqT.of upd_same) (.cons (.str _) .nil), shaped_rf _, shaped_rf _, _, rfl, ?_⟩
      rw [SeqAt.eqv_refl _ (SeqAt.canLay_of_shaped (shaped_rf _))]
      refine iteF ⟨_, rfl, _, _, _, _, true, rfl, .ty "str", .base (.str _), kit_ty (by decide +kernel), _, rfl, iteF ?_⟩
      have kp26 := kp24.tr (Kp.same s25)
      exact ⟨_, _, _, _, rfl, (ib24.same s25).mono (by omega), sm8.on (Kp.tk ib8.pen kp26), bf8.on (Kp.tk ib8.pen kp26), md8.kp ib8.pen kp26 nF nB⟩
end
/-! ### the law's end, with the top's facts -/
theorem end_T {l : PySem.W.OpenLaw} {n k : Nat} {q : Program} {loose : List Str} {XP : (Str → Option Value) → Heap → Prop} {YP : World → Heap → Prop} {d : PySem.DefRec} {K : Params → PySem.W.Frag} {CX : World → CXT} {x : Str}
    (hn : l.most = some n) (hn2 : n ≤ sizeLine) (hdf : d.params.defaults = []) (hr : Room k callerA)
    (hY : ∀ (w : World) (h : Heap), YP w h → (K w.params).In h)
    (F : ∀ (w : World) (s0 : Shared) (mg mb : Str → Option Value) (fa : Addr) (h : Heap), PySem.W.Ground q loose [] XP w s0 mg mb h → (K w.params).In h → mg d.name = some (.ref fa) → LamX.LawAtS l w (K w.params) (CX w) k n x mg fa h)
    (hCX : ∀ (w : World) (H : Hp) (s : Shared) (e : Value) (s' : Shared), CX w [] H s (fun _ _ _ => False) e s' → False) :
    PySem.W.WalkO q loose XP YP l.row.toRowW d [] (fun f vs => PySem.call f vs) := by
  refine Att.attach_callB hn hdf fun w s0 s1 mg mb fa o pm cd doc a vs ns G Y ho hd hcd hmg hobj hints hlen hbits hg => ?_
  have KX := hY w _ Y
  obtain ⟨fd, cs, sp, hT, nT, C, hb, hsp, hF⟩ := F w s0 mg mb fa _ G KX hmg
  exact LamX.law_callTs KX G.T.g G.T.b G.T.builtins G.T.nolimit hg hT nT C G.T.bmain hobj hints (Nat.le_trans hlen hn2) hr hF hb (fun H hH hS => hsp H a ns hlen hbits hH hS) fun H e s' => hCX w H s1 e s'
theorem tab_is {K : PySem.W.Frag} {x : Str} {f c T : Addr} {oc occ : Value} {od odc : Option Addr} {sl slc : Array (Option Value)} {fd : FuncData} {vs : Array Value}
    (a : PySem.W.nsIn K mainGlobals x = some (some (.ref f))) (l : K.lookup f = some ⟨oc, od, .func fd, sl⟩) (hc : fd.code = .ref c) (lc : K.lookup c = some ⟨occ, odc, .fields vs, slc⟩) (hv : (vs[11]? : Option Value) = some (.ref T)) :
    PySem.W.tabIn K x = some (c, T) := by
  unfold PySem.W.tabIn
  simp only [a, l, hc, lc, hv]
set_option maxHeartbeats 4000000 in
theorem all_mk {l : PySem.W.OpenLaw} {q : Program} {loose : List Str} {XP : (Str → Option Value) → Heap → Prop} {w : World} {s0 : Shared} {K : PySem.W.Frag} {h : Heap} {mg mb : Str → Option Value} {fa cE aTU aMD cxCd cxTm cxNe cxNn cxNd cxNth cxCl cxNf cxNg cxNgd cxNh cxNm cxNp cxNr cxNt cxNti cxTw f1 f2 f3 f4 f5 f6 f7 f8 f9 f10 f11 f12 f13 f14 f15 f16 f17 f18 f19 f20 f21 f22 f23 f24 f25 f26 f27 f28 f29 f30 f31 f32 f33 f34 f35 f36 f37 f38 f39 f40 f41 f42 f43 f44 f45 f46 f47 f48 f49 c1 T1 c3 T3 c5 T5 c12 T12 c17 T17 c43 T43 aFo aBo aRa aFo1 aFo2 aFo3 aFo4 aFo5 aFo6 aFo7 aBo1 aBo2 aBo3 aBo4 : Addr} {dr1 : PySem.DefRec} {dr3 : PySem.DefRec} {dr5 : PySem.DefRec} {dr12 : PySem.DefRec} {dr17 : PySem.DefRec} {dr43 : PySem.DefRec}
    (G : PySem.W.Ground q loose [] XP w s0 mg mb h) (X : K.In h) (hfa : mg "law" = some (.ref fa))
    {od1 an1 odc1 od2 an2 od3 an3 odc3 od4 an4 od5 an5 odc5 od6 an6 od7 an7 od8 an8 od9 an9 od10 an10 od11 an11 od12 an12 odc12 od13 an13 od14 an14 od15 an15 od16 an16 od17 an17 odc17 od18 an18 od19 an19 od20 an20 od21 an21 od22 an22 od23 an23 od24 an24 od25 an25 od26 an26 od27 an27 od28 an28 od29 an29 od30 an30 od31 an31 od32 an32 od33 an33 od34 an34 od35 an35 od36 an36 od37 an37 od38 an38 od39 an39 od40 an40 od41 an41 od42 an42 od43 an43 odc43 od44 an44 od45 an45 od46 an46 od47 an47 od48 an48 od49 an49 odFo1 odFo2 odFo3 odFo4 odFo5 odFo6 odFo7 odBo1 odBo2 odBo3 odBo4 : Option Addr} {sl1 slc1 sl2 sl3 slc3 sl4 sl5 slc5 sl6 sl7 sl8 sl9 sl10 sl11 sl12 slc12 sl13 sl14 sl15 sl16 sl17 slc17 sl18 sl19 sl20 sl21 sl22 sl23 sl24 sl25 sl26 sl27 sl28 sl29 sl30 sl31 sl32 sl33 sl34 sl35 sl36 sl37 sl38 sl39 sl40 sl41 sl42 sl43 slc43 sl44 sl45 sl46 sl47 sl48 sl49 slFo1 slFo2 slFo3 slFo4 slFo5 slFo6 slFo7 slBo1 slBo2 slBo3 slBo4 : Array (Option Value)} {oc1 kV1 dc1 pm1 ct1 occ1 oc2 kV2 dc2 pm2 ct2 cd2 oc3 kV3 dc3 pm3 ct3 occ3 oc4 kV4 dc4 pm4 ct4 cd4 oc5 kV5 dc5 pm5 ct5 occ5 oc6 kV6 dc6 pm6 ct6 cd6 oc7 kV7 dc7 pm7 ct7 cd7 oc8 kV8 dc8 pm8 ct8 cd8 oc9 kV9 dc9 pm9 ct9 cd9 oc10 kV10 dc10 pm10 ct10 cd10 oc11 kV11 dc11 pm11 ct11 cd11 oc12 kV12 dc12 pm12 ct12 occ12 oc13 kV13 dc13 pm13 ct13 cd13 oc14 kV14 dc14 pm14 ct14 cd14 oc15 kV15 dc15 pm15 ct15 cd15 oc16 kV16 dc16 pm16 ct16 cd16 oc17 kV17 dc17 pm17 ct17 occ17 oc18 kV18 dc18 pm18 ct18 cd18 oc19 kV19 dc19 pm19 ct19 cd19 oc20 kV20 dc20 pm20 ct20 cd20 oc21 kV21 dc21 pm21 ct21 cd21 oc22 kV22 dc22 pm22 ct22 cd22 oc23 kV23 dc23 pm23 ct23 cd23 oc24 kV24 dc24 pm24 ct24 cd24 oc25 kV25 dc25 pm25 ct25 cd25 oc26 kV26 dc26 pm26 ct26 cd26 oc27 kV27 dc27 pm27 ct27 cd27 oc28 kV28 dc28 pm28 ct28 cd28 oc29 kV29 dc29 pm29 ct29 cd29 oc30 kV30 dc30 pm30 ct30 cd30 oc31 kV31 dc31 pm31 ct31 cd31 oc32 kV32 dc32 pm32 ct32 cd32 oc33 kV33 dc33 pm33 ct33 cd33 oc34 kV34 dc34 pm34 ct34 cd34 oc35 kV35 dc35 pm35 ct35 cd35 oc36 kV36 dc36 pm36 ct36 cd36 oc37 kV37 dc37 pm37 ct37 cd37 oc38 kV38 dc38 pm38 ct38 cd38 oc39 kV39 dc39 pm39 ct39 cd39 oc40 kV40 dc40 pm40 ct40 cd40 oc41 kV41 dc41 pm41 ct41 cd41 oc42 kV42 dc42 pm42 ct42 cd42 oc43 kV43 dc43 pm43 ct43 occ43 oc44 kV44 dc44 pm44 ct44 cd44 oc45 kV45 dc45 pm45 ct45 cd45 oc46 kV46 dc46 pm46 ct46 cd46 oc47 kV47 dc47 pm47 ct47 cd47 oc48 kV48 dc48 pm48 ct48 cd48 oc49 kV49 dc49 pm49 ct49 cd49 : Value}
    {nFo nFo1 nFo2 nFo3 nFo4 nFo5 nFo6 nFo7 nBo nBo1 nBo2 nBo3 nBo4 nRa : Nat}
    {itFo1 itFo2 itFo3 itFo4 itFo5 itFo6 itFo7 itBo1 itBo2 itBo3 itBo4 vsc1 vsc3 vsc5 vsc12 vsc17 vsc43 : Array Value}
    {esFo esBo esRa : Array DictEntry}
    {tRa1 tRa2 tRa3 tRa4 tRa5 tRa6 tRa7 tL tN tM tMP tMG tME tMF tMB tLD : Tok}
    {odTU odMD : Option Addr} {itTU itMD : Array Value} {nTU nMD : Nat} {slTU slMD : Array (Option Value)}
    (a1 : PySem.W.nsIn K mainGlobals "is_name" = some (some (.ref f1)))
    (l1 : K.lookup f1 = some ⟨oc1, od1, .func (PySem.W.fnOf "is_name" "is_name" (defArgs sName) (defBody sName) (defScope sName) .none kV1 dc1 pm1 an1 (.ref c1) ct1), sl1⟩)
    (c_1 : PySem.W.codeIn K (.ref c1) "is_name" = true)
    (k1 : PySem.W.keepIn K (.ref f1) = true)
    (lc1 : K.lookup c1 = some ⟨occ1, odc1, .fields vsc1, slc1⟩)
    (hv1 : (vsc1[11]? : Option Value) = some (.ref T1))
    (nT1 : K.lookup T1 = none)
    (r1 : (PyProof.Rows.recsOf q).find? (fun e => e.name == ("is_name" : Str)) = some dr1)
    (a2 : PySem.W.nsIn K mainGlobals "is_whole" = some (some (.ref f2)))
    (l2 : K.lookup f2 = some ⟨oc2, od2, .func (PySem.W.fnOf "is_whole" "is_whole" (defArgs sWhole) (defBody sWhole) (defScope sWhole) .none kV2 dc2 pm2 an2 cd2 ct2), sl2⟩)
    (c_2 : PySem.W.codeIn K cd2 "is_whole" = true)
    (k2 : PySem.W.keepIn K (.ref f2) = true)
    (a3 : PySem.W.nsIn K mainGlobals "is_entry" = some (some (.ref f3)))
    (l3 : K.lookup f3 = some ⟨oc3, od3, .func (PySem.W.fnOf "is_entry" "is_entry" (defArgs sIsEntry) (defBody sIsEntry) (defScope sIsEntry) .none kV3 dc3 pm3 an3 (.ref c3) ct3), sl3⟩)
    (c_3 : PySem.W.codeIn K (.ref c3) "is_entry" = true)
    (k3 : PySem.W.keepIn K (.ref f3) = true)
    (lc3 : K.lookup c3 = some ⟨occ3, odc3, .fields vsc3, slc3⟩)
    (hv3 : (vsc3[11]? : Option Value) = some (.ref T3))
    (nT3 : K.lookup T3 = none)
    (r3 : (PyProof.Rows.recsOf q).find? (fun e => e.name == ("is_entry" : Str)) = some dr3)
    (a4 : PySem.W.nsIn K mainGlobals "fits" = some (some (.ref f4)))
    (l4 : K.lookup f4 = some ⟨oc4, od4, .func (PySem.W.fnOf "fits" "fits" (defArgs sFits) (defBody sFits) (defScope sFits) .none kV4 dc4 pm4 an4 cd4 ct4), sl4⟩)
    (c_4 : PySem.W.codeIn K cd4 "fits" = true)
    (k4 : PySem.W.keepIn K (.ref f4) = true)
    (a5 : PySem.W.nsIn K mainGlobals "is_entry_of" = some (some (.ref f5)))
    (l5 : K.lookup f5 = some ⟨oc5, od5, .func (PySem.W.fnOf "is_entry_of" "is_entry_of" (defArgs sIsEntryOf) (defBody sIsEntryOf) (defScope sIsEntryOf) .none kV5 dc5 pm5 an5 (.ref c5) ct5), sl5⟩)
    (c_5 : PySem.W.codeIn K (.ref c5) "is_entry_of" = true)
    (k5 : PySem.W.keepIn K (.ref f5) = true)
    (lc5 : K.lookup c5 = some ⟨occ5, odc5, .fields vsc5, slc5⟩)
    (hv5 : (vsc5[11]? : Option Value) = some (.ref T5))
    (nT5 : K.lookup T5 = none)
    (r5 : (PyProof.Rows.recsOf q).find? (fun e => e.name == ("is_entry_of" : Str)) = some dr5)
    (a6 : PySem.W.nsIn K mainGlobals "day_of" = some (some (.ref f6)))
    (l6 : K.lookup f6 = some ⟨oc6, od6, .func (PySem.W.fnOf "day_of" "day_of" (defArgs sDay) (defBody sDay) (defScope sDay) .none kV6 dc6 pm6 an6 cd6 ct6), sl6⟩)
    (c_6 : PySem.W.codeIn K cd6 "day_of" = true)
    (k6 : PySem.W.keepIn K (.ref f6) = true)
    (a7 : PySem.W.nsIn K mainGlobals "good_of" = some (some (.ref f7)))
    (l7 : K.lookup f7 = some ⟨oc7, od7, .func (PySem.W.fnOf "good_of" "good_of" (defArgs sGood) (defBody sGood) (defScope sGood) .none kV7 dc7 pm7 an7 cd7 ct7), sl7⟩)
    (c_7 : PySem.W.codeIn K cd7 "good_of" = true)
    (k7 : PySem.W.keepIn K (.ref f7) = true)
    (a8 : PySem.W.nsIn K mainGlobals "places_of" = some (some (.ref f8)))
    (l8 : K.lookup f8 = some ⟨oc8, od8, .func (PySem.W.fnOf "places_of" "places_of" (defArgs sPlacesOf) (defBody sPlacesOf) (defScope sPlacesOf) .none kV8 dc8 pm8 an8 cd8 ct8), sl8⟩)
    (c_8 : PySem.W.codeIn K cd8 "places_of" = true)
    (k8 : PySem.W.keepIn K (.ref f8) = true)
    (a9 : PySem.W.nsIn K mainGlobals "order_of" = some (some (.ref f9)))
    (l9 : K.lookup f9 = some ⟨oc9, od9, .func (PySem.W.fnOf "order_of" "order_of" (defArgs sOrd) (defBody sOrd) (defScope sOrd) .none kV9 dc9 pm9 an9 cd9 ct9), sl9⟩)
    (c_9 : PySem.W.codeIn K cd9 "order_of" = true)
    (k9 : PySem.W.keepIn K (.ref f9) = true)
    (a10 : PySem.W.nsIn K mainGlobals "with_moment" = some (some (.ref f10)))
    (l10 : K.lookup f10 = some ⟨oc10, od10, .func (PySem.W.fnOf "with_moment" "with_moment" (defArgs sWithMoment) (defBody sWithMoment) (defScope sWithMoment) .none kV10 dc10 pm10 an10 cd10 ct10), sl10⟩)
    (c_10 : PySem.W.codeIn K cd10 "with_moment" = true)
    (k10 : PySem.W.keepIn K (.ref f10) = true)
    (a11 : PySem.W.nsIn K mainGlobals "house_of" = some (some (.ref f11)))
    (l11 : K.lookup f11 = some ⟨oc11, od11, .func (PySem.W.fnOf "house_of" "house_of" (defArgs sHouseOf) (defBody sHouseOf) (defScope sHouseOf) .none kV11 dc11 pm11 an11 cd11 ct11), sl11⟩)
    (c_11 : PySem.W.codeIn K cd11 "house_of" = true)
    (k11 : PySem.W.keepIn K (.ref f11) = true)
    (a12 : PySem.W.nsIn K mainGlobals "rising_names" = some (some (.ref f12)))
    (l12 : K.lookup f12 = some ⟨oc12, od12, .func (PySem.W.fnOf "rising_names" "rising_names" (defArgs sRising) (defBody sRising) (defScope sRising) .none kV12 dc12 pm12 an12 (.ref c12) ct12), sl12⟩)
    (c_12 : PySem.W.codeIn K (.ref c12) "rising_names" = true)
    (k12 : PySem.W.keepIn K (.ref f12) = true)
    (lc12 : K.lookup c12 = some ⟨occ12, odc12, .fields vsc12, slc12⟩)
    (hv12 : (vsc12[11]? : Option Value) = some (.ref T12))
    (nT12 : K.lookup T12 = none)
    (r12 : (PyProof.Rows.recsOf q).find? (fun e => e.name == ("rising_names" : Str)) = some dr12)
    (a13 : PySem.W.nsIn K mainGlobals "own_entries" = some (some (.ref f13)))
    (l13 : K.lookup f13 = some ⟨oc13, od13, .func (PySem.W.fnOf "own_entries" "own_entries" (defArgs sOwnEnts) (defBody sOwnEnts) (defScope sOwnEnts) .none kV13 dc13 pm13 an13 cd13 ct13), sl13⟩)
    (c_13 : PySem.W.codeIn K cd13 "own_entries" = true)
    (k13 : PySem.W.keepIn K (.ref f13) = true)
    (a14 : PySem.W.nsIn K mainGlobals "in_order" = some (some (.ref f14)))
    (l14 : K.lookup f14 = some ⟨oc14, od14, .func (PySem.W.fnOf "in_order" "in_order" (defArgs sInOrder) (defBody sInOrder) (defScope sInOrder) .none kV14 dc14 pm14 an14 cd14 ct14), sl14⟩)
    (c_14 : PySem.W.codeIn K cd14 "in_order" = true)
    (k14 : PySem.W.keepIn K (.ref f14) = true)
    (a15 : PySem.W.nsIn K mainGlobals "start" = some (some (.ref f15)))
    (l15 : K.lookup f15 = some ⟨oc15, od15, .func (PySem.W.fnOf "start" "start" (defArgs sStart) (defBody sStart) (defScope sStart) .none kV15 dc15 pm15 an15 cd15 ct15), sl15⟩)
    (c_15 : PySem.W.codeIn K cd15 "start" = true)
    (k15 : PySem.W.keepIn K (.ref f15) = true)
    (a16 : PySem.W.nsIn K mainGlobals "standing" = some (some (.ref f16)))
    (l16 : K.lookup f16 = some ⟨oc16, od16, .func (PySem.W.fnOf "standing" "standing" (defArgs sStanding) (defBody sStanding) (defScope sStanding) .none kV16 dc16 pm16 an16 cd16 ct16), sl16⟩)
    (c_16 : PySem.W.codeIn K cd16 "standing" = true)
    (k16 : PySem.W.keepIn K (.ref f16) = true)
    (a17 : PySem.W.nsIn K mainGlobals "entered" = some (some (.ref f17)))
    (l17 : K.lookup f17 = some ⟨oc17, od17, .func (PySem.W.fnOf "entered" "entered" (defArgs sEntered) (defBody sEntered) (defScope sEntered) .none kV17 dc17 pm17 an17 (.ref c17) ct17), sl17⟩)
    (c_17 : PySem.W.codeIn K (.ref c17) "entered" = true)
    (k17 : PySem.W.keepIn K (.ref f17) = true)
    (lc17 : K.lookup c17 = some ⟨occ17, odc17, .fields vsc17, slc17⟩)
    (hv17 : (vsc17[11]? : Option Value) = some (.ref T17))
    (nT17 : K.lookup T17 = none)
    (r17 : (PyProof.Rows.recsOf q).find? (fun e => e.name == ("entered" : Str)) = some dr17)
    (a18 : PySem.W.nsIn K mainGlobals "moment_to_stand" = some (some (.ref f18)))
    (l18 : K.lookup f18 = some ⟨oc18, od18, .func (PySem.W.fnOf "moment_to_stand" "moment_to_stand" (defArgs sToStand) (defBody sToStand) (defScope sToStand) .none kV18 dc18 pm18 an18 cd18 ct18), sl18⟩)
    (c_18 : PySem.W.codeIn K cd18 "moment_to_stand" = true)
    (k18 : PySem.W.keepIn K (.ref f18) = true)
    (a19 : PySem.W.nsIn K mainGlobals "is_closed" = some (some (.ref f19)))
    (l19 : K.lookup f19 = some ⟨oc19, od19, .func (PySem.W.fnOf "is_closed" "is_closed" (defArgs sIsClosed) (defBody sIsClosed) (defScope sIsClosed) .none kV19 dc19 pm19 an19 cd19 ct19), sl19⟩)
    (c_19 : PySem.W.codeIn K cd19 "is_closed" = true)
    (k19 : PySem.W.keepIn K (.ref f19) = true)
    (a20 : PySem.W.nsIn K mainGlobals "in_closed_days" = some (some (.ref f20)))
    (l20 : K.lookup f20 = some ⟨oc20, od20, .func (PySem.W.fnOf "in_closed_days" "in_closed_days" (defArgs sInClosed) (defBody sInClosed) (defScope sInClosed) .none kV20 dc20 pm20 an20 cd20 ct20), sl20⟩)
    (c_20 : PySem.W.codeIn K cd20 "in_closed_days" = true)
    (k20 : PySem.W.keepIn K (.ref f20) = true)
    (a21 : PySem.W.nsIn K mainGlobals "allowed" = some (some (.ref f21)))
    (l21 : K.lookup f21 = some ⟨oc21, od21, .func (PySem.W.fnOf "allowed" "allowed" (defArgs sAllowed) (defBody sAllowed) (defScope sAllowed) .none kV21 dc21 pm21 an21 cd21 ct21), sl21⟩)
    (c_21 : PySem.W.codeIn K cd21 "allowed" = true)
    (k21 : PySem.W.keepIn K (.ref f21) = true)
    (a22 : PySem.W.nsIn K mainGlobals "taken_back" = some (some (.ref f22)))
    (l22 : K.lookup f22 = some ⟨oc22, od22, .func (PySem.W.fnOf "taken_back" "taken_back" (defArgs sTakenBack) (defBody sTakenBack) (defScope sTakenBack) .none kV22 dc22 pm22 an22 cd22 ct22), sl22⟩)
    (c_22 : PySem.W.codeIn K cd22 "taken_back" = true)
    (k22 : PySem.W.keepIn K (.ref f22) = true)
    (a23 : PySem.W.nsIn K mainGlobals "closed_by" = some (some (.ref f23)))
    (l23 : K.lookup f23 = some ⟨oc23, od23, .func (PySem.W.fnOf "closed_by" "closed_by" (defArgs sClosedBy) (defBody sClosedBy) (defScope sClosedBy) .none kV23 dc23 pm23 an23 cd23 ct23), sl23⟩)
    (c_23 : PySem.W.codeIn K cd23 "closed_by" = true)
    (k23 : PySem.W.keepIn K (.ref f23) = true)
    (a24 : PySem.W.nsIn K mainGlobals "is_day" = some (some (.ref f24)))
    (l24 : K.lookup f24 = some ⟨oc24, od24, .func (PySem.W.fnOf "is_day" "is_day" (defArgs sIsDay) (defBody sIsDay) (defScope sIsDay) .none kV24 dc24 pm24 an24 cd24 ct24), sl24⟩)
    (c_24 : PySem.W.codeIn K cd24 "is_day" = true)
    (k24 : PySem.W.keepIn K (.ref f24) = true)
    (a25 : PySem.W.nsIn K mainGlobals "_law_pen" = some (some (.ref f25)))
    (l25 : K.lookup f25 = some ⟨oc25, od25, .func (PySem.W.fnOf "_law_pen" "_law_pen" (defArgs sPen) (defBody sPen) (defScope sPen) .none kV25 dc25 pm25 an25 cd25 ct25), sl25⟩)
    (c_25 : PySem.W.codeIn K cd25 "_law_pen" = true)
    (k25 : PySem.W.keepIn K (.ref f25) = true)
    (a26 : PySem.W.nsIn K mainGlobals "_law_draw" = some (some (.ref f26)))
    (l26 : K.lookup f26 = some ⟨oc26, od26, .func (PySem.W.fnOf "_law_draw" "_law_draw" (defArgs sDraw) (defBody sDraw) (defScope sDraw) .none kV26 dc26 pm26 an26 cd26 ct26), sl26⟩)
    (c_26 : PySem.W.codeIn K cd26 "_law_draw" = true)
    (k26 : PySem.W.keepIn K (.ref f26) = true)
    (a27 : PySem.W.nsIn K mainGlobals "_law_words" = some (some (.ref f27)))
    (l27 : K.lookup f27 = some ⟨oc27, od27, .func (PySem.W.fnOf "_law_words" "_law_words" (defArgs sWords) (defBody sWords) (defScope sWords) .none kV27 dc27 pm27 an27 cd27 ct27), sl27⟩)
    (c_27 : PySem.W.codeIn K cd27 "_law_words" = true)
    (k27 : PySem.W.keepIn K (.ref f27) = true)
    (a28 : PySem.W.nsIn K mainGlobals "_law_name" = some (some (.ref f28)))
    (l28 : K.lookup f28 = some ⟨oc28, od28, .func (PySem.W.fnOf "_law_name" "_law_name" (defArgs sLName) (defBody sLName) (defScope sLName) .none kV28 dc28 pm28 an28 cd28 ct28), sl28⟩)
    (c_28 : PySem.W.codeIn K cd28 "_law_name" = true)
    (k28 : PySem.W.keepIn K (.ref f28) = true)
    (a29 : PySem.W.nsIn K mainGlobals "_law_stand" = some (some (.ref f29)))
    (l29 : K.lookup f29 = some ⟨oc29, od29, .func (PySem.W.fnOf "_law_stand" "_law_stand" (defArgs sLStand) (defBody sLStand) (defScope sLStand) .none kV29 dc29 pm29 an29 cd29 ct29), sl29⟩)
    (c_29 : PySem.W.codeIn K cd29 "_law_stand" = true)
    (k29 : PySem.W.keepIn K (.ref f29) = true)
    (a30 : PySem.W.nsIn K mainGlobals "_law_moment" = some (some (.ref f30)))
    (l30 : K.lookup f30 = some ⟨oc30, od30, .func (PySem.W.fnOf "_law_moment" "_law_moment" (defArgs sMoment) (defBody sMoment) (defScope sMoment) .none kV30 dc30 pm30 an30 cd30 ct30), sl30⟩)
    (c_30 : PySem.W.codeIn K cd30 "_law_moment" = true)
    (k30 : PySem.W.keepIn K (.ref f30) = true)
    (a31 : PySem.W.nsIn K mainGlobals "_law_many" = some (some (.ref f31)))
    (l31 : K.lookup f31 = some ⟨oc31, od31, .func (PySem.W.fnOf "_law_many" "_law_many" (defArgs sMany) (defBody sMany) (defScope sMany) .none kV31 dc31 pm31 an31 cd31 ct31), sl31⟩)
    (c_31 : PySem.W.codeIn K cd31 "_law_many" = true)
    (k31 : PySem.W.keepIn K (.ref f31) = true)
    (a32 : PySem.W.nsIn K mainGlobals "_law_entry" = some (some (.ref f32)))
    (l32 : K.lookup f32 = some ⟨oc32, od32, .func (PySem.W.fnOf "_law_entry" "_law_entry" (defArgs sEntry) (defBody sEntry) (defScope sEntry) .none kV32 dc32 pm32 an32 cd32 ct32), sl32⟩)
    (c_32 : PySem.W.codeIn K cd32 "_law_entry" = true)
    (k32 : PySem.W.keepIn K (.ref f32) = true)
    (a33 : PySem.W.nsIn K mainGlobals "_law_same" = some (some (.ref f33)))
    (l33 : K.lookup f33 = some ⟨oc33, od33, .func (PySem.W.fnOf "_law_same" "_law_same" (defArgs sSame) (defBody sSame) (defScope sSame) .none kV33 dc33 pm33 an33 cd33 ct33), sl33⟩)
    (c_33 : PySem.W.codeIn K cd33 "_law_same" = true)
    (k33 : PySem.W.keepIn K (.ref f33) = true)
    (a34 : PySem.W.nsIn K mainGlobals "_law_order" = some (some (.ref f34)))
    (l34 : K.lookup f34 = some ⟨oc34, od34, .func (PySem.W.fnOf "_law_order" "_law_order" (defArgs sOwn) (defBody sOwn) (defScope sOwn) .none kV34 dc34 pm34 an34 cd34 ct34), sl34⟩)
    (c_34 : PySem.W.codeIn K cd34 "_law_order" = true)
    (k34 : PySem.W.keepIn K (.ref f34) = true)
    (a35 : PySem.W.nsIn K mainGlobals "_law_standing" = some (some (.ref f35)))
    (l35 : K.lookup f35 = some ⟨oc35, od35, .func (PySem.W.fnOf "_law_standing" "_law_standing" (defArgs sLStanding) (defBody sLStanding) (defScope sLStanding) .none kV35 dc35 pm35 an35 cd35 ct35), sl35⟩)
    (c_35 : PySem.W.codeIn K cd35 "_law_standing" = true)
    (k35 : PySem.W.keepIn K (.ref f35) = true)
    (a36 : PySem.W.nsIn K mainGlobals "_law_asked" = some (some (.ref f36)))
    (l36 : K.lookup f36 = some ⟨oc36, od36, .func (PySem.W.fnOf "_law_asked" "_law_asked" (defArgs sAsked) (defBody sAsked) (defScope sAsked) .none kV36 dc36 pm36 an36 cd36 ct36), sl36⟩)
    (c_36 : PySem.W.codeIn K cd36 "_law_asked" = true)
    (k36 : PySem.W.keepIn K (.ref f36) = true)
    (a37 : PySem.W.nsIn K mainGlobals "_law_closed_ones" = some (some (.ref f37)))
    (l37 : K.lookup f37 = some ⟨oc37, od37, .func (PySem.W.fnOf "_law_closed_ones" "_law_closed_ones" (defArgs sLClosedOnes) (defBody sLClosedOnes) (defScope sLClosedOnes) .none kV37 dc37 pm37 an37 cd37 ct37), sl37⟩)
    (c_37 : PySem.W.codeIn K cd37 "_law_closed_ones" = true)
    (k37 : PySem.W.keepIn K (.ref f37) = true)
    (a38 : PySem.W.nsIn K mainGlobals "_law_moment_for" = some (some (.ref f38)))
    (l38 : K.lookup f38 = some ⟨oc38, od38, .func (PySem.W.fnOf "_law_moment_for" "_law_moment_for" (defArgs sLMomFor) (defBody sLMomFor) (defScope sLMomFor) .none kV38 dc38 pm38 an38 cd38 ct38), sl38⟩)
    (c_38 : PySem.W.codeIn K cd38 "_law_moment_for" = true)
    (k38 : PySem.W.keepIn K (.ref f38) = true)
    (a39 : PySem.W.nsIn K mainGlobals "_law_done" = some (some (.ref f39)))
    (l39 : K.lookup f39 = some ⟨oc39, od39, .func (PySem.W.fnOf "_law_done" "_law_done" (defArgs sLDone) (defBody sLDone) (defScope sLDone) .none kV39 dc39 pm39 an39 cd39 ct39), sl39⟩)
    (c_39 : PySem.W.codeIn K cd39 "_law_done" = true)
    (k39 : PySem.W.keepIn K (.ref f39) = true)
    (a40 : PySem.W.nsIn K mainGlobals "_law_deed" = some (some (.ref f40)))
    (l40 : K.lookup f40 = some ⟨oc40, od40, .func (PySem.W.fnOf "_law_deed" "_law_deed" (defArgs sLDeed) (defBody sLDeed) (defScope sLDeed) .none kV40 dc40 pm40 an40 cd40 ct40), sl40⟩)
    (c_40 : PySem.W.codeIn K cd40 "_law_deed" = true)
    (k40 : PySem.W.keepIn K (.ref f40) = true)
    (a41 : PySem.W.nsIn K mainGlobals "_law_state" = some (some (.ref f41)))
    (l41 : K.lookup f41 = some ⟨oc41, od41, .func (PySem.W.fnOf "_law_state" "_law_state" (defArgs sLState) (defBody sLState) (defScope sLState) .none kV41 dc41 pm41 an41 cd41 ct41), sl41⟩)
    (c_41 : PySem.W.codeIn K cd41 "_law_state" = true)
    (k41 : PySem.W.keepIn K (.ref f41) = true)
    (a42 : PySem.W.nsIn K mainGlobals "_law_model" = some (some (.ref f42)))
    (l42 : K.lookup f42 = some ⟨oc42, od42, .func (PySem.W.fnOf "_law_model" "_law_model" (defArgs sLModel) (defBody sLModel) (defScope sLModel) .none kV42 dc42 pm42 an42 cd42 ct42), sl42⟩)
    (c_42 : PySem.W.codeIn K cd42 "_law_model" = true)
    (k42 : PySem.W.keepIn K (.ref f42) = true)
    (a43 : PySem.W.nsIn K mainGlobals "_law_told_by" = some (some (.ref f43)))
    (l43 : K.lookup f43 = some ⟨oc43, od43, .func (PySem.W.fnOf "_law_told_by" "_law_told_by" (defArgs sToldBy) (defBody sToldBy) (defScope sToldBy) .none kV43 dc43 pm43 an43 (.ref c43) ct43), sl43⟩)
    (c_43 : PySem.W.codeIn K (.ref c43) "_law_told_by" = true)
    (k43 : PySem.W.keepIn K (.ref f43) = true)
    (lc43 : K.lookup c43 = some ⟨occ43, odc43, .fields vsc43, slc43⟩)
    (hv43 : (vsc43[11]? : Option Value) = some (.ref T43))
    (nT43 : K.lookup T43 = none)
    (r43 : (PyProof.Rows.recsOf q).find? (fun e => e.name == ("_law_told_by" : Str)) = some dr43)
    (a44 : PySem.W.nsIn K mainGlobals "_law_odd_names" = some (some (.ref f44)))
    (l44 : K.lookup f44 = some ⟨oc44, od44, .func (PySem.W.fnOf "_law_odd_names" "_law_odd_names" (defArgs sOddN) (defBody sOddN) (defScope sOddN) .none kV44 dc44 pm44 an44 cd44 ct44), sl44⟩)
    (c_44 : PySem.W.codeIn K cd44 "_law_odd_names" = true)
    (k44 : PySem.W.keepIn K (.ref f44) = true)
    (a45 : PySem.W.nsIn K mainGlobals "_law_odd_parts" = some (some (.ref f45)))
    (l45 : K.lookup f45 = some ⟨oc45, od45, .func (PySem.W.fnOf "_law_odd_parts" "_law_odd_parts" (defArgs sOddP) (defBody sOddP) (defScope sOddP) .none kV45 dc45 pm45 an45 cd45 ct45), sl45⟩)
    (c_45 : PySem.W.codeIn K cd45 "_law_odd_parts" = true)
    (k45 : PySem.W.keepIn K (.ref f45) = true)
    (a46 : PySem.W.nsIn K mainGlobals "_law_odd_entry" = some (some (.ref f46)))
    (l46 : K.lookup f46 = some ⟨oc46, od46, .func (PySem.W.fnOf "_law_odd_entry" "_law_odd_entry" (defArgs sOddE) (defBody sOddE) (defScope sOddE) .none kV46 dc46 pm46 an46 cd46 ct46), sl46⟩)
    (c_46 : PySem.W.codeIn K cd46 "_law_odd_entry" = true)
    (k46 : PySem.W.keepIn K (.ref f46) = true)
    (a47 : PySem.W.nsIn K mainGlobals "_law_begun" = some (some (.ref f47)))
    (l47 : K.lookup f47 = some ⟨oc47, od47, .func (PySem.W.fnOf "_law_begun" "_law_begun" (defArgs sBegun) (defBody sBegun) (defScope sBegun) .none kV47 dc47 pm47 an47 cd47 ct47), sl47⟩)
    (c_47 : PySem.W.codeIn K cd47 "_law_begun" = true)
    (k47 : PySem.W.keepIn K (.ref f47) = true)
    (a48 : PySem.W.nsIn K mainGlobals "_law_days_right" = some (some (.ref f48)))
    (l48 : K.lookup f48 = some ⟨oc48, od48, .func (PySem.W.fnOf "_law_days_right" "_law_days_right" (defArgs sDays) (defBody sDays) (defScope sDays) .none kV48 dc48 pm48 an48 cd48 ct48), sl48⟩)
    (c_48 : PySem.W.codeIn K cd48 "_law_days_right" = true)
    (k48 : PySem.W.keepIn K (.ref f48) = true)
    (a49 : PySem.W.nsIn K mainGlobals "law" = some (some (.ref f49)))
    (l49 : K.lookup f49 = some ⟨oc49, od49, .func (PySem.W.fnOf "law" "law" (defArgs sLaw) (defBody sLaw) (defScope sLaw) .none kV49 dc49 pm49 an49 cd49 ct49), sl49⟩)
    (c_49 : PySem.W.codeIn K cd49 "law" = true)
    (k49 : PySem.W.keepIn K (.ref f49) = true)
    (ne13 : T1 ≠ T3)
    (ne15 : T1 ≠ T5)
    (ne35 : T3 ≠ T5)
    (ne112 : T1 ≠ T12)
    (ne312 : T3 ≠ T12)
    (ne512 : T5 ≠ T12)
    (ne117 : T1 ≠ T17)
    (ne317 : T3 ≠ T17)
    (ne517 : T5 ≠ T17)
    (ne1217 : T12 ≠ T17)
    (ne143 : T1 ≠ T43)
    (ne343 : T3 ≠ T43)
    (ne543 : T5 ≠ T43)
    (ne1243 : T12 ≠ T43)
    (ne1743 : T17 ≠ T43)
    (AFo : PySem.W.nsIn K mainGlobals "FORMS" = some (some (.ref aFo)))
    (LFo : K.lookup aFo = some ⟨.type "dict", none, .dict esFo nFo, #[]⟩)
    (litFo : PySem.W.KeysLit w.params esFo.toList)
    (lowFo : (aFo == sysModules) = false)
    (gFo1 : PySem.W.nsIn K aFo "come" = some (some (.ref aFo1)))
    (LFo1 : K.lookup aFo1 = some ⟨.type "tuple", odFo1, .seq itFo1 nFo1, slFo1⟩)
    (zFo1 : itFo1.size ≤ sizeLine)
    (vFo1 : Vals ([.str "name", .str "moment", .str "name", .str "name", .str "many", .str "price"] : List V) itFo1.toList)
    (gFo2 : PySem.W.nsIn K aFo "go" = some (some (.ref aFo2)))
    (LFo2 : K.lookup aFo2 = some ⟨.type "tuple", odFo2, .seq itFo2 nFo2, slFo2⟩)
    (zFo2 : itFo2.size ≤ sizeLine)
    (vFo2 : Vals ([.str "name", .str "moment", .str "name", .str "name", .str "many"] : List V) itFo2.toList)
    (gFo3 : PySem.W.nsIn K aFo "move" = some (some (.ref aFo3)))
    (LFo3 : K.lookup aFo3 = some ⟨.type "tuple", odFo3, .seq itFo3 nFo3, slFo3⟩)
    (zFo3 : itFo3.size ≤ sizeLine)
    (vFo3 : Vals ([.str "name", .str "moment", .str "name", .str "name", .str "name", .str "many"] : List V) itFo3.toList)
    (gFo4 : PySem.W.nsIn K aFo "some" = some (some (.ref aFo4)))
    (LFo4 : K.lookup aFo4 = some ⟨.type "tuple", odFo4, .seq itFo4 nFo4, slFo4⟩)
    (zFo4 : itFo4.size ≤ sizeLine)
    (vFo4 : Vals ([.str "name", .str "moment", .str "name", .str "name", .str "end"] : List V) itFo4.toList)
    (gFo5 : PySem.W.nsIn K aFo "swap" = some (some (.ref aFo5)))
    (LFo5 : K.lookup aFo5 = some ⟨.type "tuple", odFo5, .seq itFo5 nFo5, slFo5⟩)
    (zFo5 : itFo5.size ≤ sizeLine)
    (vFo5 : Vals ([.str "name", .str "moment", .str "name", .str "name"] : List V) itFo5.toList)
    (gFo6 : PySem.W.nsIn K aFo "count" = some (some (.ref aFo6)))
    (LFo6 : K.lookup aFo6 = some ⟨.type "tuple", odFo6, .seq itFo6 nFo6, slFo6⟩)
    (zFo6 : itFo6.size ≤ sizeLine)
    (vFo6 : Vals ([.str "name", .str "moment", .str "name", .str "name", .str "counted", .str "name"] : List V) itFo6.toList)
    (gFo7 : PySem.W.nsIn K aFo "look" = some (some (.ref aFo7)))
    (LFo7 : K.lookup aFo7 = some ⟨.type "tuple", odFo7, .seq itFo7 nFo7, slFo7⟩)
    (zFo7 : itFo7.size ≤ sizeLine)
    (vFo7 : Vals ([.str "name", .str "moment", .str "name", .str "name"] : List V) itFo7.toList)
    (ABo : PySem.W.nsIn K mainGlobals "BOUNDS" = some (some (.ref aBo)))
    (LBo : K.lookup aBo = some ⟨.type "dict", none, .dict esBo nBo, #[]⟩)
    (litBo : PySem.W.KeysLit w.params esBo.toList)
    (lowBo : (aBo == sysModules) = false)
    (gBo1 : PySem.W.nsIn K aBo "moment" = some (some (.ref aBo1)))
    (LBo1 : K.lookup aBo1 = some ⟨.type "tuple", odBo1, .seq itBo1 nBo1, slBo1⟩)
    (zBo1 : itBo1.size ≤ sizeLine)
    (vBo1 : Vals ([.int 0, .int 9999] : List V) itBo1.toList)
    (gBo2 : PySem.W.nsIn K aBo "many" = some (some (.ref aBo2)))
    (LBo2 : K.lookup aBo2 = some ⟨.type "tuple", odBo2, .seq itBo2 nBo2, slBo2⟩)
    (zBo2 : itBo2.size ≤ sizeLine)
    (vBo2 : Vals ([.int 1, .int 1000000000] : List V) itBo2.toList)
    (gBo3 : PySem.W.nsIn K aBo "counted" = some (some (.ref aBo3)))
    (LBo3 : K.lookup aBo3 = some ⟨.type "tuple", odBo3, .seq itBo3 nBo3, slBo3⟩)
    (zBo3 : itBo3.size ≤ sizeLine)
    (vBo3 : Vals ([.int 0, .int 1000000000] : List V) itBo3.toList)
    (gBo4 : PySem.W.nsIn K aBo "price" = some (some (.ref aBo4)))
    (LBo4 : K.lookup aBo4 = some ⟨.type "tuple", odBo4, .seq itBo4 nBo4, slBo4⟩)
    (zBo4 : itBo4.size ≤ sizeLine)
    (vBo4 : Vals ([.int 0, .int 1000000000] : List V) itBo4.toList)
    (ARa : PySem.W.nsIn K mainGlobals "RANKS" = some (some (.ref aRa)))
    (LRa : K.lookup aRa = some ⟨.type "dict", none, .dict esRa nRa, #[]⟩)
    (litRa : PySem.W.KeysLit w.params esRa.toList)
    (lowRa : (aRa == sysModules) = false)
    (gRa1 : PySem.W.nsIn K aRa "come" = some (some (.int 1 tRa1)))
    (gRa2 : PySem.W.nsIn K aRa "go" = some (some (.int 1 tRa2)))
    (gRa3 : PySem.W.nsIn K aRa "move" = some (some (.int 1 tRa3)))
    (gRa4 : PySem.W.nsIn K aRa "some" = some (some (.int 1 tRa4)))
    (gRa5 : PySem.W.nsIn K aRa "swap" = some (some (.int 0 tRa5)))
    (gRa6 : PySem.W.nsIn K aRa "count" = some (some (.int 2 tRa6)))
    (gRa7 : PySem.W.nsIn K aRa "look" = some (some (.int 2 tRa7)))
    (zL : PySem.W.nsIn K mainGlobals "LETTERS" = some (some (.str abc tL)))
    (zN : PySem.W.nsIn K mainGlobals "LONGEST_NAME" = some (some (.int 8 tN)))
    (zM : PySem.W.nsIn K mainGlobals "MOMENTS_IN_A_DAY" = some (some (.int 100 tM)))
    (zMP : PySem.W.nsIn K mainGlobals "MOST_PLACES" = some (some (.int 6 tMP)))
    (zMG : PySem.W.nsIn K mainGlobals "MOST_GOODS" = some (some (.int 3 tMG)))
    (zME : PySem.W.nsIn K mainGlobals "MOST_ENTRIES" = some (some (.int 30 tME)))
    (zMF : PySem.W.nsIn K mainGlobals "MOST_FORMS" = some (some (.int 60 tMF)))
    (zMB : PySem.W.nsIn K mainGlobals "MOST_BACKS" = some (some (.int 60 tMB)))
    (zLD : PySem.W.nsIn K mainGlobals "LAST_DAY" = some (some (.int 99 tLD)))
    (HE : PySem.W.nsIn K mainGlobals "CountError" = some (some (.ref cE)))
    (HTU : PySem.W.nsIn K mainGlobals "TAKEN_UP" = some (some (.ref aTU)))
    (HMD : PySem.W.nsIn K mainGlobals "MODES" = some (some (.ref aMD)))
    (LTU : K.lookup aTU = some ⟨.type "tuple", odTU, .seq itTU nTU, slTU⟩)
    (zTU : itTU.size ≤ sizeLine)
    (vTU : Vals upW itTU.toList)
    (LMD : K.lookup aMD = some ⟨.type "tuple", odMD, .seq itMD nMD, slMD⟩)
    (zMD : itMD.size ≤ sizeLine)
    (vMD : Vals modesW itMD.toList)
    (HCd : PySem.W.nsIn K mainGlobals "Closed" = some (some (.ref cxCd)))
    (HTm : PySem.W.nsIn K mainGlobals "TooMany" = some (some (.ref cxTm)))
    (HNe : PySem.W.nsIn K mainGlobals "NoEntry" = some (some (.ref cxNe)))
    (HNn : PySem.W.nsIn K mainGlobals "NoName" = some (some (.ref cxNn)))
    (HNd : PySem.W.nsIn K mainGlobals "NoDay" = some (some (.ref cxNd)))
    (HNth : PySem.W.nsIn K mainGlobals "NoThen" = some (some (.ref cxNth)))
    (HCl : PySem.W.nsIn K mainGlobals "Clash" = some (some (.ref cxCl)))
    (HNf : PySem.W.nsIn K mainGlobals "NoFilling" = some (some (.ref cxNf)))
    (HNg : PySem.W.nsIn K mainGlobals "NoGo" = some (some (.ref cxNg)))
    (HNgd : PySem.W.nsIn K mainGlobals "NoGood" = some (some (.ref cxNgd)))
    (HNh : PySem.W.nsIn K mainGlobals "NoHouse" = some (some (.ref cxNh)))
    (HNm : PySem.W.nsIn K mainGlobals "NoMove" = some (some (.ref cxNm)))
    (HNp : PySem.W.nsIn K mainGlobals "NoPlace" = some (some (.ref cxNp)))
    (HNr : PySem.W.nsIn K mainGlobals "NoRow" = some (some (.ref cxNr)))
    (HNt : PySem.W.nsIn K mainGlobals "NoText" = some (some (.ref cxNt)))
    (HNti : PySem.W.nsIn K mainGlobals "NoTie" = some (some (.ref cxNti)))
    (HTw : PySem.W.nsIn K mainGlobals "Twice" = some (some (.ref cxTw)))
    (e6 : PySem.W.specialIn K (.builtin "object.__class__") "__get__" = some (some (.builtin "getset_descriptor.__get__")))
    (e7 : PySem.W.takesIn K (.builtin "object.__class__") = some true)
    (exCd : PySem.W.excIn K cxCd [.type "ValueError", .type "Exception", .type "BaseException", .type "object"] "ValueError.__new__" = true)
    (kpCd : PySem.W.keepIn K (.ref cxCd) = true)
    (sbCd : PySem.W.subIn K (.ref cxCd) (.type "BaseException") = some true)
    (tyCd : PySem.W.typeIn K (.ref cxCd) = some (.type "type"))
    (e1Cd : PySem.W.findIn K (.ref cxCd) "__getattribute__" = some (some (.builtin "BaseException.__getattribute__")))
    (e2Cd : PySem.W.findIn K (.ref cxCd) "__getattr__" = some none)
    (e4Cd : PySem.W.hasDictIn K cxCd = true)
    (e5Cd : PySem.W.findIn K (.ref cxCd) "__class__" = some (some (.builtin "object.__class__")))
    (e8Cd : PySem.W.mroIn K cxCd (.type "object") = some true)
    (qCdCd : PySem.W.kitOne K (.ref cxCd) (.ref cxCd) = some true)
    (qCdTm : PySem.W.kitOne K (.ref cxCd) (.ref cxTm) = some false)
    (qCdNe : PySem.W.kitOne K (.ref cxCd) (.ref cxNe) = some false)
    (qCdNn : PySem.W.kitOne K (.ref cxCd) (.ref cxNn) = some false)
    (qCdNd : PySem.W.kitOne K (.ref cxCd) (.ref cxNd) = some false)
    (qCdNth : PySem.W.kitOne K (.ref cxCd) (.ref cxNth) = some false)
    (otCd : PySem.W.kitAny K (.ref cxCd) [.ref cxCl, .ref cxNf, .ref cxNg, .ref cxNgd, .ref cxNh, .ref cxNm, .ref cxNp, .ref cxNr, .ref cxNt, .ref cxNti, .ref cxTw] = some false)
    (vCd : PySem.W.kitOne K (.ref cxCd) (.type "ValueError") = some true)
    (cmCd : PySem.W.exmOne K (.ref cxCd) (.ref cE) = some true)
    (exTm : PySem.W.excIn K cxTm [.type "ValueError", .type "Exception", .type "BaseException", .type "object"] "ValueError.__new__" = true)
    (kpTm : PySem.W.keepIn K (.ref cxTm) = true)
    (sbTm : PySem.W.subIn K (.ref cxTm) (.type "BaseException") = some true)
    (tyTm : PySem.W.typeIn K (.ref cxTm) = some (.type "type"))
    (e1Tm : PySem.W.findIn K (.ref cxTm) "__getattribute__" = some (some (.builtin "BaseException.__getattribute__")))
    (e2Tm : PySem.W.findIn K (.ref cxTm) "__getattr__" = some none)
    (e4Tm : PySem.W.hasDictIn K cxTm = true)
    (e5Tm : PySem.W.findIn K (.ref cxTm) "__class__" = some (some (.builtin "object.__class__")))
    (e8Tm : PySem.W.mroIn K cxTm (.type "object") = some true)
    (qTmCd : PySem.W.kitOne K (.ref cxTm) (.ref cxCd) = some false)
    (qTmTm : PySem.W.kitOne K (.ref cxTm) (.ref cxTm) = some true)
    (qTmNe : PySem.W.kitOne K (.ref cxTm) (.ref cxNe) = some false)
    (qTmNn : PySem.W.kitOne K (.ref cxTm) (.ref cxNn) = some false)
    (qTmNd : PySem.W.kitOne K (.ref cxTm) (.ref cxNd) = some false)
    (qTmNth : PySem.W.kitOne K (.ref cxTm) (.ref cxNth) = some false)
    (otTm : PySem.W.kitAny K (.ref cxTm) [.ref cxCl, .ref cxNf, .ref cxNg, .ref cxNgd, .ref cxNh, .ref cxNm, .ref cxNp, .ref cxNr, .ref cxNt, .ref cxNti, .ref cxTw] = some false)
    (vTm : PySem.W.kitOne K (.ref cxTm) (.type "ValueError") = some true)
    (cmTm : PySem.W.exmOne K (.ref cxTm) (.ref cE) = some true)
    (exNe : PySem.W.excIn K cxNe [.type "ValueError", .type "Exception", .type "BaseException", .type "object"] "ValueError.__new__" = true)
    (kpNe : PySem.W.keepIn K (.ref cxNe) = true)
    (sbNe : PySem.W.subIn K (.ref cxNe) (.type "BaseException") = some true)
    (tyNe : PySem.W.typeIn K (.ref cxNe) = some (.type "type"))
    (e1Ne : PySem.W.findIn K (.ref cxNe) "__getattribute__" = some (some (.builtin "BaseException.__getattribute__")))
    (e2Ne : PySem.W.findIn K (.ref cxNe) "__getattr__" = some none)
    (e4Ne : PySem.W.hasDictIn K cxNe = true)
    (e5Ne : PySem.W.findIn K (.ref cxNe) "__class__" = some (some (.builtin "object.__class__")))
    (e8Ne : PySem.W.mroIn K cxNe (.type "object") = some true)
    (qNeCd : PySem.W.kitOne K (.ref cxNe) (.ref cxCd) = some false)
    (qNeTm : PySem.W.kitOne K (.ref cxNe) (.ref cxTm) = some false)
    (qNeNe : PySem.W.kitOne K (.ref cxNe) (.ref cxNe) = some true)
    (qNeNn : PySem.W.kitOne K (.ref cxNe) (.ref cxNn) = some false)
    (qNeNd : PySem.W.kitOne K (.ref cxNe) (.ref cxNd) = some false)
    (qNeNth : PySem.W.kitOne K (.ref cxNe) (.ref cxNth) = some false)
    (otNe : PySem.W.kitAny K (.ref cxNe) [.ref cxCl, .ref cxNf, .ref cxNg, .ref cxNgd, .ref cxNh, .ref cxNm, .ref cxNp, .ref cxNr, .ref cxNt, .ref cxNti, .ref cxTw] = some false)
    (vNe : PySem.W.kitOne K (.ref cxNe) (.type "ValueError") = some true)
    (cmNe : PySem.W.exmOne K (.ref cxNe) (.ref cE) = some true)
    (exNn : PySem.W.excIn K cxNn [.type "ValueError", .type "Exception", .type "BaseException", .type "object"] "ValueError.__new__" = true)
    (kpNn : PySem.W.keepIn K (.ref cxNn) = true)
    (sbNn : PySem.W.subIn K (.ref cxNn) (.type "BaseException") = some true)
    (tyNn : PySem.W.typeIn K (.ref cxNn) = some (.type "type"))
    (e1Nn : PySem.W.findIn K (.ref cxNn) "__getattribute__" = some (some (.builtin "BaseException.__getattribute__")))
    (e2Nn : PySem.W.findIn K (.ref cxNn) "__getattr__" = some none)
    (e4Nn : PySem.W.hasDictIn K cxNn = true)
    (e5Nn : PySem.W.findIn K (.ref cxNn) "__class__" = some (some (.builtin "object.__class__")))
    (e8Nn : PySem.W.mroIn K cxNn (.type "object") = some true)
    (qNnCd : PySem.W.kitOne K (.ref cxNn) (.ref cxCd) = some false)
    (qNnTm : PySem.W.kitOne K (.ref cxNn) (.ref cxTm) = some false)
    (qNnNe : PySem.W.kitOne K (.ref cxNn) (.ref cxNe) = some false)
    (qNnNn : PySem.W.kitOne K (.ref cxNn) (.ref cxNn) = some true)
    (qNnNd : PySem.W.kitOne K (.ref cxNn) (.ref cxNd) = some false)
    (qNnNth : PySem.W.kitOne K (.ref cxNn) (.ref cxNth) = some false)
    (otNn : PySem.W.kitAny K (.ref cxNn) [.ref cxCl, .ref cxNf, .ref cxNg, .ref cxNgd, .ref cxNh, .ref cxNm, .ref cxNp, .ref cxNr, .ref cxNt, .ref cxNti, .ref cxTw] = some false)
    (vNn : PySem.W.kitOne K (.ref cxNn) (.type "ValueError") = some true)
    (cmNn : PySem.W.exmOne K (.ref cxNn) (.ref cE) = some true)
    (exNd : PySem.W.excIn K cxNd [.type "ValueError", .type "Exception", .type "BaseException", .type "object"] "ValueError.__new__" = true)
    (kpNd : PySem.W.keepIn K (.ref cxNd) = true)
    (sbNd : PySem.W.subIn K (.ref cxNd) (.type "BaseException") = some true)
    (tyNd : PySem.W.typeIn K (.ref cxNd) = some (.type "type"))
    (e1Nd : PySem.W.findIn K (.ref cxNd) "__getattribute__" = some (some (.builtin "BaseException.__getattribute__")))
    (e2Nd : PySem.W.findIn K (.ref cxNd) "__getattr__" = some none)
    (e4Nd : PySem.W.hasDictIn K cxNd = true)
    (e5Nd : PySem.W.findIn K (.ref cxNd) "__class__" = some (some (.builtin "object.__class__")))
    (e8Nd : PySem.W.mroIn K cxNd (.type "object") = some true)
    (qNdCd : PySem.W.kitOne K (.ref cxNd) (.ref cxCd) = some false)
    (qNdTm : PySem.W.kitOne K (.ref cxNd) (.ref cxTm) = some false)
    (qNdNe : PySem.W.kitOne K (.ref cxNd) (.ref cxNe) = some false)
    (qNdNn : PySem.W.kitOne K (.ref cxNd) (.ref cxNn) = some false)
    (qNdNd : PySem.W.kitOne K (.ref cxNd) (.ref cxNd) = some true)
    (qNdNth : PySem.W.kitOne K (.ref cxNd) (.ref cxNth) = some false)
    (otNd : PySem.W.kitAny K (.ref cxNd) [.ref cxCl, .ref cxNf, .ref cxNg, .ref cxNgd, .ref cxNh, .ref cxNm, .ref cxNp, .ref cxNr, .ref cxNt, .ref cxNti, .ref cxTw] = some false)
    (vNd : PySem.W.kitOne K (.ref cxNd) (.type "ValueError") = some true)
    (cmNd : PySem.W.exmOne K (.ref cxNd) (.ref cE) = some true)
    (exNth : PySem.W.excIn K cxNth [.type "ValueError", .type "Exception", .type "BaseException", .type "object"] "ValueError.__new__" = true)
    (kpNth : PySem.W.keepIn K (.ref cxNth) = true)
    (sbNth : PySem.W.subIn K (.ref cxNth) (.type "BaseException") = some true)
    (tyNth : PySem.W.typeIn K (.ref cxNth) = some (.type "type"))
    (e1Nth : PySem.W.findIn K (.ref cxNth) "__getattribute__" = some (some (.builtin "BaseException.__getattribute__")))
    (e2Nth : PySem.W.findIn K (.ref cxNth) "__getattr__" = some none)
    (e4Nth : PySem.W.hasDictIn K cxNth = true)
    (e5Nth : PySem.W.findIn K (.ref cxNth) "__class__" = some (some (.builtin "object.__class__")))
    (e8Nth : PySem.W.mroIn K cxNth (.type "object") = some true)
    (qNthCd : PySem.W.kitOne K (.ref cxNth) (.ref cxCd) = some false)
    (qNthTm : PySem.W.kitOne K (.ref cxNth) (.ref cxTm) = some false)
    (qNthNe : PySem.W.kitOne K (.ref cxNth) (.ref cxNe) = some false)
    (qNthNn : PySem.W.kitOne K (.ref cxNth) (.ref cxNn) = some false)
    (qNthNd : PySem.W.kitOne K (.ref cxNth) (.ref cxNd) = some false)
    (qNthNth : PySem.W.kitOne K (.ref cxNth) (.ref cxNth) = some true)
    (otNth : PySem.W.kitAny K (.ref cxNth) [.ref cxCl, .ref cxNf, .ref cxNg, .ref cxNgd, .ref cxNh, .ref cxNm, .ref cxNp, .ref cxNr, .ref cxNt, .ref cxNti, .ref cxTw] = some false)
    (vNth : PySem.W.kitOne K (.ref cxNth) (.type "ValueError") = some true)
    (cmNth : PySem.W.exmOne K (.ref cxNth) (.ref cE) = some true)
    (xFo : (esFo.toList.all fun e => match e.key with | .str s _ => words7.any fun y => s == y | _ => false) = true)
    (y_abs : PySem.W.nsIn K mainGlobals "abs" = some none)
    (y_all : PySem.W.nsIn K mainGlobals "all" = some none)
    (y_any : PySem.W.nsIn K mainGlobals "any" = some none)
    (y_bool : PySem.W.nsIn K mainGlobals "bool" = some none)
    (y_dict : PySem.W.nsIn K mainGlobals "dict" = some none)
    (y_int : PySem.W.nsIn K mainGlobals "int" = some none)
    (y_isinstance : PySem.W.nsIn K mainGlobals "isinstance" = some none)
    (y_len : PySem.W.nsIn K mainGlobals "len" = some none)
    (y_list : PySem.W.nsIn K mainGlobals "list" = some none)
    (y_max : PySem.W.nsIn K mainGlobals "max" = some none)
    (y_range : PySem.W.nsIn K mainGlobals "range" = some none)
    (y_set : PySem.W.nsIn K mainGlobals "set" = some none)
    (y_sorted : PySem.W.nsIn K mainGlobals "sorted" = some none)
    (y_str : PySem.W.nsIn K mainGlobals "str" = some none)
    (y_tuple : PySem.W.nsIn K mainGlobals "tuple" = some none)
    (y_zip : PySem.W.nsIn K mainGlobals "zip" = some none)
    (y_ValueError : PySem.W.nsIn K mainGlobals "ValueError" = some none) :
    LamX.LawAtS l w K CX0 13 63 "_law_script" mg fa h := by
  have Gg := G.T.g
  have e := hfa.symm.trans (PySem.W.mg_of X Gg a49)
  cases e
  have n_abs := PySem.W.mg_none_of X Gg y_abs
  have n_all := PySem.W.mg_none_of X Gg y_all
  have n_any := PySem.W.mg_none_of X Gg y_any
  have n_bool := PySem.W.mg_none_of X Gg y_bool
  have n_dict := PySem.W.mg_none_of X Gg y_dict
  have n_int := PySem.W.mg_none_of X Gg y_int
  have n_isinstance := PySem.W.mg_none_of X Gg y_isinstance
  have n_len := PySem.W.mg_none_of X Gg y_len
  have n_list := PySem.W.mg_none_of X Gg y_list
  have n_max := PySem.W.mg_none_of X Gg y_max
  have n_range := PySem.W.mg_none_of X Gg y_range
  have n_set := PySem.W.mg_none_of X Gg y_set
  have n_sorted := PySem.W.mg_none_of X Gg y_sorted
  have n_str := PySem.W.mg_none_of X Gg y_str
  have n_tuple := PySem.W.mg_none_of X Gg y_tuple
  have n_zip := PySem.W.mg_none_of X Gg y_zip
  have n_ValueError := PySem.W.mg_none_of X Gg y_ValueError
  have m_L := PySem.W.mg_of X Gg zL
  have m_N := PySem.W.mg_of X Gg zN
  have m_M := PySem.W.mg_of X Gg zM
  have m_MP := PySem.W.mg_of X Gg zMP
  have m_MG := PySem.W.mg_of X Gg zMG
  have m_ME := PySem.W.mg_of X Gg zME
  have m_MF := PySem.W.mg_of X Gg zMF
  have m_MB := PySem.W.mg_of X Gg zMB
  have m_LD := PySem.W.mg_of X Gg zLD
  have m_Fo := PySem.W.mg_of X Gg AFo
  have m_Bo := PySem.W.mg_of X Gg ABo
  have m_Ra := PySem.W.mg_of X Gg ARa
  have F1 := fun_mk (st := sName) l1 c_1 k1
  have b1 := F1.binds (ps := ["thing"]) fun _ _ _ _ _ _ us hl => match us, hl with | [_], _ => rfl
  have g1 := PySem.W.mg_of X Gg a1
  have F2 := fun_mk (st := sWhole) l2 c_2 k2
  have b2 := F2.binds (ps := ["thing"]) fun _ _ _ _ _ _ us hl => match us, hl with | [_], _ => rfl
  have g2 := PySem.W.mg_of X Gg a2
  have F3 := fun_mk (st := sIsEntry) l3 c_3 k3
  have b3 := F3.binds (ps := ["thing"]) fun _ _ _ _ _ _ us hl => match us, hl with | [_], _ => rfl
  have g3 := PySem.W.mg_of X Gg a3
  have F4 := fun_mk (st := sFits) l4 c_4 k4
  have b4 := F4.binds (ps := ["part", "sort"]) fun _ _ _ _ _ _ us hl => match us, hl with | [_, _], _ => rfl
  have g4 := PySem.W.mg_of X Gg a4
  have F5 := fun_mk (st := sIsEntryOf) l5 c_5 k5
  have b5 := F5.binds (ps := ["thing", "places", "goods"]) fun _ _ _ _ _ _ us hl => match us, hl with | [_, _, _], _ => rfl
  have g5 := PySem.W.mg_of X Gg a5
  have F6 := fun_mk (st := sDay) l6 c_6 k6
  have b6 := F6.binds (ps := ["moment"]) fun _ _ _ _ _ _ us hl => match us, hl with | [_], _ => rfl
  have g6 := PySem.W.mg_of X Gg a6
  have F7 := fun_mk (st := sGood) l7 c_7 k7
  have b7 := F7.binds (ps := ["entry"]) fun _ _ _ _ _ _ us hl => match us, hl with | [_], _ => rfl
  have g7 := PySem.W.mg_of X Gg a7
  have F8 := fun_mk (st := sPlacesOf) l8 c_8 k8
  have b8 := F8.binds (ps := ["entry"]) fun _ _ _ _ _ _ us hl => match us, hl with | [_], _ => rfl
  have g8 := PySem.W.mg_of X Gg a8
  have F9 := fun_mk (st := sOrd) l9 c_9 k9
  have b9 := F9.binds (ps := ["entry"]) fun _ _ _ _ _ _ us hl => match us, hl with | [_], _ => rfl
  have g9 := PySem.W.mg_of X Gg a9
  have F10 := fun_mk (st := sWithMoment) l10 c_10 k10
  have b10 := F10.binds (ps := ["entry", "moment"]) fun _ _ _ _ _ _ us hl => match us, hl with | [_, _], _ => rfl
  have g10 := PySem.W.mg_of X Gg a10
  have F11 := fun_mk (st := sHouseOf) l11 c_11 k11
  have b11 := F11.binds (ps := ["places", "goods", "entries"]) fun _ _ _ _ _ _ us hl => match us, hl with | [_, _, _], _ => rfl
  have g11 := PySem.W.mg_of X Gg a11
  have F12 := fun_mk (st := sRising) l12 c_12 k12
  have b12 := F12.binds (ps := ["things", "most"]) fun _ _ _ _ _ _ us hl => match us, hl with | [_, _], _ => rfl
  have g12 := PySem.W.mg_of X Gg a12
  have F13 := fun_mk (st := sOwnEnts) l13 c_13 k13
  have b13 := F13.binds (ps := ["things", "places", "goods"]) fun _ _ _ _ _ _ us hl => match us, hl with | [_, _, _], _ => rfl
  have g13 := PySem.W.mg_of X Gg a13
  have F14 := fun_mk (st := sInOrder) l14 c_14 k14
  have b14 := F14.binds (ps := ["entries"]) fun _ _ _ _ _ _ us hl => match us, hl with | [_], _ => rfl
  have g14 := PySem.W.mg_of X Gg a14
  have F15 := fun_mk (st := sStart) l15 c_15 k15
  have b15 := F15.binds (ps := ["places", "goods"]) fun _ _ _ _ _ _ us hl => match us, hl with | [_, _], _ => rfl
  have g15 := PySem.W.mg_of X Gg a15
  have F16 := fun_mk (st := sStanding) l16 c_16 k16
  have b16 := F16.binds (ps := ["state"]) fun _ _ _ _ _ _ us hl => match us, hl with | [_], _ => rfl
  have g16 := PySem.W.mg_of X Gg a16
  have F17 := fun_mk (st := sEntered) l17 c_17 k17
  have b17 := F17.binds (ps := ["state", "entry"]) fun _ _ _ _ _ _ us hl => match us, hl with | [_, _], _ => rfl
  have g17 := PySem.W.mg_of X Gg a17
  have F18 := fun_mk (st := sToStand) l18 c_18 k18
  have b18 := F18.binds (ps := ["entry", "closed", "mode"]) fun _ _ _ _ _ _ us hl => match us, hl with | [_, _, _], _ => rfl
  have g18 := PySem.W.mg_of X Gg a18
  have F19 := fun_mk (st := sIsClosed) l19 c_19 k19
  have b19 := F19.binds (ps := ["moment", "closed"]) fun _ _ _ _ _ _ us hl => match us, hl with | [_, _], _ => rfl
  have g19 := PySem.W.mg_of X Gg a19
  have F20 := fun_mk (st := sInClosed) l20 c_20 k20
  have b20 := F20.binds (ps := ["state"]) fun _ _ _ _ _ _ us hl => match us, hl with | [_], _ => rfl
  have g20 := PySem.W.mg_of X Gg a20
  have F21 := fun_mk (st := sAllowed) l21 c_21 k21
  have b21 := F21.binds (ps := ["state", "later"]) fun _ _ _ _ _ _ us hl => match us, hl with | [_, _], _ => rfl
  have g21 := PySem.W.mg_of X Gg a21
  have F22 := fun_mk (st := sTakenBack) l22 c_22 k22
  have b22 := F22.binds (ps := ["state", "name"]) fun _ _ _ _ _ _ us hl => match us, hl with | [_, _], _ => rfl
  have g22 := PySem.W.mg_of X Gg a22
  have F23 := fun_mk (st := sClosedBy) l23 c_23 k23
  have b23 := F23.binds (ps := ["state", "day", "mode"]) fun _ _ _ _ _ _ us hl => match us, hl with | [_, _, _], _ => rfl
  have g23 := PySem.W.mg_of X Gg a23
  have F24 := fun_mk (st := sIsDay) l24 c_24 k24
  have b24 := F24.binds (ps := ["thing"]) fun _ _ _ _ _ _ us hl => match us, hl with | [_], _ => rfl
  have g24 := PySem.W.mg_of X Gg a24
  have F25 := fun_mk (st := sPen) l25 c_25 k25
  have b25 := F25.binds (ps := ["_law_script"]) fun _ _ _ _ _ _ us hl => match us, hl with | [_], _ => rfl
  have g25 := PySem.W.mg_of X Gg a25
  have F26 := fun_mk (st := sDraw) l26 c_26 k26
  have b26 := F26.binds (ps := ["_law_pen_here", "_law_many_here"]) fun _ _ _ _ _ _ us hl => match us, hl with | [_, _], _ => rfl
  have g26 := PySem.W.mg_of X Gg a26
  have F27 := fun_mk (st := sWords) l27 c_27 k27
  have b27 := F27.binds (ps := ["_law_pen_here"]) fun _ _ _ _ _ _ us hl => match us, hl with | [_], _ => rfl
  have g27 := PySem.W.mg_of X Gg a27
  have F28 := fun_mk (st := sLName) l28 c_28 k28
  have b28 := F28.binds (ps := ["_law_words_here", "_law_number"]) fun _ _ _ _ _ _ us hl => match us, hl with | [_, _], _ => rfl
  have g28 := PySem.W.mg_of X Gg a28
  have F29 := fun_mk (st := sLStand) l29 c_29 k29
  have b29 := F29.binds (ps := ["_law_pen_here", "_law_words_here"]) fun _ _ _ _ _ _ us hl => match us, hl with | [_, _], _ => rfl
  have g29 := PySem.W.mg_of X Gg a29
  have F30 := fun_mk (st := sMoment) l30 c_30 k30
  have b30 := F30.binds (ps := ["_law_pen_here"]) fun _ _ _ _ _ _ us hl => match us, hl with | [_], _ => rfl
  have g30 := PySem.W.mg_of X Gg a30
  have F31 := fun_mk (st := sMany) l31 c_31 k31
  have b31 := F31.binds (ps := ["_law_pen_here"]) fun _ _ _ _ _ _ us hl => match us, hl with | [_], _ => rfl
  have g31 := PySem.W.mg_of X Gg a31
  have F32 := fun_mk (st := sEntry) l32 c_32 k32
  have b32 := F32.binds (ps := ["_law_pen_here", "_law_words_here", "_law_stand_here", "_law_number"]) fun _ _ _ _ _ _ us hl => match us, hl with | [_, _, _, _], _ => rfl
  have g32 := PySem.W.mg_of X Gg a32
  have F33 := fun_mk (st := sSame) l33 c_33 k33
  have b33 := F33.binds (ps := ["_law_found", "_law_due"]) fun _ _ _ _ _ _ us hl => match us, hl with | [_, _], _ => rfl
  have g33 := PySem.W.mg_of X Gg a33
  have F34 := fun_mk (st := sOwn) l34 c_34 k34
  have b34 := F34.binds (ps := ["_law_entry_here"]) fun _ _ _ _ _ _ us hl => match us, hl with | [_], _ => rfl
  have g34 := PySem.W.mg_of X Gg a34
  have F35 := fun_mk (st := sLStanding) l35 c_35 k35
  have b35 := F35.binds (ps := ["_law_forms", "_law_backs"]) fun _ _ _ _ _ _ us hl => match us, hl with | [_, _], _ => rfl
  have g35 := PySem.W.mg_of X Gg a35
  have F36 := fun_mk (st := sAsked) l36 c_36 k36
  have b36 := F36.binds (ps := ["_law_ask"]) fun _ _ _ _ _ _ us hl => match us, hl with | [_], _ => rfl
  have g36 := PySem.W.mg_of X Gg a36
  have F37 := fun_mk (st := sLClosedOnes) l37 c_37 k37
  have b37 := F37.binds (ps := ["_law_model_here", "_law_forms", "_law_backs"]) fun _ _ _ _ _ _ us hl => match us, hl with | [_, _, _], _ => rfl
  have g37 := PySem.W.mg_of X Gg a37
  have F38 := fun_mk (st := sLMomFor) l38 c_38 k38
  have b38 := F38.binds (ps := ["_law_model_here", "_law_entry_here"]) fun _ _ _ _ _ _ us hl => match us, hl with | [_, _], _ => rfl
  have g38 := PySem.W.mg_of X Gg a38
  have F39 := fun_mk (st := sLDone) l39 c_39 k39
  have b39 := F39.binds (ps := ["_law_model_here", "_law_deed_here"]) fun _ _ _ _ _ _ us hl => match us, hl with | [_, _], _ => rfl
  have g39 := PySem.W.mg_of X Gg a39
  have F40 := fun_mk (st := sLDeed) l40 c_40 k40
  have b40 := F40.binds (ps := ["_law_pen_here", "_law_words_here", "_law_stand_here", "_law_model_here", "_law_k"]) fun _ _ _ _ _ _ us hl => match us, hl with | [_, _, _, _, _], _ => rfl
  have g40 := PySem.W.mg_of X Gg a40
  have F41 := fun_mk (st := sLState) l41 c_41 k41
  have b41 := F41.binds (ps := ["_law_stand_here", "_law_model_here"]) fun _ _ _ _ _ _ us hl => match us, hl with | [_, _], _ => rfl
  have g41 := PySem.W.mg_of X Gg a41
  have F42 := fun_mk (st := sLModel) l42 c_42 k42
  have b42 := F42.binds (ps := []) fun _ _ _ _ _ _ us hl => match us, hl with | [], _ => rfl
  have g42 := PySem.W.mg_of X Gg a42
  have F43 := fun_mk (st := sToldBy) l43 c_43 k43
  have b43 := F43.binds (ps := ["_law_state_here", "_law_deed_here"]) fun _ _ _ _ _ _ us hl => match us, hl with | [_, _], _ => rfl
  have g43 := PySem.W.mg_of X Gg a43
  have F44 := fun_mk (st := sOddN) l44 c_44 k44
  have b44 := F44.binds (ps := []) fun _ _ _ _ _ _ us hl => match us, hl with | [], _ => rfl
  have g44 := PySem.W.mg_of X Gg a44
  have F45 := fun_mk (st := sOddP) l45 c_45 k45
  have b45 := F45.binds (ps := ["_law_words_here", "_law_entry_here", "_law_spot"]) fun _ _ _ _ _ _ us hl => match us, hl with | [_, _, _], _ => rfl
  have g45 := PySem.W.mg_of X Gg a45
  have F46 := fun_mk (st := sOddE) l46 c_46 k46
  have b46 := F46.binds (ps := ["_law_pen_here", "_law_words_here", "_law_entry_here"]) fun _ _ _ _ _ _ us hl => match us, hl with | [_, _, _], _ => rfl
  have g46 := PySem.W.mg_of X Gg a46
  have F47 := fun_mk (st := sBegun) l47 c_47 k47
  have b47 := F47.binds (ps := ["_law_pen_here", "_law_words_here", "_law_stand_here", "_law_many_here"]) fun _ _ _ _ _ _ us hl => match us, hl with | [_, _, _, _], _ => rfl
  have g47 := PySem.W.mg_of X Gg a47
  have F48 := fun_mk (st := sDays) l48 c_48 k48
  have b48 := F48.binds (ps := ["_law_pen_here", "_law_state_here", "_law_model_here"]) fun _ _ _ _ _ _ us hl => match us, hl with | [_, _, _], _ => rfl
  have g48 := PySem.W.mg_of X Gg a48
  have F49 := fun_mk (st := sLaw) l49 c_49 k49
  have t1 := tab_is a1 l1 rfl lc1 hv1
  obtain ⟨hd1, tb1⟩ := PySem.W.tab_of G.T X r1 t1
  have t3 := tab_is a3 l3 rfl lc3 hv3
  obtain ⟨hd3, tb3⟩ := PySem.W.tab_of G.T X r3 t3
  have t5 := tab_is a5 l5 rfl lc5 hv5
  obtain ⟨hd5, tb5⟩ := PySem.W.tab_of G.T X r5 t5
  have t12 := tab_is a12 l12 rfl lc12 hv12
  obtain ⟨hd12, tb12⟩ := PySem.W.tab_of G.T X r12 t12
  have t17 := tab_is a17 l17 rfl lc17 hv17
  obtain ⟨hd17, tb17⟩ := PySem.W.tab_of G.T X r17 t17
  have t43 := tab_is a43 l43 rfl lc43 hv43
  obtain ⟨hd43, tb43⟩ := PySem.W.tab_of G.T X r43 t43
  have DF : KDict K w aFo esFo nFo := ⟨LFo, litFo, lowFo⟩
  have hF : ∀ e : Ent, ∃ aS, KDct K w aFo e.word (.ref aS) ∧ ∀ H, SqT K H aS (e.sorts.map V.str) := fun e => by
    cases e
    · exact ⟨_, ⟨esFo, nFo, _, LFo, litFo, gFo1, rfl⟩, fun H => .inr ⟨_, _, _, LFo1, rfl, rfl, zFo1, vFo1⟩⟩
    · exact ⟨_, ⟨esFo, nFo, _, LFo, litFo, gFo2, rfl⟩, fun H => .inr ⟨_, _, _, LFo2, rfl, rfl, zFo2, vFo2⟩⟩
    · exact ⟨_, ⟨esFo, nFo, _, LFo, litFo, gFo3, rfl⟩, fun H => .inr ⟨_, _, _, LFo3, rfl, rfl, zFo3, vFo3⟩⟩
    · exact ⟨_, ⟨esFo, nFo, _, LFo, litFo, gFo4, rfl⟩, fun H => .inr ⟨_, _, _, LFo4, rfl, rfl, zFo4, vFo4⟩⟩
    · exact ⟨_, ⟨esFo, nFo, _, LFo, litFo, gFo5, rfl⟩, fun H => .inr ⟨_, _, _, LFo5, rfl, rfl, zFo5, vFo5⟩⟩
    · exact ⟨_, ⟨esFo, nFo, _, LFo, litFo, gFo6, rfl⟩, fun H => .inr ⟨_, _, _, LFo6, rfl, rfl, zFo6, vFo6⟩⟩
    · exact ⟨_, ⟨esFo, nFo, _, LFo, litFo, gFo7, rfl⟩, fun H => .inr ⟨_, _, _, LFo7, rfl, rfl, zFo7, vFo7⟩⟩
  have hB : ∀ x ∈ sorts4, ∃ aT, KDct K w aBo x (.ref aT) ∧ ∀ H, SqT K H aT [.int (bnd x).1, .int (bnd x).2] := fun x hx => by
    simp only [sorts4, List.mem_cons, List.not_mem_nil, or_false] at hx
    rcases hx with rfl | rfl | rfl | rfl
    · exact ⟨_, ⟨esBo, nBo, _, LBo, litBo, gBo1, rfl⟩, fun H => .inr ⟨_, _, _, LBo1, rfl, rfl, zBo1, vBo1⟩⟩
    · exact ⟨_, ⟨esBo, nBo, _, LBo, litBo, gBo2, rfl⟩, fun H => .inr ⟨_, _, _, LBo2, rfl, rfl, zBo2, vBo2⟩⟩
    · exact ⟨_, ⟨esBo, nBo, _, LBo, litBo, gBo3, rfl⟩, fun H => .inr ⟨_, _, _, LBo3, rfl, rfl, zBo3, vBo3⟩⟩
    · exact ⟨_, ⟨esBo, nBo, _, LBo, litBo, gBo4, rfl⟩, fun H => .inr ⟨_, _, _, LBo4, rfl, rfl, zBo4, vBo4⟩⟩
  have hR : ∀ e : Ent, KDct K w aRa e.word (.int e.rank) := fun e => by
    cases e
    · exact ⟨esRa, nRa, _, LRa, litRa, gRa1, ⟨_, rfl⟩⟩
    · exact ⟨esRa, nRa, _, LRa, litRa, gRa2, ⟨_, rfl⟩⟩
    · exact ⟨esRa, nRa, _, LRa, litRa, gRa3, ⟨_, rfl⟩⟩
    · exact ⟨esRa, nRa, _, LRa, litRa, gRa4, ⟨_, rfl⟩⟩
    · exact ⟨esRa, nRa, _, LRa, litRa, gRa5, ⟨_, rfl⟩⟩
    · exact ⟨esRa, nRa, _, LRa, litRa, gRa6, ⟨_, rfl⟩⟩
    · exact ⟨esRa, nRa, _, LRa, litRa, gRa7, ⟨_, rfl⟩⟩
  refine ⟨PySem.W.fnOf "law" "law" (defArgs sLaw) (defBody sLaw) (defScope sLaw) .none kV49 dc49 pm49 an49 cd49 ct49, [(c1, T1), (c3, T3), (c5, T5), (c12, T12), (c17, T17), (c43, T43)], spLaw K [T1, T3, T5, T12, T17] T43, fun p hp => ?_, fun p hp => ?_, fun p hp => ?_, fun s v => .of_eq rfl, fun H a ns hlen hbits hT hS => ?_, fun base _ _ TB => ?_⟩
  · simp only [List.mem_cons, List.not_mem_nil, or_false] at hp
    rcases hp with rfl | rfl | rfl | rfl | rfl | rfl
    · exact tb1
    · exact tb3
    · exact tb5
    · exact tb12
    · exact tb17
    · exact tb43
  · simp only [List.mem_cons, List.not_mem_nil, or_false] at hp
    rcases hp with rfl | rfl | rfl | rfl | rfl | rfl
    · exact nT1
    · exact nT3
    · exact nT5
    · exact nT12
    · exact nT17
    · exact nT43
  · simp only [List.mem_cons, List.not_mem_nil, or_false] at hp
    rcases hp with rfl | rfl | rfl | rfl | rfl | rfl
    · exact hd1
    · exact hd3
    · exact hd5
    · exact hd12
    · exact hd17
    · exact hd43
  · refine ⟨a, ns, rfl, hS, fun T hT' => ?_, LamX.TabS.nil (hT (c43, _) (by simp)), fun _ => rfl⟩
    simp only [List.mem_cons, List.not_mem_nil, or_false] at hT'
    rcases hT' with rfl | rfl | rfl | rfl | rfl
    · exact ⟨#[], hT (c1, _) (by simp), trivial⟩
    · exact ⟨#[], hT (c3, _) (by simp), trivial⟩
    · exact ⟨#[], hT (c5, _) (by simp), trivial⟩
    · exact ⟨#[], hT (c12, _) (by simp), trivial⟩
    · exact ⟨#[], hT (c17, _) (by simp), trivial⟩
  · have B1 := TB (c1, T1) (by simp)
    have B3 := TB (c3, T3) (by simp)
    have B5 := TB (c5, T5) (by simp)
    have B12 := TB (c12, T12) (by simp)
    have B17 := TB (c17, T17) (by simp)
    have B43 := TB (c43, T43) (by simp)
    have nPt : T43 ∉ [T1, T3, T5, T12, T17] := by
          simp only [List.mem_cons, List.not_mem_nil, or_false, not_or]
          exact ⟨fun z => ne143 z.symm, fun z => ne343 z.symm, fun z => ne543 z.symm, fun z => ne1243 z.symm, fun z => ne1743 z.symm⟩
    have XCd : Err K mg "Closed" cxCd := ⟨PySem.W.mg_of X Gg HCd, exCd, kpCd, sbCd, tyCd⟩
    have XTm : Err K mg "TooMany" cxTm := ⟨PySem.W.mg_of X Gg HTm, exTm, kpTm, sbTm, tyTm⟩
    have XNe : Err K mg "NoEntry" cxNe := ⟨PySem.W.mg_of X Gg HNe, exNe, kpNe, sbNe, tyNe⟩
    have XNn : Err K mg "NoName" cxNn := ⟨PySem.W.mg_of X Gg HNn, exNn, kpNn, sbNn, tyNn⟩
    have XNd : Err K mg "NoDay" cxNd := ⟨PySem.W.mg_of X Gg HNd, exNd, kpNd, sbNd, tyNd⟩
    have XNth : Err K mg "NoThen" cxNth := ⟨PySem.W.mg_of X Gg HNth, exNth, kpNth, sbNth, tyNth⟩
    have AG : AskG mg ⟨cxCd, cxTm, cxNe, cxNn, cxNd, cxNth⟩ ⟨cxCl, cxNf, cxNg, cxNgd, cxNh, cxNm, cxNp, cxNr, cxNt, cxNti, cxTw⟩ cE := ⟨PySem.W.mg_of X Gg HCd, PySem.W.mg_of X Gg HTm, PySem.W.mg_of X Gg HNe, PySem.W.mg_of X Gg HNn, PySem.W.mg_of X Gg HNd, PySem.W.mg_of X Gg HNth, PySem.W.mg_of X Gg HCl, PySem.W.mg_of X Gg HNf, PySem.W.mg_of X Gg HNg, PySem.W.mg_of X Gg HNgd, PySem.W.mg_of X Gg HNh, PySem.W.mg_of X Gg HNm, PySem.W.mg_of X Gg HNp, PySem.W.mg_of X Gg HNr, PySem.W.mg_of X Gg HNt, PySem.W.mg_of X Gg HNti, PySem.W.mg_of X Gg HTw, PySem.W.mg_of X Gg HE⟩
    have AF : AskF K ⟨cxCd, cxTm, cxNe, cxNn, cxNd, cxNth⟩ ⟨cxCl, cxNf, cxNg, cxNgd, cxNh, cxNm, cxNp, cxNr, cxNt, cxNti, cxTw⟩ cE := fun r hr => by
          cases r with
          | ok => exact absurd rfl hr
          | closed => exact ⟨⟨e1Cd, e2Cd, sbCd, e4Cd, e5Cd, e6, e7, e8Cd⟩, qCdCd, qCdTm, qCdNe, qCdNn, qCdNd, qCdNth, otCd, vCd, cmCd⟩
          | many => exact ⟨⟨e1Tm, e2Tm, sbTm, e4Tm, e5Tm, e6, e7, e8Tm⟩, qTmCd, qTmTm, qTmNe, qTmNn, qTmNd, qTmNth, otTm, vTm, cmTm⟩
          | entry => exact ⟨⟨e1Ne, e2Ne, sbNe, e4Ne, e5Ne, e6, e7, e8Ne⟩, qNeCd, qNeTm, qNeNe, qNeNn, qNeNd, qNeNth, otNe, vNe, cmNe⟩
          | name => exact ⟨⟨e1Nn, e2Nn, sbNn, e4Nn, e5Nn, e6, e7, e8Nn⟩, qNnCd, qNnTm, qNnNe, qNnNn, qNnNd, qNnNth, otNn, vNn, cmNn⟩
          | day => exact ⟨⟨e1Nd, e2Nd, sbNd, e4Nd, e5Nd, e6, e7, e8Nd⟩, qNdCd, qNdTm, qNdNe, qNdNn, qNdNd, qNdNth, otNd, vNd, cmNd⟩
          | then_ => exact ⟨⟨e1Nth, e2Nth, sbNth, e4Nth, e5Nth, e6, e7, e8Nth⟩, qNthCd, qNthTm, qNthNe, qNthNn, qNthNd, qNthNth, otNth, vNth, cmNth⟩
    have NM : DefT l.prog w K mg base "is_name" 1 f1 _ _ (spName K T1) := ⟨ok_name l1 c_1 ⟨B1.code, B1.bm, B1.gP⟩ n_isinstance n_str n_len n_all ⟨_, m_L⟩ ⟨_, m_N⟩, g1, k1, b1⟩
    have WH : DefT l.prog w K mg base "is_whole" 1 f2 _ _ (spWhole) := ⟨ok_whole F2 n_isinstance n_int n_bool, g2, k2, b2⟩
    have WHA : DefT l.prog w K mg base "is_whole" 1 f2 _ _ (spWholeA) := ⟨ok_wholeA F2 n_isinstance n_int n_bool, g2, k2, b2⟩
    have FI : DefT l.prog w K mg base "fits" 2 f4 _ _ (spFits T1) := ⟨ok_fits F4 NM WH m_Bo hB, g4, k4, b4⟩
    have FIA : DefT l.prog w K mg base "fits" 2 f4 _ _ (spFitsA T1) := ⟨ok_fitsA F4 NM WHA m_Bo hB, g4, k4, b4⟩
    have PO : DefT l.prog w K mg base "places_of" 1 f8 _ _ (spPlaces) := ⟨ok_placesOf F8, g8, k8, b8⟩
    have GO : DefT l.prog w K mg base "good_of" 1 f7 _ _ (spGood) := ⟨ok_good F7, g7, k7, b7⟩
    have DY : DefT l.prog w K mg base "day_of" 1 f6 _ _ (spDay) := ⟨ok_day F6 ⟨_, m_M⟩, g6, k6, b6⟩
    have IE : DefT l.prog w K mg base "is_entry" 4 f3 _ _ (spIsEntry T1 T3) := ⟨ok_isEntry l3 c_3 ⟨B3.code, B3.bm, B3.gP⟩ ne13 FI PO n_isinstance n_tuple n_len n_str n_all n_zip n_set m_Fo DF hF, g3, k3, b3⟩
    have IEA : DefT l.prog w K mg base "is_entry" 4 f3 _ _ (spIsEntryA T1 T3) := ⟨ok_isEntryA l3 c_3 ⟨B3.code, B3.bm, B3.gP⟩ ne13 FIA PO n_isinstance n_tuple n_len n_str n_all n_zip n_set m_Fo DF hF (forms_only LFo xFo), g3, k3, b3⟩
    have IO : DefT l.prog w K mg base "is_entry_of" 5 f5 _ _ (spIsEntryOf [T1, T3, T5, T12, T17]) := ⟨ok_isEntryOf l5 c_5 ⟨B5.code, B5.bm, B5.gP⟩ (by simp) (by simp) (by simp) IE GO PO n_all, g5, k5, b5⟩
    have IO1 : DefT l.prog w K mg base "is_entry_of" 5 f5 _ _ (spNoE1 [T1, T3, T5, T12, T17]) := ⟨ok_noEntry1 l5 c_5 ⟨B5.code, B5.bm, B5.gP⟩ (by simp) (by simp) (by simp) IEA GO PO n_all, g5, k5, b5⟩
    have ION : DefT l.prog w K mg base "is_entry_of" 5 f5 _ _ (spNoEntryOf [T1, T3, T5, T12, T17]) := ⟨(FnOk.or IO.ok IO1.ok).imp fun _ _ _ _ h => noE_split h, g5, k5, b5⟩
    have RN : DefT l.prog w K mg base "rising_names" 3 f12 _ _ (spRising [T1, T3, T5, T12, T17]) := ⟨ok_rising l12 c_12 ⟨B12.code, B12.bm, B12.gP⟩ (by simp) (by simp) NM n_isinstance n_list n_tuple n_len n_all n_sorted n_set, g12, k12, b12⟩
    have OR : DefT l.prog w K mg base "order_of" 1 f9 _ _ (spOrd) := ⟨ok_ord F9 m_Ra hR, g9, k9, b9⟩
    have IN : DefT l.prog w K mg base "in_order" 4 f14 _ _ (spInOrder) := ⟨ok_inOrder F14 OR n_sorted n_tuple, g14, k14, b14⟩
    have OE : DefT l.prog w K mg base "own_entries" 6 f13 _ _ (spOwnEnts [T1, T3, T5, T12, T17]) := ⟨ok_ownEnts F13 IO IN n_isinstance n_list n_tuple n_len ⟨_, m_ME⟩, g13, k13, b13⟩
    have HO : DefT l.prog w K mg base "house_of" 7 f11 _ _ (spHouseOf [T1, T3, T5, T12, T17]) := ⟨ok_houseOf F11 RN OE ⟨_, m_MP⟩ ⟨_, m_MG⟩, g11, k11, b11⟩
    have WM : DefT l.prog w K mg base "with_moment" 1 f10 _ _ (spWithM) := ⟨ok_withM F10, g10, k10, b10⟩
    have SG : DefT l.prog w K mg base "standing" 5 f16 _ _ (spStanding) := ⟨ok_standing F16 IN WM, g16, k16, b16⟩
    have ST : DefT l.prog w K mg base "start" 8 f15 _ _ (spStart [T1, T3, T5, T12, T17]) := ⟨ok_start F15 HO, g15, k15, b15⟩
    have ST0 : DefT l.prog w K mg base "start" 8 f15 _ _ (spStart0 [T1, T3, T5, T12, T17] T43) := ⟨ST.ok.imp fun _ _ _ _ h => start0 h, g15, k15, b15⟩
    have IC : DefT l.prog w K mg base "is_closed" 2 f19 _ _ (spIsClosedX) := ⟨ok_isClosedX F19 DY, g19, k19, b19⟩
    have TS : DefX l.prog w K mg base "moment_to_stand" 3 f18 _ _ (spToStandX ⟨cxCd, cxTm, cxNe, cxNn, cxNd, cxNth⟩) := ⟨ok_toStandX F18 IC XCd (PySem.W.mg_of X Gg HTU) (fun H => .inr ⟨_, _, _, LTU, rfl, rfl, zTU, vTU⟩) ⟨_, m_LD⟩ ⟨_, m_M⟩, g18, k18, b18⟩
    have ID : DefT l.prog w K mg base "in_closed_days" 6 f20 _ _ (spInClosedX) := ⟨ok_inClosedX F20 SG IC, g20, k20, b20⟩
    have AL : DefX l.prog w K mg base "allowed" 7 f21 _ _ (spAllowedX ⟨cxCd, cxTm, cxNe, cxNn, cxNd, cxNth⟩) := ⟨ok_allowedX F21 SG ID XCd XTm n_len ⟨_, m_MF⟩ ⟨_, m_MB⟩ ⟨_, m_ME⟩, g21, k21, b21⟩
    have ENT : DefX l.prog w K mg base "entered" 8 f17 _ _ (spEnteredX ⟨cxCd, cxTm, cxNe, cxNn, cxNd, cxNth⟩ [T1, T3, T5, T12, T17]) := ⟨ok_enteredX l17 c_17 ⟨B17.code, B17.bm, B17.gP⟩ (by simp) IO TS AL XNe n_any n_tuple n_sorted, g17, k17, b17⟩
    have ENN : DefX l.prog w K mg base "entered" 8 f17 _ _ (spEnteredNo ⟨cxCd, cxTm, cxNe, cxNn, cxNd, cxNth⟩ [T1, T3, T5, T12, T17]) := ⟨ok_enteredNo l17 c_17 ⟨B17.code, B17.bm, B17.gP⟩ (by simp) ION TS AL XNe n_any n_tuple n_sorted, g17, k17, b17⟩
    have TK : DefX l.prog w K mg base "taken_back" 8 f22 _ _ (spTakenX ⟨cxCd, cxTm, cxNe, cxNn, cxNd, cxNth⟩ [T1, T3, T5, T12, T17]) := ⟨ok_takenX F22 (by simp) NM AL XNn n_tuple n_sorted, g22, k22, b22⟩
    have IY : DefT l.prog w K mg base "is_day" 2 f24 _ _ (spIsDay) := ⟨ok_isDay F24 WH ⟨_, m_LD⟩, g24, k24, b24⟩
    have CB : DefX l.prog w K mg base "closed_by" 3 f23 _ _ (spClosedByX ⟨cxCd, cxTm, cxNe, cxNn, cxNd, cxNth⟩) := ⟨ok_closedByX F23 IY XNd (PySem.W.mg_of X Gg HMD) (fun H => .inr ⟨_, _, _, LMD, rfl, rfl, zMD, vMD⟩), g23, k23, b23⟩
    have GP : DefT l.prog w K mg base "_law_pen" 1 f25 _ _ (spPen K) := ⟨ok_pen F25 n_list, g25, k25, b25⟩
    have TT : DefT l.prog w K mg base "_law_draw" 1 f26 _ _ (spDraw) := ⟨ok_draw F26 n_len n_abs, g26, k26, b26⟩
    have W : DefT l.prog w K mg base "_law_words" 2 f27 _ _ (spWords) := ⟨ok_words F27 TT n_range, g27, k27, b27⟩
    have LN : DefT l.prog w K mg base "_law_name" 1 f28 _ _ (spLName) := ⟨ok_lname F28, g28, k28, b28⟩
    have LS : DefT l.prog w K mg base "_law_stand" 2 f29 _ _ (spLStand) := ⟨ok_lstand F29 TT LN n_range n_sorted n_tuple, g29, k29, b29⟩
    have MO : DefT l.prog w K mg base "_law_moment" 2 f30 _ _ (spMoment) := ⟨ok_moment F30 TT, g30, k30, b30⟩
    have MY : DefT l.prog w K mg base "_law_many" 2 f31 _ _ (spMany) := ⟨ok_many F31 TT, g31, k31, b31⟩
    have EE : DefT l.prog w K mg base "_law_entry" 3 f32 _ _ (spEntry) := ⟨ok_entry F32 TT LN MO MY n_len n_int n_max, g32, k32, b32⟩
    have AS : AskD K mg ⟨cxCd, cxTm, cxNe, cxNn, cxNd, cxNth⟩ ⟨cxCl, cxNf, cxNg, cxNgd, cxNh, cxNm, cxNp, cxNr, cxNt, cxNti, cxTw⟩ cE f36 _ _ _ _ _ _ _ _ _ := ⟨l36, c_36, g36, k36, b36, AG, AF, n_isinstance, n_ValueError⟩
    have SM : DefT l.prog w K mg base "_law_same" 5 f33 _ _ (spSame K 4) := ⟨ok_same F33 g33 k33 b33 n_isinstance n_list n_tuple n_bool n_len n_all n_zip 4, g33, k33, b33⟩
    have OD : DefT l.prog w K mg base "_law_order" 1 f34 _ _ (spOrd) := ⟨ok_own F34 n_int, g34, k34, b34⟩
    have LSG : DefT l.prog w K mg base "_law_standing" 4 f35 _ _ (spLStanding) := ⟨ok_lstanding F35 OD n_sorted n_tuple, g35, k35, b35⟩
    have IYA : DefT l.prog w K mg base "is_day" 2 f24 _ _ (spIsDayA) := ⟨ok_isDayA F24 WHA ⟨_, m_LD⟩, g24, k24, b24⟩
    have CBN : DefX l.prog w K mg base "closed_by" 3 f23 _ _ (spClosedNo ⟨cxCd, cxTm, cxNe, cxNn, cxNd, cxNth⟩) := ⟨ok_closedNo F23 IYA XNd (PySem.W.mg_of X Gg HMD) (fun H => .inr ⟨_, _, _, LMD, rfl, rfl, zMD, vMD⟩), g23, k23, b23⟩
    have TKN : DefX l.prog w K mg base "taken_back" 8 f22 _ _ (spTakenNo ⟨cxCd, cxTm, cxNe, cxNn, cxNd, cxNth⟩ [T1, T3, T5, T12, T17]) := ⟨ok_takenNo F22 (by simp) NM AL XNn n_tuple n_sorted, g22, k22, b22⟩
    have TOB : DefT l.prog w K mg base "_law_told_by" 11 f43 _ _ (spToldBy [T1, T3, T5, T12, T17] T43) := ⟨ok_toldBy l43 c_43 B43 nPt AS CB TK ENT, g43, k43, b43⟩
    have TON : DefT l.prog w K mg base "_law_told_by" 11 f43 _ _ (spToldNo [T1, T3, T5, T12, T17] T43) := ⟨ok_toldNo l43 c_43 B43 nPt AS CBN TKN ENN, g43, k43, b43⟩
    have TO : DefT l.prog w K mg base "_law_told_by" 11 f43 _ _ (fun vs H Q E => spToldBy [T1, T3, T5, T12, T17] T43 vs H Q E ∨ spToldNo [T1, T3, T5, T12, T17] T43 vs H Q E) := ⟨FnOk.or TOB.ok TON.ok, g43, k43, b43⟩
    have LMO : DefT l.prog w K mg base "_law_model" 1 f42 _ _ (spLModel) := ⟨ok_lmodel F42, g42, k42, b42⟩
    have LST : DefT l.prog w K mg base "_law_state" 1 f41 _ _ (spLState) := ⟨ok_lstate F41 n_tuple, g41, k41, b41⟩
    have LCO : DefT l.prog w K mg base "_law_closed_ones" 5 f37 _ _ (spLClosedOnes) := ⟨ok_lclosed F37 LSG, g37, k37, b37⟩
    have LMF : DefT l.prog w K mg base "_law_moment_for" 1 f38 _ _ (spLMomFor) := ⟨ok_lmomfor F38, g38, k38, b38⟩
    have LDO : DefT l.prog w K mg base "_law_done" 6 f39 _ _ (spLDone) := ⟨ok_ldone F39 LCO LMF LSG n_dict n_sorted n_len, g39, k39, b39⟩
    have LDE : DefT l.prog w K mg base "_law_deed" 4 f40 _ _ (spLDeed) := ⟨ok_ldeed F40 TT EE LN n_len n_max, g40, k40, b40⟩
    have ON : DefT l.prog w K mg base "_law_odd_names" 1 f44 _ _ (spOddN) := ⟨ok_oddN F44, g44, k44, b44⟩
    have OP : DefT l.prog w K mg base "_law_odd_parts" 2 f45 _ _ (spOddP) := ⟨ok_oddP F45 LN ON n_int, g45, k45, b45⟩
    have OEE : DefT l.prog w K mg base "_law_odd_entry" 3 f46 _ _ (spOddE) := ⟨ok_oddE F46 TT OP n_len n_list, g46, k46, b46⟩
    have DR : DefT l.prog w K mg base "_law_days_right" 12 f48 _ _ (spDays [T1, T3, T5, T12, T17] T43) := ⟨ok_days F48 TT TO, g48, k48, b48⟩
    have BE : DefT l.prog w K mg base "_law_begun" 12 f47 _ _ (spBegun [T1, T3, T5, T12, T17] T43) := ⟨ok_begun F47 ST0 LMO LDE LDO TO n_range n_isinstance n_str, g47, k47, b47⟩
    exact ok_law F49 nPt GP TT W LS BE LST EE OEE ON TO DR SM LDO n_range n_isinstance n_str
end Shelf
open PySem PySem.W PyProof.Rows
set_option maxHeartbeats 0 in
theorem PySem.Challenge.cw_shelfcounts_k53_what_is_none_is_refused_holds : PySem.Challenge.rw_shelfcounts_k53_what_is_none_is_refused.Holds := by
  w_on; o_law; k_head; (case hw => w_witness2)
  k_fill
  refine Shelf.end_T (l := PySem.Challenge.rw_shelfcounts_k53_what_is_none_is_refused) (n := 63) (k := 13) (x := "_law_script") (CX := fun _ => L2.CX0) rfl (by decide) rfl ⟨rfl, by decide, by decide⟩ (fun w h Y => PySem.W.km_in_of Y) ?F (fun _ _ _ _ _ h => h)
  case F =>
    intro w s0 mg mb fa h G KX hmg
    refine' Shelf.all_mk G KX hmg ?a1 ?l1 ?c_1 ?k1 ?lc1 ?hv1 ?nT1 ?r1 ?a2 ?l2 ?c_2 ?k2 ?a3 ?l3 ?c_3 ?k3 ?lc3 ?hv3 ?nT3 ?r3 ?a4 ?l4 ?c_4 ?k4 ?a5 ?l5 ?c_5 ?k5 ?lc5 ?hv5 ?nT5 ?r5 ?a6 ?l6 ?c_6 ?k6 ?a7 ?l7 ?c_7 ?k7 ?a8 ?l8 ?c_8 ?k8 ?a9 ?l9 ?c_9 ?k9 ?a10 ?l10 ?c_10 ?k10 ?a11 ?l11 ?c_11 ?k11 ?a12 ?l12 ?c_12 ?k12 ?lc12 ?hv12 ?nT12 ?r12 ?a13 ?l13 ?c_13 ?k13 ?a14 ?l14 ?c_14 ?k14 ?a15 ?l15 ?c_15 ?k15 ?a16 ?l16 ?c_16 ?k16 ?a17 ?l17 ?c_17 ?k17 ?lc17 ?hv17 ?nT17 ?r17 ?a18 ?l18 ?c_18 ?k18 ?a19 ?l19 ?c_19 ?k19 ?a20 ?l20 ?c_20 ?k20 ?a21 ?l21 ?c_21 ?k21 ?a22 ?l22 ?c_22 ?k22 ?a23 ?l23 ?c_23 ?k23 ?a24 ?l24 ?c_24 ?k24 ?a25 ?l25 ?c_25 ?k25 ?a26 ?l26 ?c_26 ?k26 ?a27 ?l27 ?c_27 ?k27 ?a28 ?l28 ?c_28 ?k28 ?a29 ?l29 ?c_29 ?k29 ?a30 ?l30 ?c_30 ?k30 ?a31 ?l31 ?c_31 ?k31 ?a32 ?l32 ?c_32 ?k32 ?a33 ?l33 ?c_33 ?k33 ?a34 ?l34 ?c_34 ?k34 ?a35 ?l35 ?c_35 ?k35 ?a36 ?l36 ?c_36 ?k36 ?a37 ?l37 ?c_37 ?k37 ?a38 ?l38 ?c_38 ?k38 ?a39 ?l39 ?c_39 ?k39 ?a40 ?l40 ?c_40 ?k40 ?a41 ?l41 ?c_41 ?k41 ?a42 ?l42 ?c_42 ?k42 ?a43 ?l43 ?c_43 ?k43 ?lc43 ?hv43 ?nT43 ?r43 ?a44 ?l44 ?c_44 ?k44 ?a45 ?l45 ?c_45 ?k45 ?a46 ?l46 ?c_46 ?k46 ?a47 ?l47 ?c_47 ?k47 ?a48 ?l48 ?c_48 ?k48 ?a49 ?l49 ?c_49 ?k49 ?ne13 ?ne15 ?ne35 ?ne112 ?ne312 ?ne512 ?ne117 ?ne317 ?ne517 ?ne1217 ?ne143 ?ne343 ?ne543 ?ne1243 ?ne1743 ?AFo ?LFo ?litFo ?lowFo ?gFo1 ?LFo1 ?zFo1 ?vFo1 ?gFo2 ?LFo2 ?zFo2 ?vFo2 ?gFo3 ?LFo3 ?zFo3 ?vFo3 ?gFo4 ?LFo4 ?zFo4 ?vFo4 ?gFo5 ?LFo5 ?zFo5 ?vFo5 ?gFo6 ?LFo6 ?zFo6 ?vFo6 ?gFo7 ?LFo7 ?zFo7 ?vFo7 ?ABo ?LBo ?litBo ?lowBo ?gBo1 ?LBo1 ?zBo1 ?vBo1 ?gBo2 ?LBo2 ?zBo2 ?vBo2 ?gBo3 ?LBo3 ?zBo3 ?vBo3 ?gBo4 ?LBo4 ?zBo4 ?vBo4 ?ARa ?LRa ?litRa ?lowRa ?gRa1 ?gRa2 ?gRa3 ?gRa4 ?gRa5 ?gRa6 ?gRa7 ?zL ?zN ?zM ?zMP ?zMG ?zME ?zMF ?zMB ?zLD ?HE ?HTU ?HMD ?LTU ?zTU ?vTU ?LMD ?zMD ?vMD ?HCd ?HTm ?HNe ?HNn ?HNd ?HNth ?HCl ?HNf ?HNg ?HNgd ?HNh ?HNm ?HNp ?HNr ?HNt ?HNti ?HTw ?e6 ?e7 ?exCd ?kpCd ?sbCd ?tyCd ?e1Cd ?e2Cd ?e4Cd ?e5Cd ?e8Cd ?qCdCd ?qCdTm ?qCdNe ?qCdNn ?qCdNd ?qCdNth ?otCd ?vCd ?cmCd ?exTm ?kpTm ?sbTm ?tyTm ?e1Tm ?e2Tm ?e4Tm ?e5Tm ?e8Tm ?qTmCd ?qTmTm ?qTmNe ?qTmNn ?qTmNd ?qTmNth ?otTm ?vTm ?cmTm ?exNe ?kpNe ?sbNe ?tyNe ?e1Ne ?e2Ne ?e4Ne ?e5Ne ?e8Ne ?qNeCd ?qNeTm ?qNeNe ?qNeNn ?qNeNd ?qNeNth ?otNe ?vNe ?cmNe ?exNn ?kpNn ?sbNn ?tyNn ?e1Nn ?e2Nn ?e4Nn ?e5Nn ?e8Nn ?qNnCd ?qNnTm ?qNnNe ?qNnNn ?qNnNd ?qNnNth ?otNn ?vNn ?cmNn ?exNd ?kpNd ?sbNd ?tyNd ?e1Nd ?e2Nd ?e4Nd ?e5Nd ?e8Nd ?qNdCd ?qNdTm ?qNdNe ?qNdNn ?qNdNd ?qNdNth ?otNd ?vNd ?cmNd ?exNth ?kpNth ?sbNth ?tyNth ?e1Nth ?e2Nth ?e4Nth ?e5Nth ?e8Nth ?qNthCd ?qNthTm ?qNthNe ?qNthNn ?qNthNd ?qNthNth ?otNth ?vNth ?cmNth ?xFo ?y_abs ?y_all ?y_any ?y_bool ?y_dict ?y_int ?y_isinstance ?y_len ?y_list ?y_max ?y_range ?y_set ?y_sorted ?y_str ?y_tuple ?y_zip ?y_ValueError
    (case a1 => k_is); (case l1 => k_is); (case c_1 => k_is); (case k1 => k_is); (case lc1 => k_is); (case hv1 => rfl)
    (case nT1 => kernel_rfl); (case r1 => rfl); (case a2 => k_is); (case l2 => k_is); (case c_2 => k_is); (case k2 => k_is)
    (case a3 => k_is); (case l3 => k_is); (case c_3 => k_is); (case k3 => k_is); (case lc3 => k_is); (case hv3 => rfl)
    (case nT3 => kernel_rfl); (case r3 => rfl); (case a4 => k_is); (case l4 => k_is); (case c_4 => k_is); (case k4 => k_is)
    (case a5 => k_is); (case l5 => k_is); (case c_5 => k_is); (case k5 => k_is); (case lc5 => k_is); (case hv5 => rfl)
    (case nT5 => kernel_rfl); (case r5 => rfl); (case a6 => k_is); (case l6 => k_is); (case c_6 => k_is); (case k6 => k_is)
    (case a7 => k_is); (case l7 => k_is); (case c_7 => k_is); (case k7 => k_is); (case a8 => k_is); (case l8 => k_is)
    (case c_8 => k_is); (case k8 => k_is); (case a9 => k_is); (case l9 => k_is); (case c_9 => k_is); (case k9 => k_is)
    (case a10 => k_is); (case l10 => k_is); (case c_10 => k_is); (case k10 => k_is); (case a11 => k_is); (case l11 => k_is)
    (case c_11 => k_is); (case k11 => k_is); (case a12 => k_is); (case l12 => k_is); (case c_12 => k_is); (case k12 => k_is)
    (case lc12 => k_is); (case hv12 => rfl); (case nT12 => kernel_rfl); (case r12 => rfl); (case a13 => k_is); (case l13 => k_is)
    (case c_13 => k_is); (case k13 => k_is); (case a14 => k_is); (case l14 => k_is); (case c_14 => k_is); (case k14 => k_is)
    (case a15 => k_is); (case l15 => k_is); (case c_15 => k_is); (case k15 => k_is); (case a16 => k_is); (case l16 => k_is)
    (case c_16 => k_is); (case k16 => k_is); (case a17 => k_is); (case l17 => k_is); (case c_17 => k_is); (case k17 => k_is)
    (case lc17 => k_is); (case hv17 => rfl); (case nT17 => kernel_rfl); (case r17 => rfl); (case a18 => k_is); (case l18 => k_is)
    (case c_18 => k_is); (case k18 => k_is); (case a19 => k_is); (case l19 => k_is); (case c_19 => k_is); (case k19 => k_is)
    (case a20 => k_is); (case l20 => k_is); (case c_20 => k_is); (case k20 => k_is); (case a21 => k_is); (case l21 => k_is)
    (case c_21 => k_is); (case k21 => k_is); (case a22 => k_is); (case l22 => k_is); (case c_22 => k_is); (case k22 => k_is)
    (case a23 => k_is); (case l23 => k_is); (case c_23 => k_is); (case k23 => k_is); (case a24 => k_is); (case l24 => k_is)
    (case c_24 => k_is); (case k24 => k_is); (case a25 => k_is); (case l25 => k_is); (case c_25 => k_is); (case k25 => k_is)
    (case a26 => k_is); (case l26 => k_is); (case c_26 => k_is); (case k26 => k_is); (case a27 => k_is); (case l27 => k_is)
    (case c_27 => k_is); (case k27 => k_is); (case a28 => k_is); (case l28 => k_is); (case c_28 => k_is); (case k28 => k_is)
    (case a29 => k_is); (case l29 => k_is); (case c_29 => k_is); (case k29 => k_is); (case a30 => k_is); (case l30 => k_is)
    (case c_30 => k_is); (case k30 => k_is); (case a31 => k_is); (case l31 => k_is); (case c_31 => k_is); (case k31 => k_is)
    (case a32 => k_is); (case l32 => k_is); (case c_32 => k_is); (case k32 => k_is); (case a33 => k_is); (case l33 => k_is)
    (case c_33 => k_is); (case k33 => k_is); (case a34 => k_is); (case l34 => k_is); (case c_34 => k_is); (case k34 => k_is)
    (case a35 => k_is); (case l35 => k_is); (case c_35 => k_is); (case k35 => k_is); (case a36 => k_is); (case l36 => k_is)
    (case c_36 => k_is); (case k36 => k_is); (case a37 => k_is); (case l37 => k_is); (case c_37 => k_is); (case k37 => k_is)
    (case a38 => k_is); (case l38 => k_is); (case c_38 => k_is); (case k38 => k_is); (case a39 => k_is); (case l39 => k_is)
    (case c_39 => k_is); (case k39 => k_is); (case a40 => k_is); (case l40 => k_is); (case c_40 => k_is); (case k40 => k_is)
    (case a41 => k_is); (case l41 => k_is); (case c_41 => k_is); (case k41 => k_is); (case a42 => k_is); (case l42 => k_is)
    (case c_42 => k_is); (case k42 => k_is); (case a43 => k_is); (case l43 => k_is); (case c_43 => k_is); (case k43 => k_is)
    (case lc43 => k_is); (case hv43 => rfl); (case nT43 => kernel_rfl); (case r43 => rfl); (case a44 => k_is); (case l44 => k_is)
    (case c_44 => k_is); (case k44 => k_is); (case a45 => k_is); (case l45 => k_is); (case c_45 => k_is); (case k45 => k_is)
    (case a46 => k_is); (case l46 => k_is); (case c_46 => k_is); (case k46 => k_is); (case a47 => k_is); (case l47 => k_is)
    (case c_47 => k_is); (case k47 => k_is); (case a48 => k_is); (case l48 => k_is); (case c_48 => k_is); (case k48 => k_is)
    (case a49 => k_is); (case l49 => k_is); (case c_49 => k_is); (case k49 => k_is); (case ne13 => decide); (case ne15 => decide)
    (case ne35 => decide); (case ne112 => decide); (case ne312 => decide); (case ne512 => decide); (case ne117 => decide); (case ne317 => decide)
    (case ne517 => decide); (case ne1217 => decide); (case ne143 => decide); (case ne343 => decide); (case ne543 => decide); (case ne1243 => decide)
    (case ne1743 => decide); (case AFo => k_is); (case LFo => k_is); (case litFo => repeat' (first | exact True.intro | refine ⟨⟨_, _, rfl, rfl⟩, ?_⟩)); (case lowFo => rfl); (case gFo1 => k_is)
    (case LFo1 => k_is); (case zFo1 => decide); (case vFo1 => repeat' (first | exact .nil | refine .cons ⟨_, rfl⟩ ?_)); (case gFo2 => k_is); (case LFo2 => k_is); (case zFo2 => decide)
    (case vFo2 => repeat' (first | exact .nil | refine .cons ⟨_, rfl⟩ ?_)); (case gFo3 => k_is); (case LFo3 => k_is); (case zFo3 => decide); (case vFo3 => repeat' (first | exact .nil | refine .cons ⟨_, rfl⟩ ?_)); (case gFo4 => k_is)
    (case LFo4 => k_is); (case zFo4 => decide); (case vFo4 => repeat' (first | exact .nil | refine .cons ⟨_, rfl⟩ ?_)); (case gFo5 => k_is); (case LFo5 => k_is); (case zFo5 => decide)
    (case vFo5 => repeat' (first | exact .nil | refine .cons ⟨_, rfl⟩ ?_)); (case gFo6 => k_is); (case LFo6 => k_is); (case zFo6 => decide); (case vFo6 => repeat' (first | exact .nil | refine .cons ⟨_, rfl⟩ ?_)); (case gFo7 => k_is)
    (case LFo7 => k_is); (case zFo7 => decide); (case vFo7 => repeat' (first | exact .nil | refine .cons ⟨_, rfl⟩ ?_)); (case ABo => k_is); (case LBo => k_is); (case litBo => repeat' (first | exact True.intro | refine ⟨⟨_, _, rfl, rfl⟩, ?_⟩))
    (case lowBo => rfl); (case gBo1 => k_is); (case LBo1 => k_is); (case zBo1 => decide); (case vBo1 => repeat' (first | exact .nil | refine .cons ⟨_, rfl⟩ ?_)); (case gBo2 => k_is)
    (case LBo2 => k_is); (case zBo2 => decide); (case vBo2 => repeat' (first | exact .nil | refine .cons ⟨_, rfl⟩ ?_)); (case gBo3 => k_is); (case LBo3 => k_is); (case zBo3 => decide)
    (case vBo3 => repeat' (first | exact .nil | refine .cons ⟨_, rfl⟩ ?_)); (case gBo4 => k_is); (case LBo4 => k_is); (case zBo4 => decide); (case vBo4 => repeat' (first | exact .nil | refine .cons ⟨_, rfl⟩ ?_)); (case ARa => k_is)
    (case LRa => k_is); (case litRa => repeat' (first | exact True.intro | refine ⟨⟨_, _, rfl, rfl⟩, ?_⟩)); (case lowRa => rfl); (case gRa1 => k_is); (case gRa2 => k_is); (case gRa3 => k_is)
    (case gRa4 => k_is); (case gRa5 => k_is); (case gRa6 => k_is); (case gRa7 => k_is); (case zL => k_is); (case zN => k_is)
    (case zM => k_is); (case zMP => k_is); (case zMG => k_is); (case zME => k_is); (case zMF => k_is); (case zMB => k_is)
    (case zLD => k_is); (case HE => k_is); (case HTU => k_is); (case HMD => k_is); (case LTU => k_is); (case zTU => decide)
    (case vTU => repeat' (first | exact .nil | refine .cons ⟨_, rfl⟩ ?_)); (case LMD => k_is); (case zMD => decide); (case vMD => repeat' (first | exact .nil | refine .cons ⟨_, rfl⟩ ?_)); (case HCd => k_is); (case HTm => k_is)
    (case HNe => k_is); (case HNn => k_is); (case HNd => k_is); (case HNth => k_is); (case HCl => k_is); (case HNf => k_is)
    (case HNg => k_is); (case HNgd => k_is); (case HNh => k_is); (case HNm => k_is); (case HNp => k_is); (case HNr => k_is)
    (case HNt => k_is); (case HNti => k_is); (case HTw => k_is); (case e6 => k_is); (case e7 => k_is); (case exCd => k_exc)
    (case kpCd => k_is); (case sbCd => k_is); (case tyCd => k_is); (case e1Cd => k_is); (case e2Cd => k_is); (case e4Cd => k_is)
    (case e5Cd => k_is); (case e8Cd => k_is); (case qCdCd => kernel_rfl); (case qCdTm => kernel_rfl); (case qCdNe => kernel_rfl); (case qCdNn => kernel_rfl)
    (case qCdNd => kernel_rfl); (case qCdNth => kernel_rfl); (case otCd => kernel_rfl); (case vCd => kernel_rfl); (case cmCd => kernel_rfl); (case exTm => k_exc)
    (case kpTm => k_is); (case sbTm => k_is); (case tyTm => k_is); (case e1Tm => k_is); (case e2Tm => k_is); (case e4Tm => k_is)
    (case e5Tm => k_is); (case e8Tm => k_is); (case qTmCd => kernel_rfl); (case qTmTm => kernel_rfl); (case qTmNe => kernel_rfl); (case qTmNn => kernel_rfl)
    (case qTmNd => kernel_rfl); (case qTmNth => kernel_rfl); (case otTm => kernel_rfl); (case vTm => kernel_rfl); (case cmTm => kernel_rfl); (case exNe => k_exc)
    (case kpNe => k_is); (case sbNe => k_is); (case tyNe => k_is); (case e1Ne => k_is); (case e2Ne => k_is); (case e4Ne => k_is)
    (case e5Ne => k_is); (case e8Ne => k_is); (case qNeCd => kernel_rfl); (case qNeTm => kernel_rfl); (case qNeNe => kernel_rfl); (case qNeNn => kernel_rfl)
    (case qNeNd => kernel_rfl); (case qNeNth => kernel_rfl); (case otNe => kernel_rfl); (case vNe => kernel_rfl); (case cmNe => kernel_rfl); (case exNn => k_exc)
    (case kpNn => k_is); (case sbNn => k_is); (case tyNn => k_is); (case e1Nn => k_is); (case e2Nn => k_is); (case e4Nn => k_is)
    (case e5Nn => k_is); (case e8Nn => k_is); (case qNnCd => kernel_rfl); (case qNnTm => kernel_rfl); (case qNnNe => kernel_rfl); (case qNnNn => kernel_rfl)
    (case qNnNd => kernel_rfl); (case qNnNth => kernel_rfl); (case otNn => kernel_rfl); (case vNn => kernel_rfl); (case cmNn => kernel_rfl); (case exNd => k_exc)
    (case kpNd => k_is); (case sbNd => k_is); (case tyNd => k_is); (case e1Nd => k_is); (case e2Nd => k_is); (case e4Nd => k_is)
    (case e5Nd => k_is); (case e8Nd => k_is); (case qNdCd => kernel_rfl); (case qNdTm => kernel_rfl); (case qNdNe => kernel_rfl); (case qNdNn => kernel_rfl)
    (case qNdNd => kernel_rfl); (case qNdNth => kernel_rfl); (case otNd => kernel_rfl); (case vNd => kernel_rfl); (case cmNd => kernel_rfl); (case exNth => k_exc)
    (case kpNth => k_is); (case sbNth => k_is); (case tyNth => k_is); (case e1Nth => k_is); (case e2Nth => k_is); (case e4Nth => k_is)
    (case e5Nth => k_is); (case e8Nth => k_is); (case qNthCd => kernel_rfl); (case qNthTm => kernel_rfl); (case qNthNe => kernel_rfl); (case qNthNn => kernel_rfl)
    (case qNthNd => kernel_rfl); (case qNthNth => kernel_rfl); (case otNth => kernel_rfl); (case vNth => kernel_rfl); (case cmNth => kernel_rfl); (case xFo => rfl)
    (case y_abs => k_is); (case y_all => k_is); (case y_any => k_is); (case y_bool => k_is); (case y_dict => k_is); (case y_int => k_is)
    (case y_isinstance => k_is); (case y_len => k_is); (case y_list => k_is); (case y_max => k_is); (case y_range => k_is); (case y_set => k_is)
    (case y_sorted => k_is); (case y_str => k_is); (case y_tuple => k_is); (case y_zip => k_is); (case y_ValueError => k_is)

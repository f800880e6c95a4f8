import PyProof.Rows.All
import Wide.All
import OpenK.AllK
import Wide.FinOn
import HandS.ForMost
import HandS.AnyAll
import HandS.IsInst
import HandS.Style
import HandS.EndTab
import HandS.Codes
import HandS.GenOver
import HandS.Strs
import HandS.Zip
import HandS.Walk
import HandS.More
import KE.KEqSeq
import HandS.SortKw
import HandS.Keys
import HandS.ExcValue
import HandS.TupAny
import HandS.DictComp
import KE.SortKeyHeap
import KE.KRevSl
import PyProof.DictUpdate
import PyProof.DictDisplay
import PyProof.DictValues
import HandS.SetTxt0
import HandS.Set
import KE.KDictList
import PyProof.MeetsDict
import PySem.Challenge.RW_shelfcounts_k70_called_otherwise
import HandS.Conv
import KE.KDictZip
import HandS.ListItems
set_option Elab.async false
set_option linter.all false
set_option maxRecDepth 100000
namespace Shelf
open PySem PySem.Spec PyProof.Rows L2
def topS (i : Nat) : Stmt := PySem.Challenge.pw_shelfcounts_k70_called_otherwise.main.body.getD i (.Pass ⟨0, 0, 0, 0⟩)
abbrev sName : Stmt := topS 3
abbrev sWhole : Stmt := topS 4
abbrev sIsEntry : Stmt := topS 9
abbrev sFits : Stmt := topS 10
abbrev sIsEntryOf : Stmt := topS 11
abbrev sGood : Stmt := topS 12
abbrev sPlacesOf : Stmt := topS 13
abbrev sOrd : Stmt := topS 14
abbrev sWithNm : Stmt := topS 15
abbrev sWithGd : Stmt := topS 16
abbrev sWithPlaces : Stmt := topS 17
abbrev sHouseOf : Stmt := topS 26
abbrev sRising : Stmt := topS 27
abbrev sOwnEnts : Stmt := topS 28
abbrev sInOrder : Stmt := topS 29
abbrev sCalledO : Stmt := topS 31
abbrev sRefuse : Stmt := topS 32
abbrev sAllO : Stmt := topS 33
abbrev sEntO : Stmt := topS 34
abbrev sPen : Stmt := topS 36
abbrev sDraw : Stmt := topS 37
abbrev sWords : Stmt := topS 38
abbrev sLName : Stmt := topS 39
abbrev sLStand : Stmt := topS 40
abbrev sMoment : Stmt := topS 41
abbrev sMany : Stmt := topS 42
abbrev sEntry : Stmt := topS 43
abbrev sSame : Stmt := topS 44
abbrev sOwn : Stmt := topS 45
abbrev sCalledBy : Stmt := topS 46
abbrev sEntSo : Stmt := topS 47
abbrev sLDue : Stmt := topS 48
abbrev sBack : Stmt := topS 49
abbrev sLaw : Stmt := topS 50
/-! ### what all builders share -/
theorem same_new {H : Hp} {p : Addr} {o : HO} (h : H p = none) : Same H (upd H p o) := fun b x e => (upd_ne (ne_of_none e h)).trans e
/-- all but the object at p is as it was -/
def But (p : Addr) (H H' : Hp) : Prop := ∀ b o, H b = some o → b ≠ p → H' b = some o
theorem But.refl (p : Addr) (H : Hp) : But p H H := fun _ _ e _ => e
theorem But.of {p : Addr} {H H' : Hp} (h : Same H H') : But p H H' := fun b o e _ => h b o e
theorem But.tr {p : Addr} {H H1 H2 : Hp} (a : But p H H1) (b : But p H1 H2) : But p H H2 := fun c o e n => b c o (a c o e n) n
theorem But.to {p : Addr} {H H1 : Hp} (a : But p H H1) {l : Addr} {o : HO} (h : H l = none) (n : H p ≠ none) : But p H (upd H1 l o) := fun c u e nc => (upd_ne (ne_of_none e h)).trans (a c u e nc)
theorem dp_ints {K : PySem.W.Frag} {H : Hp} : ∀ ns : List Int, DpAll K H (ns.map V.int) (ns.map PyData.int)
  | [] => .nil
  | n :: r => .cons (.int n) (dp_ints r)
theorem mem_cut {α : Type} {xs : List α} {lo hi : Nat} : ∀ x ∈ (xs.drop lo).take hi, x ∈ xs := fun x h => List.mem_of_mem_drop (List.mem_of_mem_take h)
theorem cut_ints (ns : List Int) (lo hi : Option Int) : ∃ ms : List Int, cutV (ns.map V.int) lo hi = ms.map V.int := by
  unfold cutV
  rw [← List.map_drop, ← List.map_take]
  exact ⟨_, rfl⟩
abbrev sc (l : List Nat) : Str := ⟨l.toArray⟩
theorem sc_list (z : Str) : sc z.cps.toList = z := rfl
theorem sc_len (l : List Nat) : (sc l).length = l.length := by
  show l.toArray.size = l.length
  simp
theorem sc_app (a b : List Nat) : (sc a ++ sc b : Str) = sc (a ++ b) := by
  have h : TL.tl (sc a ++ sc b) = TL.tl (sc (a ++ b)) := by
    rw [TL.tl_append]
  have h2 := congrArg sc h
  exact h2
theorem sc_take (l : List Nat) {k : Nat} (hk : k ≤ l.length) : cutS (sc l) none (some (k : Int)) = sc (l.take k) := by
  unfold cutS
  rw [HT.sIx_none, HT.sIx_nat, sc_len, Nat.min_eq_left hk]
  show sc ((l.toArray.toList.drop 0).take (k - 0)) = sc (l.take k)
  simp
theorem sc_drop (l : List Nat) {k : Nat} (hk : k ≤ l.length) : cutS (sc l) (some (k : Int)) none = sc (l.drop k) := by
  unfold cutS
  rw [HT.sIx_none, HT.sIx_nat, sc_len, Nat.min_eq_left hk]
  show sc ((l.toArray.toList.drop k).take (l.length - k)) = sc (l.drop k)
  rw [List.take_of_length_le (by simp)]
theorem sc_join (ls : List (List Nat)) : Txt.join "" (ls.map sc) = sc ls.flatten := by
  have h : ∀ l : List (List Nat), TL.joinL [] l = l.flatten := by
    intro l
    induction l with
    | nil => rfl
    | cons p r ih =>
      cases r with
      | nil => show p = [p].flatten; simp
      | cons q r => show p ++ ([] ++ TL.joinL [] (q :: r)) = _; rw [List.nil_append, ih]; rfl
  have e := TL.tl_join "" (ls.map sc)
  rw [show TL.tl ("" : Str) = [] from rfl, h, List.map_map] at e
  rw [TL.join_eq]
  have e2 : ls.map (TL.tl ∘ sc) = ls := by
    have : (TL.tl ∘ sc) = id := funext fun l => by show l.toArray.toList = l; simp
    rw [this, List.map_id]
  rw [e2] at e
  exact congrArg sc e
abbrev abc : Str := "abcdefghijklmnopqrstuvwxyz"
def Lc (i : Nat) : Nat := abc.cps.toList.getD i 0
theorem abc_len : abc.cps.toList.length = 26 := by decide +kernel
theorem at_abc {r : Int} (h0 : 0 ≤ r) (h1 : r < 26) : atI abc.cps.toList r = some (Lc r.toNat) := by
  have h : r.toNat < abc.cps.toList.length := by rw [abc_len]; omega
  have e : ((r.toNat : Nat) : Int) = r := by omega
  have q := atI_nat (List.getElem?_eq_getElem h)
  rw [e] at q
  rw [q, Lc, List.getD_eq_getElem?_getD, List.getElem?_eq_getElem h]
  rfl
theorem Lc_in {i : Nat} (h : i < 26) : Lc i ∈ abc.cps.toList := by
  rw [Lc, List.getD_eq_getElem?_getD, List.getElem?_eq_getElem (by rw [abc_len]; exact h)]
  exact List.getElem_mem _
/-! ### the names that a law draws -/
theorem flat_one : ∀ B : List Nat, (B.map fun c => [c]).flatten = B
  | [] => rfl
  | b :: r => by rw [List.map_cons, List.flatten_cons, flat_one r]; rfl
theorem sum_one : ∀ B : List Nat, (((B.map fun c => [c]).map sc).map (·.length)).sum = B.length
  | [] => rfl
  | b :: r => by
    rw [List.map_cons, List.map_cons, List.map_cons, List.sum_cons, sum_one r, List.length_cons, sc_len]
    exact Nat.add_comm _ _
theorem yesT {σ : L2.St} {H : Hp} {A B : Hp → Prop} (h : A H) : tYes σ H fun b H3 => if b = true then A H3 else B H3 := iteT (A := A H) (B := B H) h
theorem small_sz {n : Nat} (h : n ≤ 1000) : n ≤ sizeLine := Nat.le_of_lt (small1000 h)
theorem at_ex {α : Type} {xs : List α} {r : Int} (h0 : 0 ≤ r) (h1 : r < (xs.length : Int)) : ∃ v, atI xs r = some v ∧ v ∈ xs := by
  have h : r.toNat < xs.length := by omega
  have e : ((r.toNat : Nat) : Int) = r := by omega
  have q := atI_nat (List.getElem?_eq_getElem h)
  rw [e] at q
  exact ⟨_, q, List.getElem_mem h⟩
structure DefT (P : Program) (w : World) (K : PySem.W.Frag) (mg : Str → Option Value) (base : Heap) (x : Str) (k : Nat) (f : Addr) (fd : FuncData) (ps : List Str) (sp : Sp) : Prop where
  ok : FnOk P w K mg base CX0 k f fd ps sp
  g : mg x = some (.ref f)
  kp : PySem.W.keepIn K (.ref f) = true
  b : Binds K fd ps []
inductive Ent where
  | come (nm : Str) (mo : Int) (g pl : Str) (many price : Int)
  | go (nm : Str) (mo : Int) (g pl : Str) (many : Int)
  | move (nm : Str) (mo : Int) (g one other : Str) (many : Int)
  | some_ (nm : Str) (mo : Int) (g one other : Str)
  | swap (nm : Str) (mo : Int) (one other : Str)
  | count (nm : Str) (mo : Int) (g pl : Str) (many : Int) (hand : Str)
  | look (nm : Str) (mo : Int) (g pl : Str)
namespace Ent
def word : Ent → Str
  | come .. => "come" | go .. => "go" | move .. => "move" | some_ .. => "some" | swap .. => "swap" | count .. => "count" | look .. => "look"
def name : Ent → Str
  | come n .. => n | go n .. => n | move n .. => n | some_ n .. => n | swap n .. => n | count n .. => n | look n .. => n
def moment : Ent → Int
  | come _ m .. => m | go _ m .. => m | move _ m .. => m | some_ _ m .. => m | swap _ m .. => m | count _ m .. => m | look _ m .. => m
def rest : Ent → List V
  | come _ _ g p m r => [.str g, .str p, .int m, .int r]
  | go _ _ g p m => [.str g, .str p, .int m]
  | move _ _ g o t m => [.str g, .str o, .str t, .int m]
  | some_ _ _ g o t => [.str g, .str o, .str t]
  | swap _ _ o t => [.str o, .str t]
  | count _ _ g p m h => [.str g, .str p, .int m, .str h]
  | look _ _ g p => [.str g, .str p]
def vals (e : Ent) : List V := .str e.word :: .str e.name :: .int e.moment :: e.rest
/-- its parts are drawn from these places, goods and hands -/
def From (PL GL HL : List Str) : Ent → Prop
  | come _ _ g p m r => g ∈ GL ∧ p ∈ PL ∧ 1 ≤ m ∧ m ≤ 1000000000 ∧ 0 ≤ r ∧ r ≤ 1000000000
  | go _ _ g p m => g ∈ GL ∧ p ∈ PL ∧ 1 ≤ m ∧ m ≤ 1000000000
  | move _ _ g o t m => g ∈ GL ∧ o ∈ PL ∧ t ∈ PL ∧ (PL.Nodup → o ≠ t) ∧ 1 ≤ m ∧ m ≤ 1000000000
  | some_ _ _ g o t => g ∈ GL ∧ o ∈ PL ∧ (t = "" ∨ (t ∈ PL ∧ (PL.Nodup → o ≠ t)))
  | swap _ _ o t => o ∈ PL ∧ t ∈ PL ∧ (PL.Nodup → o ≠ t)
  | count _ _ g p m h => g ∈ GL ∧ p ∈ PL ∧ 0 ≤ m ∧ m ≤ 1000000000 ∧ h ∈ HL
  | look _ _ g p => g ∈ GL ∧ p ∈ PL
end Ent
def words7 : List Str := ["come", "go", "move", "some", "swap", "count", "look"]
abbrev words10 : List Str := ["come", "go", "move", "some", "swap", "count", "look", "count", "swap", "move"]
theorem Ent.word_in (e : Ent) : e.word ∈ words7 := by
  cases e <;> simp [Ent.word, words7]
abbrev StrsAt (H : Hp) (l : Addr) (ys : List Str) : Prop := H l = some (.lst (ys.map V.str))
theorem But.free {H H' : Hp} {p l : Addr} (b : But p H H') (h : H' l = none) (hp : H' p ≠ none) : H l = none := by
  cases e : H l with
  | none => rfl
  | some o =>
    have nl : l ≠ p := fun z => hp (z ▸ h)
    rw [b l o e nl] at h
    cases h
theorem at_strs {ys : List Str} {r : Int} (h0 : 0 ≤ r) (h1 : r < (ys.length : Int)) : ∃ y, atI (ys.map V.str) r = some (.str y) ∧ ys[r.toNat]? = some y ∧ y ∈ ys := by
  have h : r.toNat < ys.length := by omega
  have e : ((r.toNat : Nat) : Int) = r := by omega
  have q := atI_nat (xs := ys.map V.str) (j := r.toNat) (v := .str ys[r.toNat]) (by rw [List.getElem?_map, List.getElem?_eq_getElem h]; rfl)
  rw [e] at q
  exact ⟨_, q, List.getElem?_eq_getElem h, List.getElem_mem h⟩
theorem cut_take {xs : List V} {k : Nat} : cutV xs none (some (k : Int)) = xs.take k := by
  unfold cutV
  rw [HT.sIx_none, HT.sIx_nat]
  show (xs.drop 0).take (min k xs.length - 0) = xs.take k
  rw [List.drop_zero, Nat.sub_zero]
  by_cases h : k ≤ xs.length
  · rw [Nat.min_eq_left h]
  · rw [Nat.min_eq_right (by omega), List.take_length, List.take_of_length_le (by omega)]
theorem at_ints {ns : List Int} {r : Int} (h0 : 0 ≤ r) (h1 : r < (ns.length : Int)) : ∃ y, atI (ns.map V.int) r = some (.int y) ∧ y ∈ ns := by
  have h : r.toNat < ns.length := by omega
  have e : ((r.toNat : Nat) : Int) = r := by omega
  have q := atI_nat (xs := ns.map V.int) (j := r.toNat) (v := .int ns[r.toNat]) (by rw [List.getElem?_map, List.getElem?_eq_getElem h]; rfl)
  rw [e] at q
  exact ⟨_, q, List.getElem_mem h⟩
/-! ### the pen, a list -/
structure PenAt (H : Hp) (p c : Addr) (n : Nat) : Prop where
  ex : ∃ (ns : List Int) (a l : Int), H p = some (.lst [.ref c, .int a, .int l]) ∧ H c = some (.lst (ns.map V.int)) ∧ 0 ≤ a ∧ a ≤ n ∧ 0 ≤ l
theorem PenAt.same {H H' : Hp} {p c : Addr} {n : Nat} (P : PenAt H p c n) (h : Same H H') : PenAt H' p c n := by
  obtain ⟨ns, a, l, h1, h2, r⟩ := P.ex
  exact ⟨ns, a, l, h _ _ h1, h _ _ h2, r⟩
theorem PenAt.there {H : Hp} {p c : Addr} {n : Nat} (P : PenAt H p c n) : H p ≠ none := by
  obtain ⟨ns, a, l, h1, _⟩ := P.ex
  rw [h1]
  exact fun z => nomatch z
theorem PenAt.cells {H : Hp} {p c : Addr} {n : Nat} (P : PenAt H p c n) : H c ≠ none := by
  obtain ⟨ns, a, l, _, h1, _⟩ := P.ex
  rw [h1]
  exact fun z => nomatch z
theorem PenAt.upd {H : Hp} {p c l : Addr} {n : Nat} {o : HO} (P : PenAt H p c n) (h1 : l ≠ p) (h2 : l ≠ c) : PenAt (L2.upd H l o) p c n := by
  obtain ⟨ns, a, x, g1, g2, r⟩ := P.ex
  exact ⟨ns, a, x, (upd_ne h1.symm).trans g1, (upd_ne h2.symm).trans g2, r⟩
theorem PenAt.mono {H : Hp} {p c : Addr} {n m : Nat} (P : PenAt H p c n) (h : n ≤ m) : PenAt H p c m := by
  obtain ⟨ns, a, l, g1, g2, g3, g4, g5⟩ := P.ex
  exact ⟨ns, a, l, g1, g2, g3, by omega, g5⟩
theorem PenAt.tup {H : Hp} {p c b : Addr} {n : Nat} {xs : List V} (P : PenAt H p c n) (h : H b = some (.tup xs)) : b ≠ p := by
  obtain ⟨ns, a, l, g1, _⟩ := P.ex
  exact ne_of h g1 (by intro z; cases z)
theorem PenAt.strs {H : Hp} {p c b : Addr} {n : Nat} {ys : List Str} (P : PenAt H p c n) (h : H b = some (.lst (ys.map V.str))) : b ≠ p := by
  obtain ⟨ns, a, l, g1, _⟩ := P.ex
  refine ne_of h g1 fun z => ?_
  cases ys with
  | nil => cases z
  | cons y r => cases z
theorem PenAt.refs {H : Hp} {p c b : Addr} {n : Nat} {as : List Addr} (P : PenAt H p c n) (h : H b = some (.lst (as.map V.ref))) : b ≠ p := by
  obtain ⟨ns, a, l, g1, _⟩ := P.ex
  refine ne_of h g1 fun z => ?_
  cases as with
  | nil => cases z
  | cons y r =>
    cases r with
    | nil => cases z
    | cons y2 r2 => cases z
def spPen (K : PySem.W.Frag) : Sp := fun vs H Q _ => ∃ (a : Addr) (ns : List Int), vs = [.ref a] ∧ SqL K H a (ns.map V.int) ∧
  ∀ (p c : Addr) (H' : Hp), H p = none → H c = none → PenAt H' p c 0 → Same H H' → Q (.ref p) H'
def spDraw : Sp := fun vs H Q _ => ∃ (p c : Addr) (n : Nat) (m : Int), vs = [.ref p, .int m] ∧ PenAt H p c n ∧ n ≤ 100000 ∧ 1 ≤ m ∧ m ≤ 1000000000 ∧
  ∀ (r : Int) (H' : Hp), 0 ≤ r → r < m → PenAt H' p c (n + 1) → But p H H' → Q (.int r) H'
section
variable {P : Program} {w : World} {K : PySem.W.Frag} {mg : Str → Option Value} {base : Heap}
abbrev sPenN : List Str := ["_law_script"]
theorem sc_sPen : FnScope sPenN ["_law_script"] (defScope sPen) := ⟨rfl, rfl, rfl, by decide +kernel, rfl, by decide +kernel, by decide +kernel⟩
theorem ok_pen {f : Addr} {fd : FuncData} (F : Fun K "_law_pen" "_law_pen" sPen f fd) (mli : mg "list" = none) : FnOk P w K mg base CX0 1 f fd ["_law_script"] (spPen K) := by
  refine F.ok sc_sPen (fun vs H Q E h => ?_) (fun cdv A outer s H vs Q E hr h => ?_)
  · obtain ⟨a, ns, rfl, _⟩ := h
    rfl
  · obtain ⟨a, ns, rfl, hS, q⟩ := h
    have nd := sc_sPen.nd
    refine ⟨_, pss_one (ps_ret (pe_lst (pa_cons (pe_callTy call_list_of (by rfl) mli (by decide +kernel) (pa_cons (pe_slice sl_list (pv 0) po_none (po_some pe_int)) pa_nil)) (pa_cons pe_int (pa_cons pe_int pa_nil))))), ?_⟩
    refine ⟨_, rfl, 63, rfl, a, _, rfl, hS, fun t nt => ?_⟩
    have s1 := @same_new _ _ (.lst (cutV (ns.map V.int) none (some 63))) nt
    refine ⟨t, _, rfl, .inl (SqL.of upd_same), fun c nc => ?_⟩
    have s2 := @same_new _ _ (.lst (cutV (ns.map V.int) none (some 63))) nc
    obtain ⟨ms, em⟩ := cut_ints ns none (some 63)
    refine ⟨(by show 3 ≤ sizeLine; decide), fun p np => ?_⟩
    have s3 := @same_new _ _ (.lst [V.ref c, .int 0, .int 0]) np
    exact q p c _ (s1.free (s2.free np)) (s1.free nc) ⟨ms, 0, 0, upd_same, s3 _ _ (by rw [upd_same, em]), Int.le_refl _, Int.le_refl _, Int.le_refl _⟩ (s1.trans (s2.trans s3))
abbrev sDrawN : List Str := ["_law_pen_here", "_law_many_here", "_law_digit", "_law_at", "_law_cell", "_law_number"]
theorem sc_sDraw : FnScope sDrawN ["_law_pen_here", "_law_many_here"] (defScope sDraw) := ⟨rfl, rfl, rfl, by decide +kernel, rfl, by decide +kernel, by decide +kernel⟩
set_option maxHeartbeats 1000000 in
theorem ok_draw {f : Addr} {fd : FuncData} (F : Fun K "_law_draw" "_law_draw" sDraw f fd) (ml : mg "len" = none) (ma : mg "abs" = none) : FnOk P w K mg base CX0 1 f fd ["_law_pen_here", "_law_many_here"] spDraw := by
  refine F.ok sc_sDraw (fun vs H Q E h => ?_) (fun cdv A outer s H vs Q E hr h => ?_)
  · obtain ⟨p, c, n, m, rfl, _⟩ := h
    rfl
  · obtain ⟨p, c, n, m, rfl, pen, hn, m1, m2, q⟩ := h
    have nd := sc_sDraw.nd
    have nd := sc_sDraw.nd
    refine ⟨_, pss_cons (ps_if (pt_cmpR op_gt (pe_ix ix_list (pv 0) pe_int (fun _ _ => rfl)) pe_int (nomark _)) (pss_cons (ps_set (i := 2) nd rfl (Or.inl rfl) (pe_op op_mod (pe_ix ix_list (pv 0) pe_int (fun _ _ => rfl)) (pv 1)))
        (pss_cons (ps_asg (pe_op op_fdiv (pe_ix ix_list (pv 0) pe_int (fun _ _ => rfl)) (pv 1)) (pg_sub (pv 0) pe_int set_list))
        (pss_one (ps_ret (pv 2))))) pss_nil)
      (pss_cons (ps_set (i := 3) nd rfl (Or.inl rfl) (pe_ix ix_list (pv 0) pe_int (fun _ _ => rfl)))
      (pss_cons (ps_asg (pe_op op_add (pv 3) pe_int) (pg_sub (pv 0) pe_int set_list))
      (pss_cons (ps_set (i := 4) nd rfl (Or.inl rfl) (pe_op op_add (pe_op op_add (pe_op op_mul (pe_op op_mul pe_int (pv 3)) (pv 3)) (pe_op op_mul pe_int (pv 3))) pe_int))
      (C8.pss_cut (ps_if (pt_cmpR op_gt (pe_callB call_len_seq (by rfl) ml PySem.boot_len (pa_cons (pe_ix ix_list (pv 0) pe_int (fun _ _ => rfl)) pa_nil)) pe_int (nomark _)) (pss_cons (ps_set (i := 4) nd rfl (Or.inl rfl) (pe_ix ix_list (pe_ix ix_list (pv 0) pe_int (fun _ _ => rfl)) (pe_op op_mod (pv 3) (pe_callB call_len_seq (by rfl) ml PySem.boot_len (pa_cons (pe_ix ix_list (pv 0) pe_int (fun _ _ => rfl)) pa_nil))) (fun _ _ => rfl)))
        (pss_one (ps_if (PW.pt (pw_and (pt_cmpR op_lt (pv 3) (pe_callB call_len_seq (by rfl) ml PySem.boot_len (pa_cons (pe_ix ix_list (pv 0) pe_int (fun _ _ => rfl)) pa_nil)) (nomark _)) (pw_and1 (pt_cmpR op_ge (pe_callB call_abs (by rfl) ma (by decide +kernel) (pa_cons (pv 4) pa_nil)) (pe_op op_pow pe_int pe_int) (nomark _))))) (pss_cons (ps_asg (pe_op op_fdiv (pe_callB call_abs (by rfl) ma (by decide +kernel) (pa_cons (pv 4) pa_nil)) (pv 1)) (pg_sub (pv 0) pe_int set_list))
          (pss_one (ps_ret (pe_op op_mod (pe_callB call_abs (by rfl) ma (by decide +kernel) (pa_cons (pv 4) pa_nil)) (pv 1))))) pss_nil))) pss_nil)
      (pss_cons (ps_set (i := 5) nd rfl (Or.inl rfl) (pe_op op_mod (pe_op op_add (pe_op op_pow (pe_op op_add (pe_op op_add (pe_op op_mod (pv 4) pe_int) (pe_op op_mul pe_int (pv 3))) pe_int) pe_int) (pe_op op_mul pe_int (pv 3))) pe_int))
      (pss_cons (ps_set (i := 5) nd rfl (Or.inl rfl) (pe_op op_mod (pe_op op_pow (pe_op op_add (pe_op op_mul (pv 5) (pe_op op_add (pe_op op_add (pe_op op_mod (pv 5) pe_int) (pe_op op_mul pe_int (pv 3))) pe_int)) pe_int) pe_int) pe_int))
      (pss_one (ps_ret (pe_op op_mod (pe_op op_fdiv (pv 5) pe_int) (pv 1)))))))))), ?_⟩
    obtain ⟨ns, a, l, g1, g2, g3, g4, g5⟩ := pen.ex
    have npc : p ≠ c := ne_of g1 g2 fun z => by
      cases ns with
      | nil => cases z
      | cons y r => cases z
    have ix : ∀ (xs : List V), xs.length = 3 → ∀ j : Nat, j < 3 → ixN xs.length (j : Int) = some j := fun xs h j hj => by
      rw [h]
      have : j = 0 ∨ j = 1 ∨ j = 2 := by omega
      rcases this with rfl | rfl | rfl <;> decide
    refine ⟨_, rfl, p, _, 2, _, rfl, rfl, SqL.of g1, atI_nat (j := 2) rfl, l, 0, rfl, rfl, _, rfl, ite2 (fun e => ?_) (fun e => ?_)⟩
    · have e' : 0 < l := of_decide_eq_true e
      refine ⟨_, rfl, p, _, 2, _, rfl, rfl, SqL.of g1, atI_nat (j := 2) rfl, _, rfl, l, m, rfl, rfl, (by show (0 : Int) < m; omega), ?_⟩
      refine ⟨_, rfl, p, _, 2, _, rfl, rfl, SqL.of g1, atI_nat (j := 2) rfl, _, rfl, l, m, rfl, rfl, ⟨by omega, by omega⟩, _, rfl, p, _, 2, 2, rfl, rfl, g1, ix _ rfl 2 (by decide), _, rfl, ?_⟩
      exact q _ _ (Int.emod_nonneg _ (by omega)) (Int.emod_lt_of_pos _ (by omega)) ⟨ns, a, l / m, upd_same, (upd_ne npc.symm).trans g2, g3, by omega, Int.ediv_nonneg (by omega) (by omega)⟩ fun b o z nb => (upd_ne nb).trans z
    · refine ⟨_, rfl, p, _, 1, _, rfl, rfl, SqL.of g1, atI_nat (j := 1) rfl, ?_⟩
      refine ⟨_, rfl, a, 1, rfl, rfl, _, rfl, p, _, 1, 1, rfl, rfl, g1, ix _ rfl 1 (by decide), ?_⟩
      have k1 : (upd H p (.lst [V.ref c, .int (a + 1), .int l])) p = some (.lst [V.ref c, .int (a + 1), .int l]) := upd_same
      have k2 : (upd H p (.lst [V.ref c, .int (a + 1), .int l])) c = some (.lst (ns.map V.int)) := (upd_ne npc.symm).trans g2
      have bt : But p H (upd H p (.lst [V.ref c, .int (a + 1), .int l])) := fun b o z nb => (upd_ne nb).trans z
      show tSeq _ _ _ _ (upd H p (.lst [V.ref c, .int (a + 1), .int l]))
      generalize upd H p (.lst [V.ref c, .int (a + 1), .int l]) = H1 at k1 k2 bt
      refine ⟨_, rfl, 70001, a, rfl, rfl, .inl ⟨by decide, by decide⟩, _, rfl, _, a, rfl, rfl, .inr ⟨by omega, by omega⟩, _, rfl, 523, a, rfl, rfl, .inl ⟨by decide, by decide⟩, _, _, rfl, rfl, _, 41, rfl, rfl, ?_⟩
      refine ⟨fun σ' H' => ∃ x : Int, σ' = [some (.ref p), some (.int m), none, some (.int a), some (.int x), none] ∧ H' = H1, ?_, ?_⟩
      · refine ⟨_, rfl, p, _, 0, _, rfl, rfl, SqL.of k1, atI_nat (j := 0) rfl, c, _, rfl, .inl (SqL.of k2), _, 0, rfl, rfl, _, rfl, ite2 (fun e2 => ?_) (fun e2 => ⟨_, rfl, rfl⟩)⟩
        have hlen : 0 < ns.length := by
          have : (0 : Int) < ((ns.map V.int).length : Int) := of_decide_eq_true e2
          rw [List.length_map] at this
          omega
        have b1 := Int.emod_nonneg a (show (ns.length : Int) ≠ 0 by omega)
        have b2 := Int.emod_lt_of_pos a (show (0 : Int) < ns.length by omega)
        obtain ⟨x, hx, _⟩ := at_ints (ns := ns) b1 b2
        refine ⟨_, rfl, p, _, 0, _, rfl, rfl, SqL.of k1, atI_nat (j := 0) rfl, _, rfl, _, rfl, p, _, 0, _, rfl, rfl, SqL.of k1, atI_nat (j := 0) rfl, c, _, rfl, .inl (SqL.of k2), a, _, rfl, rfl, (by show (0 : Int) < ((ns.map V.int).length : Int); rw [List.length_map]; omega), c, _, _, .int x, rfl, rfl, SqL.of k2, (by rw [List.length_map]; exact hx), ?_⟩
        refine ⟨_, rfl, _, rfl, p, _, 0, _, rfl, rfl, SqL.of k1, atI_nat (j := 0) rfl, c, _, rfl, .inl (SqL.of k2), a, _, rfl, rfl, _, rfl, ite2 (fun _ => ?_) (fun _ => iteF ⟨_, rfl, rfl⟩)⟩
        have absn : (0 : Int) ≤ if x < 0 then -x else x := by split <;> omega
        refine ⟨_, rfl, x, rfl, 10, 18, rfl, rfl, ⟨by decide, by decide, by decide⟩, _, _, rfl, rfl, _, rfl, ite2 (fun _ => ?_) (fun _ => ⟨_, rfl, rfl⟩)⟩
        refine ⟨_, rfl, x, rfl, _, rfl, _, m, rfl, rfl, ⟨by omega, by omega⟩, _, rfl, p, _, 2, 2, rfl, rfl, k1, ix _ rfl 2 (by decide), ?_⟩
        refine ⟨_, rfl, x, rfl, _, rfl, _, m, rfl, rfl, (by show (0 : Int) < m; omega), ?_⟩
        exact q _ _ (Int.emod_nonneg _ (by omega)) (Int.emod_lt_of_pos _ (by omega)) ⟨ns, a + 1, (if x < 0 then -x else x) / m, upd_same, (upd_ne npc.symm).trans k2, by omega, by omega, Int.ediv_nonneg absn (by omega)⟩ fun b o z nb => (upd_ne nb).trans (bt b o z nb)
      · rintro σ' H' ⟨x, rfl, rfl⟩
        have b1 := Int.emod_nonneg x (show (2147483629 : Int) ≠ 0 by decide)
        have b2 := Int.emod_lt_of_pos x (show (0 : Int) < 2147483629 by decide)
        refine ⟨_, rfl, x, _, rfl, rfl, (by show (0 : Int) < 2147483629; decide), _, rfl, 60029, a, rfl, rfl, .inl ⟨by decide, by decide⟩, _, _, rfl, rfl, _, 17, rfl, rfl, _, 3, rfl, rfl, ⟨by decide, by decide, ?_⟩, _, rfl, 11, a, rfl, rfl, .inl ⟨by decide, by decide⟩, _, _, rfl, rfl, _, 2147483587, rfl, rfl, (by show (0 : Int) < 2147483587; decide), ?_⟩
        · generalize x % 2147483629 = y at b1 b2
          show (y + 60029 * a + 17).natAbs < 2 ^ 64
          omega
        · generalize (x % 2147483629 + 60029 * a + 17) ^ (3 : Int).toNat + 11 * a = z
          have d1 := Int.emod_nonneg z (show (2147483587 : Int) ≠ 0 by decide)
          have d2 := Int.emod_lt_of_pos z (show (0 : Int) < 2147483587 by decide)
          obtain ⟨o, ho⟩ : ∃ o, z % 2147483587 = o := ⟨_, rfl⟩
          rw [ho] at d1 d2
          show tSeq _ _ _ [some (.ref p), some (.int m), none, some (.int a), some (.int x), some (.int (z % 2147483587))] _
          rw [ho]
          have f1 := Int.emod_nonneg o (show (65521 : Int) ≠ 0 by decide)
          have f2 := Int.emod_lt_of_pos o (show (0 : Int) < 65521 by decide)
          refine ⟨_, rfl, _, rfl, o, 65521, rfl, rfl, (by show (0 : Int) < 65521; decide), _, rfl, 2, a, rfl, rfl, .inl ⟨by decide, by decide⟩, _, _, rfl, rfl, _, 3, rfl, rfl, o, _, rfl, rfl, .inr ⟨by omega, by omega⟩, _, 104729, rfl, rfl, _, 2, rfl, rfl, ⟨by decide, by decide, ?_⟩, _, 2147483563, rfl, rfl, (by show (0 : Int) < 2147483563; decide), ?_⟩
          · show (o * (o % 65521 + 2 * a + 3) + 104729).natAbs < 2 ^ 64
            have h1 : 0 ≤ o * (o % 65521 + 2 * a + 3) := Int.mul_nonneg d1 (by omega)
            have h2 : o * (o % 65521 + 2 * a + 3) ≤ 2147483587 * 300000 := Int.mul_le_mul (by omega) (by omega) (by omega) (by decide)
            omega
          · refine ⟨_, rfl, _, 64, rfl, rfl, ⟨by decide, by decide⟩, _, rfl, _, m, rfl, rfl, (by show (0 : Int) < m; omega), ?_⟩
            exact q _ _ (Int.emod_nonneg _ (by omega)) (Int.emod_lt_of_pos _ (by omega)) ⟨ns, a + 1, l, k1, k2, by omega, by omega, g5⟩ bt
end
/-! ### is_name -/
def signB (c : Nat) : Bool := decide (c ∈ abc.cps.toList)
def nameB (z : Str) : Bool := decide (1 ≤ z.length) && decide (z.length ≤ 8) && z.cps.toList.all signB
theorem nameB_in {z : Str} (h1 : (1 : Int) ≤ (z.length : Int)) (h2 : (z.length : Int) ≤ 8) : nameB z = z.cps.toList.all signB := by
  unfold nameB
  rw [decide_eq_true (show 1 ≤ z.length by omega), decide_eq_true (show z.length ≤ 8 by omega)]
  rfl
theorem nameB_long {z : Str} (h : ¬ (z.length : Int) ≤ 8) : nameB z = false := by
  unfold nameB
  rw [decide_eq_false (show ¬ z.length ≤ 8 by omega), Bool.and_false]
  rfl
theorem nameB_short {z : Str} (h : ¬ (1 : Int) ≤ (z.length : Int)) : nameB z = false := by
  unfold nameB
  rw [decide_eq_false (show ¬ 1 ≤ z.length by omega)]
  rfl
/-! ### names of numbers -/
def cdC (t k : Nat) : List Nat := Lc ((t + k) % 26) :: (if 25 < k then [Lc (k / 26)] else [])
def nmC (B : List Nat) (sp t k : Nat) : List Nat := if k % 3 = 2 then cdC t k else B.take sp ++ cdC t k ++ B.drop sp
structure WdOk (B : List Nat) (sp t : Nat) : Prop where
  le : B.length ≤ 6
  no : B.length = 0 ∨ 2 ≤ B.length
  ab : ∀ c ∈ B, c ∈ abc.cps.toList
  sp : sp ≤ B.length
  t : t < 26
structure WdAt (H : Hp) (w : Addr) (B : List Nat) (sp t : Nat) : Prop where
  at_ : H w = some (.tup [.str (sc B), .int (sp : Int), .int (t : Int)])
  ok : WdOk B sp t
theorem cdC_in {t k : Nat} (hk : k < 676) : ∀ c ∈ cdC t k, c ∈ abc.cps.toList := by
  intro c hc
  unfold cdC at hc
  rcases List.mem_cons.mp hc with rfl | h
  · exact Lc_in (Nat.mod_lt _ (by decide))
  · by_cases z : 25 < k
    · rw [if_pos z] at h
      rw [List.mem_singleton.mp h]
      exact Lc_in (by omega)
    · rw [if_neg z] at h
      exact nomatch h
theorem cdC_len (t k : Nat) : 1 ≤ (cdC t k).length ∧ (cdC t k).length ≤ 2 := by
  unfold cdC
  rw [List.length_cons]
  split <;> simp
theorem nmC_in {B : List Nat} {sp t k : Nat} (ok : WdOk B sp t) (hk : k < 676) : ∀ c ∈ nmC B sp t k, c ∈ abc.cps.toList := by
  intro c hc
  unfold nmC at hc
  split at hc
  · exact cdC_in hk c hc
  · rcases List.mem_append.mp hc with h | h
    · rcases List.mem_append.mp h with h | h
      · exact ok.ab c (List.mem_of_mem_take h)
      · exact cdC_in hk c h
    · exact ok.ab c (List.mem_of_mem_drop h)
theorem nmC_len {B : List Nat} {sp t k : Nat} (ok : WdOk B sp t) : (nmC B sp t k).length = (if k % 3 = 2 then 0 else B.length) + (cdC t k).length := by
  unfold nmC
  split
  · rw [Nat.zero_add]
  · rw [List.length_append, List.length_append, List.length_take, List.length_drop]
    have := ok.sp
    omega
theorem nmC_name {B : List Nat} {sp t k : Nat} (ok : WdOk B sp t) (hk : k < 676) : nameB (sc (nmC B sp t k)) = true := by
  have l := nmC_len ok (k := k)
  have c := cdC_len t k
  have b := ok.le
  have e : (sc (nmC B sp t k)).length = (nmC B sp t k).length := sc_len _
  unfold nameB
  rw [e, Bool.and_eq_true, Bool.and_eq_true]
  refine ⟨⟨decide_eq_true ?_, decide_eq_true ?_⟩, List.all_eq_true.mpr fun c hc => decide_eq_true (nmC_in ok hk c ?_)⟩
  · omega
  · split at l <;> omega
  · simpa using hc
theorem cdC_inj {t k j : Nat} (hk : k < 676) (hj : j < 676) (h : cdC t k = cdC t j) : k = j := by
  have inj : ∀ i < 26, ∀ j < 26, Lc i = Lc j → i = j := by decide +kernel
  unfold cdC at h
  obtain ⟨h1, h2⟩ := List.cons.inj h
  have m := inj _ (Nat.mod_lt _ (by decide)) _ (Nat.mod_lt _ (by decide)) h1
  by_cases z1 : 25 < k
  · by_cases z2 : 25 < j
    · rw [if_pos z1, if_pos z2] at h2
      have d := inj (k / 26) (by omega) (j / 26) (by omega) (List.cons.inj h2).1
      omega
    · rw [if_pos z1, if_neg z2] at h2
      exact nomatch h2
  · by_cases z2 : 25 < j
    · rw [if_neg z1, if_pos z2] at h2
      exact nomatch h2
    · omega
theorem nmC_inj {B : List Nat} {sp t k j : Nat} (ok : WdOk B sp t) (hk : k < 676) (hj : j < 676) (h : nmC B sp t k = nmC B sp t j) : k = j := by
  have l1 := nmC_len ok (k := k)
  have l2 := nmC_len ok (k := j)
  rw [h] at l1
  have c1 := cdC_len t k
  have c2 := cdC_len t j
  have key : cdC t k = cdC t j := by
    rcases ok.no with b0 | b2
    · have e : B = [] := List.length_eq_zero_iff.mp b0
      subst e
      unfold nmC at h
      simp only [List.take_nil, List.drop_nil, List.append_nil, List.nil_append, ite_self] at h
      exact h
    · have same : (k % 3 = 2 ↔ j % 3 = 2) := by
        by_cases z1 : k % 3 = 2 <;> by_cases z2 : j % 3 = 2 <;> simp only [z1, z2, if_true, if_false, iff_self] at l1 l2 ⊢
        · omega
        · omega
      unfold nmC at h
      by_cases z : k % 3 = 2
      · rw [if_pos z, if_pos (same.mp z)] at h
        exact h
      · rw [if_neg z, if_neg fun q => z (same.mpr q), List.append_assoc, List.append_assoc] at h
        have := List.append_cancel_left h
        exact List.append_cancel_right this
  exact cdC_inj hk hj key
def spWords : Sp := fun vs H Q _ => ∃ (p c : Addr) (n : Nat), vs = [.ref p] ∧ PenAt H p c n ∧ n ≤ 90000 ∧
  ∀ (w : Addr) (B : List Nat) (sp t : Nat) (H' : Hp), H w = none → WdAt H' w B sp t → PenAt H' p c (n + 9) → But p H H' → Q (.ref w) H'
def spLName : Sp := fun vs H Q _ => ∃ (w : Addr) (B : List Nat) (sp t k : Nat), vs = [.ref w, .int (k : Int)] ∧ WdAt H w B sp t ∧ k < 676 ∧ Q (.str (sc (nmC B sp t k))) H
section
variable {P : Program} {w : World} {K : PySem.W.Frag} {mg : Str → Option Value} {base : Heap}
abbrev sLNameN : List Str := ["_law_words_here", "_law_number", "_law_base", "_law_spot", "_law_turn", "_law_letters", "_law_code"]
theorem sc_sLName : FnScope sLNameN ["_law_words_here", "_law_number"] (defScope sLName) := ⟨rfl, rfl, rfl, by decide +kernel, rfl, by decide +kernel, by decide +kernel⟩
theorem ok_lname {f : Addr} {fd : FuncData} (F : Fun K "_law_name" "_law_name" sLName f fd) : FnOk P w K mg base CX0 1 f fd ["_law_words_here", "_law_number"] spLName := by
  refine F.ok sc_sLName (fun vs H Q E h => ?_) (fun cdv A outer s H vs Q E hr h => ?_)
  · obtain ⟨w, B, sp, t, k, rfl, _⟩ := h
    rfl
  · obtain ⟨wd, B, sp, t, k, rfl, hw, hk, q⟩ := h
    have nd := sc_sLName.nd
    have nd := sc_sLName.nd
    refine ⟨_, pss_cons (ps_asg (pv 0) (pg_tup (by rfl) (pgs_cons (pg_name (i := 2) nd rfl (Or.inl rfl)) (pgs_cons (pg_name (i := 3) nd rfl (Or.inl rfl)) (pgs_cons (pg_name (i := 4) nd rfl (Or.inl rfl)) pgs_nil)))))
      (pss_cons (ps_set (i := 5) nd rfl (Or.inl rfl) pe_str)
      (pss_cons (ps_set (i := 6) nd rfl (Or.inl rfl) (pe_ix ix_str (pv 5) (pe_op op_mod (pe_op op_add (pv 4) (pv 1)) pe_int) (fun _ _ => rfl)))
      (C8.pss_cut (ps_if (pt_cmpR op_gt (pv 1) pe_int (nomark _)) (pss_one (ps_set (i := 6) nd rfl (Or.inl rfl) (pe_op op_add_str (pv 6) (pe_ix ix_str (pv 5) (pe_op op_fdiv (pv 1) pe_int) (fun _ _ => rfl))))) pss_nil)
      (pss_cons (ps_if (pt_cmpR op_eq (pe_op op_mod (pv 1) pe_int) pe_int (nomark _)) (pss_one (ps_ret (pv 6))) pss_nil)
      (pss_one (ps_ret (pe_op op_add_str (pe_op op_add_str (pe_slice sl_str (pv 2) po_none (po_some (pv 3))) (pv 6)) (pe_slice sl_str (pv 2) (po_some (pv 3)) po_none)))))))), ?_⟩
    have ok := hw.ok
    have bl := ok.le
    have bsp := ok.sp
    refine ⟨_, rfl, wd, _, rfl, SqT.of hw.at_, rfl, _, _, rfl, _, _, rfl, _, _, rfl, rfl, ?_⟩
    have i1 : 0 ≤ ((t : Int) + (k : Int)) % 26 := Int.emod_nonneg _ (by decide)
    have i2 : ((t : Int) + (k : Int)) % 26 < 26 := Int.emod_lt_of_pos _ (by decide)
    have q1 : (((t : Int) + (k : Int)) % 26).toNat = (t + k) % 26 := by omega
    refine ⟨_, rfl, _, rfl, _, rfl, (t : Int), (k : Int), rfl, rfl, _, 26, rfl, rfl, (by show (0 : Int) < 26; decide), abc, _, _, rfl, rfl, (by decide +kernel), at_abc i1 i2, ?_⟩
    refine ⟨fun σ' H' => σ' = [some (.ref wd), some (.int (k : Int)), some (.str (sc B)), some (.int (sp : Int)), some (.int (t : Int)), some (.str abc), some (.str (sc (cdC t k)))] ∧ H' = H, ?_, ?_⟩
    · refine ⟨_, rfl, (k : Int), 25, rfl, rfl, _, rfl, ite2 (fun e => ?_) (fun e => ?_)⟩
      · have e' : 25 < k := by have : (25 : Int) < (k : Int) := of_decide_eq_true e; omega
        have j1 : 0 ≤ (k : Int) / 26 := by omega
        have j2 : (k : Int) / 26 < 26 := by omega
        refine ⟨_, rfl, _, rfl, _, rfl, (k : Int), 26, rfl, rfl, ⟨by decide, by decide⟩, abc, _, _, rfl, rfl, (by decide +kernel), at_abc j1 j2, _, _, rfl, rfl, (by show 1 + 1 ≤ sizeLine; decide), ?_, rfl⟩
        have : ((⟨#[Lc (((t : Int) + (k : Int)) % 26).toNat]⟩ : Str) ++ ⟨#[Lc ((k : Int) / 26).toNat]⟩ : Str) = sc (cdC t k) := by
          rw [q1, show ((k : Int) / 26).toNat = k / 26 by omega]
          unfold cdC
          rw [if_pos e']
          exact sc_app [_] [_]
        rw [this]
        rfl
      · have e' : ¬ 25 < k := fun z => e (decide_eq_true (by omega))
        refine ⟨?_, rfl⟩
        have : (⟨#[Lc (((t : Int) + (k : Int)) % 26).toNat]⟩ : Str) = sc (cdC t k) := by
          rw [q1]
          unfold cdC
          rw [if_neg e']
        rw [this]
        rfl
    · rintro σ' H' ⟨rfl, rfl⟩
      have m3 : (k : Int) % 3 = ((k % 3 : Nat) : Int) := by omega
      refine ⟨_, rfl, (k : Int), 3, rfl, rfl, (by show (0 : Int) < 3; decide), rfl, _, rfl, ite2 (fun e => ?_) (fun e => ?_)⟩
      · have e' : k % 3 = 2 := by have := V.int.inj (of_decide_eq_true e); omega
        unfold nmC at q
        rw [if_pos e'] at q
        exact ⟨_, rfl, q⟩
      · have e' : ¬ k % 3 = 2 := fun z => e (decide_eq_true (congrArg V.int (by omega)))
        unfold nmC at q
        rw [if_neg e'] at q
        have c1 : cutS (sc B) none (some (sp : Int)) = sc (B.take sp) := sc_take B bsp
        have c2 : cutS (sc B) (some (sp : Int)) none = sc (B.drop sp) := sc_drop B bsp
        have l1 : (sc (B.take sp)).length ≤ 6 := by rw [sc_len, List.length_take]; omega
        have l2 : (sc (B.drop sp)).length ≤ 6 := by rw [sc_len, List.length_drop]; omega
        have l3 : (sc (cdC t k)).length ≤ 2 := by rw [sc_len]; exact (cdC_len t k).2
        have szB : (sc B).length ≤ sizeLine := by rw [sc_len]; exact small_sz (by omega)
        refine ⟨_, rfl, _, rfl, (sp : Int), rfl, sc B, rfl, szB, _, rfl, _, _, rfl, rfl, ?_, _, rfl, _, rfl, (sp : Int), rfl, sc B, rfl, szB, _, _, rfl, rfl, ?_, ?_⟩
        · rw [c1]
          exact small_sz (by omega)
        · rw [c1, c2, sc_app, sc_len, List.length_append]
          rw [sc_len] at l1 l3
          exact small_sz (by omega)
        · rw [c1, c2, sc_app, sc_app]
          exact q
abbrev sWordsN : List Str := ["_law_pen_here", "_law_size", "_law_base", "_law_k"]
theorem sc_sWords : FnScope sWordsN ["_law_pen_here"] (defScope sWords) := ⟨rfl, rfl, rfl, by decide +kernel, rfl, by decide +kernel, by decide +kernel⟩
set_option maxHeartbeats 1000000 in
theorem ok_words {f fT : Addr} {fd dT : FuncData} (F : Fun K "_law_words" "_law_words" sWords f fd) (T : DefT P w K mg base "_law_draw" 1 fT dT ["_law_pen_here", "_law_many_here"] spDraw) (mr : mg "range" = none) : FnOk P w K mg base CX0 2 f fd ["_law_pen_here"] spWords := by
  refine F.ok sc_sWords (fun vs H Q E h => ?_) (fun cdv A outer s H vs Q E hr h => ?_)
  · obtain ⟨p, c, n, rfl, _⟩ := h
    rfl
  · obtain ⟨p, c, n, rfl, pen, hn, q⟩ := h
    have nd := sc_sWords.nd
    have nd := sc_sWords.nd
    refine ⟨_, pss_cons (ps_set (i := 1) nd rfl (Or.inl rfl) (pe_ix ix_list (pe_lst (pa_cons pe_int (pa_cons pe_int (pa_cons pe_int (pa_cons pe_int pa_nil))))) (pe_call T.ok hr (by rfl) T.g T.kp T.b .nil pass0 (pa_cons (pv 0) (pa_cons pe_int pa_nil))) (fun _ _ => rfl)))
      (pss_cons (ps_set (i := 2) nd rfl (Or.inl rfl) (pe_join pe_str (pe_lc (own := [("_law_k", 3)]) (g := gName 3) (tt := tYes) rfl nd (pi_range1 rfl mr (pa_cons (pv 1) pa_nil)) (blkOk_by (N := sWordsN) (sc := defScope sWords) (by decide +kernel)) (fun _ _ _ _ _ => (pg_name (i := 3) nd rfl (Or.inl rfl))) (fun _ _ _ _ _ => pts_nil) (fun _ _ _ _ _ => (pe_ix ix_str pe_str (pe_call T.ok hr (by rfl) T.g T.kp T.b .nil pass0 (pa_cons (pv 0) (pa_cons pe_int pa_nil))) (fun _ _ => rfl))))))
      (pss_one (ps_ret (pe_tup (pa_cons (pv 2) (pa_cons (pe_call T.ok hr (by rfl) T.g T.kp T.b .nil pass0 (pa_cons (pv 0) (pa_cons (pe_op op_add (pv 1) pe_int) pa_nil))) (pa_cons (pe_call T.ok hr (by rfl) T.g T.kp T.b .nil pass0 (pa_cons (pv 0) (pa_cons pe_int pa_nil))) pa_nil))))))), ?_⟩
    refine ⟨(by show 4 ≤ sizeLine; decide), fun l nl => ?_⟩
    have sl := @same_new _ _ (.lst [V.int 0, .int 2, .int 3, .int 6]) nl
    refine ⟨_, rfl, p, c, n, 4, rfl, pen.same sl, by omega, by decide, by decide, fun r1 H1 a1 b1 pen1 bt1 => ?_⟩
    have nlp : l ≠ p := fun z => pen.there (z ▸ nl)
    obtain ⟨kk, hkk, mk⟩ := at_ints (ns := [0, 2, 3, 6]) (r := r1) a1 (by show r1 < 4; omega)
    have hk : kk = 0 ∨ kk = 2 ∨ kk = 3 ∨ kk = 6 := by simpa using mk
    refine ⟨l, _, _, _, rfl, rfl, SqL.of (bt1 l _ upd_same nlp), hkk, ?_⟩
    have bt1' : But p H H1 := (But.of sl).tr bt1
    refine ⟨⟨_, rfl⟩, _, rfl, kk, rfl, by omega, by omega, fun D nD => ?_⟩
    have nDp : D ≠ p := fun z => pen1.there (z ▸ nD)
    have nDc : D ≠ c := fun z => pen1.cells (z ▸ nD)
    have hDn : H D = none := bt1'.free nD pen1.there
    refine lc_range (lo := 0) (n := kk.toNat) (fun j H' => PenAt H' p c (n + 1 + j) ∧ But p H H' ∧ ∃ B : List Nat, H' D = some (.lst (((B.map fun c => [c]).map sc).map V.str)) ∧ B.length = j ∧ ∀ c ∈ B, c ∈ abc.cps.toList)
      ⟨pen1.same (same_new nD), bt1'.tr (.of (same_new nD)), [], upd_same, rfl, fun y hy => nomatch hy⟩ ?_ ?_
    · rintro j H6 hj ⟨pen6, bt6, B, hD6, ly, one⟩
      refine ⟨rfl, yesT ?_⟩
      refine ⟨_, rfl, p, c, _, 26, rfl, pen6, by omega, by decide, by decide, fun r H7 a7 b7 pen7 bt7 => ?_⟩
      have hD7 := bt7 D _ hD6 nDp
      refine ⟨abc, r, _, rfl, rfl, (by decide +kernel), at_abc a7 b7, _, hD7, (by simp only [List.length_map]; exact small1000 (by omega)), pen7.upd nDp nDc, fun b o e nb => (upd_ne (ne_of_none e hDn)).trans ((bt6.tr bt7) b o e nb), B ++ [Lc r.toNat], ?_, by simp [ly], ?_⟩
      · rw [upd_same, List.map_append, List.map_append, List.map_append]
        rfl
      · intro y hy
        rcases List.mem_append.mp hy with h | h
        · exact one y h
        · rw [List.mem_singleton.mp h]
          exact Lc_in (by omega)
    · rintro H6 ⟨pen6, bt6, B, hD6, ly, one⟩
      have bl : B.length ≤ 6 := by omega
      have ej : Txt.join "" ((B.map fun c => [c]).map sc) = sc B := by rw [sc_join, flat_one]
      refine ⟨"", D, (B.map fun c => [c]).map sc, rfl, rfl, .inl (SqL.of hD6), (by rw [sum_one]; simp only [List.length_map]; show B.length + B.length * 0 ≤ 16777216; omega), ?_⟩
      rw [ej]
      refine ⟨_, rfl, _, rfl, _, rfl, kk, 1, rfl, rfl, p, c, _, kk + 1, rfl, pen6, by omega, by omega, by omega, fun r4 H7 a4 b4 pen7 bt7 => ?_⟩
      refine ⟨_, rfl, p, c, _, 26, rfl, pen7, by omega, by decide, by decide, fun r5 H8 a5 b5 pen8 bt8 => ?_⟩
      refine ⟨(by show 3 ≤ sizeLine; decide), fun wd nw => ?_⟩
      have sw := @same_new _ _ (.tup [V.str (sc B), .int r4, .int r5]) nw
      have bt := bt6.tr (bt7.tr bt8)
      refine q wd B r4.toNat r5.toNat _ (bt.free nw pen8.there) ⟨?_, by omega, by omega, one, by omega, by omega⟩ ((pen8.mono (by omega)).same sw) (bt.tr (.of sw))
      rw [upd_same, Int.toNat_of_nonneg a4, Int.toNat_of_nonneg a5]
end
def TK (H H' : Hp) : Prop := ∀ a xs, H a = some (.tup xs) → H' a = some (.tup xs)
theorem TK.of {H H' : Hp} (s : Same H H') : TK H H' := fun a xs e => s a _ e
theorem TK.tr {H H1 H2 : Hp} (a : TK H H1) (b : TK H1 H2) : TK H H2 := fun c xs e => b c xs (a c xs e)
theorem TK.upd {H : Hp} {l : Addr} {o : HO} (n : ∀ xs, H l ≠ some (.tup xs)) : TK H (upd H l o) := fun a xs e => by
  by_cases z : a = l
  · rw [z] at e
    exact absurd e (n xs)
  · exact (upd_ne z).trans e
/-! ### places, goods, moments, amounts, entries -/
structure StOk (P G : List Str) : Prop where
  pd : P.Nodup
  gd : G.Nodup
  pn : ∀ y ∈ P, nameB y = true
  gn : ∀ y ∈ G, nameB y = true
  pl : 1 ≤ P.length ∧ P.length ≤ 6
  gl : 1 ≤ G.length ∧ G.length ≤ 3
  ps : sortedS P = true
  gs : sortedS G = true
structure StAt (H : Hp) (st a1 a2 : Addr) (P G : List Str) : Prop where
  at_ : H st = some (.tup [.ref a1, .ref a2])
  p : H a1 = some (.tup (P.map V.str))
  g : H a2 = some (.tup (G.map V.str))
theorem StAt.on {H H' : Hp} (k : TK H H') {st a1 a2 : Addr} {P G : List Str} (h : StAt H st a1 a2 P G) : StAt H' st a1 a2 P G := ⟨k _ _ h.at_, k _ _ h.p, k _ _ h.g⟩
theorem WdAt.on {H H' : Hp} (k : TK H H') {w : Addr} {B : List Nat} {sp t : Nat} (h : WdAt H w B sp t) : WdAt H' w B sp t := ⟨k _ _ h.at_, h.ok⟩
theorem TK.pen {H H' : Hp} {p c : Addr} {n : Nat} (pen : PenAt H p c n) (b : But p H H') : TK H H' := fun a xs e => b a _ e (pen.tup e)
def nmsC (B : List Nat) (sp t lo m : Nat) : List Str := (List.range m).map fun k => sc (nmC B sp t (lo + k))
theorem nmsC_names {B : List Nat} {sp t lo m : Nat} (ok : WdOk B sp t) (h : lo + m ≤ 676) : ∀ y ∈ nmsC B sp t lo m, nameB y = true := by
  intro y hy
  obtain ⟨k, hk, rfl⟩ := List.mem_map.mp hy
  have := List.mem_range.mp hk
  exact nmC_name ok (by omega)
theorem sc_inj {a b : List Nat} (h : sc a = sc b) : a = b := by
  have := congrArg (fun z : Str => z.cps.toList) h
  simpa using this
theorem nmsC_nodup {B : List Nat} {sp t lo m : Nat} (ok : WdOk B sp t) (h : lo + m ≤ 676) : (nmsC B sp t lo m).Nodup := by
  unfold nmsC
  refine List.pairwise_map.mpr (List.Pairwise.imp_of_mem (fun {a b} ha hb hne z => hne ?_) (List.nodup_range (n := m)))
  have h1 := List.mem_range.mp ha
  have h2 := List.mem_range.mp hb
  have := nmC_inj ok (by omega) (by omega) (sc_inj z)
  omega
/-- names of the words, of low number -/
def LowN (B : List Nat) (sp t : Nat) (ns : List Str) : Prop := ∀ n ∈ ns, ∃ k, k < 26 ∧ n = sc (nmC B sp t k)
theorem LowN.of {B : List Nat} {sp t lo m : Nat} {P : List Str} (h : lo + m ≤ 26) (p : P.Perm (nmsC B sp t lo m)) : LowN B sp t P := fun n hn => by
  obtain ⟨k, hk, e⟩ := List.mem_map.mp (p.mem_iff.mp hn)
  exact ⟨lo + k, by have := List.mem_range.mp hk; omega, e.symm⟩
def spLStand : Sp := fun vs H Q _ => ∃ (p c : Addr) (n : Nat) (w : Addr) (B : List Nat) (sp t : Nat), vs = [.ref p, .ref w] ∧ PenAt H p c n ∧ n ≤ 90000 ∧ WdAt H w B sp t ∧
  ∀ (st a1 a2 : Addr) (P G : List Str) (H' : Hp), H st = none → StAt H' st a1 a2 P G → StOk P G → LowN B sp t P → LowN B sp t G → PenAt H' p c (n + 3) → But p H H' → Q (.ref st) H'
def spMoment : Sp := fun vs H Q _ => ∃ (p c : Addr) (n : Nat), vs = [.ref p] ∧ PenAt H p c n ∧ n ≤ 90000 ∧ ∀ (r : Int) (H' : Hp), 0 ≤ r → r ≤ 9999 → PenAt H' p c (n + 4) → But p H H' → Q (.int r) H'
def spMany : Sp := fun vs H Q _ => ∃ (p c : Addr) (n : Nat), vs = [.ref p] ∧ PenAt H p c n ∧ n ≤ 90000 ∧ ∀ (r : Int) (H' : Hp), 1 ≤ r → r ≤ 1000000000 → PenAt H' p c (n + 3) → But p H H' → Q (.int r) H'
section
variable {P : Program} {w : World} {K : PySem.W.Frag} {mg : Str → Option Value} {base : Heap}
abbrev sMomentN : List Str := ["_law_pen_here", "_law_way", "_law_few"]
theorem sc_sMoment : FnScope sMomentN ["_law_pen_here"] (defScope sMoment) := ⟨rfl, rfl, rfl, by decide +kernel, rfl, by decide +kernel, by decide +kernel⟩
theorem ok_moment {f fT : Addr} {fd dT : FuncData} (F : Fun K "_law_moment" "_law_moment" sMoment f fd) (T : DefT P w K mg base "_law_draw" 1 fT dT ["_law_pen_here", "_law_many_here"] spDraw) : FnOk P w K mg base CX0 2 f fd ["_law_pen_here"] spMoment := by
  refine F.ok sc_sMoment (fun vs H Q E h => ?_) (fun cdv A outer s H vs Q E hr h => ?_)
  · obtain ⟨p, c, n, rfl, _⟩ := h
    rfl
  · obtain ⟨p, c, n, rfl, pen, hn, q⟩ := h
    have nd := sc_sMoment.nd
    have nd := sc_sMoment.nd
    refine ⟨_, pss_cons (ps_set (i := 1) nd rfl (Or.inl rfl) (pe_call T.ok hr (by rfl) T.g T.kp T.b .nil pass0 (pa_cons (pv 0) (pa_cons pe_int pa_nil))))
      (pss_cons (ps_set (i := 2) nd rfl (Or.inl rfl) (pe_op op_add (pe_op op_mul pe_int (pe_call T.ok hr (by rfl) T.g T.kp T.b .nil pass0 (pa_cons (pv 0) (pa_cons pe_int pa_nil)))) (pe_call T.ok hr (by rfl) T.g T.kp T.b .nil pass0 (pa_cons (pv 0) (pa_cons pe_int pa_nil)))))
      (pss_cons (ps_if (pt_cmpR op_lt (pv 1) pe_int (nomark _)) (pss_one (ps_ret (pv 2))) pss_nil)
      (pss_cons (ps_if (pt_cmpR op_eq (pv 1) pe_int (nomark _)) (pss_one (ps_ret (pe_ix ix_list (pe_lst (pa_cons pe_int (pa_cons pe_int (pa_cons pe_int (pa_cons pe_int (pa_cons pe_int (pa_cons pe_int (pa_cons pe_int (pa_cons pe_int pa_nil))))))))) (pe_call T.ok hr (by rfl) T.g T.kp T.b .nil pass0 (pa_cons (pv 0) (pa_cons pe_int pa_nil))) (fun _ _ => rfl)))) pss_nil)
      (pss_one (ps_ret (pe_call T.ok hr (by rfl) T.g T.kp T.b .nil pass0 (pa_cons (pv 0) (pa_cons pe_int pa_nil)))))))), ?_⟩
    refine ⟨_, rfl, p, c, n, 4, rfl, pen, by omega, by decide, by decide, fun r1 H1 a1 b1 pen1 bt1 => ?_⟩
    refine ⟨_, rfl, p, c, _, 4, rfl, pen1, by omega, by decide, by decide, fun r2 H2 a2 b2 pen2 bt2 => ⟨100, r2, rfl, rfl, .inl ⟨by decide, by decide⟩, _, rfl, p, c, _, 2, rfl, pen2, by omega, by decide, by decide, fun r3 H3 a3 b3 pen3 bt3 => ?_⟩⟩
    have bt := bt1.tr (bt2.tr bt3)
    refine ⟨_, _, rfl, rfl, ?_⟩
    refine ⟨_, rfl, r1, 2, rfl, rfl, _, rfl, ite2 (fun _ => ?_) (fun _ => ?_)⟩
    · exact ⟨_, rfl, q _ H3 (by omega) (by omega) (pen3.mono (by omega)) bt⟩
    · refine ⟨_, rfl, rfl, _, rfl, ite2 (fun _ => ?_) (fun _ => ?_)⟩
      · refine ⟨(by show 8 ≤ sizeLine; decide), fun l nl => ?_⟩
        have sl := @same_new _ _ (.lst (([0, 99, 100, 199, 200, 9899, 9900, 9999] : List Int).map V.int)) nl
        refine ⟨_, rfl, p, c, _, 8, rfl, pen3.same sl, by omega, by decide, by decide, fun r4 H4 a4 b4 pen4 bt4 => ?_⟩
        obtain ⟨mo, h1, h2⟩ := at_ints (ns := [0, 99, 100, 199, 200, 9899, 9900, 9999]) (r := r4) a4 (by show r4 < 8; omega)
        refine ⟨l, _, _, _, rfl, rfl, SqL.of (bt4 l _ upd_same fun z => pen3.there (z ▸ nl)), h1, ?_⟩
        have : 0 ≤ mo ∧ mo ≤ 9999 := by
          simp only [List.mem_cons, List.not_mem_nil, or_false] at h2
          rcases h2 with rfl | rfl | rfl | rfl | rfl | rfl | rfl | rfl <;> decide
        exact q _ H4 this.1 this.2 pen4 (bt.tr ((But.of sl).tr bt4))
      · exact ⟨_, rfl, p, c, _, 10000, rfl, pen3, by omega, by decide, by decide, fun r4 H4 a4 b4 pen4 bt4 => q _ H4 a4 (by omega) pen4 (bt.tr bt4)⟩
abbrev sManyN : List Str := ["_law_pen_here", "_law_way", "_law_some"]
theorem sc_sMany : FnScope sManyN ["_law_pen_here"] (defScope sMany) := ⟨rfl, rfl, rfl, by decide +kernel, rfl, by decide +kernel, by decide +kernel⟩
theorem ok_many {f fT : Addr} {fd dT : FuncData} (F : Fun K "_law_many" "_law_many" sMany f fd) (T : DefT P w K mg base "_law_draw" 1 fT dT ["_law_pen_here", "_law_many_here"] spDraw) : FnOk P w K mg base CX0 2 f fd ["_law_pen_here"] spMany := by
  refine F.ok sc_sMany (fun vs H Q E h => ?_) (fun cdv A outer s H vs Q E hr h => ?_)
  · obtain ⟨p, c, n, rfl, _⟩ := h
    rfl
  · obtain ⟨p, c, n, rfl, pen, hn, q⟩ := h
    have nd := sc_sMany.nd
    have nd := sc_sMany.nd
    refine ⟨_, pss_cons (ps_set (i := 1) nd rfl (Or.inl rfl) (pe_call T.ok hr (by rfl) T.g T.kp T.b .nil pass0 (pa_cons (pv 0) (pa_cons pe_int pa_nil))))
      (pss_cons (ps_set (i := 2) nd rfl (Or.inl rfl) (pe_op op_mod (pe_op op_add (pe_op op_mul (pe_call T.ok hr (by rfl) T.g T.kp T.b .nil pass0 (pa_cons (pv 0) (pa_cons pe_int pa_nil))) pe_int) (pe_call T.ok hr (by rfl) T.g T.kp T.b .nil pass0 (pa_cons (pv 0) (pa_cons pe_int pa_nil)))) (pe_op op_pow pe_int pe_int)))
      (pss_one (ps_ret (pe_op op_add pe_int (pe_ix ix_list (pe_lst (pa_cons (pe_op op_mod (pv 2) pe_int) (pa_cons (pe_op op_mod (pv 2) pe_int) (pa_cons (pe_op op_sub (pe_op op_sub (pe_op op_pow pe_int pe_int) pe_int) (pe_op op_mod (pv 2) pe_int)) (pa_cons (pv 2) pa_nil))))) (pv 1) (fun _ _ => rfl)))))), ?_⟩
    refine ⟨_, rfl, p, c, n, 4, rfl, pen, by omega, by decide, by decide, fun r1 H1 a1 b1 pen1 bt1 => ?_⟩
    refine ⟨_, rfl, p, c, _, 40009, rfl, pen1, by omega, by decide, by decide, fun r2 H2 a2 b2 pen2 bt2 => ⟨r2, 40013, rfl, rfl, .inr ⟨by decide, by decide⟩, _, rfl, p, c, _, 40013, rfl, pen2, by omega, by decide, by decide, fun r3 H3 a3 b3 pen3 bt3 => ?_⟩⟩
    refine ⟨_, _, rfl, rfl, 10, 9, rfl, rfl, ⟨by decide, by decide, by decide⟩, _, _, rfl, rfl, (by show (0 : Int) < 10 ^ (9 : Int).toNat; decide), ?_⟩
    have e9 : (10 : Int) ^ (9 : Int).toNat = 1000000000 := by decide
    have s1 : 0 ≤ (r2 * 40013 + r3) % 10 ^ (9 : Int).toNat := Int.emod_nonneg _ (by decide)
    have s2 : (r2 * 40013 + r3) % 10 ^ (9 : Int).toNat < 1000000000 := by rw [e9]; exact Int.emod_lt_of_pos _ (by decide)
    show gName 2 (V.int ((r2 * 40013 + r3) % 10 ^ (9 : Int).toNat)) _ _ _
    generalize (r2 * 40013 + r3) % 10 ^ (9 : Int).toNat = sm at s1 s2
    refine ⟨_, rfl, sm, 9, rfl, rfl, (by show (0 : Int) < 9; decide), _, rfl, sm, 3, rfl, rfl, (by show (0 : Int) < 3; decide), 10, 9, rfl, rfl, ⟨by decide, by decide, by decide⟩, _, 1, rfl, rfl, _, rfl, sm, 2, rfl, rfl, (by show (0 : Int) < 2; decide), _, _, rfl, rfl, _, rfl, (by show 4 ≤ sizeLine; decide), fun l nl => ?_⟩
    have m1 := Int.emod_nonneg sm (show (9 : Int) ≠ 0 by decide)
    have m2 := Int.emod_lt_of_pos sm (show (0 : Int) < 9 by decide)
    have m3 := Int.emod_nonneg sm (show (3 : Int) ≠ 0 by decide)
    have m4 := Int.emod_lt_of_pos sm (show (0 : Int) < 3 by decide)
    have m5 := Int.emod_nonneg sm (show (2 : Int) ≠ 0 by decide)
    have m6 := Int.emod_lt_of_pos sm (show (0 : Int) < 2 by decide)
    have sl := @same_new _ _ (.lst (([sm % 9, sm % 3, 10 ^ (9 : Int).toNat - 1 - sm % 2, sm] : List Int).map V.int)) nl
    obtain ⟨mo, h1, h2⟩ := at_ints (ns := [sm % 9, sm % 3, 10 ^ (9 : Int).toNat - 1 - sm % 2, sm]) (r := r1) a1 (by show r1 < 4; omega)
    have rg : 0 ≤ mo ∧ mo ≤ 999999999 := by
      rw [e9] at h2
      simp only [List.mem_cons, List.not_mem_nil, or_false] at h2
      rcases h2 with rfl | rfl | rfl | rfl <;> omega
    refine ⟨_, rfl, l, _, _, _, rfl, rfl, SqL.of upd_same, h1, 1, mo, rfl, rfl, ?_⟩
    exact q _ _ (by omega) (by omega) (pen3.same sl) ((bt1.tr (bt2.tr bt3)).tr (.of sl))
abbrev sLStandN : List Str := ["_law_pen_here", "_law_words_here", "_law_apart", "_law_places", "_law_k", "_law_goods"]
theorem sc_sLStand : FnScope sLStandN ["_law_pen_here", "_law_words_here"] (defScope sLStand) := ⟨rfl, rfl, rfl, by decide +kernel, rfl, by decide +kernel, by decide +kernel⟩
set_option maxHeartbeats 1000000 in
theorem ok_lstand {f fT fN : Addr} {fd dT dN : FuncData} (F : Fun K "_law_stand" "_law_stand" sLStand f fd) (T : DefT P w K mg base "_law_draw" 1 fT dT ["_law_pen_here", "_law_many_here"] spDraw) (NM : DefT P w K mg base "_law_name" 1 fN dN ["_law_words_here", "_law_number"] spLName)
    (mr : mg "range" = none) (ms : mg "sorted" = none) (mt : mg "tuple" = none) : FnOk P w K mg base CX0 2 f fd ["_law_pen_here", "_law_words_here"] spLStand := by
  refine F.ok sc_sLStand (fun vs H Q E h => ?_) (fun cdv A outer s H vs Q E hr h => ?_)
  · obtain ⟨p, c, n, wd, B, sp, t, rfl, _⟩ := h
    rfl
  · obtain ⟨p, c, n, wd, B, sp, t, rfl, pen, hn, hw, q⟩ := h
    have nd := sc_sLStand.nd
    have nd := sc_sLStand.nd
    refine ⟨_, pss_cons (ps_set (i := 2) nd rfl (Or.inr rfl) (pe_op op_mul pe_int (pe_call T.ok hr (by rfl) T.g T.kp T.b .nil pass0 (pa_cons (pv 0) (pa_cons pe_int pa_nil)))))
      (pss_cons (ps_setLc (i := 3) (own := [("_law_k", 4)]) (g := gName 4) (tt := tYes) (te := tCall spLName [] E0 (tCons (tVar 1) (tCons (tVar 4) tNil))) rfl nd rfl rfl (sw_true rfl rfl rfl (by decide +kernel)) (pi_range1 rfl mr (pa_cons (pe_op op_add pe_int (pe_call T.ok hr (by rfl) T.g T.kp T.b .nil pass0 (pa_cons (pv 0) (pa_cons pe_int pa_nil)))) pa_nil)) (blkOk_by (N := sLStandN) (sc := defScope sLStand) (by decide +kernel)) (fun _ _ _ _ _ => (pg_name (i := 4) nd rfl (Or.inl rfl))) (fun _ _ _ _ _ => pts_nil) (fun _ _ _ _ _ => (pe_call NM.ok hr (by rfl) NM.g NM.kp NM.b .nil pass0 (pa_cons (pv 1) (pa_cons (pv 4) pa_nil)))))
      (pss_cons (ps_setLc (i := 5) (own := [("_law_k", 4)]) (g := gName 4) (tt := tYes) (te := tCall spLName [] E0 (tCons (tVar 1) (tCons (tOp (rI0 fun i j => .int (i + j)) (tVar 2) (tVar 4)) tNil))) rfl nd rfl rfl (sw_true rfl rfl rfl (by decide +kernel)) (pi_range1 rfl mr (pa_cons (pe_op op_add pe_int (pe_call T.ok hr (by rfl) T.g T.kp T.b .nil pass0 (pa_cons (pv 0) (pa_cons pe_int pa_nil)))) pa_nil)) (blkOk_by (N := sLStandN) (sc := defScope sLStand) (by decide +kernel)) (fun _ _ _ _ _ => (pg_name (i := 4) nd rfl (Or.inl rfl))) (fun _ _ _ _ _ => pts_nil) (fun _ _ _ _ _ => (pe_call NM.ok hr (by rfl) NM.g NM.kp NM.b .nil pass0 (pa_cons (pv 1) (pa_cons (pe_op op_add (pv 2) (pv 4)) pa_nil)))))
      (pss_one (ps_ret (pe_tup (pa_cons (pe_callTy call_tuple_of (by rfl) mt (by decide +kernel) (pa_cons (pe_callB cr_sortedS (by rfl) ms (by decide +kernel) (pa_cons (pv 3) pa_nil)) pa_nil)) (pa_cons (pe_callTy call_tuple_of (by rfl) mt (by decide +kernel) (pa_cons (pe_callB cr_sortedS (by rfl) ms (by decide +kernel) (pa_cons (pv 5) pa_nil)) pa_nil)) pa_nil))))))), ?_⟩
    refine ⟨_, rfl, p, c, n, 2, rfl, pen, by omega, by decide, by decide, fun r1 H1 a1 b1 pen1 bt1 => ?_⟩
    refine ⟨9, r1, rfl, rfl, .inl ⟨by decide, by decide⟩, ?_⟩
    have hw1 := hw.on (TK.pen pen bt1)
    refine ⟨_, rfl, p, c, _, 6, rfl, pen1, by omega, by decide, by decide, fun r2 H2 a2 b2 pen2 bt2 => ?_⟩
    have hw2 := hw1.on (TK.pen pen1 bt2)
    have bt12 := bt1.tr bt2
    refine ⟨1, r2, rfl, rfl, 1 + r2, rfl, by omega, by omega, fun D nD => ?_⟩
    have sD := @same_new _ _ (.lst []) nD
    have nDp : D ≠ p := fun z => pen2.there (z ▸ nD)
    have nDc : D ≠ c := fun z => pen2.cells (z ▸ nD)
    refine lc_range (lo := 0) (n := (1 + r2).toNat) (fun j H' => Same H2 H' ∧ H' D = some (.lst ((nmsC B sp t 0 j).map V.str))) ⟨sD, upd_same⟩ ?_ ?_
    · rintro j H6 hj ⟨sm, hD6⟩
      refine ⟨rfl, yesT ⟨_, rfl, _, rfl, wd, B, sp, t, j, ?_, hw2.on (TK.of sm), by omega, ?_⟩⟩
      · rw [Int.zero_add]
        rfl
      · refine ⟨_, hD6, (by unfold nmsC; simp only [List.length_map, List.length_range]; exact small1000 (by omega)), fun b o e => (upd_ne (ne_of_none e nD)).trans (sm b o e), ?_⟩
        rw [upd_same]
        unfold nmsC
        rw [List.range_succ, List.map_append, List.map_append]
        simp only [List.map_cons, List.map_nil, Nat.zero_add]
    · rintro H6 ⟨sm6, hD6⟩
      have hw6 := hw2.on (TK.of sm6)
      have pen6 := pen2.same sm6
      refine ⟨_, rfl, p, c, _, 3, rfl, pen6, by omega, by decide, by decide, fun r3 H7 a3 b3 pen7 bt7 => ?_⟩
      have hw7 := hw6.on (TK.pen pen6 bt7)
      have hD7 := bt7 D _ hD6 nDp
      refine ⟨1, r3, rfl, rfl, 1 + r3, rfl, by omega, by omega, fun E2 nE => ?_⟩
      have sE := @same_new _ _ (.lst []) nE
      have eL : ∀ j : Nat, ((9 * r1 : Int) + (0 + (j : Int))) = ((9 * r1.toNat + j : Nat) : Int) := fun j => by omega
      refine lc_range (lo := 0) (n := (1 + r3).toNat) (fun j H' => Same H7 H' ∧ H' E2 = some (.lst ((nmsC B sp t (9 * r1.toNat) j).map V.str))) ⟨sE, upd_same⟩ ?_ ?_
      · rintro j H8 hj ⟨sm, hE8⟩
        refine ⟨rfl, yesT ⟨_, rfl, _, rfl, _, rfl, 9 * r1, 0 + (j : Int), rfl, rfl, wd, B, sp, t, 9 * r1.toNat + j, ?_, hw7.on (TK.of sm), by omega, ?_⟩⟩
        · show [V.ref wd, V.int ((9 * r1 : Int) + (0 + (j : Int)))] = _
          rw [eL]
        · refine ⟨_, hE8, (by unfold nmsC; simp only [List.length_map, List.length_range]; exact small1000 (by omega)), fun b o e => (upd_ne (ne_of_none e nE)).trans (sm b o e), ?_⟩
          rw [upd_same]
          unfold nmsC
          rw [List.range_succ, List.map_append, List.map_append]
          rfl
      · rintro H8 ⟨sm8, hE8⟩
        have hD8 := sm8 _ _ hD7
        have l1 : (nmsC B sp t 0 (1 + r2).toNat).length = (1 + r2).toNat := by unfold nmsC; rw [List.length_map, List.length_range]
        have l2 : (nmsC B sp t (9 * r1.toNat) (1 + r3).toNat).length = (1 + r3).toNat := by unfold nmsC; rw [List.length_map, List.length_range]
        have o1 := nmsC_names hw.ok (lo := 0) (m := (1 + r2).toNat) (by omega)
        have o2 := nmsC_names hw.ok (lo := 9 * r1.toNat) (m := (1 + r3).toNat) (by omega)
        have o3 := nmsC_nodup hw.ok (lo := 0) (m := (1 + r2).toNat) (by omega)
        have o4 := nmsC_nodup hw.ok (lo := 9 * r1.toNat) (m := (1 + r3).toNat) (by omega)
        refine ⟨_, rfl, D, _, rfl, SqL.of hD8, by omega, fun P1 d1 pm1 so1 nd1 => ⟨d1, _, rfl, .inl ⟨SqL.of upd_same, fun t1 nt1 => ?_⟩⟩⟩
        have s1 : Same H8 (upd (upd H8 d1 (.lst (P1.map V.str))) t1 (.tup (P1.map V.str))) := (same_new nd1).trans (same_new nt1)
        have hp1 : (upd (upd H8 d1 (.lst (P1.map V.str))) t1 (.tup (P1.map V.str))) t1 = some (.tup (P1.map V.str)) := upd_same
        generalize upd (upd H8 d1 (.lst (P1.map V.str))) t1 (.tup (P1.map V.str)) = H9 at s1 hp1
        refine ⟨_, rfl, E2, _, rfl, SqL.of (s1 _ _ hE8), by omega, fun G1 d2 pm2 so2 nd2 => ⟨d2, _, rfl, .inl ⟨SqL.of upd_same, fun t2 nt2 => ?_⟩⟩⟩
        have s2 : Same H9 (upd (upd H9 d2 (.lst (G1.map V.str))) t2 (.tup (G1.map V.str))) := (same_new nd2).trans (same_new nt2)
        have hp2 : (upd (upd H9 d2 (.lst (G1.map V.str))) t2 (.tup (G1.map V.str))) t2 = some (.tup (G1.map V.str)) := upd_same
        generalize upd (upd H9 d2 (.lst (G1.map V.str))) t2 (.tup (G1.map V.str)) = H10 at s2 hp2
        refine ⟨(by show 2 ≤ sizeLine; decide), fun st nst => ?_⟩
        have s3 := @same_new _ _ (.tup [V.ref t1, .ref t2]) nst
        have s68 : Same H7 (upd H10 st (.tup [V.ref t1, .ref t2])) := sm8.trans (s1.trans (s2.trans s3))
        have bt : But p H (upd H10 st (.tup [V.ref t1, .ref t2])) := (bt12.tr (.of sm6)).tr (bt7.tr (.of s68))
        refine q st t1 t2 P1 G1 _ ?_ ⟨upd_same, s3 _ _ (s2 _ _ hp1), s3 _ _ hp2⟩ ⟨pm1.nodup_iff.mpr o3, pm2.nodup_iff.mpr o4, fun y hy => o1 y (pm1.mem_iff.mp hy), fun y hy => o2 y (pm2.mem_iff.mp hy), ?_, ?_, so1, so2⟩ (LowN.of (lo := 0) (m := (1 + r2).toNat) (by omega) pm1) (LowN.of (lo := 9 * r1.toNat) (m := (1 + r3).toNat) (by omega) pm2) ((pen7.mono (by omega)).same s68) bt
        · have nsp : st ≠ p := fun z => (pen7.same (sm8.trans (s1.trans s2))).there (z ▸ nst)
          cases e : H st with
          | none => rfl
          | some o => exact absurd ((((bt12.tr (.of sm6)).tr (bt7.tr (.of (sm8.trans (s1.trans s2))))) st o e nsp).symm.trans nst) (by intro z; cases z)
        · rw [pm1.length_eq, l1]; omega
        · rw [pm2.length_eq, l2]; omega
end
/-! ### an entry of any kind -/
def spEntry : Sp := fun vs H Q _ => ∃ (p c : Addr) (n : Nat) (w : Addr) (B : List Nat) (sp t : Nat) (st a1 a2 : Addr) (P G : List Str) (k : Nat), vs = [.ref p, .ref w, .ref st, .int (k : Int)] ∧ PenAt H p c n ∧ n ≤ 80000 ∧ WdAt H w B sp t ∧ StAt H st a1 a2 P G ∧ StOk P G ∧ k < 676 ∧
  ∀ (tp : Addr) (e : Ent) (H' : Hp), H tp = none → H' tp = some (.tup e.vals) → e.name = sc (nmC B sp t k) → 0 ≤ e.moment → e.moment ≤ 9999 → e.From P G (nmsC B sp t 0 3) → PenAt H' p c (n + 12) → But p H H' → Q (.ref tp) H'
theorem hand_in {B : List Nat} {sp t j : Nat} (h : j < 3) : sc (nmC B sp t j) ∈ nmsC B sp t 0 3 := List.mem_map.mpr ⟨j, List.mem_range.mpr h, by rw [Nat.zero_add]⟩
/-- a heap with something new, by what is known of it -/
theorem newH {T : Hp → Prop} {H : Hp} {p : Addr} {o : HO} (n : H p = none) (h : ∀ H', Same H H' → H' p = some o → T H') : T (upd H p o) := h _ (same_new n) upd_same
theorem newH2 {α : Type} {T : Hp → α → Prop} {H : Hp} {p : Addr} {o : HO} {x : α} (n : H p = none) (h : ∀ H', Same H H' → H' p = some o → T H' x) : T (upd H p o) x := h _ (same_new n) upd_same
section
variable {P : Program} {w : World} {K : PySem.W.Frag} {mg : Str → Option Value} {base : Heap}
abbrev sEntryN : List Str := ["_law_pen_here", "_law_words_here", "_law_stand_here", "_law_number", "_law_places", "_law_goods", "_law_kind", "_law_at", "_law_one", "_law_other", "_law_good", "_law_name_here", "_law_moment_here", "_law_many_here", "_law_few", "_law_made"]
theorem sc_sEntry : FnScope sEntryN ["_law_pen_here", "_law_words_here", "_law_stand_here", "_law_number"] (defScope sEntry) := ⟨rfl, rfl, rfl, by decide +kernel, rfl, by decide +kernel, by decide +kernel⟩
set_option maxHeartbeats 4000000 in
theorem ok_entry {f fT fN fO fM : Addr} {fd dT dN dO dM : FuncData} (F : Fun K "_law_entry" "_law_entry" sEntry f fd) (T : DefT P w K mg base "_law_draw" 1 fT dT ["_law_pen_here", "_law_many_here"] spDraw) (NM : DefT P w K mg base "_law_name" 1 fN dN ["_law_words_here", "_law_number"] spLName)
    (MO : DefT P w K mg base "_law_moment" 2 fO dO ["_law_pen_here"] spMoment) (MY : DefT P w K mg base "_law_many" 2 fM dM ["_law_pen_here"] spMany) (ml : mg "len" = none) (mi : mg "int" = none) (mx : mg "max" = none) : FnOk P w K mg base CX0 3 f fd ["_law_pen_here", "_law_words_here", "_law_stand_here", "_law_number"] spEntry := by
  refine F.ok sc_sEntry (fun vs H Q E h => ?_) (fun cdv A outer s H vs Q E hr h => ?_)
  · obtain ⟨p, c, n, wd, B, sp, t, st, a1, a2, Ps, G, k, rfl, _⟩ := h
    rfl
  · obtain ⟨p, c, n, wd, B, sp, t, st, a1, a2, Ps, G, k, rfl, pen, hn, hw, hs, so, hk, q⟩ := h
    have nd := sc_sEntry.nd
    have hr1 : Room 1 _ := hr.mono (by decide)
    have nd := sc_sEntry.nd
    have hr1 : Room 1 _ := hr.mono (by decide)
    refine ⟨_, pss_cons (ps_asg (pv 2) (pg_tup (by rfl) (pgs_cons (pg_name (i := 4) nd rfl (Or.inl rfl)) (pgs_cons (pg_name (i := 5) nd rfl (Or.inl rfl)) pgs_nil))))
      (pss_cons (ps_set (i := 6) nd rfl (Or.inl rfl) (pe_call T.ok hr1 (by rfl) T.g T.kp T.b .nil pass0 (pa_cons (pv 0) (pa_cons (pe_ix ix_list (pe_lst (pa_cons pe_int (pa_cons pe_int pa_nil))) (pe_callTy call_int1 (by rfl) mi (by decide +kernel) (pa_cons (pe_cmpR op_gt (pe_callB call_len_seq (by rfl) ml PySem.boot_len (pa_cons (pv 4) pa_nil)) pe_int (nomark _)) pa_nil)) (fun _ _ => rfl)) pa_nil))))
      (pss_cons (ps_set (i := 7) nd rfl (Or.inl rfl) (pe_call T.ok hr1 (by rfl) T.g T.kp T.b .nil pass0 (pa_cons (pv 0) (pa_cons (pe_callB call_len_seq (by rfl) ml PySem.boot_len (pa_cons (pv 4) pa_nil)) pa_nil))))
      (pss_cons (ps_set (i := 8) nd rfl (Or.inl rfl) (pe_ix ix_tup (pv 4) (pv 7) (fun _ _ => rfl)))
      (pss_cons (ps_set (i := 9) nd rfl (Or.inl rfl) (pe_ix ix_tup (pv 4) (pe_op op_mod (pe_op op_add (pe_op op_add (pv 7) pe_int) (pe_call T.ok hr1 (by rfl) T.g T.kp T.b .nil pass0 (pa_cons (pv 0) (pa_cons (pe_callB (call_max2 rfl) (by rfl) mx (by decide +kernel) (pa_cons pe_int (pa_cons (pe_op op_sub (pe_callB call_len_seq (by rfl) ml PySem.boot_len (pa_cons (pv 4) pa_nil)) pe_int) pa_nil))) pa_nil)))) (pe_callB call_len_seq (by rfl) ml PySem.boot_len (pa_cons (pv 4) pa_nil))) (fun _ _ => rfl)))
      (pss_cons (ps_set (i := 10) nd rfl (Or.inl rfl) (pe_ix ix_tup (pv 5) (pe_call T.ok hr1 (by rfl) T.g T.kp T.b .nil pass0 (pa_cons (pv 0) (pa_cons (pe_callB call_len_seq (by rfl) ml PySem.boot_len (pa_cons (pv 5) pa_nil)) pa_nil))) (fun _ _ => rfl)))
      (pss_cons (ps_set (i := 11) nd rfl (Or.inl rfl) (pe_call NM.ok hr1 (by rfl) NM.g NM.kp NM.b .nil pass0 (pa_cons (pv 1) (pa_cons (pv 3) pa_nil))))
      (pss_cons (ps_set (i := 12) nd rfl (Or.inl rfl) (pe_call MO.ok hr (by rfl) MO.g MO.kp MO.b .nil pass0 (pa_cons (pv 0) pa_nil)))
      (pss_cons (ps_set (i := 13) nd rfl (Or.inl rfl) (pe_call MY.ok hr (by rfl) MY.g MY.kp MY.b .nil pass0 (pa_cons (pv 0) pa_nil)))
      (pss_cons (ps_set (i := 14) nd rfl (Or.inl rfl) (pe_call T.ok hr1 (by rfl) T.g T.kp T.b .nil pass0 (pa_cons (pv 0) (pa_cons pe_int pa_nil))))
      (pss_cons (ps_set (i := 15) nd rfl (Or.inl rfl) (pe_lst (pa_cons (pe_tup (pa_cons pe_str (pa_cons (pv 11) (pa_cons (pv 12) (pa_cons (pv 10) (pa_cons (pv 8) (pa_cons (pv 13) (pa_cons (pe_op op_mul (pv 14) (pe_op op_fdiv (pe_op op_pow pe_int pe_int) pe_int)) pa_nil)))))))) (pa_cons (pe_tup (pa_cons pe_str (pa_cons (pv 11) (pa_cons (pv 12) (pa_cons (pv 10) (pa_cons (pv 8) (pa_cons (pv 13) pa_nil))))))) pa_nil))))
      (pss_cons (ps_set (i := 15) nd rfl (Or.inl rfl) (pe_op op_cat (pv 15) (pe_lst (pa_cons (pe_tup (pa_cons pe_str (pa_cons (pv 11) (pa_cons (pv 12) (pa_cons (pv 10) (pa_cons (pv 8) (pa_cons (pe_ix ix_list (pe_lst (pa_cons pe_int (pa_cons (pe_op op_sub (pv 13) pe_int) (pa_cons (pv 13) pa_nil)))) (pv 14) (fun _ _ => rfl)) (pa_cons (pe_call NM.ok hr1 (by rfl) NM.g NM.kp NM.b .nil pass0 (pa_cons (pv 1) (pa_cons (pv 14) pa_nil))) pa_nil)))))))) pa_nil))))
      (pss_cons (ps_set (i := 15) nd rfl (Or.inl rfl) (pe_op op_cat (pv 15) (pe_lst (pa_cons (pe_tup (pa_cons pe_str (pa_cons (pv 11) (pa_cons (pv 12) (pa_cons (pv 10) (pa_cons (pv 8) pa_nil)))))) (pa_cons (pe_tup (pa_cons pe_str (pa_cons (pv 11) (pa_cons (pv 12) (pa_cons (pv 10) (pa_cons (pv 8) (pa_cons pe_str pa_nil))))))) pa_nil)))))
      (pss_cons (ps_set (i := 15) nd rfl (Or.inl rfl) (pe_op op_cat (pv 15) (pe_lst (pa_cons (pe_tup (pa_cons pe_str (pa_cons (pv 11) (pa_cons (pv 12) (pa_cons (pv 10) (pa_cons (pv 8) (pa_cons (pv 9) (pa_cons (pv 13) pa_nil)))))))) (pa_cons (pe_tup (pa_cons pe_str (pa_cons (pv 11) (pa_cons (pv 12) (pa_cons (pv 10) (pa_cons (pv 8) (pa_cons (pv 9) pa_nil))))))) pa_nil)))))
      (pss_one (ps_ret (pe_ix ix_list (pe_op op_cat (pv 15) (pe_lst (pa_cons (pe_tup (pa_cons pe_str (pa_cons (pv 11) (pa_cons (pv 12) (pa_cons (pv 8) (pa_cons (pv 9) pa_nil)))))) pa_nil))) (pv 6) (fun _ _ => rfl))))))))))))))))), ?_⟩
    have lp := so.pl
    have lg := so.gl
    have cP : (Ps.map V.str).length = Ps.length := List.length_map _
    have cG : (G.map V.str).length = G.length := List.length_map _
    refine ⟨_, rfl, st, _, rfl, SqT.of hs.at_, rfl, _, _, rfl, _, _, rfl, rfl, ?_⟩
    -- the kind
    refine ⟨_, rfl, (by show 2 ≤ sizeLine; decide), fun l nl => ?_⟩
    have sl := @same_new _ _ (.lst [V.int 5, .int 8]) nl
    refine ⟨_, rfl, a1, _, rfl, .inr (SqT.of (sl _ _ hs.p)), _, 1, rfl, rfl, .inr ⟨_, rfl, ?_⟩⟩
    obtain ⟨mk, hm1, hm2⟩ : ∃ mk : Int, atI [V.int 5, .int 8] (if decide (((Ps.map V.str).length : Int) > 1) = true then 1 else 0) = some (.int mk) ∧ (mk = 5 ∨ (mk = 8 ∧ 1 < Ps.length)) := by
      by_cases z : ((Ps.map V.str).length : Int) > 1
      · rw [decide_eq_true z]
        exact ⟨8, atI_nat (j := 1) rfl, .inr ⟨rfl, by rw [cP] at z; omega⟩⟩
      · rw [decide_eq_false z]
        exact ⟨5, atI_nat (j := 0) rfl, .inl rfl⟩
    refine ⟨l, _, _, _, rfl, rfl, SqL.of upd_same, hm1, p, c, n, mk, rfl, pen.same sl, by omega, by omega, by omega, fun r1 H1 b1 d1 pen1 bt1 => ?_⟩
    have bt1' : But p H H1 := (But.of sl).tr bt1
    have hs1 := hs.on (TK.pen pen bt1')
    have hw1 := hw.on (TK.pen pen bt1')
    -- the places
    refine ⟨_, rfl, _, rfl, a1, _, rfl, .inr (SqT.of hs1.p), p, c, _, _, rfl, pen1, by omega, by rw [cP]; omega, by rw [cP]; omega, fun r2 H2 b2 d2 pen2 bt2 => ?_⟩
    rw [cP] at d2
    have hs2 := hs1.on (TK.pen pen1 bt2)
    have hw2 := hw1.on (TK.pen pen1 bt2)
    obtain ⟨one, ho1, ho2, ho3⟩ := at_strs (ys := Ps) (r := r2) b2 d2
    refine ⟨_, rfl, _, rfl, a1, _, _, _, rfl, rfl, SqT.of hs2.p, ho1, ?_⟩
    refine ⟨_, rfl, _, rfl, r2, 1, rfl, rfl, _, rfl, _, rfl, a1, _, rfl, .inr (SqT.of hs2.p), _, 1, rfl, rfl, 1, _, rfl, ?_⟩
    generalize hmx : (if ((Ps.map V.str).length : Int) - 1 > 1 then ((Ps.map V.str).length : Int) - 1 else 1) = mxv
    have hmx' : 1 ≤ mxv ∧ mxv ≤ 6 ∧ (1 < Ps.length → mxv = (Ps.length : Int) - 1) := by
      rw [← hmx, cP]
      split <;> omega
    refine ⟨p, c, _, mxv, rfl, pen2, by omega, by omega, by omega, fun r3 H3 b3 d3 pen3 bt3 => ?_⟩
    have hs3 := hs2.on (TK.pen pen2 bt3)
    have hw3 := hw2.on (TK.pen pen2 bt3)
    have j1 := Int.emod_nonneg (r2 + 1 + r3) (show (Ps.length : Int) ≠ 0 by omega)
    have j2 := Int.emod_lt_of_pos (r2 + 1 + r3) (show (0 : Int) < Ps.length by omega)
    obtain ⟨oth, hq1, hq2, hq3⟩ := at_strs (ys := Ps) (r := (r2 + 1 + r3) % (Ps.length : Int)) j1 j2
    refine ⟨_, _, rfl, rfl, _, rfl, a1, _, rfl, .inr (SqT.of hs3.p), _, _, rfl, rfl, (by rw [cP]; show (0 : Int) < (Ps.length : Int); omega), a1, _, _, _, rfl, rfl, SqT.of hs3.p, (by rw [cP]; exact hq1), ?_⟩
    have apart : 1 < Ps.length → one ≠ oth := fun l1 z => by
      have lt1 : r2.toNat < Ps.length := by omega
      have lt2 : ((r2 + 1 + r3) % (Ps.length : Int)).toNat < Ps.length := by omega
      have := (List.getElem?_inj lt1 so.pd).mp (ho2.trans (by rw [z]; exact hq2.symm))
      have e1 := hmx'.2.2 l1
      have : (r2 + 1 + r3) % (Ps.length : Int) = r2 := by omega
      by_cases w : r2 + 1 + r3 < Ps.length
      · rw [Int.emod_eq_of_lt (by omega) w] at this
        omega
      · have : (r2 + 1 + r3 - Ps.length) % (Ps.length : Int) = (r2 + 1 + r3) % (Ps.length : Int) := Int.sub_emod_right _ _
        rw [Int.emod_eq_of_lt (by omega) (by omega)] at this
        omega
    -- the good, the name, the moment, the amounts
    refine ⟨_, rfl, _, rfl, _, rfl, a2, _, rfl, .inr (SqT.of hs3.g), p, c, _, _, rfl, pen3, by omega, by rw [cG]; omega, by rw [cG]; omega, fun r4 H4 b4 d4 pen4 bt4 => ?_⟩
    rw [cG] at d4
    have hs4 := hs3.on (TK.pen pen3 bt4)
    have hw4 := hw3.on (TK.pen pen3 bt4)
    obtain ⟨gd, hg1, hg2, hg3⟩ := at_strs (ys := G) (r := r4) b4 d4
    refine ⟨a2, _, _, _, rfl, rfl, SqT.of hs4.g, hg1, ?_⟩
    refine ⟨_, rfl, _, rfl, wd, B, sp, t, k, rfl, hw4, hk, ?_⟩
    refine ⟨_, rfl, p, c, _, rfl, pen4, by omega, fun mo H5 m0 m1 pen5 bt5 => ?_⟩
    have hw5 := hw4.on (TK.pen pen4 bt5)
    refine ⟨_, rfl, p, c, _, rfl, pen5, by omega, fun my H6 y0 y1 pen6 bt6 => ?_⟩
    have hw6 := hw5.on (TK.pen pen5 bt6)
    refine ⟨_, rfl, p, c, _, 3, rfl, pen6, by omega, by decide, by decide, fun fw H7 f0 f1 pen7 bt7 => ?_⟩
    have hw7 := hw6.on (TK.pen pen6 bt7)
    have btA : But p H H7 := bt1'.tr (bt2.tr (bt3.tr (bt4.tr (bt5.tr (bt6.tr bt7)))))
    have pen7' : PenAt H7 p c (n + 12) := pen7.mono (by omega)
    generalize hnm : sc (nmC B sp t k) = nme
    rw [hnm] at q
    -- come, go
    show tSeq _ _ _ [some (.ref p), some (.ref wd), some (.ref st), some (.int (k : Int)), some (.ref a1), some (.ref a2), some (.int r1), some (.int r2), some (.str one), some (.str oth), some (.str gd), some (.str nme), some (.int mo), some (.int my), some (.int fw), none] H7
    have e9 : (10 : Int) ^ (9 : Int).toNat = 1000000000 := by decide
    refine ⟨_, rfl, _, rfl, _, rfl, _, rfl, _, rfl, _, rfl, 10, 9, rfl, rfl, ⟨by decide, by decide, by decide⟩, ?_⟩
    dsimp only
    rw [e9]
    refine ⟨1000000000, 2, rfl, rfl, ⟨by decide, by decide⟩, ?_⟩
    have e5 : (1000000000 : Int) / 2 = 500000000 := by decide
    dsimp only
    rw [e5]
    refine ⟨fw, 500000000, rfl, rfl, .inl ⟨by omega, by omega⟩, (by show 7 ≤ sizeLine; decide), fun t1 n1 => ?_⟩
    have x1 : H t1 = none := btA.free n1 pen7.there
    refine newH2 n1 fun Ha sa g1 => ?_
    refine ⟨_, rfl, _, rfl, _, rfl, _, rfl, _, rfl, (by show 6 ≤ sizeLine; decide), fun t2 n2 => ?_⟩
    have x2 : H t2 = none := btA.free (sa.free n2) pen7.there
    refine newH n2 fun Hb sb g2 => ?_
    refine ⟨(by show 2 ≤ sizeLine; decide), fun L1 nL1 => ?_⟩
    refine newH2 nL1 fun H8 sc8 gL1 => ?_
    have sA : Same H7 H8 := sa.trans (sb.trans sc8)
    replace g1 := sc8 _ _ (sb _ _ g1)
    replace g2 := sc8 _ _ g2
    clear sa sb sc8
    -- count
    obtain ⟨cv, hc1, hc2⟩ := at_ints (ns := [0, my - 1, my]) (r := fw) f0 (by show fw < 3; omega)
    have cvr : 0 ≤ cv ∧ cv ≤ 1000000000 := by
      simp only [List.mem_cons, List.not_mem_nil, or_false] at hc2
      rcases hc2 with rfl | rfl | rfl <;> omega
    refine ⟨_, rfl, _, rfl, _, rfl, _, rfl, _, rfl, _, rfl, my, 1, rfl, rfl, _, rfl, (by show 3 ≤ sizeLine; decide), fun lc nlc => ?_⟩
    have sa := @same_new H8 lc (HO.lst [V.int 0, V.int (my - 1), V.int my]) nlc
    have glc : (upd H8 lc (HO.lst [V.int 0, V.int (my - 1), V.int my])) lc = some (HO.lst [V.int 0, V.int (my - 1), V.int my]) := upd_same
    generalize upd H8 lc (HO.lst [V.int 0, V.int (my - 1), V.int my]) = Ha at sa glc ⊢
    refine ⟨_, rfl, lc, _, _, _, rfl, rfl, SqL.of glc, hc1, _, rfl, _, rfl, wd, B, sp, t, fw.toNat, ?_, (hw7.on (TK.of sA)).on (TK.of sa), by omega, (by show 7 ≤ sizeLine; decide), fun t3 n3 => ?_⟩
    · rw [Int.toNat_of_nonneg f0]
      rfl
    have x3 : H t3 = none := btA.free (sA.free (sa.free n3)) pen7.there
    have sb := @same_new Ha t3 (HO.tup [V.str "count", V.str nme, V.int mo, V.str gd, V.str one, V.int cv, V.str (sc (nmC B sp t fw.toNat))]) n3
    have g3 : (upd Ha t3 (HO.tup [V.str "count", V.str nme, V.int mo, V.str gd, V.str one, V.int cv, V.str (sc (nmC B sp t fw.toNat))])) t3 = some (HO.tup [V.str "count", V.str nme, V.int mo, V.str gd, V.str one, V.int cv, V.str (sc (nmC B sp t fw.toNat))]) := upd_same
    generalize upd Ha t3 (HO.tup [V.str "count", V.str nme, V.int mo, V.str gd, V.str one, V.int cv, V.str (sc (nmC B sp t fw.toNat))]) = Hb at sb g3 ⊢
    refine ⟨(by show 1 ≤ sizeLine; decide), fun L2 nL2 => ?_⟩
    have sc9 := @same_new Hb L2 (HO.lst [V.ref t3]) nL2
    have gL2 : (upd Hb L2 (HO.lst [V.ref t3])) L2 = some (HO.lst [V.ref t3]) := upd_same
    generalize upd Hb L2 (HO.lst [V.ref t3]) = Hc at sc9 gL2 ⊢
    have s9 := sa.trans (sb.trans sc9)
    refine ⟨L1, L2, _, _, rfl, rfl, s9 _ _ gL1, gL2, (by show 2 + 1 ≤ sizeLine; decide), fun L3 nL3 => ?_⟩
    have sd := @same_new Hc L3 (HO.lst ([V.ref t1, V.ref t2] ++ [V.ref t3])) nL3
    have gL3 : (upd Hc L3 (HO.lst ([V.ref t1, V.ref t2] ++ [V.ref t3]))) L3 = some (HO.lst ([V.ref t1, V.ref t2] ++ [V.ref t3])) := upd_same
    generalize upd Hc L3 (HO.lst ([V.ref t1, V.ref t2] ++ [V.ref t3])) = H9 at sd gL3 ⊢
    have sB := s9.trans sd
    replace g1 := sB _ _ g1
    replace g2 := sB _ _ g2
    replace g3 := sd _ _ (sc9 _ _ g3)
    replace sA := sA.trans sB
    clear sa sb sc9 sd s9 sB glc gL1 gL2
    -- look, some
    refine ⟨_, rfl, _, rfl, _, rfl, _, rfl, _, rfl, (by show 5 ≤ sizeLine; decide), fun t4 n4 => ?_⟩
    have x4 : H t4 = none := btA.free (sA.free n4) pen7.there
    have sa := @same_new H9 t4 (HO.tup [V.str "look", V.str nme, V.int mo, V.str gd, V.str one]) n4
    have g4 : (upd H9 t4 (HO.tup [V.str "look", V.str nme, V.int mo, V.str gd, V.str one])) t4 = some (HO.tup [V.str "look", V.str nme, V.int mo, V.str gd, V.str one]) := upd_same
    generalize upd H9 t4 (HO.tup [V.str "look", V.str nme, V.int mo, V.str gd, V.str one]) = Ha at sa g4 ⊢
    refine ⟨_, rfl, _, rfl, _, rfl, _, rfl, (by show 6 ≤ sizeLine; decide), fun t5 n5 => ?_⟩
    have x5 : H t5 = none := btA.free (sA.free (sa.free n5)) pen7.there
    have sb := @same_new Ha t5 (HO.tup [V.str "some", V.str nme, V.int mo, V.str gd, V.str one, V.str ""]) n5
    have g5 : (upd Ha t5 (HO.tup [V.str "some", V.str nme, V.int mo, V.str gd, V.str one, V.str ""])) t5 = some (HO.tup [V.str "some", V.str nme, V.int mo, V.str gd, V.str one, V.str ""]) := upd_same
    generalize upd Ha t5 (HO.tup [V.str "some", V.str nme, V.int mo, V.str gd, V.str one, V.str ""]) = Hb at sb g5 ⊢
    refine ⟨(by show 2 ≤ sizeLine; decide), fun L4 nL4 => ?_⟩
    have sc9 := @same_new Hb L4 (HO.lst [V.ref t4, V.ref t5]) nL4
    have gL4 : (upd Hb L4 (HO.lst [V.ref t4, V.ref t5])) L4 = some (HO.lst [V.ref t4, V.ref t5]) := upd_same
    generalize upd Hb L4 (HO.lst [V.ref t4, V.ref t5]) = Hc at sc9 gL4 ⊢
    have s9 := sa.trans (sb.trans sc9)
    refine ⟨L3, L4, _, _, rfl, rfl, s9 _ _ gL3, gL4, (by show 3 + 2 ≤ sizeLine; decide), fun L5 nL5 => ?_⟩
    have sd := @same_new Hc L5 (HO.lst ([V.ref t1, V.ref t2] ++ [V.ref t3] ++ [V.ref t4, V.ref t5])) nL5
    have gL5 : (upd Hc L5 (HO.lst ([V.ref t1, V.ref t2] ++ [V.ref t3] ++ [V.ref t4, V.ref t5]))) L5 = some (HO.lst ([V.ref t1, V.ref t2] ++ [V.ref t3] ++ [V.ref t4, V.ref t5])) := upd_same
    generalize upd Hc L5 (HO.lst ([V.ref t1, V.ref t2] ++ [V.ref t3] ++ [V.ref t4, V.ref t5])) = H10 at sd gL5 ⊢
    have sB := s9.trans sd
    replace g1 := sB _ _ g1
    replace g2 := sB _ _ g2
    replace g3 := sB _ _ g3
    replace g4 := sd _ _ (sc9 _ _ (sb _ _ g4))
    replace g5 := sd _ _ (sc9 _ _ g5)
    replace sA := sA.trans sB
    clear sa sb sc9 sd s9 sB gL3 gL4
    -- move, some
    refine ⟨_, rfl, _, rfl, _, rfl, _, rfl, _, rfl, _, rfl, _, rfl, (by show 7 ≤ sizeLine; decide), fun t6 n6 => ?_⟩
    have x6 : H t6 = none := btA.free (sA.free n6) pen7.there
    have sa := @same_new H10 t6 (HO.tup [V.str "move", V.str nme, V.int mo, V.str gd, V.str one, V.str oth, V.int my]) n6
    have g6 : (upd H10 t6 (HO.tup [V.str "move", V.str nme, V.int mo, V.str gd, V.str one, V.str oth, V.int my])) t6 = some (HO.tup [V.str "move", V.str nme, V.int mo, V.str gd, V.str one, V.str oth, V.int my]) := upd_same
    generalize upd H10 t6 (HO.tup [V.str "move", V.str nme, V.int mo, V.str gd, V.str one, V.str oth, V.int my]) = Ha at sa g6 ⊢
    refine ⟨_, rfl, _, rfl, _, rfl, _, rfl, _, rfl, (by show 6 ≤ sizeLine; decide), fun t7 n7 => ?_⟩
    have x7 : H t7 = none := btA.free (sA.free (sa.free n7)) pen7.there
    have sb := @same_new Ha t7 (HO.tup [V.str "some", V.str nme, V.int mo, V.str gd, V.str one, V.str oth]) n7
    have g7 : (upd Ha t7 (HO.tup [V.str "some", V.str nme, V.int mo, V.str gd, V.str one, V.str oth])) t7 = some (HO.tup [V.str "some", V.str nme, V.int mo, V.str gd, V.str one, V.str oth]) := upd_same
    generalize upd Ha t7 (HO.tup [V.str "some", V.str nme, V.int mo, V.str gd, V.str one, V.str oth]) = Hb at sb g7 ⊢
    refine ⟨(by show 2 ≤ sizeLine; decide), fun L6 nL6 => ?_⟩
    have sc9 := @same_new Hb L6 (HO.lst [V.ref t6, V.ref t7]) nL6
    have gL6 : (upd Hb L6 (HO.lst [V.ref t6, V.ref t7])) L6 = some (HO.lst [V.ref t6, V.ref t7]) := upd_same
    generalize upd Hb L6 (HO.lst [V.ref t6, V.ref t7]) = Hc at sc9 gL6 ⊢
    have s9 := sa.trans (sb.trans sc9)
    refine ⟨L5, L6, _, _, rfl, rfl, s9 _ _ gL5, gL6, (by show 5 + 2 ≤ sizeLine; decide), fun L7 nL7 => ?_⟩
    have sd := @same_new Hc L7 (HO.lst ([V.ref t1, V.ref t2] ++ [V.ref t3] ++ [V.ref t4, V.ref t5] ++ [V.ref t6, V.ref t7])) nL7
    have gL7 : (upd Hc L7 (HO.lst ([V.ref t1, V.ref t2] ++ [V.ref t3] ++ [V.ref t4, V.ref t5] ++ [V.ref t6, V.ref t7]))) L7 = some (HO.lst ([V.ref t1, V.ref t2] ++ [V.ref t3] ++ [V.ref t4, V.ref t5] ++ [V.ref t6, V.ref t7])) := upd_same
    generalize upd Hc L7 (HO.lst ([V.ref t1, V.ref t2] ++ [V.ref t3] ++ [V.ref t4, V.ref t5] ++ [V.ref t6, V.ref t7])) = H11 at sd gL7 ⊢
    have sB := s9.trans sd
    replace g1 := sB _ _ g1
    replace g2 := sB _ _ g2
    replace g3 := sB _ _ g3
    replace g4 := sB _ _ g4
    replace g5 := sB _ _ g5
    replace g6 := sd _ _ (sc9 _ _ (sb _ _ g6))
    replace g7 := sd _ _ (sc9 _ _ g7)
    replace sA := sA.trans sB
    clear sa sb sc9 sd s9 sB gL5 gL6
    -- swap, and which
    refine ⟨_, rfl, _, rfl, _, rfl, _, rfl, _, rfl, (by show 5 ≤ sizeLine; decide), fun t8 n8 => ?_⟩
    have x8 : H t8 = none := btA.free (sA.free n8) pen7.there
    have sa := @same_new H11 t8 (HO.tup [V.str "swap", V.str nme, V.int mo, V.str one, V.str oth]) n8
    have g8 : (upd H11 t8 (HO.tup [V.str "swap", V.str nme, V.int mo, V.str one, V.str oth])) t8 = some (HO.tup [V.str "swap", V.str nme, V.int mo, V.str one, V.str oth]) := upd_same
    generalize upd H11 t8 (HO.tup [V.str "swap", V.str nme, V.int mo, V.str one, V.str oth]) = Ha at sa g8 ⊢
    refine ⟨(by show 1 ≤ sizeLine; decide), fun L8 nL8 => ?_⟩
    have sb := @same_new Ha L8 (HO.lst [V.ref t8]) nL8
    have gL8 : (upd Ha L8 (HO.lst [V.ref t8])) L8 = some (HO.lst [V.ref t8]) := upd_same
    generalize upd Ha L8 (HO.lst [V.ref t8]) = Hb at sb gL8 ⊢
    have s9 := sa.trans sb
    refine ⟨L7, L8, _, _, rfl, rfl, s9 _ _ gL7, gL8, (by show 7 + 1 ≤ sizeLine; decide), fun L9 nL9 => ?_⟩
    have sd := @same_new Hb L9 (HO.lst ([V.ref t1, V.ref t2] ++ [V.ref t3] ++ [V.ref t4, V.ref t5] ++ [V.ref t6, V.ref t7] ++ [V.ref t8])) nL9
    have gL9 : (upd Hb L9 (HO.lst ([V.ref t1, V.ref t2] ++ [V.ref t3] ++ [V.ref t4, V.ref t5] ++ [V.ref t6, V.ref t7] ++ [V.ref t8]))) L9 = some (HO.lst ([V.ref t1, V.ref t2] ++ [V.ref t3] ++ [V.ref t4, V.ref t5] ++ [V.ref t6, V.ref t7] ++ [V.ref t8])) := upd_same
    generalize upd Hb L9 (HO.lst ([V.ref t1, V.ref t2] ++ [V.ref t3] ++ [V.ref t4, V.ref t5] ++ [V.ref t6, V.ref t7] ++ [V.ref t8])) = Hz at sd gL9 ⊢
    have sB := s9.trans sd
    replace g8 := sd _ _ (sb _ _ g8)
    have penZ := pen7'.same (sA.trans sB)
    have btZ := btA.tr (.of (sA.trans sB))
    refine ⟨_, rfl, L9, [V.ref t1, V.ref t2] ++ [V.ref t3] ++ [V.ref t4, V.ref t5] ++ [V.ref t6, V.ref t7] ++ [V.ref t8], r1, ?_⟩
    have w8 : r1 = 0 ∨ r1 = 1 ∨ r1 = 2 ∨ r1 = 3 ∨ r1 = 4 ∨ ((r1 = 5 ∨ r1 = 6 ∨ r1 = 7) ∧ 1 < Ps.length) := by omega
    rcases w8 with rfl | rfl | rfl | rfl | rfl | ⟨rfl | rfl | rfl, l1⟩
    · exact ⟨_, rfl, rfl, SqL.of gL9, atI_nat (j := 0) rfl, q t1 (Ent.come nme mo gd one my (fw * 500000000)) _ x1 (sB _ _ g1) rfl m0 m1 ⟨hg3, ho3, y0, y1, (by omega), (by omega)⟩ penZ btZ⟩
    · exact ⟨_, rfl, rfl, SqL.of gL9, atI_nat (j := 1) rfl, q t2 (Ent.go nme mo gd one my) _ x2 (sB _ _ g2) rfl m0 m1 ⟨hg3, ho3, y0, y1⟩ penZ btZ⟩
    · exact ⟨_, rfl, rfl, SqL.of gL9, atI_nat (j := 2) rfl, q t3 (Ent.count nme mo gd one cv (sc (nmC B sp t fw.toNat))) _ x3 (sB _ _ g3) rfl m0 m1 ⟨hg3, ho3, cvr.1, cvr.2, hand_in (by omega)⟩ penZ btZ⟩
    · exact ⟨_, rfl, rfl, SqL.of gL9, atI_nat (j := 3) rfl, q t4 (Ent.look nme mo gd one) _ x4 (sB _ _ g4) rfl m0 m1 ⟨hg3, ho3⟩ penZ btZ⟩
    · exact ⟨_, rfl, rfl, SqL.of gL9, atI_nat (j := 4) rfl, q t5 (Ent.some_ nme mo gd one "") _ x5 (sB _ _ g5) rfl m0 m1 ⟨hg3, ho3, .inl rfl⟩ penZ btZ⟩
    · exact ⟨_, rfl, rfl, SqL.of gL9, atI_nat (j := 5) rfl, q t6 (Ent.move nme mo gd one oth my) _ x6 (sB _ _ g6) rfl m0 m1 ⟨hg3, ho3, hq3, fun _ => apart l1, y0, y1⟩ penZ btZ⟩
    · exact ⟨_, rfl, rfl, SqL.of gL9, atI_nat (j := 6) rfl, q t7 (Ent.some_ nme mo gd one oth) _ x7 (sB _ _ g7) rfl m0 m1 ⟨hg3, ho3, .inr ⟨hq3, fun _ => apart l1⟩⟩ penZ btZ⟩
    · exact ⟨_, rfl, rfl, SqL.of gL9, atI_nat (j := 7) rfl, q t8 (Ent.swap nme mo one oth) _ x8 g8 rfl m0 m1 ⟨ho3, hq3, fun _ => apart l1⟩ penZ btZ⟩
end
/-! ### generator expressions whose element reads the module's names and the def's cells -/
section
variable {X : Cx} {pins : List (Addr × Obj)} {σ : L2.St} {H : Hp} {s : Shared}
/-- walking u makes one new object and reads fp alone; n items, the i-th one as Pf says -/
def GSrc (X : Cx) (T : Addr) (u : Value) (s1 : Shared) (n : Nat) (Pf : Nat → Value → Prop) : Prop :=
  ∀ (Q : Value → Shared → Prop) (E : Value → Shared → Prop),
    (∀ (o : Obj) (fp : List Addr) (St : Nat → Heap → Prop),
      (∀ A' : Around, A'.handled = none → Walks X.prog X.w A' s1.heap.objs.size fp [s1.heap.objs.size] n Pf St) →
      St 0 (s1.heap.push o) → (∀ b ∈ fp, b ≤ s1.heap.objs.size ∧ b ≠ T) →
      Q (.ref s1.heap.objs.size) { s1 with heap := s1.heap.push o }) →
    wpAny (model X.prog X.w) X.A (pyIter u) Q E s1
/-- the tests and the element at the item v: nothing that stood is changed -/
structure GElt (X : Cx) (T : Addr) (scope : Scope) (x : Str) (ifs : List Expr) (elt : Expr) (s1 : Shared) (Pf : Nat → Value → Prop) (pz : Nat → Bool) (F : Nat → Value → Prop) : Prop where
  run : ∀ (ce : Env) (A' : Around) (E' : Value → Shared → Prop) (i : Nat) (v : Value) (s2 : Shared) (m2 : Str → Option Value),
    ce.scope = scope → ce.globals = mainGlobals → ce.cells = cloFrom X.env.cells scope.names [] → A'.handled = none → Pf i v → s2.heap.Ns ce.locals m2 → m2 x = some v →
    (∀ b u, b ≠ T → s1.heap.get? b = some u → s2.heap.get? b = some u) →
    wpAny (model X.prog X.w) A' (forIn ifs true fun c r => if r = true then do let ok ← isTrue c ce (eval c ce); pure (ForInStep.yield ok) else pure (ForInStep.yield r)) (fun ok s3 => ok = pz i ∧ Keeps s2 s3) E' s2 ∧
    (pz i = true → wpAny (model X.prog X.w) A' (eval elt ce) (fun y s3 => F i y ∧ Keeps s2 s3) E' s2)
/-- the generator g is ready to be walked in s5 -/
def GReady (X : Cx) (pins : List (Addr × Obj)) (σ : L2.St) (H1 : Hp) (T : Addr) (n : Nat) (pz : Nat → Bool) (F : Nat → Value → Prop) (g : Addr) (s5 : Shared) : Prop :=
  ∃ (fp wr : List Addr) (G : Array GenState → Array GenState → Prop) (St : Nat → Shared → Prop),
    WalksS X.prog X.w X.A.in1 g fp wr G (passing pz n 0).length (fun j y => ∃ i, (passing pz n 0)[j]? = some i ∧ F i y) St ∧ St 0 s5 ∧
    ∀ s', Moved wr G s5 s' → ∃ H2, GxR.Tabbed T H1 H2 ∧ Inv X pins σ H2 s'
theorem gen_mk {c T : Addr} {elt iter : Expr} {x : Str} {px gpos : Pos} {ifs : List Expr} {scope : Scope} {te : TE} {k : Nat} {Q' : Value → Shared → Prop} {R : V → Hp → Prop}
    (hr : Room k X.A) (TB : GxR.TabB X.base X.mg c T) (hcode : X.env.code = .ref c) (S : GxR.GenS X.env scope x) (hi : PE X iter te)
    (hs : ∀ v, genFold iter X.env v = pure v) (I : Inv X pins σ H s) (h : te σ H fun v H1 => GxR.TabG H1 T ∧ R v H1)
    (hQ : ∀ v u H1 s1, Inv X pins σ H1 s1 → RelV v u → GxR.TabG H1 T → R v H1 → ∃ n Pf pz F, GSrc X T u s1 n Pf ∧ GElt X T scope x ifs elt s1 Pf pz F ∧
      ∀ g s5, GReady X pins σ H1 T n pz F g s5 → Q' (.ref g) s5) :
    wpAny (model X.prog X.w) X.A (eval (.GeneratorExp elt [⟨.Name x px, iter, ifs, 0⟩] scope gpos) X.env) Q' X.xe s := by
  refine wpAny_GeneratorExp_walksQ hr.hd S.co (closure_ok S.free) S.cell S.dot S.loc S.kind (Nat.lt_of_le_of_lt (by omega : X.A.depth ≤ X.A.depth + 3 * k + 5) hr.dp) ?_ hs
  refine thn (hi.run pins s σ H _ I h) fun u s1 ⟨v, H1, J, rv, ⟨ps, hT, hok⟩, hR⟩ => ?_
  obtain ⟨n, Pf, pz, F, src, el, fin⟩ := hQ v u H1 s1 J rv ⟨ps, hT, hok⟩ hR
  refine src _ _ fun o fp St W st0 hfp => ?_
  have gT : s1.heap.get? T = some (PySem.W.tabObj ps) := J.hok T _ hT
  have ltT := Heap.lt_size gT
  have sz : (s1.heap.push o).objs.size = s1.heap.objs.size + 1 := Heap.size_push ..
  have cd : PySem.W.CodeHd (s1.heap.push o) c T := TB.code.keeps fun b z e => Heap.get?_push_of_some _ (J.bk b z e)
  have pT : (s1.heap.push o).get? T = some (PySem.W.tabObj ps) := Heap.get?_push_of_some _ gT
  have lim : (s1.heap.push o).NoLimit := J.nolimit.push o
  obtain ⟨mc, nsC, _⟩ := id J.nolimit
  have ltC : cStatics < s1.heap.objs.size := nsC.lt
  have neC : cStatics ≠ T := fun e => by
    obtain ⟨oo, es, ep, go, dd, _⟩ := nsC
    rw [e, gT] at go
    cases go
    cases dd
  refine ⟨lim, ?_⟩
  -- behind the code object: the generator is made and handed on
  have on : ∀ (code : Value) (h3 : Heap) (tk : Nat) (ps' : Array Value), Heap.ExtBut T (s1.heap.push o) h3 → (s1.heap.push o).objs.size ≤ h3.objs.size →
      h3.get? T = some (PySem.W.tabObj ps') → (∃ more, ps' = ps ++ more) → TriplesOk ps'.toList →
      wpAny (model X.prog X.w) X.A (builtinsFor X.env.globals X.env.builtins) (fun bi s4 =>
        ∃ I' fp' wr n0 P' St' pz' F', Value.ref s1.heap.objs.size = .ref I' ∧ (∀ A' : Around, A'.handled = none → Walks X.prog X.w A' I' fp' wr n0 P' St') ∧ St' 0 s4.heap ∧ (∀ b ∈ fp', b < s4.heap.objs.size) ∧
          s4.heap.NoLimit ∧ cStatics ∉ wr ∧
          (∀ href : Heap, (∀ b z, s4.heap.get? b = some z → href.get? b = some z) →
            QuietGen X.prog X.w (genEnv scope (cloFrom X.env.cells scope.names []) s4.heap.objs.size code bi X.env) x ifs elt (List.range s4.heap.objs.size) wr P' pz' F' href) ∧
          (∀ a h5 tk5 gs, gs.bare = true → s4.heap.objs.size < a → h5.objs.size = a + 1 → (∀ b z, s4.heap.get? b = some z → h5.get? b = some z) →
            WalksS X.prog X.w X.A.in4 a (a :: s4.heap.objs.size :: List.range s4.heap.objs.size) (s4.heap.objs.size :: wr) (GenOnlyQ s4.gens.size) (passing pz' n0 0).length
              (fun j y => ∃ i, (passing pz' n0 0)[j]? = some i ∧ F' i y) (GenAt X.prog X.w X.A.in4 a s4.gens.size s4.heap.objs.size (List.range s4.heap.objs.size) wr pz' n0 F') →
            GenAt X.prog X.w X.A.in4 a s4.gens.size s4.heap.objs.size (List.range s4.heap.objs.size) wr pz' n0 F' 0 { s4 with gens := s4.gens.push gs, toks := tk5, heap := h5 } →
            Q' (.ref a) { s4 with gens := s4.gens.push gs, toks := tk5, heap := h5 })) X.xe { s1 with heap := h3, toks := tk } := by
    intro code h3 tk ps' ext ge3 gT3 mo ok3
    have stay : ∀ b z, b ≠ T → s1.heap.get? b = some z → h3.get? b = some z := fun b z nb e => ext b z nb (Heap.get?_push_of_some _ e)
    have glo : ∀ h4 : Heap, (∀ b z, b ≠ T → s1.heap.get? b = some z → h4.get? b = some z) → h4.Ns mainGlobals X.mg := fun h4 st => by
      obtain ⟨oo, es, ep, go, r⟩ := J.mod.glob
      exact ⟨oo, es, ep, st _ _ TB.gP (J.bk _ _ go), r⟩
    obtain ⟨bm, ob, e1, e2, _, e4, e5, e6, e7, e8⟩ := TB.bm
    refine wpAny_builtinsFor (m := X.mg) (by rw [J.ok.glob]; exact glo h3 stay) e1 e2 (stay _ _ e4 (J.bk _ _ e5)) e6 e7 e8 ?_
    refine ⟨s1.heap.objs.size, fp, [s1.heap.objs.size], n, Pf, St, pz, F, rfl, W, ?_, fun b hb => ?_, lim.extBut ext neC, fun z => ?_, fun href keepR => ⟨?_, ?_⟩, ?_⟩
    · exact (W X.A hr.hd).frame _ _ _ st0 fun b hb z e => ext b z (hfp b hb).2 e
    · have l1 := (hfp b hb).1
      have l2 := ge3
      rw [sz] at l2
      exact Nat.lt_of_lt_of_le (Nat.lt_succ_of_le l1) l2
    · rw [List.mem_singleton] at z
      exact absurd z (Nat.ne_of_lt ltC)
    · intro A' E' i v2 s2 m2 hA hP hn hm hk
      refine (el.run (genEnv scope (cloFrom X.env.cells scope.names []) h3.objs.size code builtinsNs X.env) A' E' i v2 s2 m2 rfl J.ok.glob rfl hA hP hn hm fun b z nb e => ?_).1
      have hb := Heap.lt_size e
      refine hk b (List.mem_range.mpr ?_) (fun q => ?_) z (keepR b z (stay b z nb e))
      · have := ge3
        rw [sz] at this
        exact Nat.lt_of_lt_of_le (Nat.lt_succ_of_lt hb) this
      · rw [List.mem_singleton] at q
        exact absurd q (Nat.ne_of_lt hb)
    · intro A' E' i v2 s2 m2 hA hP hz hn hm hk
      refine (el.run (genEnv scope (cloFrom X.env.cells scope.names []) h3.objs.size code builtinsNs X.env) A' E' i v2 s2 m2 rfl J.ok.glob rfl hA hP hn hm fun b z nb e => ?_).2 hz
      have hb := Heap.lt_size e
      refine hk b (List.mem_range.mpr ?_) (fun q => ?_) z (keepR b z (stay b z nb e))
      · have := ge3
        rw [sz] at this
        exact Nat.lt_of_lt_of_le (Nat.lt_succ_of_lt hb) this
      · rw [List.mem_singleton] at q
        exact absurd q (Nat.ne_of_lt hb)
    · intro g h5 tk5 gs bare ltg sz5 keep5 W5 at5
      refine fin g _ ⟨_, _, _, _, W5.in4_1, at5, fun s' mv => ?_⟩
      obtain ⟨more, em⟩ := mo
      have out : ∀ b z, s1.heap.get? b = some z → b ∉ h3.objs.size :: [s1.heap.objs.size] := fun b z e hb => by
        have l1 := Heap.lt_size e
        have l3 := ge3
        rw [sz] at l3
        rcases List.mem_cons.mp hb with q | q
        · rw [q] at l1
          exact Nat.lt_irrefl _ (Nat.lt_trans l1 l3)
        · rw [List.mem_singleton] at q
          rw [q] at l1
          exact Nat.lt_irrefl _ l1
      have K5 := GxR.inv_tab (more := more) (h' := s'.heap) (g' := s'.gens) (d' := s'.drawn) (t' := s'.toks) J hT
        (fun b z nb e => mv.heap b z (out b z e) (keep5 b z (stay b z nb e))) (by rw [← em]; exact mv.heap T _ (out T _ gT) (keep5 T _ gT3)) (AllBare.movedS (J.bare.push bare) mv)
      rw [GxR.sh_eta s1 s' mv.os] at K5
      exact ⟨upd H1 T (.tbl (ps ++ more)), ⟨⟨_, upd_same, by rw [← em]; exact ok3⟩, fun b nb => upd_ne nb⟩, K5⟩
  cases among : codeAmong gpos ps.toList with
  | some cv =>
    refine wpAny_genexprCode_hit hcode (cd.code pT hok) among ?_
    exact on cv _ s1.toks ps (Heap.ExtBut.refl _ _) (Nat.le_refl _) pT ⟨#[], (Array.append_empty).symm⟩ hok
  | none =>
    refine wpAny_genexprCodeX hcode (cd.code pT hok) (cd.tab pT) among fun c' h' tk hx hge hlt isC _ tab' _ => ?_
    obtain ⟨_, _, _, _, _, _, _, _, _, _, _, _, _, _, _, _, _, _, _, ok', _⟩ := isC
    exact on _ h' tk _ hx (Nat.le_trans hge (Nat.le_of_lt hlt)) tab'.2 ⟨_, rfl⟩ ok'
/-- a text's signs as what is walked -/
theorem gsrc_str {T : Addr} {a : Str} {t : Tok} {s1 : Shared} (hT : T < s1.heap.objs.size) : GSrc X T (.str a t) s1 a.cps.size (SignAt a) := fun Q E h =>
  wpAny_pyIter_str fun o St W st0 => h o _ St W st0 fun b hb => by
    rw [List.mem_singleton] at hb
    subst hb
    exact ⟨Nat.le_refl _, Nat.ne_of_gt hT⟩
theorem pass_all (n : Nat) : passing (fun _ => true) n 0 = List.range n := by
  simp [passing]
/-- all(test for x in e), e a text -/
def tAllT (T : Addr) (pb : Nat → Bool) (te : TE) : TE := fun σ H Q => te σ H fun v H1 => GxR.TabG H1 T ∧ ∃ a : Str, v = .str a ∧ ∀ H2, GxR.Tabbed T H1 H2 → Q (.bl (a.cps.toList.all pb)) H2
theorem pe_allT {c T : Addr} {elt iter : Expr} {x : Str} {px p pos gpos : Pos} {scope : Scope} {pb : Nat → Bool} {te : TE} {k : Nat}
    (hr : Room k X.A) (hg : Gl X "all") (hm : X.mg "all" = none) (TB : GxR.TabB X.base X.mg c T) (hcode : X.env.code = .ref c) (S : GxR.GenS X.env scope x) (hi : PE X iter te)
    (hel : ∀ pins s1 σ H1 a, Inv X pins σ H1 s1 → GElt X T scope x [] elt s1 (SignAt a) (fun _ => true) (fun i y => ∃ cc, a.cps[i]? = some cc ∧ y = .bool (pb cc)))
    (hs : ∀ v, genFold iter X.env v = pure v)
    (he : starEach [.GeneratorExp elt [⟨.Name x px, iter, [], 0⟩] scope gpos] X.env = (false, eval (.GeneratorExp elt [⟨.Name x px, iter, [], 0⟩] scope gpos) X.env) :: starEach [] X.env := by rfl) :
    PE X (.Call (.Name "all" p) [.GeneratorExp elt [⟨.Name x px, iter, [], 0⟩] scope gpos] [] pos) (tAllT T pb te) := by
  refine ⟨fun pins s σ H Q I h => wpAny_Call_Name_kw (ld_blt I hg hm (show bootBuiltins "all" = some (.builtin "all") by decide +kernel) ?_)⟩
  refine PyProof.Rows.callWith_builtin1 ?_ he (by rfl)
  rw [he]
  refine Calls.spliced_cons (gen_mk hr TB hcode S hi hs I h fun v u H1 s1 J rv tg hR => ?_)
  obtain ⟨a, rfl, hR⟩ := hR
  obtain ⟨t, rfl⟩ := id rv
  refine ⟨_, _, fun _ => true, _, gsrc_str ?_, hel pins s1 σ H1 a J, fun g s5 rdy => ?_⟩
  · obtain ⟨ps, e, _⟩ := tg
    exact J.hok.lt e
  obtain ⟨fp, wr, G, St, W, st0, back⟩ := rdy
  rw [pass_all] at W
  refine Calls.spliced_nil (call_all_walkS (W.self 0 _ _ _ st0 ⟨g, fp, wr, G, _, _, St, GxR.trF pb a.cps.toList, rfl, W, st0, ?_, fun s' mv => ?_⟩))
  · intro j y sj Qj Ej hy hq
    obtain ⟨i, ij, cc, hc, rfl⟩ := hy
    obtain ⟨hj, ej⟩ := List.getElem?_eq_some_iff.mp ij
    rw [List.getElem_range] at ej
    subst ej
    refine wpAny_truthy_bool ?_
    rw [← GxR.trF_some (pb := pb) (show a.cps.toList[j]? = some cc by rw [Array.getElem?_toList]; exact hc)]
    exact hq
  · obtain ⟨H2, tab, K2⟩ := back s' mv
    refine ⟨.bl _, H2, K2, rfl, ?_⟩
    rw [List.length_range, GxR.all_signs a pb]
    exact hR H2 tab
end
/-- what is_name is told: a text, or what is of another built-in kind -/
def spName (K : PySem.W.Frag) (T : Addr) : Sp := fun vs H Q _ => ∃ v : V, vs = [v] ∧ GxR.TabG H T ∧
  ((∃ z : Str, v = .str z ∧ z.length ≤ sizeLine ∧ ∀ H2, GxR.Tabbed T H H2 → Q (.bl (nameB z)) H2) ∨
   ∃ t : String, TyX K H v (.type t) ∧ kitB t "str" = some false ∧ Q (.bl false) H)
section
variable {P : Program} {w : World} {K : PySem.W.Frag} {mg : Str → Option Value} {base : Heap}
theorem scName : FnScope ["thing"] ["thing"] (defScope sName) := ⟨rfl, rfl, rfl, by decide +kernel, rfl, by decide +kernel, by decide +kernel⟩
theorem ok_name {f c T : Addr} {oc kV doc pm ct : Value} {od an : Option Addr} {osl : Array (Option Value)}
    (lk : K.lookup f = some ⟨oc, od, .func (PySem.W.fnOf "is_name" "is_name" (defArgs sName) (defBody sName) (defScope sName) .none kV doc pm an (.ref c) ct), osl⟩) (cdI : PySem.W.codeIn K (.ref c) "is_name" = true)
    (TB : GxR.TabB base mg c T) (mi : mg "isinstance" = none) (mst : mg "str" = none) (ml : mg "len" = none) (ma : mg "all" = none) (mL : ∃ t, mg "LETTERS" = some (.str abc t)) (mN : ∃ t, mg "LONGEST_NAME" = some (.int 8 t)) :
    FnOk P w K mg base CX0 1 f (PySem.W.fnOf "is_name" "is_name" (defArgs sName) (defBody sName) (defScope sName) .none kV doc pm an (.ref c) ct) ["thing"] (spName K T) := by
  refine fn_of lk cdI scName (fun vs H Q E h => ?_) (fun A outer s H vs Q E hr h => ?_)
  · obtain ⟨v, rfl, _⟩ := h
    rfl
  · obtain ⟨v, rfl, tg, h⟩ := h
    obtain ⟨tL, mL⟩ := mL
    obtain ⟨tN, mN⟩ := mN
    refine ⟨_, pss_cons (ps_if (pt_not (pt_val (pe_callB call_isi (by rfl) mi (by decide +kernel) (pa_cons (pv 0) (pa_cons (pe_bltn (v := .ty "str") (u := .type "str") (by rfl) mst (by decide +kernel) rfl) pa_nil)))))
        (pss_one (ps_ret pe_bl)) pss_nil)
      (pss_one (ps_ret (pe_and (pe_chain op_le op_le pe_int (pe_callB call_len_str (by rfl) ml PySem.boot_len (pa_cons (pv 0) pa_nil)) (pe_glob (v := .int 8) rfl mN ⟨_, rfl⟩))
        (pe_one (pe_allT (T := T) (c := c) (pb := signB) hr (by rfl) ma TB rfl ⟨rfl, rfl, by decide +kernel, rfl, rfl, by intro y hy e; simp only [List.mem_cons, List.not_mem_nil, or_false] at hy; rcases hy with rfl | rfl | rfl <;> cases e⟩ (pv 0) ?_ (fun _ => rfl)))))), ?_⟩
    · intro pins s1 σ H1 a J
      refine ⟨fun ce A' E' i v s2 m2 e1 e2 e3 hA hP hn hm hk => ⟨?_, fun _ => ?_⟩⟩
      · simp only [List.forIn_nil]
        exact wpAny_pure ⟨rfl, GxR.keeps_refl _⟩
      · obtain ⟨cc, u, hc, rfl⟩ := hP
        refine wpAny_Compare1 ?_
        refine wpAny_Name (wpAny_loadName_local (by rw [e1]) (show ce.scope.names.lookup _ = some .local by rw [e1]; rfl) hn hm ?_) (by decide)
        refine Calls.Name_function_global (by rw [e1]) (show ce.scope.names.lookup _ = some .globalImplicit by rw [e1]; rfl) ?_
        have G : s2.heap.Ns mainGlobals mg := by
          obtain ⟨oo, es, ep, go, r⟩ := J.mod.glob
          exact ⟨oo, es, ep, hk _ _ TB.gP (J.bk _ _ go), r⟩
        refine Calls.loadGlobal_global (by rw [e2]; exact G) mL ?_
        exact PyProof.Rows.in_str ⟨⟨cc, hc, congrArg Value.bool (PySem.StrLaws.found_one abc cc)⟩, GxR.keeps_refl _⟩
    · refine ⟨v, rfl, ?_⟩
      rcases h with ⟨z, rfl, hz, q⟩ | ⟨t, ty, kt, q⟩
      · refine ⟨_, _, _, _, true, rfl, .ty "str", .base (.str z), kit_ty (by decide +kernel), _, rfl, iteF ?_⟩
        refine ⟨_, rfl, z, rfl, hz, 1, _, rfl, rfl, _, rfl, ite2 (fun e1 => ?_) (fun e1 => ?_)⟩
        · refine ⟨_, 8, rfl, rfl, _, rfl, ite2 (fun e2 => ?_) (fun e2 => ?_)⟩
          · refine ⟨_, rfl, tg, z, rfl, fun H2 tb => ?_⟩
            have e3 := q H2 tb
            rw [nameB_in (of_decide_eq_true e1) (of_decide_eq_true e2)] at e3
            exact e3
          · have e3 := q H ⟨tg, fun _ _ => rfl⟩
            rw [nameB_long fun h => e2 (decide_eq_true h)] at e3
            exact e3
        · have e3 := q H ⟨tg, fun _ _ => rfl⟩
          rw [nameB_short fun h => e1 (decide_eq_true h)] at e3
          exact ⟨_, rfl, iteF e3⟩
      · exact ⟨_, _, _, _, false, rfl, .ty "str", ty, kit_ty kt, _, rfl, iteT q⟩
end
/-! ### defs that are called while nothing is being shown: the guards are known -/
structure FnG (P : Program) (w : World) (K : PySem.W.Frag) (mg : Str → Option Value) (base : Heap) (k : Nat) (f : Addr) (fd : FuncData) (ps : List Str) (sp : Sp) : Prop where
  many : ∀ vs H Q E, sp vs H Q E → vs.length = ps.length
  goes : ∀ (B : Around) (st : List Env) (s : Shared) (H : Hp) (as : Args) (us : List Value) (vs : List V) (Q : VK) (E : XK), B.guards = some [] → Room k B → Env0 P w K mg base B st s H →
    BindsTo s fd as (ps.zip us) → Vals vs us → sp vs H Q E → codeAny (model P w) B (.call (.ref f) as) (CR CX0 st P w H s Q E) s
section
variable {P : Program} {w : World} {K : PySem.W.Frag} {mg : Str → Option Value} {base : Heap}
theorem FnG.of {k : Nat} {f : Addr} {fd : FuncData} {ps : List Str} {sp : Sp} (F : FnOk P w K mg base CX0 k f fd ps sp) : FnG P w K mg base k f fd ps sp :=
  ⟨F.len, fun B st s H as us vs Q E _ => F.run B st s H as us vs Q E⟩
theorem Fun.okG {x qual : Str} {st : Stmt} {f : Addr} {fd : FuncData} {N ps : List Str} {k : Nat} {sp : Sp} (F : Fun K x qual st f fd) (S : FnScope N ps (defScope st)) (many : ∀ vs H Q E, sp vs H Q E → vs.length = ps.length)
    (body : ∀ (cdv : Value) (B : Around) (fs : List Env) (s : Shared) (H : Hp) (vs : List V) (Q : VK) (E : XK), B.guards = some [] → Room k (B.deeper (envOfC qual (defScope st) s.heap.objs.size f cdv)) → sp vs H Q E →
      ∃ t, PSs (cxOf CX0 P w K mg base N qual (defScope st) f cdv B fs s H E).nox (defBody st) t ∧ t { nx := fun _ H' => Q .non H', rt := Q } (start N vs) H) : FnG P w K mg base (k + 1) f fd ps sp := by
  obtain ⟨oc, od, kV, doc, pm, an, cdv, ct, osl, rfl, lk, hcd⟩ := F.ex
  refine ⟨many, fun B fs s H as us vs Q E hg hr e0 hb r hsp => ?_⟩
  have old : ∀ b o, base.get? b = some o → s.heap.get? b = some o := fun b o e => (e0.bs b o e).1
  have KX := e0.mod.kin.keeps old
  obtain ⟨t, pt, ht⟩ := body cdv B fs s H vs Q E hg (hr.deeper _) hsp
  refine codeAny_call_function hr.depth (KX _ _ lk) rfl S.co S.gen rfl (PySem.W.codeRec_of KX hcd) (hb _ _ _ _ ?_)
  refine wpAny_newFunctionEnv_cells S.kind ?_ ?_
  · rintro ⟨n, v⟩ hy
    have hn := (List.of_mem_zip hy).1
    exact (S.par n hn).imp id fun q => ⟨q, PySem.W.cellsFrom_some _ _ _ (.inl q)⟩
  · rintro env rfl s1 x
    have I := inv_start (CX := CX0) (E := E) S hr.hd e0 (many _ _ _ _ hsp) r x
    refine ⟨(e0.mod.nolimit.keeps old).keeps x.toInCall.keep, codeAny_func (wpAny_mono (pt.nox.run [] s1 _ H _ I ht) ?_ fun e s' hs => hs)⟩
    rintro fl s' hs
    cases fl with
    | ret u =>
      obtain ⟨v, σ', H', J, rv, q⟩ := hs
      exact ⟨v, H', J.os, J.bare, J.base, J.hok, rv, q⟩
    | next =>
      obtain ⟨σ', H', J, q⟩ := hs
      exact ⟨.non, H', J.os, J.bare, J.base, J.hok, rfl, q⟩
    | brk =>
      obtain ⟨_, _, _, q⟩ := hs
      exact False.elim q
    | cont =>
      obtain ⟨_, _, _, q⟩ := hs
      exact False.elim q
end
/-- f(e, ..): a def of this kind -/
theorem pe_callG {X : Cx} {k : Nat} {f : Addr} {fd : FuncData} {ps : List Str} {sp : Sp} {x : Str} {p pos : Pos} {e : Expr} {es : List Expr} {t : TA} (F : FnG X.prog X.w X.K X.mg X.base k f fd ps sp) (hG : X.A.guards = some []) (hr : Room k X.A) (hg : Gl X x) (hm : X.mg x = some (.ref f))
    (hk : PySem.W.keepIn X.K (.ref f) = true) (hb : Binds X.K fd ps []) (ha : PA X (e :: es) t) (hdb : (x == ("__debug__" : Str)) = false := by decide) (he : starEach (e :: es) X.env = (false, eval e X.env) :: starEach es X.env := by rfl)
    (hpl : (backTo pos (starEach es X.env)).any (·.1) = false := by rfl) : PE X (.Call (.Name x p) (e :: es) [] pos) (tCall sp [] E0 t) := by
  refine ⟨fun pins s σ H Q I h => wpAny_Call_Name_kw (ld_glob I hg hm ?_ hdb)⟩
  refine PySem.W.callWith_K (h₀ := X.base) I.ok.mod.kin hk (thn (ha.run pos pins s σ H _ I h) ?_) he hpl
  rintro us s1 ⟨vs, H1, I1, r, q⟩
  rw [List.append_nil] at q
  have hl : us.length = ps.length := r.length.symm.trans (F.many _ _ _ _ q)
  have bd := hb s1 us I1.kIn (by rw [List.append_nil]; exact hl)
  rw [List.append_nil] at bd
  refine ⟨I1.kIn, wpAny_call (codeAny_mono (F.goes X.A X.stack s1 H1 ⟨us, []⟩ us vs Q E0 hG hr I1.env0 bd r q) ?_)⟩
  rintro r2 s2 hq
  cases r2 with
  | error e => exact False.elim hq
  | ok fl =>
    cases fl with
    | ret u => exact I1.after hq
    | next => exact False.elim hq
    | brk => exact False.elim hq
    | cont => exact False.elim hq
/-! ### the top's call of the law, for a law that shows things -/
def topH (K : PySem.W.Frag) (a : Addr) (o : Obj) (xs : List V) (cs : List (Addr × Addr)) : Hp := fun b =>
  if b ∈ cs.map (·.2) then some (.tbl #[]) else if b = a ∧ K.lookup a = none then some (.frz o (.lst xs)) else none
section
variable {P : Program} {w : World} {K : PySem.W.Frag} {mg mb : Str → Option Value} {a : Addr} {o : Obj} {cs : List (Addr × Addr)} {s₁ : Shared} {vs : List Value} {ns : List Int}
theorem topH_tab {xs : List V} {p : Addr × Addr} (hp : p ∈ cs) : topH K a o xs cs p.2 = some (.tbl #[]) := if_pos (List.mem_map.mpr ⟨p, hp, rfl⟩)
theorem topH_cases {xs : List V} {b : Addr} {u : HO} (h : topH K a o xs cs b = some u) : (b ∈ cs.map (·.2) ∧ u = .tbl #[]) ∨ (b = a ∧ K.lookup a = none ∧ u = .frz o (.lst xs)) := by
  unfold topH at h
  split at h
  · rename_i hb
    exact .inl ⟨hb, (Option.some.inj h).symm⟩
  · split at h
    · rename_i hb
      exact .inr ⟨hb.1, hb.2, (Option.some.inj h).symm⟩
    · cases h
theorem top_call {fa : Addr} {k : Nat} {fd : FuncData} {x : Str} {sp : Sp}
    (KX : K.In s₁.heap) (hns : s₁.heap.Ns mainGlobals mg) (hb : s₁.heap.Ns builtinsNs mb) (hbb : ∀ x : Str, x ≠ "__name__" → mb x = bootBuiltins x) (hlim : s₁.heap.NoLimit) (hg : s₁.gens = #[])
    (hT : ∀ p ∈ cs, s₁.heap.get? p.2 = some { cls := .none, data := .fields #[] }) (nT : ∀ p ∈ cs, K.lookup p.2 = none) (C : ∀ p ∈ cs, PySem.W.CodeHd s₁.heap p.1 p.2)
    (hbm : ∃ (bm : Addr) (ob : Obj), mg "__builtins__" = some (.ref bm) ∧ bm ≠ builtinsNs ∧ s₁.heap.get? bm = some ob ∧ ob.cls = .type "module" ∧ ob.dict = some builtinsNs ∧ ob.data = .plain)
    (ha : s₁.heap.get? a = some { cls := .type "list", data := .seq vs.toArray }) (hi : IntsAre vs ns) (hl : ns.length ≤ sizeLine) (hr : Room k callerA)
    (F : ∀ base : Heap, K.In base → base.Ns mainGlobals mg → (∀ p ∈ cs, LamX.TabB base mg p.1 p.2) → FnG P w K mg base k fa fd [x] sp) (hbind : ∀ (s : Shared) (u : Value), BindsTo s fd ⟨[u], []⟩ [(x, u)])
    (hsp : ∀ H : Hp, (∀ p ∈ cs, H p.2 = some (.tbl #[])) → SqL K H a (ns.map V.int) → sp [.ref a] H (fun v _ => v = .bl true) fun _ _ _ => False) :
    codeAny (model P w) callerA (.call (.ref fa) ⟨[.ref a], []⟩) (fun r s' => r = .ok (.ret (.bool true)) ∧ OldK s₁.heap s'.heap ∧ s'.os = s₁.os ∧ AllBare s'.gens) s₁ := by
  have tabAt : ∀ b : Addr, b ∈ cs.map (·.2) → s₁.heap.get? b = some { cls := .none, data := .fields #[] } := fun b hb => by
    obtain ⟨p, hp, rfl⟩ := List.mem_map.mp hb
    exact hT p hp
  have naT : a ∉ cs.map (·.2) := fun z => by
    have q := (tabAt a z).symm.trans ha
    cases q
  have rv := vals_ints hi
  let H : Hp := topH K a { cls := .type "list", data := .seq vs.toArray } (ns.map V.int) cs
  have hH : ∀ p ∈ cs, H p.2 = some (.tbl #[]) := fun p hp => topH_tab hp
  -- what is tracked is a list or a table
  have free : ∀ {b : Addr} {ob : Obj}, s₁.heap.get? b = some ob → (∀ us n, ob.data ≠ .seq us n) → ob.data ≠ .fields #[] → H b = none := fun {b ob} e h1 h2 => by
    cases q : H b with
    | none => rfl
    | some u =>
      rcases topH_cases q with ⟨hb, _⟩ | ⟨rfl, _, _⟩
      · rw [tabAt b hb] at e
        cases e
        exact absurd rfl h2
      · rw [ha] at e
        cases e
        exact absurd rfl (h1 _ _)
  have dic : ∀ {b : Addr} {m : Str → Option Value}, s₁.heap.Ns b m → (hidT s₁.heap H).Ns b m := fun {b m} ⟨ob, es, ep, e, d, r⟩ =>
    ⟨ob, es, ep, hidT_get e (free e (fun us n z => by rw [d] at z; cases z) fun z => by rw [d] at z; cases z), d, r⟩
  have hK : K.In (hidT s₁.heap H) := fun b ob e => hidT_get (KX b ob e) (by
    cases q : H b with
    | none => rfl
    | some u =>
      rcases topH_cases q with ⟨hb, _⟩ | ⟨rfl, n, _⟩
      · obtain ⟨p, hp, rfl⟩ := List.mem_map.mp hb
        rw [nT p hp] at e
        cases e
      · rw [n] at e
        cases e)
  have hok : HOk P w H s₁.heap := fun b u q => by
    rcases topH_cases q with ⟨hb, rfl⟩ | ⟨rfl, _, rfl⟩
    · exact tabAt b hb
    · exact ⟨ha, by rw [List.length_map]; exact hl, vs, _, rv, ha⟩
  have hS : SqL K H a (ns.map V.int) := by
    cases hk : K.lookup a with
    | some ob =>
      have e := (KX a ob hk).symm.trans ha
      cases e
      exact .inr ⟨_, vs.toArray, _, hk, rfl, rfl, rfl, by rw [List.size_toArray, hi.length]; exact hl, by simpa using rv⟩
    | none => exact .inl (.inr ⟨{ cls := .type "list", data := .seq vs.toArray }, (if_neg naT).trans (if_pos ⟨rfl, hk⟩)⟩)
  have hM : L2.Mod K mg (hidT s₁.heap H) := ⟨hK, dic hns, ⟨mb, dic hb, hbb⟩, let ⟨mc, h1, h2⟩ := hlim; ⟨mc, dic h1, h2⟩⟩
  have TB : ∀ p ∈ cs, LamX.TabB (hidT s₁.heap H) mg p.1 p.2 := fun p hp => by
    have hTp := hT p hp
    obtain ⟨og, eg, pg, g1, g2, _⟩ := hns
    refine ⟨?_, ?_, fun z => ?_⟩
    · obtain ⟨ob, us, file, tf, flags, tg, inF, text, tt, e1, r1, r2, r3, r4⟩ := C p hp
      refine ⟨ob, us, file, tf, flags, tg, inF, text, tt, hidT_get e1 (free e1 (fun us n z => ?_) fun z => ?_), r1, r2, r3, r4⟩
      · rw [r2] at z
        cases z
      · rw [r2] at z
        cases z
        simp at r3
    · obtain ⟨bm, ob, b1, b2, b3, b4, b5, b6⟩ := hbm
      refine ⟨bm, ob, b1, b2, fun z => ?_, fun z => ?_, hidT_get b3 (free b3 (fun us n z => by rw [b6] at z; cases z) fun z => by rw [b6] at z; cases z), b4, b5, b6⟩
      · rw [z, g1] at b3
        cases b3
        rw [g2] at b6
        cases b6
      · rw [z, hTp] at b3
        cases b3
        cases b6
    · rw [z, hTp] at g1
      cases g1
      cases g2
  have e0 : Env0 P w K mg (hidT s₁.heap H) callerA [] s₁ H := ⟨rfl, hM, fun b ob e => of_hidT e, Nat.le_of_eq (hidT_size _ _), trivial, (fun b hb => nomatch (show b ∈ ([] : List Addr) from hb)), hok, .of_eq hg⟩
  refine codeAny_mono ((F _ hK (dic hns) TB).goes callerA [] s₁ H ⟨[.ref a], []⟩ [.ref a] [.ref a] _ _ rfl hr e0 (hbind s₁ (.ref a)) (.cons rfl .nil) (hsp H hH hS)) ?_
  rintro r s' h
  cases r with
  | error e => exact False.elim h
  | ok fl =>
    cases fl with
    | next => exact False.elim h
    | brk => exact False.elim h
    | cont => exact False.elim h
    | ret u =>
      obtain ⟨v, H', os, bare, un, hok', r', rfl⟩ := h
      obtain rfl : u = Value.bool true := r'
      have stays : ∀ b ob, b ∉ cs.map (·.2) → s₁.heap.get? b = some ob → s'.heap.get? b = some ob := fun b ob nb e => by
        cases q : H b with
        | none => exact un.keep b ob e q (fun z => nomatch (show b ∈ ([] : List Addr) from z)) (by simp)
        | some u =>
          rcases topH_cases q with ⟨z, _⟩ | ⟨rfl, _, rfl⟩
          · exact absurd z nb
          · rw [ha] at e
            cases e
            exact (hok' _ _ (un.frzs _ _ _ q)).1
      have grown : ∀ b ∈ cs.map (·.2), ∃ p ∈ cs, b = p.2 ∧ ∃ more : Array Value, s'.heap.get? b = some { cls := .none, data := .fields more } := fun b hb => by
        obtain ⟨p, hp, rfl⟩ := List.mem_map.mp hb
        obtain ⟨more, z⟩ := un.tbls p.2 #[] (hH p hp)
        exact ⟨p, hp, rfl, _, hok' p.2 _ z⟩
      refine ⟨rfl, ⟨fun b ob e => ?_, fun b ob e => ?_⟩, os, bare⟩
      · by_cases hb : b ∈ cs.map (·.2)
        · obtain ⟨p, hp, rfl, more, hm⟩ := grown b hb
          rw [hT p hp] at e
          cases e
          exact .inr (.inl ⟨((C p hp).tab (hT p hp)).isCodeTable, rfl, #[], more, rfl, by rw [Array.empty_append]; exact hm⟩)
        · exact .inl (stays b ob hb e)
      · by_cases hb : b ∈ cs.map (·.2)
        · obtain ⟨p, hp, rfl, more, hm⟩ := grown b hb
          exact ⟨_, hm⟩
        · exact ⟨ob, stays b ob hb e⟩
end
/-- what is known of a law that shows things -/
def LawG (l : PySem.W.OpenLaw) (w : World) (K : PySem.W.Frag) (k n : Nat) (x : Str) (mg : Str → Option Value) (fa : Addr) (h : Heap) : Prop :=
  ∃ (fd : FuncData) (cs : List (Addr × Addr)) (sp : Sp), ((∀ p ∈ cs, h.get? p.2 = some { cls := .none, data := .fields #[] }) ∧ (∀ p ∈ cs, K.lookup p.2 = none) ∧ ∀ p ∈ cs, PySem.W.CodeHd h p.1 p.2) ∧ (∀ (s : Shared) (u : Value), BindsTo s fd ⟨[u], []⟩ [(x, u)]) ∧
    (∀ (H : Hp) (a : Addr) (ns : List Int), ns.length ≤ n → (∀ p ∈ cs, H p.2 = some (.tbl #[])) → SqL K H a (ns.map V.int) → sp [.ref a] H (fun v _ => v = .bl true) fun _ _ _ => False) ∧
    ∀ base : Heap, K.In base → base.Ns mainGlobals mg → (∀ p ∈ cs, LamX.TabB base mg p.1 p.2) → FnG l.prog w K mg base k fa fd [x] sp
theorem end_G {l : PySem.W.OpenLaw} {n k : Nat} {q : Program} {loose : List Str} {XP : (Str → Option Value) → Heap → Prop} {YP : World → Heap → Prop} {d : PySem.DefRec} {K : Params → PySem.W.Frag} {x : Str}
    (hn : l.most = some n) (hn2 : n ≤ sizeLine) (hdf : d.params.defaults = []) (hr : Room k callerA)
    (hY : ∀ (w : World) (h : Heap), YP w h → (K w.params).In h)
    (F : ∀ (w : World) (s0 : Shared) (mg mb : Str → Option Value) (fa : Addr) (h : Heap), PySem.W.Ground q loose [] XP w s0 mg mb h → (K w.params).In h → mg d.name = some (.ref fa) → LawG l w (K w.params) k n x mg fa h) :
    PySem.W.WalkO q loose XP YP l.row.toRowW d [] (fun f vs => PySem.call f vs) := by
  refine Att.attach_callB hn hdf fun w s0 s1 mg mb fa o pm cd doc a vs ns G Y ho hd hcd hmg hobj hints hlen hbits hg => ?_
  have KX := hY w _ Y
  obtain ⟨fd, cs, sp, ⟨hT, nT, C⟩, hb, hsp, hF⟩ := F w s0 mg mb fa _ G KX hmg
  exact top_call KX G.T.g G.T.b G.T.builtins G.T.nolimit hg hT nT C G.T.bmain hobj hints (Nat.le_trans hlen hn2) hr hF hb (fun H hH hS => hsp H a ns hlen hH hS)
/-! ### repr of data -/
theorem cr_repr {X : Cx} (hG : X.A.guards = some []) (hu : X.A.units + 64 < cLine) : CallR X (.builtin "repr") (fun vs H Q => ∃ (a : Addr) (d : PyData), vs = [.ref a] ∧ Dp X.K H (.ref a) d ∧ d.showable = true ∧ d.hasDict = false ∧ d.depth ≤ 60 ∧ d.shown.length ≤ sizeLine ∧ Q (.str d.shown) H) := by
  rintro pins s σ H vs us Q I r ⟨a, d, rfl, hd, sh, nd, dp, sz, q⟩
  rw [Vals.ref1 r]
  obtain ⟨as, rd⟩ := Dp.reads I d (.ref a) (.ref a) hd rfl
  exact repr_of_reads' rd sh (PyData.noDict_hsm nd) hG (by omega) (fun _ _ e => e) (fun h' u tk hk => ⟨.str d.shown, H, I.kept hk, ⟨_, rfl⟩, q⟩) sz
/-! ### sorted(xs, key=f), f a def whose answers are data -/
mutual
theorem Dp.on {K : PySem.W.Frag} {H H' : Hp} (s : Same H H') : ∀ {v : V} {d : PyData}, Dp K H v d → Dp K H' v d
  | _, _, .non => .non
  | _, _, .bl b => .bl b
  | _, _, .int i => .int i
  | _, _, .str x => .str x
  | _, _, .lst h r => .lst (h.imp (fun z => z.imp (s _ _) fun ⟨o, e⟩ => ⟨o, s _ _ e⟩) id) (DpAll.on s r)
  | _, _, .tup h r => .tup (h.imp (fun z => z.imp (s _ _) fun ⟨o, e⟩ => ⟨o, s _ _ e⟩) id) (DpAll.on s r)
theorem DpAll.on {K : PySem.W.Frag} {H H' : Hp} (s : Same H H') : ∀ {vs : List V} {ds : List PyData}, DpAll K H vs ds → DpAll K H' vs ds
  | _, _, .nil => .nil
  | _, _, .cons h r => .cons (Dp.on s h) (DpAll.on s r)
end
theorem DpAll.snoc {K : PySem.W.Frag} {H : Hp} {v : V} {d : PyData} : ∀ {vs : List V} {ds : List PyData}, DpAll K H vs ds → Dp K H v d → DpAll K H (vs ++ [v]) (ds ++ [d])
  | _, _, .nil, h => .cons h .nil
  | _, _, .cons a r, h => .cons a (DpAll.snoc r h)
theorem DpAll.len {K : PySem.W.Frag} {H : Hp} : ∀ {vs : List V} {ds : List PyData}, DpAll K H vs ds → vs.length = ds.length
  | _, _, .nil => rfl
  | _, _, .cons _ r => congrArg Nat.succ (DpAll.len r)
theorem vals_snoc {v : V} {u : Value} : ∀ {vs : List V} {us : List Value}, Vals vs us → RelV v u → Vals (vs ++ [v]) (us ++ [u])
  | _, _, .nil, h => .cons h .nil
  | _, _, .cons a r, h => .cons a (vals_snoc r h)
theorem vals_get {vs : List V} {us : List Value} (h : Vals vs us) : ∀ {i : Nat} {u : Value}, us[i]? = some u → ∃ v, vs[i]? = some v ∧ RelV v u := by
  induction h with
  | nil => intro i u e; cases e
  | cons a r ih =>
    intro i u e
    cases i with
    | zero => exact ⟨_, rfl, by rw [← Option.some.inj e]; exact a⟩
    | succ n => exact ih (i := n) e
theorem each_dp {X : Cx} {pins : List (Addr × Obj)} {σ : L2.St} {H : Hp} {s : Shared} (I : Inv X pins σ H s) : ∀ {vs : List V} {ds : List PyData} {us : List Value}, DpAll X.K H vs ds → Vals vs us → PySem.W.EachIs (fun v d => ∃ as, Reads s.heap v d as) us ds
  | _, _, _, .nil, .nil => .nil
  | _, _, _, .cons h r, .cons a t => .cons (Dp.reads I _ _ _ h a) (each_dp I r t)
theorem each_pairs : ∀ {es : List (V × PyData)} {us : List Value}, Vals (es.map (·.1)) us → PySem.W.EachIs (fun v (e : V × PyData) => RelV e.1 v) us es
  | [], _, .nil => .nil
  | _ :: _, _, .cons a t => .cons a (each_pairs t)
theorem pairs_each : ∀ {es : List (V × PyData)} {us : List Value}, PySem.W.EachIs (fun v (e : V × PyData) => RelV e.1 v) us es → Vals (es.map (·.1)) us
  | [], _, .nil => .nil
  | _ :: _, _, .cons a t => .cons a (pairs_each t)
abbrev keyed (es : List (V × PyData)) : List (V × PyData) := es.mergeSort (PySem.W.dataLe false fun e => e.2)
def rSortK (K : PySem.W.Frag) (f : Addr) (sp : Sp) : List V → List V → Hp → VK → Prop := fun vs zs H Q => ∃ (l : Addr) (es : List (V × PyData)), vs = [.ref l] ∧ zs = [.ref f] ∧ SqL K H l (es.map (·.1)) ∧ PySem.W.AllAlike (es.map (·.2)) ∧ PySem.W.Sortable (es.map (·.2)) ∧ (∀ e ∈ es, e.2.depth ≤ 60) ∧
  (∀ e ∈ es, ∀ H1, Same H H1 → ∀ Q1 : VK, (∀ v H2, Same H1 H2 → Dp K H2 v e.2 → Q1 v H2) → sp [e.1] H1 Q1 E0) ∧ ∀ (p : Addr) (H1 : Hp), H p = none → Same H H1 → H1 p = some (.lst ((keyed es).map (·.1))) → Q (.ref p) H1
theorem cr_sortK {X : Cx} {k : Nat} {f : Addr} {fd : FuncData} {p1 : Str} {sp : Sp} (F : FnOk X.prog X.w X.K X.mg X.base CX0 k f fd [p1] sp) (hr : Room (k + 2) X.A) (hb : Binds X.K fd [p1] []) : CallRK X (.builtin "sorted") [Str.ofString "key"] (rSortK X.K f sp) := by
  rintro pins s σ H vs zs us ws Q I r rz ⟨l, es, rfl, rfl, hs, al, so, dp, key, q⟩
  obtain rfl := Vals.ref1 r
  obtain rfl := Vals.ref1 rz
  obtain ⟨its, rv, hl, hz⟩ := I.list hs
  have hlen : its.length = es.length := by rw [← rv.length, List.length_map]
  have hZ : its.length ≤ sizeLine := by rw [← rv.length]; exact hz
  have rB : Room k X.A.in1.in1 := hr.in1.in1
  have uB : X.A.in1.in1.units + 64 < cLine := rB.units
  refine PySem.W.sorted_of_sort (vs := its) hl.isList hZ (PyProof.Rows.ksk_s1 _ _) (fun _ => PyProof.Rows.ksk_l1 _ _) fun E' => ?_
  show wpAny _ X.A.in1.in1 (Builtin.«list.sort» ⟨[.ref (s.heap.objs.size + 1)], [(Str.ofString "key", .ref f)]⟩) _ _ _
  rw [PyProof.Rows.ksk_t1]
  generalize ha : s.heap.objs.size + 1 = a
  have ho : (PySem.W.copyHeap s.heap its).get? a = some (seqObj "list" its.toArray 0) := by rw [← ha]; exact PySem.W.copyHeap_at s.heap its
  obtain ⟨e1, ho1⟩ : ∃ e1, ((PySem.W.copyHeap s.heap its).update a (Obj.mapSeq fun _ => (#[] : Array Value))).get? a = some (seqObj "list" #[] e1) := ⟨_, get?_update_seq ho fun _ => #[]⟩
  have hsz0 : a < (PySem.W.copyHeap s.heap its).objs.size := Heap.lt_size ho
  unfold PyProof.Rows.ksk_tree
  refine wpAny_bind (listItems_at ho rfl ?_)
  refine wpAny_bind (listUpdate_at ho rfl ?_ (by rw [List.size_toArray]; exact hZ) (Nat.zero_le _))
  refine wpAny_bind (seqEpoch_at ho1 rfl ?_)
  refine wpAny_bind (wpAny_newTuple ?_ hZ)
  refine wpAny_bind (wpAny_newList ?_ (Nat.zero_le _))
  refine wpAny_holding ?_
  generalize hk : (((PySem.W.copyHeap s.heap its).update a (Obj.mapSeq fun _ => (#[] : Array Value))).push (seqObj "tuple" its.toArray 0)).objs.size = kS
  generalize hg : (((PySem.W.copyHeap s.heap its).update a (Obj.mapSeq fun _ => (#[] : Array Value))).push (seqObj "tuple" its.toArray 0)).push (seqObj "list" #[] 0) = g
  have size_g : s.heap.objs.size < kS := by
    rw [← hk, size_push', Heap.size_update]
    omega
  have hka : kS ≠ a := by
    rw [← hk, size_push', Heap.size_update]
    omega
  have old : ∀ b o, s.heap.get? b = some o → g.get? b = some o := fun b o e => by
    rw [← hg]
    refine Heap.get?_push_of_some _ (Heap.get?_push_of_some _ ((Heap.get?_update_ne _ _ _ _ (Nat.ne_of_lt ?_)).trans (PySem.W.copyHeap_old e)))
    exact Nat.lt_of_lt_of_le (Heap.lt_size e) (by omega)
  have ga : g.get? a = some (seqObj "list" #[] e1) := by
    rw [← hg]
    exact Heap.get?_push_of_some _ (Heap.get?_push_of_some _ ho1)
  have gk : g.get? kS = some (seqObj "list" #[] 0) := by
    rw [← hg, ← hk]
    exact Heap.get?_push_size _ rfl
  have fa : ∀ {H1 : Hp}, H1 a = none → FpOk X pins H1 a := fun n => I.fpOk (by omega) n
  have fk : ∀ {H1 : Hp}, H1 kS = none → FpOk X pins H1 kS := fun n => I.fpOk (by omega) n
  -- the two lists of the sort are held as pins
  have pin : ∀ {H1 : Hp} {s1 : Shared} {kA : Array Value} {n : Nat}, Inv X pins σ H1 s1 → H1 a = none → H1 kS = none → s1.heap.get? a = some (seqObj "list" #[] e1) → s1.heap.get? kS = some (seqObj "list" kA n) → Inv X (pins ++ [(a, seqObj "list" #[] e1), (kS, seqObj "list" kA n)]) σ H1 s1 := fun {H1 s1 kA n} J na nk ea ek => by
    refine J.pins_of fun p hp => ?_
    rcases List.mem_append.mp hp with h | h
    · exact J.pin p (List.mem_append_right _ h)
    · rcases List.mem_cons.mp h with rfl | h
      · exact ⟨ea, na, (fa na).2.1, (fa na).2.2.1, fun v z => by cases z⟩
      · rw [List.mem_singleton.mp h]
        exact ⟨ek, nk, (fk nk).2.1, (fk nk).2.2.1, fun v z => by cases z⟩
  have I0 : Inv X pins σ H { s with heap := g } := I.kept (t' := s.toks) old
  have na0 : H a = none := I.hok.fresh (by omega)
  have nk0 : H kS = none := I.hok.fresh (by omega)
  unfold PyProof.Rows.ksk_rest
  refine wpAny_bind (wpAny_rule ?_)
  first
    | rw [List.forIn_toArray]
    | (rw [← Array.forIn_toList]; simp only [List.toList_toArray])
  refine wpAny_bind (PyProof.Rows.ksk_fold (fun i s' => ∃ H1 kA n kv, Same H H1 ∧ Inv X (pins ++ [(a, seqObj "list" #[] e1), (kS, seqObj "list" kA n)]) σ H1 s' ∧ Vals kv kA.toList ∧ DpAll X.K H1 kv ((es.take i).map (·.2))) its 0 _
    ⟨H, #[], 0, [], fun _ _ e => e, pin I0 na0 nk0 ga gk, .nil, .nil⟩ ?step ?done)
  case step =>
    rintro j u s1 hu ⟨H1, kA, n, kv, sm, J, vk, dk⟩
    rw [Nat.zero_add] at dk ⊢
    obtain ⟨v, hv, rel⟩ := vals_get rv hu
    rw [List.getElem?_map] at hv
    obtain ⟨e, he, rfl⟩ := Option.map_eq_some_iff.mp hv
    have pa := J.pin (a, seqObj "list" #[] e1) (by simp)
    have pk := J.pin (kS, seqObj "list" kA n) (by simp)
    have hj : j < its.length := (List.getElem?_eq_some_iff.mp hu).1
    have ck : kA.size ≤ its.length := by
      have h1 : kv.length = kA.size := vk.length.trans Array.length_toList
      have h2 := DpAll.len dk
      rw [List.length_map, List.length_take] at h2
      omega
    have E1 := J.env0
    have sp1 := key e (List.mem_of_getElem? he) H1 sm (fun v H2 => Same H1 H2 ∧ Dp X.K H2 v e.2) fun v H2 h1 h2 => ⟨h1, h2⟩
    refine wpAny_bind (wpAny_attempt ?_)
    refine wpAny_call (codeAny_mono (F.run X.A.in1.in1 X.stack s1 H1 ⟨[u], []⟩ [u] [e.1] _ E0 rB ⟨E1.frames, E1.mod, E1.bs, E1.bsz, E1.funs, E1.frf, E1.hok, E1.bare⟩ (hb s1 [u] J.kIn rfl) (.cons rel .nil) sp1) ?_)
    rintro r s2 hq
    cases r with
    | error e => exact False.elim hq
    | ok fl =>
      cases fl with
      | next => exact False.elim hq
      | brk => exact False.elim hq
      | cont => exact False.elim hq
      | ret x =>
        obtain ⟨v2, H2, J2, rel2, sm2, dp2⟩ := J.after hq
        have pa2 := J2.pin (a, seqObj "list" #[] e1) (by simp)
        have pk2 := J2.pin (kS, seqObj "list" kA n) (by simp)
        have J3 : Inv X pins σ H2 s2 := J2.unpinned
        obtain ⟨c2, hc2⟩ : ∃ c2, (s2.heap.update kS (Obj.mapSeq (·.push x))).get? kS = some (seqObj "list" (kA.push x) c2) := ⟨_, get?_update_seq pk2.1 (·.push x)⟩
        have sb := Heap.SameBut.update s2.heap kS (Obj.mapSeq (·.push x))
        show wpAny _ _ _ _ _ _
        refine wpAny_bind (listUpdate_at pk2.1 rfl ?_ (Nat.le_trans ck hZ) (Nat.le_trans (Nat.le_of_eq (Array.size_push ..)) (Nat.succ_le_succ (Nat.le_trans ck hZ))))
        have J4 : Inv X pins σ H2 { s2 with heap := s2.heap.update kS (Obj.mapSeq (·.push x)), toks := s2.toks } := J3.turnedL (ch := [kS]) (fun b o hb e => (sb.2 b (fun z => hb (by simp [z]))).trans e) fun b hb => by rw [List.mem_singleton.mp hb]; exact fk pk2.2.1
        refine wpAny_pure ⟨rfl, H2, kA.push x, c2, kv ++ [v2], fun b o e => sm2 b o (sm b o e), pin J4 pa2.2.1 pk2.2.1 ((sb.2 a hka.symm).trans pa2.1) hc2, ?_, ?_⟩
        · rw [Array.toList_push]
          exact vals_snoc vk rel2
        · rw [List.take_add_one, he, List.map_append]
          exact DpAll.snoc (DpAll.on sm2 dk) dp2
  case done =>
    rintro s1 ⟨H1, kA, n, kv, sm, J, vk, dk⟩
    have pa := J.pin (a, seqObj "list" #[] e1) (by simp)
    have pk := J.pin (kS, seqObj "list" kA n) (by simp)
    have J1 : Inv X pins σ H1 s1 := J.unpinned
    rw [Nat.zero_add, hlen, List.take_length] at dk
    have hk1 := each_dp J dk vk
    have sz : kA.size = its.length := by
      have h1 : kv.length = kA.size := vk.length.trans Array.length_toList
      have h2 := DpAll.len dk
      rw [List.length_map] at h2
      omega
    have hu : ∀ d, d ∈ es.map (·.2) → X.A.in1.in1.units + d.depth < cLine := fun d hd => by
      obtain ⟨e, he, rfl⟩ := List.mem_map.mp hd
      have := dp e he
      omega
    obtain ⟨G, g1, g2⟩ := L2.restrict s1.heap fun b => decide (b ≠ kS)
    have kp : PySem.W.KeepsBut a G s1.heap := fun b o _ e => by
      by_cases z : b = kS
      · rw [g2 b (decide_eq_false fun h => h z)] at e
        cases e
      · rw [g1 b (decide_eq_true z)] at e
        exact e
    refine wpAny_bind (listItems_at pk.1 rfl ?_)
    refine PySem.W.keyH_end (κ := PySem.W.dataKind s1.heap (es.map (·.2))) (h₁ := G) kp (g2 kS (decide_eq_false fun h => h rfl)) pk.1 pa.1 hka (PySem.W.SortsAt.data hk1 al so hu) sz hZ fun h3 tk3 c k3 n3 => ⟨rfl, ?_⟩
    have ko : PySem.W.KeyedOut false (es.map (·.2)) its (PySem.W.sortVals (PySem.W.dataKind s1.heap (es.map (·.2))) false kA.toList its) := ⟨s1.heap, kA.toList, al, rfl, hk1⟩
    have out := pairs_each (PySem.W.keyedOut_each (fun e : V × PyData => e.2) ko (each_pairs rv))
    have J2 : Inv X pins σ H1 { s1 with heap := h3, toks := tk3 } := J1.turnedL (ch := [a, kS]) (fun b o hb e => k3 b o (fun z => hb (by simp [z])) ((g1 b (decide_eq_true fun z => hb (by simp [z]))).trans e)) fun b hb => by
      rcases List.mem_cons.mp hb with rfl | h
      · exact fa pa.2.1
      · rw [List.mem_singleton.mp h]
        exact fk pk.2.1
    have lo : ((keyed es).map (·.1)).length ≤ sizeLine := by
      rw [List.length_map, List.length_mergeSort, ← hlen]
      exact hZ
    refine ⟨.ref a, upd H1 a (.lst ((keyed es).map (·.1))), J2.take (it := a) (fun b o _ e => e) (fa pa.2.1) ⟨lo, _, c, out, n3⟩, rfl, q a _ na0 (fun b o e => (upd_ne (ne_of_none e na0)).trans (sm b o e)) upd_same⟩
/-! ### sorted of a tuple, by a key def -/
section
open PySem.W
variable {prog : Program} {w : World} {A : Around} {E : Value → Shared → Prop} {s : Shared}
theorem collect_tupleT {l : Addr} {vs : List Value} {o : Obj} {n : Nat} {Q : List Value → Shared → Prop} (ho : s.heap.get? l = some o) (hc : o.cls = .type "tuple") (hd : o.data = .seq vs.toArray n)
    (h : Q vs { s with heap := (s.heap.push (seqObj "list" #[] 0)).update s.heap.objs.size (Obj.mapSeq (· ++ vs.toArray)) }) (hsz : vs.length ≤ sizeLine) :
    wpAny (model prog w) A (collect (.ref l)) Q E s := by
  unfold collect
  refine wpAny_bind (wpAny_runValue (codeAny_builtin entry_proto_collect' ?_))
  show wpAny _ _ (do again (.builtin "list.__iadd__" ⟨[← newList [], .ref l], []⟩)) _ _ s
  refine wpAny_bind (wpAny_newList (wpAny_pure ⟨Code.quiet_builtin _ (by decide +kernel), codeAny_builtin entry_list_iadd' ?_⟩))
  show wpAny _ _ (Builtin.List.listExtendWith (.ref s.heap.objs.size) (.ref l) (.ref s.heap.objs.size)) _ _ { s with heap := s.heap.push (seqObj "list" #[] 0) }
  unfold Builtin.List.listExtendWith
  have ho' : (s.heap.push (seqObj "list" #[] 0)).get? l = some o := Heap.get?_push_of_some _ ho
  refine wpAny_bind (wpAny_typeOf (T := "tuple") ⟨o, ho', hc⟩ ?_)
  have ht : (Value.type "tuple" == Value.type "tuple") = true := by rfl
  rw [if_pos (by rw [ht]; simp)]
  refine wpAny_bind (listItems_at ho' hd ?_)
  refine wpAny_bind (listItems_at (xs := #[]) (n := 0) (Heap.get?_push_size _ rfl) rfl ?_)
  rw [if_neg (by simp)]
  refine wpAny_bind (listUpdate_at (xs := #[]) (n := 0) (Heap.get?_push_size _ rfl) rfl ?_ (Nat.zero_le _) (by show (#[] ++ vs.toArray).size ≤ sizeLine + 1; simp only [Array.size_append, List.size_toArray, List.length_nil]; omega))
  refine wpAny_pure ?_
  show wpAny (model prog w) A (do
      let o ← load s.heap.objs.size
      match o.data with
      | .seq xs _ => pure xs.toList
      | _ => unsupported "internal:collect") Q E { s with heap := (s.heap.push (seqObj "list" #[] 0)).update s.heap.objs.size (Obj.mapSeq (· ++ vs.toArray)) }
  refine wpAny_bind (wpAny_load (get?_update_seq (Heap.get?_push_size _ rfl) _) ?_)
  show wpAny _ _ (pure ((#[] : Array Value) ++ vs.toArray).toList) Q E _
  rw [show ((#[] : Array Value) ++ vs.toArray).toList = vs by simp]
  exact wpAny_pure h
theorem sorted_of_sortT {l : Addr} {vs : List Value} {o : Obj} {n : Nat} {kw : List (Str × Value)} {Q : Value → Shared → Prop} (ho : s.heap.get? l = some o) (hc : o.cls = .type "tuple") (hd : o.data = .seq vs.toArray n) (hL : vs.length ≤ sizeLine) (ha1 : argsOk "sorted" ⟨[.ref l], kw⟩) (ha2 : ∀ x, argsOk "list.sort" ⟨[.ref x], kw⟩)
    (body : ∀ E' : Value → Shared → Prop, wpAny (model prog w) A.in1.in1 (Builtin.«list.sort» ⟨[.ref (s.heap.objs.size + 1)], kw⟩) (fun f s' => f = .done (.ret .none) ∧ Q (.ref (s.heap.objs.size + 1)) s') E' { s with heap := copyHeap s.heap vs }) :
    wpAny (model prog w) A (call (.builtin "sorted") [.ref l] kw) Q E s := by
  refine call_function_entry_kw kind_sorted plain_sorted entry_sorted ha1 ?_
  unfold Builtin.«sorted»
  refine wpAny_bind (m := checkCount "sorted" 1 1 _) (wpAny_pure ?_)
  refine wpAny_bind (collect_tupleT ho hc hd ?_ hL)
  refine wpAny_bind (wpAny_newList ?_ hL)
  have hsz : ((s.heap.push (seqObj "list" #[] 0)).update s.heap.objs.size (Obj.mapSeq (· ++ vs.toArray))).objs.size = s.heap.objs.size + 1 := by
    rw [Heap.size_update, size_push']
  show wpAny _ _ _ _ _ { s with heap := copyHeap s.heap vs }
  rw [hsz]
  refine wpAny_bind (wpAny_holding (wpAny_call_entry_kw slot_list_sort ⟨_, copyHeap_at s.heap vs, rfl⟩ entry_list_sort ?body (ha2 _)))
  case body =>
    show wpAny (model prog w) A.in1.in1 (Builtin.«list.sort» ⟨[.ref (s.heap.objs.size + 1)], kw⟩) _ _ _
    refine wpAny_mono (body _) (fun f s' hf => ?_) fun _ _ e => e
    obtain ⟨rfl, hq⟩ := hf
    exact ⟨_, rfl, wpAny_pure ⟨_, rfl, hq⟩⟩
end
def rSortKT (K : PySem.W.Frag) (f : Addr) (sp : Sp) : List V → List V → Hp → VK → Prop := fun vs zs H Q => ∃ (l : Addr) (es : List (V × PyData)), vs = [.ref l] ∧ zs = [.ref f] ∧ SqT K H l (es.map (·.1)) ∧ PySem.W.AllAlike (es.map (·.2)) ∧ PySem.W.Sortable (es.map (·.2)) ∧ (∀ e ∈ es, e.2.depth ≤ 60) ∧
  (∀ e ∈ es, ∀ H1, Same H H1 → ∀ Q1 : VK, (∀ v H2, Same H1 H2 → Dp K H2 v e.2 → Q1 v H2) → sp [e.1] H1 Q1 E0) ∧ ∀ (p : Addr) (H1 : Hp), H p = none → Same H H1 → H1 p = some (.lst ((keyed es).map (·.1))) → Q (.ref p) H1
theorem cr_sortKT {X : Cx} {k : Nat} {f : Addr} {fd : FuncData} {p1 : Str} {sp : Sp} (F : FnOk X.prog X.w X.K X.mg X.base CX0 k f fd [p1] sp) (hr : Room (k + 2) X.A) (hb : Binds X.K fd [p1] []) : CallRK X (.builtin "sorted") [Str.ofString "key"] (rSortKT X.K f sp) := by
  rintro pins s σ H vs zs us ws Q I r rz ⟨l, es, rfl, rfl, hs, al, so, dp, key, q⟩
  obtain rfl := Vals.ref1 r
  obtain rfl := Vals.ref1 rz
  obtain ⟨its, rv, ⟨ot, ho1, hc1, no1, hd1⟩, hz⟩ := I.tuple hs
  have hlen : its.length = es.length := by rw [← rv.length, List.length_map]
  have hZ : its.length ≤ sizeLine := by rw [← rv.length]; exact hz
  have rB : Room k X.A.in1.in1 := hr.in1.in1
  have uB : X.A.in1.in1.units + 64 < cLine := rB.units
  refine sorted_of_sortT (vs := its) ho1 hc1 hd1 hZ (PyProof.Rows.ksk_s1 _ _) (fun _ => PyProof.Rows.ksk_l1 _ _) fun E' => ?_
  show wpAny _ X.A.in1.in1 (Builtin.«list.sort» ⟨[.ref (s.heap.objs.size + 1)], [(Str.ofString "key", .ref f)]⟩) _ _ _
  rw [PyProof.Rows.ksk_t1]
  generalize ha : s.heap.objs.size + 1 = a
  have ho : (PySem.W.copyHeap s.heap its).get? a = some (seqObj "list" its.toArray 0) := by rw [← ha]; exact PySem.W.copyHeap_at s.heap its
  obtain ⟨e1, ho1⟩ : ∃ e1, ((PySem.W.copyHeap s.heap its).update a (Obj.mapSeq fun _ => (#[] : Array Value))).get? a = some (seqObj "list" #[] e1) := ⟨_, get?_update_seq ho fun _ => #[]⟩
  have hsz0 : a < (PySem.W.copyHeap s.heap its).objs.size := Heap.lt_size ho
  unfold PyProof.Rows.ksk_tree
  refine wpAny_bind (listItems_at ho rfl ?_)
  refine wpAny_bind (listUpdate_at ho rfl ?_ (by rw [List.size_toArray]; exact hZ) (Nat.zero_le _))
  refine wpAny_bind (seqEpoch_at ho1 rfl ?_)
  refine wpAny_bind (wpAny_newTuple ?_ hZ)
  refine wpAny_bind (wpAny_newList ?_ (Nat.zero_le _))
  refine wpAny_holding ?_
  generalize hk : (((PySem.W.copyHeap s.heap its).update a (Obj.mapSeq fun _ => (#[] : Array Value))).push (seqObj "tuple" its.toArray 0)).objs.size = kS
  generalize hg : (((PySem.W.copyHeap s.heap its).update a (Obj.mapSeq fun _ => (#[] : Array Value))).push (seqObj "tuple" its.toArray 0)).push (seqObj "list" #[] 0) = g
  have size_g : s.heap.objs.size < kS := by
    rw [← hk, size_push', Heap.size_update]
    omega
  have hka : kS ≠ a := by
    rw [← hk, size_push', Heap.size_update]
    omega
  have old : ∀ b o, s.heap.get? b = some o → g.get? b = some o := fun b o e => by
    rw [← hg]
    refine Heap.get?_push_of_some _ (Heap.get?_push_of_some _ ((Heap.get?_update_ne _ _ _ _ (Nat.ne_of_lt ?_)).trans (PySem.W.copyHeap_old e)))
    exact Nat.lt_of_lt_of_le (Heap.lt_size e) (by omega)
  have ga : g.get? a = some (seqObj "list" #[] e1) := by
    rw [← hg]
    exact Heap.get?_push_of_some _ (Heap.get?_push_of_some _ ho1)
  have gk : g.get? kS = some (seqObj "list" #[] 0) := by
    rw [← hg, ← hk]
    exact Heap.get?_push_size _ rfl
  have fa : ∀ {H1 : Hp}, H1 a = none → FpOk X pins H1 a := fun n => I.fpOk (by omega) n
  have fk : ∀ {H1 : Hp}, H1 kS = none → FpOk X pins H1 kS := fun n => I.fpOk (by omega) n
  -- the two lists of the sort are held as pins
  have pin : ∀ {H1 : Hp} {s1 : Shared} {kA : Array Value} {n : Nat}, Inv X pins σ H1 s1 → H1 a = none → H1 kS = none → s1.heap.get? a = some (seqObj "list" #[] e1) → s1.heap.get? kS = some (seqObj "list" kA n) → Inv X (pins ++ [(a, seqObj "list" #[] e1), (kS, seqObj "list" kA n)]) σ H1 s1 := fun {H1 s1 kA n} J na nk ea ek => by
    refine J.pins_of fun p hp => ?_
    rcases List.mem_append.mp hp with h | h
    · exact J.pin p (List.mem_append_right _ h)
    · rcases List.mem_cons.mp h with rfl | h
      · exact ⟨ea, na, (fa na).2.1, (fa na).2.2.1, fun v z => by cases z⟩
      · rw [List.mem_singleton.mp h]
        exact ⟨ek, nk, (fk nk).2.1, (fk nk).2.2.1, fun v z => by cases z⟩
  have I0 : Inv X pins σ H { s with heap := g } := I.kept (t' := s.toks) old
  have na0 : H a = none := I.hok.fresh (by omega)
  have nk0 : H kS = none := I.hok.fresh (by omega)
  unfold PyProof.Rows.ksk_rest
  refine wpAny_bind (wpAny_rule ?_)
  first
    | rw [List.forIn_toArray]
    | (rw [← Array.forIn_toList]; simp only [List.toList_toArray])
  refine wpAny_bind (PyProof.Rows.ksk_fold (fun i s' => ∃ H1 kA n kv, Same H H1 ∧ Inv X (pins ++ [(a, seqObj "list" #[] e1), (kS, seqObj "list" kA n)]) σ H1 s' ∧ Vals kv kA.toList ∧ DpAll X.K H1 kv ((es.take i).map (·.2))) its 0 _
    ⟨H, #[], 0, [], fun _ _ e => e, pin I0 na0 nk0 ga gk, .nil, .nil⟩ ?step ?done)
  case step =>
    rintro j u s1 hu ⟨H1, kA, n, kv, sm, J, vk, dk⟩
    rw [Nat.zero_add] at dk ⊢
    obtain ⟨v, hv, rel⟩ := vals_get rv hu
    rw [List.getElem?_map] at hv
    obtain ⟨e, he, rfl⟩ := Option.map_eq_some_iff.mp hv
    have pa := J.pin (a, seqObj "list" #[] e1) (by simp)
    have pk := J.pin (kS, seqObj "list" kA n) (by simp)
    have hj : j < its.length := (List.getElem?_eq_some_iff.mp hu).1
    have ck : kA.size ≤ its.length := by
      have h1 : kv.length = kA.size := vk.length.trans Array.length_toList
      have h2 := DpAll.len dk
      rw [List.length_map, List.length_take] at h2
      omega
    have E1 := J.env0
    have sp1 := key e (List.mem_of_getElem? he) H1 sm (fun v H2 => Same H1 H2 ∧ Dp X.K H2 v e.2) fun v H2 h1 h2 => ⟨h1, h2⟩
    refine wpAny_bind (wpAny_attempt ?_)
    refine wpAny_call (codeAny_mono (F.run X.A.in1.in1 X.stack s1 H1 ⟨[u], []⟩ [u] [e.1] _ E0 rB ⟨E1.frames, E1.mod, E1.bs, E1.bsz, E1.funs, E1.frf, E1.hok, E1.bare⟩ (hb s1 [u] J.kIn rfl) (.cons rel .nil) sp1) ?_)
    rintro r s2 hq
    cases r with
    | error e => exact False.elim hq
    | ok fl =>
      cases fl with
      | next => exact False.elim hq
      | brk => exact False.elim hq
      | cont => exact False.elim hq
      | ret x =>
        obtain ⟨v2, H2, J2, rel2, sm2, dp2⟩ := J.after hq
        have pa2 := J2.pin (a, seqObj "list" #[] e1) (by simp)
        have pk2 := J2.pin (kS, seqObj "list" kA n) (by simp)
        have J3 : Inv X pins σ H2 s2 := J2.unpinned
        obtain ⟨c2, hc2⟩ : ∃ c2, (s2.heap.update kS (Obj.mapSeq (·.push x))).get? kS = some (seqObj "list" (kA.push x) c2) := ⟨_, get?_update_seq pk2.1 (·.push x)⟩
        have sb := Heap.SameBut.update s2.heap kS (Obj.mapSeq (·.push x))
        show wpAny _ _ _ _ _ _
        refine wpAny_bind (listUpdate_at pk2.1 rfl ?_ (Nat.le_trans ck hZ) (Nat.le_trans (Nat.le_of_eq (Array.size_push ..)) (Nat.succ_le_succ (Nat.le_trans ck hZ))))
        have J4 : Inv X pins σ H2 { s2 with heap := s2.heap.update kS (Obj.mapSeq (·.push x)), toks := s2.toks } := J3.turnedL (ch := [kS]) (fun b o hb e => (sb.2 b (fun z => hb (by simp [z]))).trans e) fun b hb => by rw [List.mem_singleton.mp hb]; exact fk pk2.2.1
        refine wpAny_pure ⟨rfl, H2, kA.push x, c2, kv ++ [v2], fun b o e => sm2 b o (sm b o e), pin J4 pa2.2.1 pk2.2.1 ((sb.2 a hka.symm).trans pa2.1) hc2, ?_, ?_⟩
        · rw [Array.toList_push]
          exact vals_snoc vk rel2
        · rw [List.take_add_one, he, List.map_append]
          exact DpAll.snoc (DpAll.on sm2 dk) dp2
  case done =>
    rintro s1 ⟨H1, kA, n, kv, sm, J, vk, dk⟩
    have pa := J.pin (a, seqObj "list" #[] e1) (by simp)
    have pk := J.pin (kS, seqObj "list" kA n) (by simp)
    have J1 : Inv X pins σ H1 s1 := J.unpinned
    rw [Nat.zero_add, hlen, List.take_length] at dk
    have hk1 := each_dp J dk vk
    have sz : kA.size = its.length := by
      have h1 : kv.length = kA.size := vk.length.trans Array.length_toList
      have h2 := DpAll.len dk
      rw [List.length_map] at h2
      omega
    have hu : ∀ d, d ∈ es.map (·.2) → X.A.in1.in1.units + d.depth < cLine := fun d hd => by
      obtain ⟨e, he, rfl⟩ := List.mem_map.mp hd
      have := dp e he
      omega
    obtain ⟨G, g1, g2⟩ := L2.restrict s1.heap fun b => decide (b ≠ kS)
    have kp : PySem.W.KeepsBut a G s1.heap := fun b o _ e => by
      by_cases z : b = kS
      · rw [g2 b (decide_eq_false fun h => h z)] at e
        cases e
      · rw [g1 b (decide_eq_true z)] at e
        exact e
    refine wpAny_bind (listItems_at pk.1 rfl ?_)
    refine PySem.W.keyH_end (κ := PySem.W.dataKind s1.heap (es.map (·.2))) (h₁ := G) kp (g2 kS (decide_eq_false fun h => h rfl)) pk.1 pa.1 hka (PySem.W.SortsAt.data hk1 al so hu) sz hZ fun h3 tk3 c k3 n3 => ⟨rfl, ?_⟩
    have ko : PySem.W.KeyedOut false (es.map (·.2)) its (PySem.W.sortVals (PySem.W.dataKind s1.heap (es.map (·.2))) false kA.toList its) := ⟨s1.heap, kA.toList, al, rfl, hk1⟩
    have out := pairs_each (PySem.W.keyedOut_each (fun e : V × PyData => e.2) ko (each_pairs rv))
    have J2 : Inv X pins σ H1 { s1 with heap := h3, toks := tk3 } := J1.turnedL (ch := [a, kS]) (fun b o hb e => k3 b o (fun z => hb (by simp [z])) ((g1 b (decide_eq_true fun z => hb (by simp [z]))).trans e)) fun b hb => by
      rcases List.mem_cons.mp hb with rfl | h
      · exact fa pa.2.1
      · rw [List.mem_singleton.mp h]
        exact fk pk.2.1
    have lo : ((keyed es).map (·.1)).length ≤ sizeLine := by
      rw [List.length_map, List.length_mergeSort, ← hlen]
      exact hZ
    refine ⟨.ref a, upd H1 a (.lst ((keyed es).map (·.1))), J2.take (it := a) (fun b o _ e => e) (fa pa.2.1) ⟨lo, _, c, out, n3⟩, rfl, q a _ na0 (fun b o e => (upd_ne (ne_of_none e na0)).trans (sm b o e)) upd_same⟩
/-! ### generator expressions whose parts may call: the generator's own frame as a context -/
abbrev gxc (X : Cx) (A' : Around) (s : Shared) (H : Hp) (ce : Env) (fp : List Addr) : Cx :=
  { X with A := A', s_0 := s, H_0 := H, env := ce, outer := X.stack, stack := ce :: X.stack, ex := fp, fn := fun _ => false, calm := true, pn := [], xe := fun _ _ => False }
abbrev genE (X : Cx) (scope : Scope) (C : Addr) (code : Value) : Env := genEnv scope (cloFrom X.env.cells scope.names []) C code builtinsNs X.env
structure GOk (N : List Str) (sc scope : Scope) (own : List (Str × Nat)) : Prop where
  blk : BlkOk N sc scope own
  co : scope.isCoroutine = false
  cell : ∀ y ∈ scope.names, y.2 ≠ .cell
  dot : scope.names.lookup (".0" : Str) = some NameKind.local
section
variable {X : Cx} {pins : List (Addr × Obj)} {σ : L2.St} {H : Hp} {s : Shared}
theorem gx_free {N : List Str} {scope : Scope} {own : List (Str × Nat)} (I : Inv X pins σ H s) (ok : GOk N X.env.scope scope own) : ∀ y ∈ scope.names, y.2 = .free → ∃ c, X.env.cells.lookup y.1 = some c := fun y hy e => by
  rcases ok.blk.free y hy e with k | k
  · exact I.ok.has _ (.inl k)
  · exact I.ok.has _ (.inr k)
/-- the generator's frame and the generator itself have come -/
theorem gx_start {scope : Scope} {own : List (Str × Nat)} {fp : List Addr} {A' : Around} {code it : Value} {h' : Heap} {oG : Obj} {g' : Array GenState} {t' : Nat} (I : Inv X pins σ H s) (ok : GOk X.N X.env.scope scope own) (hN : X.N.Nodup)
    (hfp : ∀ b ∈ fp, FpOk X pins H b ∧ b < s.heap.objs.size) (hA : A'.handled = none) (hfr : A'.frames = some (genE X scope s.heap.objs.size code :: X.stack))
    (hn : h'.Ns s.heap.objs.size (fun y => if y = ".0" then some it else none)) (hs : Heap.SameBut s.heap.objs.size (s.heap.push { cls := .type "frame", data := .dict #[] }) h')
    (hG : ∀ v, oG.data ≠ .cell v) (hb : AllBare g') (fG : oG.isFreed = false) :
    Inv (gxc X A' s H (genE X scope s.heap.objs.size code) fp) [(h'.objs.size, oG)] (wipe σ (own.map (·.2))) H { s with gens := g', toks := t', heap := h'.push oG } := by
  have sz : h'.objs.size = s.heap.objs.size + 1 := by rw [hs.1, Heap.size_push]
  have k1 : ∀ b o, s.heap.get? b = some o → h'.get? b = some o := fun b o e => hs.extBut b o (Nat.ne_of_lt (Heap.lt_size e)) (Heap.get?_push_of_some _ e)
  have kp : ∀ b o, s.heap.get? b = some o → (h'.push oG).get? b = some o := fun b o e => Heap.get?_push_of_some _ (k1 b o e)
  have fr := gx_free I ok
  have cm : ∀ {y c}, (cloFrom X.env.cells scope.names []).lookup y = some c → X.env.cells.lookup y = some c ∧ c < s.heap.objs.size ∧ (y, NameKind.free) ∈ scope.names := fun {y c} e => by
    rcases cloFrom_mem (PySem.mem_of_lookup e) with hm | ⟨h1, rfl⟩
    · cases hm
    · obtain ⟨c, hc⟩ := fr _ h1 rfl
      rw [hc]
      obtain ⟨w, z⟩ := I.cell _ _ hc
      exact ⟨rfl, z.lt, h1⟩
  have has : ∀ {y}, (y, NameKind.free) ∈ scope.names → ∃ c, (cloFrom X.env.cells scope.names []).lookup y = some c := fun {y} hy => mem_lookup (cloFrom_has (cells := X.env.cells) (acc := []) hy)
  have uq : ∀ {y k}, (y, k) ∈ scope.names → scope.names.lookup y = some k := fun {y k} h => ok.blk.uniq _ h
  have okG : (gxc X A' s H (genE X scope s.heap.objs.size code) fp).Ok := by
    refine ⟨I.ok.mod, ok.blk.kind, I.ok.glob, rfl, Nat.le_refl _, fun y z c e1 e2 => I.ok.inj y z c (cm e1).1 (cm e2).1, fun y hy => ?_, fun y c z _ => (nomatch z), fun _ => hA, hfr, .inr ⟨rfl, rfl⟩,
      fun b hb => ⟨Nat.ne_of_lt (hfp b hb).2, fun y c e z => (hfp b hb).1.2.2.2.2.1 y c (cm e).1 z⟩, I.bs, Nat.le_trans I.ok.bsz I.sz, fun b o e hb => ?_, fun b hb z => ?_, I.stack, I.stkFree⟩
    · rcases hy with hy | hy
      · exact absurd rfl (ok.cell _ (PySem.mem_of_lookup (show scope.names.lookup y = some .cell from hy)))
      · exact has (PySem.mem_of_lookup (show scope.names.lookup y = some .free from hy))
    · rcases (hfp b hb).1.2.2.2.1 with z | z
      · exact I.ok.noex b o e z
      · exact absurd (Nat.lt_of_lt_of_le (Heap.lt_size e) (Nat.le_trans I.ok.bsz z)) (Nat.lt_irrefl _)
    · rcases List.mem_cons.mp (I.stkSub b z) with z | z
      · exact (hfp b hb).1.2.1 z
      · exact (hfp b hb).1.2.2.1 z
  refine ⟨okG, rfl, hb, Un.kept kp, ⟨_, hn.push oG, fun i y v e1 e2 e3 => ?_⟩, fun y c e => ?_, I.hok.fresh (Nat.le_refl _), fun y c e => I.freeC y c (cm e).1, fun p hp => ?_, I.hok.kept kp, by rw [wipe_length]; exact I.len⟩
  · obtain ⟨e2, hne⟩ := wipe_some e2
    have key : scope.names.lookup y = some .free := by
      have no : ∀ k, scope.names.lookup y = some k → ¬ (k = .local ∨ k = .cell) := fun k hk hh => by
        rcases ok.blk.own _ (PySem.mem_of_lookup hk) hh with e' | e'
        · obtain ⟨p, hp, hpy⟩ := List.mem_map.mp e'
          have e4 := ok.blk.ix p hp
          have : p.1 = y := hpy
          rw [this] at e4
          exact hne (List.mem_map.mpr ⟨p, hp, nodup_ix hN e4 e1⟩)
        · exact e' (List.mem_of_getElem? e1)
      rcases (show Vis scope y from e3) with e3 | e3 | e3
      · exact absurd (.inl rfl) (no _ e3)
      · exact absurd (.inr rfl) (no _ e3)
      · exact e3
    obtain ⟨m, _, hl⟩ := I.loc
    have fy := PySem.mem_of_lookup key
    have hvis : Vis X.env.scope y := (ok.blk.free _ fy rfl).elim (fun k => .inr (.inl k)) (fun k => .inr (.inr k))
    obtain ⟨u, r, q⟩ := hl i y v e1 e2 hvis
    refine ⟨u, r, .inr ⟨.inr key, ?_⟩⟩
    obtain ⟨c, h1⟩ := has fy
    rcases q with ⟨k, _⟩ | ⟨_, c', e', z⟩
    · have k : X.env.scope.names.lookup y = some .local := k
      rcases ok.blk.free _ fy rfl with k' | k' <;> rw [show X.env.scope.names.lookup y = _ from k'] at k <;> cases k
    · have h2 := (cm h1).1
      rw [h2] at e'
      cases e'
      exact ⟨c, h1, z.keeps kp⟩
  · obtain ⟨v, z⟩ := I.cell y c (cm e).1
    exact ⟨v, z.keeps kp⟩
  · have hp' : p = (h'.objs.size, oG) := by simpa using hp
    subst hp'
    have nl : s.heap.objs.size ≤ h'.objs.size := by omega
    refine ⟨Heap.get?_push_size _ fG, I.hok.fresh nl, by show h'.objs.size ≠ s.heap.objs.size; omega, fun z => ?_, hG⟩
    rcases List.mem_cons.mp (I.stkSub _ z) with z | z
    · have := I.lt
      rw [← z] at this
      exact Nat.lt_irrefl _ (Nat.lt_of_lt_of_le this nl)
    · exact I.nofs nl z
end
/-! ### the generator's turns -/
abbrev gxl (X : Cx) (Ag : Around) (elt tg iter : Expr) (ifs : List Expr) (scope : Scope) (gpos : Pos) (it : Addr) (ce : Env) (s3 : Shared) (H3 : Hp) (fp : List Addr) : Cx :=
  gxc X (Ag.over (.compLoop (.GeneratorExp elt [⟨tg, iter, ifs, 0⟩] scope gpos) 0 (.ref it) .none ce) []) s3 H3 ce fp
/-- what stands between two turns: at most m turns are left, the i-th is next -/
def GTurns (J : It) (g : TG) (tt : TT) (te : TE) (vs : List Nat) (σ : L2.St) (W : Nat → Nat → Hp → Prop) (Out : Nat → Nat → V → Hp → Prop) (Fin : Hp → Prop) : Prop :=
  ∀ i m H, W i m H → (J.stop i H ∧ Fin H) ∨ (J.go i H ∧ ∀ x H', J.yld i H x H' → g x (wipe σ vs) H' fun σ2 H2 => wipe σ2 vs = wipe σ vs ∧ tt σ2 H2 fun b H3 =>
    if b = true then te σ2 H3 fun y H4 => Out i m y H4 else ∃ m', m' < m ∧ W (i + 1) m' H3)
def gxY (IG : Hp → Shared → Prop) (tn : Nat → Heap → Prop) (fp : List Addr) (W : Nat → Nat → Hp → Prop) (Out : Nat → Nat → V → Hp → Prop) (gn : Nat) : Protocol := fun n _ v s kap =>
  ∃ i m y H, RelV y v ∧ IG H s ∧ tn (i + 1) s.heap ∧ (∀ b ∈ fp, H b = none) ∧ Out i m y H ∧ gn < s.gens.size ∧ m ≤ n ∧
    ∀ m', m' < m → W (i + 1) m' H → ∀ s'' : Shared, IG H s'' → tn (i + 1) s''.heap → gn < s''.gens.size → kap (.send .none) s''
def gxR (IG : Hp → Shared → Prop) (Fin : Hp → Prop) : Nat → Shared → Shared → Prop := fun _ _ s1 => ∃ H, IG H s1 ∧ Fin H
section
variable {X : Cx} {σ : L2.St} {Ag : Around} {tg elt iter : Expr} {ifs : List Expr} {scope : Scope} {gpos : Pos} {it a : Addr} {oG : Obj} {ce : Env} {fp : List Addr} {s3 : Shared} {H3 : Hp} {tn : Nat → Heap → Prop} {J : It} {vs : List Nat} {gn : Nat}
  {g : TG} {tt : TT} {te : TE} {W : Nat → Nat → Hp → Prop} {Out : Nat → Nat → V → Hp → Prop} {Fin : Hp → Prop}
theorem gx_stat {σ' : L2.St} {H' : Hp} {s' : Shared} {A' : Around} (I' : Inv (gxc X A' s3 H3 ce fp) [(a, oG)] σ' H' s') (na : a ∉ fp) (hn : ∀ b ∈ fp, H' b = none) : ∀ b ∈ fp, FpOk (gxc X A' s3 H3 ce fp) [(a, oG)] H' b := fun b hb => by
  refine ⟨hn b hb, (I'.ok.exf b hb).1, I'.ok.exfs b hb, .inl hb, fun x c e => (I'.ok.exf b hb).2 x c e, fun p hp z => ?_⟩
  have hp' : p = (a, oG) := by simpa using hp
  subst hp'
  have z' : a = b := z
  exact na (z' ▸ hb)
theorem gx_seg (T : Turn X.prog X.w X.K tg J fp it tn) (na : a ∉ fp) (hco : ce.scope.isCoroutine = false)
    (pg : PG (gxl X Ag elt tg iter ifs scope gpos it ce s3 H3 fp) tg g)
    (pt : PTs (gxl X Ag elt tg iter ifs scope gpos it ce s3 H3 fp) ifs tt)
    (pe : PE (gxl X Ag elt tg iter ifs scope gpos it ce s3 H3 fp) elt te)
    (turn : GTurns J g tt te vs σ W Out Fin) (IG : Hp → Shared → Prop)
    (hIG : IG = fun H s => Inv (gxl X Ag elt tg iter ifs scope gpos it ce s3 H3 fp) [(a, oG)] (wipe σ vs) H s) :
    ∀ (m n i : Nat) (H : Hp) (s s0 : Shared), m < n → IG H s → tn i s.heap → (∀ b ∈ fp, H b = none) → W i m H → gn < s.gens.size →
      Seg (model X.prog X.w) Ag (fun n s0 r s1 => r = .ok .next ∧ gxR IG Fin n s0 s1) (gxY IG tn fp W Out gn) n s0
        (.compLoop (.GeneratorExp elt [⟨tg, iter, ifs, 0⟩] scope gpos) 0 (.ref it) .none ce)
        ((model X.prog X.w).den (.compLoop (.GeneratorExp elt [⟨tg, iter, ifs, 0⟩] scope gpos) 0 (.ref it) .none ce)) [] s := by
  intro m
  induction m using Nat.strongRecOn with
  | ind m ih =>
  intro n i H s s0 hmn I0 st n0 w0 hg
  have I : Inv (gxl X Ag elt tg iter ifs scope gpos it ce s3 H3 fp) [(a, oG)] (wipe σ vs) H s := by
    rw [hIG] at I0
    exact I0
  show Seg _ Ag _ _ _ s0 _ ((compTurn (.GeneratorExp elt [⟨tg, iter, ifs, 0⟩] scope gpos) 0 (.ref it) .none ce).onRaise (leaving ce)) [] s
  rw [compTurn_gen, Sem.onRaise_eq_wrap]
  refine seg_bind_wrap (wpAny_standAt ?_)
  rcases turn i m H w0 with ⟨stop, fin⟩ | ⟨go, step⟩
  · refine seg_bind_wrap (thnF (T.done (gxl X Ag elt tg iter ifs scope gpos it ce s3 H3 fp) rfl rfl rfl rfl i [(a, oG)] s _ H (fun _ _ => False) I (gx_stat I na n0) st stop) fun r s6 ⟨hr, I6⟩ => ?_)
    subst hr
    exact seg_end (.ok .next) ⟨rfl, H, by rw [hIG]; exact I6, fin⟩
  · refine seg_bind_wrap (GenW.wpAny_gsz hg (thnF (T.item (gxl X Ag elt tg iter ifs scope gpos it ce s3 H3 fp) rfl rfl rfl rfl i [(a, oG)] s _ H (fun _ _ => False) I (gx_stat I na n0) st go) fun r s6 ⟨u, hr, h6⟩ hg6 => ?_))
    subst hr
    refine seg_bind_wrap (GenW.wpAny_gsz hg6 (thnF h6 fun _ s7 ⟨x, H7, I7, r7, y7, st7, n7⟩ hg7 => ?_))
    have I7' := I7.pinned (gx_stat I7 na n7) (T.obj _ _ st7)
    refine seg_bind_wrap (GenW.wpAny_gsz hg7 (thnF (pg.run _ s7 _ H7 x u _ I7' r7 (step x H7 y7)) fun _ s8 ⟨σ8, H8, I8, hw8, q8⟩ hg8 => ?_))
    refine seg_bind_wrap (GenW.wpAny_gsz hg8 (thnF (pt.run _ s8 σ8 H8 _ I8 q8) fun b s9 ⟨H9, I9, q9⟩ hg9 => ?_))
    have hl : (wipe σ vs).length = σ8.length := by rw [← hw8, wipe_length]
    have back : ∀ {s' : Shared} {H' : Hp}, Inv (gxl X Ag elt tg iter ifs scope gpos it ce s3 H3 fp) ([(a, oG)] ++ pinsAt fp s7.heap) σ8 H' s' →
        IG H' s' ∧ tn (i + 1) s'.heap ∧ ∀ b ∈ fp, H' b = none := fun {s' H'} I' => by
      have pin' : ∀ b ∈ fp, ∀ o, s7.heap.get? b = some o → s'.heap.get? b = some o ∧ H' b = none := fun b hb o e =>
        let z := I'.pin (b, o) (List.mem_append_right _ (List.mem_append_right _ (mem_pinsAt hb e)))
        ⟨z.1, z.2.1⟩
      refine ⟨?_, T.keep _ _ _ st7 fun b hb o e => (pin' b hb o e).1, fun b hb => ?_⟩
      · rw [hIG]
        refine I'.unpinned.weak hl fun j v e => ?_
        rw [← hw8] at e
        exact (wipe_some e).1
      · obtain ⟨o, e, _⟩ := T.obj _ _ st7 b hb
        exact (pin' b hb o e).2
    cases b with
    | false =>
      simp only [Bool.false_eq_true, if_false] at q9 ⊢
      obtain ⟨m', hm, w'⟩ := q9
      obtain ⟨b1, b2, b3⟩ := back I9
      exact seg_again rfl (ih m' hm n (i + 1) H9 s9 s0 (Nat.lt_trans hm hmn) b1 b2 b3 w' hg9)
    | true =>
      simp only [if_true] at q9 ⊢
      have hy : ∀ v, yieldOut ce v = yieldValue v := fun v => by simp only [yieldOut, hco, Bool.false_eq_true, if_false]
      simp only [hy]
      rw [Sem.bind_eq_wrap', Sem.bind_eq_wrap', Sem.wrap_wrap, Sem.wrap_wrap]
      obtain ⟨n', rfl⟩ : ∃ n', n = n' + 1 := ⟨n - 1, by omega⟩
      refine seg_wrap (GenW.wpAny_gsz hg9 (thnF (pe.run _ s9 σ8 H9 _ I9 q9) fun z s10 ⟨yv, H10, I10, r10, out⟩ hg10 => ?_))
      obtain ⟨b1, b2, b3⟩ := back I10
      refine seg_at (seg_yield rfl rfl rfl ⟨i, m, yv, H10, r10, b1, b2, b3, out, hg10, by omega, fun m' hm w' s'' I'' st'' hg'' => ?_⟩)
      exact seg_again rfl (ih m' hm n' (i + 1) H10 s'' s'' (by omega) I'' st'' b3 w' hg'')
theorem gx_seg0 (T : Turn X.prog X.w X.K tg J fp it tn) {n : Nat} {s0 s : Shared} {R : GenEnd} {Y : Protocol} (st : tn 0 s.heap)
    (loop : Seg (model X.prog X.w) Ag R Y n s0 (.compLoop (.GeneratorExp elt [⟨tg, iter, ifs, 0⟩] scope gpos) 0 (.ref it) .none ce)
        ((model X.prog X.w).den (.compLoop (.GeneratorExp elt [⟨tg, iter, ifs, 0⟩] scope gpos) 0 (.ref it) .none ce)) [] s) :
    Seg (model X.prog X.w) Ag R Y n s0 (.compStart (.GeneratorExp elt [⟨tg, iter, ifs, 0⟩] scope gpos) 0 (.ref it) .none ce)
      ((model X.prog X.w).den (.compStart (.GeneratorExp elt [⟨tg, iter, ifs, 0⟩] scope gpos) 0 (.ref it) .none ce)) [] s := by
  show Seg _ Ag _ _ _ s0 _ ((compStart (.GeneratorExp elt [⟨tg, iter, ifs, 0⟩] scope gpos) 0 (.ref it) .none ce).onRaise (leaving ce)) [] s
  unfold compStart
  rw [Sem.onRaise_eq_wrap]
  show Seg _ Ag _ _ _ s0 _ ((ask >>= _).wrap _ _ _ _) [] s
  refine seg_bind_wrap (wpAny_askSetting ?_)
  split
  · exact seg_again rfl loop
  · refine seg_bind_wrap (wpAny_rule ?_)
    show Seg _ Ag _ _ _ s0 _ ((standAt iter.pos >>= _).wrap _ _ _ _) [] s
    exact seg_bind_wrap (wpAny_standAt (seg_bind_wrap (T.self _ 0 s _ _ st (seg_again rfl loop))))
end
/-! ### the generator asked for its next -/
structure IGok (X : Cx) (pins : List (Addr × Obj)) (σ : L2.St) (a : Addr) (gn : Nat) (IG : Hp → Shared → Prop) : Prop where
  bare : ∀ {H s}, IG H s → AllBare s.gens
  gens : ∀ {H s g'}, IG H s → AllBare g' → IG H { s with gens := g' }
  kept : ∀ {H : Hp} {s : Shared} {h' : Heap} {tk : Nat}, IG H s → (∀ b o, s.heap.get? b = some o → h'.get? b = some o) → IG H { s with heap := h', toks := tk }
  isgen : ∀ {H s}, IG H s → s.heap.IsGen a gn
  nolim : ∀ {H s}, IG H s → s.heap.NoLimit
  back : ∀ {H s}, IG H s → Inv X pins σ H s
def GRun (X : Cx) (Ac : Around) (IG : Hp → Shared → Prop) (tn : Nat → Heap → Prop) (fp : List Addr) (W : Nat → Nat → Hp → Prop) (Out : Nat → Nat → V → Hp → Prop) (Fin : Hp → Prop) (gn i m n : Nat) (H : Hp) (s : Shared) : Prop :=
  IG H s ∧ tn i s.heap ∧ (∀ b ∈ fp, H b = none) ∧ W i m H ∧ ∃ gs, s.gens[gn]? = some gs ∧ m < n ∧ ∀ s'' : Shared, IG H s'' → tn i s''.heap → gn < s''.gens.size →
    gs.Goes (model X.prog X.w) Ac.in1 (fun n s0 r s1 => r = .ok .next ∧ gxR IG Fin n s0 s1) (gxY IG tn fp W Out gn) n (.send .none) s''
theorem bare_set {s : Shared} {gn : Nat} {x : GenState} (h : AllBare s.gens) (hx : x.bare = true) : AllBare (s.setGen gn x).gens := by
  intro y hy
  have hy' : y ∈ s.gens.setIfInBounds gn x := hy
  rcases Array.mem_or_eq_of_mem_setIfInBounds hy' with h1 | h1
  · exact h y h1
  · rw [h1]; exact hx
section
variable {X : Cx} {pins : List (Addr × Obj)} {σ : L2.St} {Ac : Around} {IG : Hp → Shared → Prop} {tn : Nat → Heap → Prop} {fp : List Addr} {W : Nat → Nat → Hp → Prop} {Out : Nat → Nat → V → Hp → Prop} {Fin : Hp → Prop} {a : Addr} {gn : Nat}
theorem GRun.lt {i m n : Nat} {H : Hp} {s : Shared} (G : GRun X Ac IG tn fp W Out Fin gn i m n H s) : gn < s.gens.size := by
  obtain ⟨_, _, _, _, gs, h, _⟩ := G
  exact (Array.getElem?_eq_some_iff.mp h).1
/-- what a consumer lays beside it changes nothing -/
theorem GRun.kept (ig : IGok X pins σ a gn IG) (hk : ∀ i h h', tn i h → (∀ b o, h.get? b = some o → h'.get? b = some o) → tn i h') {i m n : Nat} {H : Hp} {s : Shared} {h' : Heap} {tk : Nat} (G : GRun X Ac IG tn fp W Out Fin gn i m n H s)
    (k : ∀ b o, s.heap.get? b = some o → h'.get? b = some o) : GRun X Ac IG tn fp W Out Fin gn i m n H { s with heap := h', toks := tk } := by
  obtain ⟨g1, g2, g3, g4, gs, g5, g6, g7⟩ := G
  exact ⟨ig.kept g1 k, hk _ _ _ g2 k, g3, g4, gs, g5, g6, g7⟩
theorem gx_next {E : Value → Shared → Prop} {Q : Option Value → Shared → Prop} {i m n : Nat} {H : Hp} {s : Shared} (ig : IGok X pins σ a gn IG) (hA : Ac.handled = none) (hd : Ac.depth < recursionLimit) (G : GRun X Ac IG tn fp W Out Fin gn i m n H s)
    (hout : ∀ v y H' s' i' m', RelV y v → Out i' m' y H' → IG H' s' → (∀ m'', m'' < m' → W (i' + 1) m'' H' → GRun X Ac IG tn fp W Out Fin gn (i' + 1) m'' (n - 1) H' s') → Q (some v) s')
    (hfin : ∀ H' s', Fin H' → IG H' s' → Q none s') : wpAny (model X.prog X.w) Ac (pyNext (.ref a)) Q E s := by
  have lt := G.lt
  obtain ⟨g1, g2, g3, g4, gs, g5, g6, g7⟩ := G
  have run : IG H (s.setGen gn .running) := ig.gens g1 (bare_set (ig.bare g1) rfl)
  refine wpAny_pyNext_genexpQ (P := gxR IG Fin) hA (ig.nolim g1) hd (ig.isgen g1) g5 (g7 _ run g2 (by rw [GenW.setGen_size]; exact lt)) (fun v s1 gs' hb hv => ?_) fun s1 hp h' hk => ?_
  · obtain ⟨i', m', y, H', r, I1, st1, nf, out, hg1, hmn, kap⟩ := hv
    have I2 : IG H' (s1.setGen gn gs') := ig.gens I1 (bare_set (ig.bare I1) hb)
    refine hout v y H' _ i' m' r out I2 fun m'' hm w' => ⟨I2, st1, nf, w', gs', ?_, by omega, fun s'' J'' st'' hg'' => ?_⟩
    · show (s1.gens.setIfInBounds gn gs')[gn]? = some gs'
      rw [Array.getElem?_setIfInBounds_self_of_lt hg1]
    · have q := kap m'' hm w' s'' J'' st'' hg''
      cases n with
      | zero => exact q.elim
      | succ n => exact q
  · obtain ⟨H', I1, fin⟩ := hp
    exact hfin H' _ fin (ig.kept (tk := (s1.setGen gn .finished).toks) (ig.gens I1 (bare_set (ig.bare I1) rfl)) hk)
end
/-! ### the generator made -/
section
variable {X : Cx} {pins : List (Addr × Obj)} {σ : L2.St} {H : Hp} {s : Shared}
theorem over_gen {Ag : Around} {stack : List Env} {elt tg iter : Expr} {ifs : List Expr} {scope : Scope} {gpos : Pos} {it : Value} {ce : Env} (hf : Ag.frames = some stack) :
    (Ag.over (.compLoop (.GeneratorExp elt [⟨tg, iter, ifs, 0⟩] scope gpos) 0 it .none ce) []).frames = some (ce :: stack) := by
  show pushEnvs [ce] (pushEnvs [] Ag.frames) = _
  rw [hf]
  rfl
theorem room_gen {Ag : Around} {k : Nat} {elt tg iter : Expr} {ifs : List Expr} {scope : Scope} {gpos : Pos} {it : Value} {ce : Env} (h1 : Ag.handled = none) (h2 : Ag.depth + 1 + 3 * k + 5 < recursionLimit) (h3 : Ag.units + 3 + 16 * k + 200 < cLine) :
    Room k (Ag.over (.compLoop (.GeneratorExp elt [⟨tg, iter, ifs, 0⟩] scope gpos) 0 it .none ce) []) := by
  refine ⟨h1, ?_, ?_⟩
  · show Ag.depth + 0 + 1 + 3 * k + 5 < _
    omega
  · show Ag.units + 0 + 3 + 16 * k + 200 < _
    omega
/-- a generator expression is made; Ac: where it will be asked -/
theorem gx_mk {c T : Addr} {elt tg iter : Expr} {ifs : List Expr} {scope : Scope} {own : List (Str × Nat)} {gpos : Pos} {wi : TI} {g : TG} {tt : TT} {te : TE} {k : Nat} {Q' : Value → Shared → Prop} {Outf : (Nat → Nat → Hp → Prop) → Nat → Nat → V → Hp → Prop} {Fin : Hp → Prop}
    (Ac : Around) (hA : Ac.handled = none) (hfr : Ac.frames = some X.stack) (hd : Ac.depth ≤ X.A.depth) (hu : Ac.units ≤ X.A.units + 8) (hr : Room (k + 1) X.A) (hc : X.calm = true) (hN : X.N.Nodup) (TB : GxR.TabB X.base X.mg c T) (hcode : X.env.code = .ref c) (ok : GOk X.N X.env.scope scope own) (hi : PI X tg iter wi)
    (hg : ∀ (A' : Around) (s3 : Shared) (H3 : Hp) (C : Addr) (code : Value) (fp : List Addr), PG (gxc X A' s3 H3 (genE X scope C code) fp) tg g)
    (ht : ∀ (A' : Around) (s3 : Shared) (H3 : Hp) (C : Addr) (code : Value) (fp : List Addr), Room k A' → PTs (gxc X A' s3 H3 (genE X scope C code) fp) ifs tt)
    (he : ∀ (A' : Around) (s3 : Shared) (H3 : Hp) (C : Addr) (code : Value) (fp : List Addr), Room k A' → PE (gxc X A' s3 H3 (genE X scope C code) fp) elt te)
    (hs : ∀ v, genFold iter X.env v = pure v) (I : Inv X pins σ H s)
    (h : wi σ H fun J H1 => GxR.TabG H1 T ∧ ∀ H2, GxR.Tabbed T H1 H2 → ∃ W, (∃ m, W 0 m H2) ∧ GTurns J g tt te (own.map (·.2)) σ W (Outf W) Fin)
    (hQ : ∀ (IG : Hp → Shared → Prop) (tn : Nat → Heap → Prop) (fp : List Addr) W (a : Addr) (gn m : Nat) (H2 : Hp) (s5 : Shared), IGok X pins σ a gn IG → (∀ i h h', tn i h → (∀ b o, h.get? b = some o → h'.get? b = some o) → tn i h') →
      GRun X Ac IG tn fp W (Outf W) Fin gn 0 m (m + 1) H2 s5 → Q' (.ref a) s5) :
    wpAny (model X.prog X.w) X.A (eval (.GeneratorExp elt [⟨tg, iter, ifs, 0⟩] scope gpos) X.env) Q' X.xe s := by
  have free := gx_free I ok
  refine wpAny_GeneratorExp_make ok.co (closure_ok free) ok.cell ok.dot ok.blk.kind (Nat.lt_of_le_of_lt (by omega : X.A.depth ≤ X.A.depth + 3 * (k + 1) + 5) hr.dp) ?_ hs
  refine thn (hi.run pins s σ H _ I h) fun xv s1 h1 => thn h1 fun itv s2 h2 => ?_
  obtain ⟨it, fp, tn, J, H1, rfl, J1, TU, st2, f2, ⟨ps, hT, hok⟩, q⟩ := h2
  have gT : s2.heap.get? T = some (PySem.W.tabObj ps) := J1.hok T _ hT
  have cd : PySem.W.CodeHd s2.heap c T := TB.code.keeps J1.bk
  refine ⟨J1.nolimit, ?_⟩
  have lts : ∀ b ∈ fp, b < s2.heap.objs.size := fun b hb => by
    obtain ⟨o, e, _⟩ := TU.obj _ _ st2 b hb
    exact Heap.lt_size e
  have nfT : ∀ b ∈ fp, b ≠ T := fun b hb z => by
    have := (f2 b hb).1
    rw [z, hT] at this
    cases this
  -- behind the code object
  have on : ∀ (code : Value) (h3 : Heap) (tk : Nat) (more : Array Value), Heap.ExtBut T s2.heap h3 → s2.heap.objs.size ≤ h3.objs.size → h3.get? T = some (PySem.W.tabObj (ps ++ more)) → TriplesOk (ps ++ more).toList →
      wpAny (model X.prog X.w) X.A (builtinsFor X.env.globals X.env.builtins) (fun bi s4 =>
        ∀ h', h'.Ns s4.heap.objs.size (fun y => if y = ".0" then some (.ref it) else none) → Heap.SameBut s4.heap.objs.size (s4.heap.push { cls := .type "frame", data := .dict #[] }) h' →
          Q' (.ref h'.objs.size) { s4 with
            gens := s4.gens.push (.fresh (.compStart (.GeneratorExp elt [⟨tg, iter, ifs, 0⟩] scope gpos) 0 (.ref it) .none (genEnv scope (cloFrom X.env.cells scope.names []) s4.heap.objs.size code bi X.env))),
            toks := s4.toks + 1 + 1 + 1,
            heap := h'.push { cls := .type "generator", data := .fields #[.int s4.gens.size 0, .str "<genexpr>" (s4.toks + 1), .str (X.env.qual ++ "<genexpr>") (s4.toks + 1 + 1)] } }) X.xe { s2 with heap := h3, toks := tk } := by
    intro code h3 tk more ext ge3 gT3 ok3
    have J3 : Inv X pins σ (upd H1 T (.tbl (ps ++ more))) { s2 with heap := h3, toks := tk } := GxR.inv_tab (g' := s2.gens) (d' := s2.drawn) J1 hT ext gT3 J1.bare
    have tb : GxR.Tabbed T H1 (upd H1 T (.tbl (ps ++ more))) := ⟨⟨_, upd_same, ok3⟩, fun b nb => upd_ne nb⟩
    obtain ⟨W, ⟨m0, w0⟩, turn⟩ := q _ tb
    obtain ⟨bm, ob, e1, e2, _, e4, e5, e6, e7, e8⟩ := TB.bm
    refine wpAny_builtinsFor (m := X.mg) (by rw [J3.ok.glob]; exact J3.mod.glob.keeps J3.bk) e1 e2 (ext _ _ e4 (J1.bk _ _ e5)) e6 e7 e8 ?_
    intro h' hn hsb
    have f3 : ∀ b ∈ fp, FpOk X pins (upd H1 T (.tbl (ps ++ more))) b ∧ b < h3.objs.size := fun b hb => by
      refine ⟨⟨?_, (f2 b hb).2⟩, Nat.lt_of_lt_of_le (lts b hb) ge3⟩
      rw [upd_ne (nfT b hb)]
      exact (f2 b hb).1
    have st3 : tn 0 h3 := TU.keep _ _ _ st2 fun b hb o e => ext b o (nfT b hb) e
    have nf3 : ∀ b ∈ fp, (upd H1 T (.tbl (ps ++ more))) b = none := fun b hb => (f3 b hb).1.1
    generalize hH3 : upd H1 T (.tbl (ps ++ more)) = H3 at J3 w0 f3 nf3
    generalize hs3 : ({ s2 with heap := h3, toks := tk } : Shared) = s3 at J3 hn hsb ⊢
    have eh : s3.heap = h3 := by rw [← hs3]
    have szh : h'.objs.size = s3.heap.objs.size + 1 := by rw [hsb.1, Heap.size_push]
    have kp : ∀ b o, s3.heap.get? b = some o → h'.get? b = some o := fun b o e => hsb.extBut b o (Nat.ne_of_lt (Heap.lt_size e)) (Heap.get?_push_of_some _ e)
    generalize hoG : ({ cls := .type "generator", data := .fields #[.int s3.gens.size 0, .str "<genexpr>" (s3.toks + 1), .str (X.env.qual ++ "<genexpr>") (s3.toks + 1 + 1)] } : Obj) = oG
    have na : h'.objs.size ∉ fp := fun z => by
      have := (f3 _ z).2
      rw [← eh] at this
      exact Nat.lt_irrefl _ (Nat.lt_of_lt_of_le this (by rw [szh]; exact Nat.le_succ _))
    have start := gx_start (A' := Ac.in1.over (.compLoop (.GeneratorExp elt [⟨tg, iter, ifs, 0⟩] scope gpos) 0 (.ref it) .none (genE X scope s3.heap.objs.size code)) []) (code := code) (it := .ref it) (oG := oG)
      (g' := s3.gens.push (.fresh (.compStart (.GeneratorExp elt [⟨tg, iter, ifs, 0⟩] scope gpos) 0 (.ref it) .none (genE X scope s3.heap.objs.size code)))) (t' := s3.toks + 1 + 1 + 1) J3 ok hN (fun b hb => ⟨(f3 b hb).1, by rw [eh]; exact (f3 b hb).2⟩) hA (over_gen hfr) hn hsb
      (fun v => by rw [← hoG]; exact fun z => nomatch z) (J3.bare.push rfl) (by rw [← hoG]; rfl)
    have rm : Room k (Ac.in1.over (.compLoop (.GeneratorExp elt [⟨tg, iter, ifs, 0⟩] scope gpos) 0 (.ref it) .none (genE X scope s3.heap.objs.size code)) []) :=
      room_gen hA (by have := hr.dp; show Ac.depth + 1 + 3 * k + 5 < _; omega) (by have := hr.un; show Ac.units + 1 + 3 + 16 * k + 200 < _; omega)
    refine hQ (fun H' s' => Inv (gxl X Ac.in1 elt tg iter ifs scope gpos it (genE X scope s3.heap.objs.size code) s3 H3 fp) [(h'.objs.size, oG)] (wipe σ (own.map (·.2))) H' s') tn fp W h'.objs.size s3.gens.size m0 H3 _ ?_ (fun i h h' st kk => TU.keep _ _ _ st fun b _ o e => kk b o e) ?_
    · refine ⟨fun I' => I'.bare, fun I' hb => ⟨I'.ok, I'.os, hb, I'.base, I'.loc, I'.cell, I'.free, I'.freeC, I'.pin, I'.hok, I'.len⟩, fun I' kk => I'.kept kk, fun I' => ?_, fun I' => I'.nolimit, fun I' => ?_⟩
      · have z := (I'.pin (h'.objs.size, oG) (by simp)).1
        rw [← hoG] at z
        exact ⟨_, _, _, z, rfl, rfl, rfl⟩
      · exact J3.call' (ch := fp) I'.os I'.base I'.hok I'.bare fun b hb => ⟨(f3 b hb).1.2.2.2.1, (f3 b hb).1.2.1, (f3 b hb).1.2.2.2.2.1, (f3 b hb).1.2.2.2.2.2⟩
    · refine ⟨start, TU.keep _ _ _ st3 fun b hb o e => Heap.get?_push_of_some _ (kp b o (by rw [eh]; exact e)), nf3, w0, _, Array.getElem?_push_size .., Nat.lt_succ_self _, fun s'' I'' st'' hg'' => ⟨rfl, ?_⟩⟩
      exact gx_seg0 TU st'' (gx_seg TU na ok.co (hg _ s3 H3 _ code fp) (ht _ s3 H3 _ code fp rm) (he _ s3 H3 _ code fp rm) turn _ rfl m0 (m0 + 1) 0 H3 s'' s'' (Nat.lt_succ_self _) I'' st'' nf3 w0 hg'')
  cases among : codeAmong gpos ps.toList with
  | some cv =>
    refine wpAny_genexprCode_hit hcode (cd.code gT hok) among ?_
    exact on cv s2.heap s2.toks #[] (Heap.ExtBut.refl _ _) (Nat.le_refl _) (by rw [Array.append_empty]; exact gT) (by rw [Array.append_empty]; exact hok)
  | none =>
    refine wpAny_genexprCodeX hcode (cd.code gT hok) (cd.tab gT) among fun c' h' tk hx hge hlt isC _ tab' _ => ?_
    obtain ⟨_, _, _, _, _, _, _, _, _, _, _, _, _, _, _, _, _, _, _, ok', _⟩ := isC
    exact on _ h' tk _ hx (Nat.le_trans hge (Nat.le_of_lt hlt)) tab'.2 ok'
end
/-! ### all(..) of a generator expression -/
def tAllG (T : Addr) (wi : TI) (g : TG) (tt : TT) (te : TE) (vs : List Nat) : TE := fun σ H Q => wi σ H fun J H1 => GxR.TabG H1 T ∧ ∀ H2, GxR.Tabbed T H1 H2 → ∃ W : Nat → Nat → Hp → Prop, (∃ m, W 0 m H2) ∧
  GTurns J g tt te vs σ W (fun i m y H' => ∃ k, y = .bl k ∧ (if k = true then ∃ m', m' < m ∧ W (i + 1) m' H' else Q (.bl false) H')) (fun H' => Q (.bl true) H')
section
variable {X : Cx} {pins : List (Addr × Obj)} {σ : L2.St}
theorem all_loop {IG : Hp → Shared → Prop} {tn : Nat → Heap → Prop} {fp : List Addr} {W : Nat → Nat → Hp → Prop} {a : Addr} {gn : Nat} {Q : VK} {R : Result → Shared → Prop} (ig : IGok X pins σ a gn IG) (hA : X.A.handled = none) (hd : X.A.depth < recursionLimit)
    (hR : ∀ b H s, Q (.bl b) H → IG H s → R (.ok (.ret (.bool b))) s) : ∀ (n i m : Nat) (H : Hp) (s : Shared),
    GRun X X.A.in1 IG tn fp W (fun i m y H' => ∃ k, y = .bl k ∧ (if k = true then ∃ m', m' < m ∧ W (i + 1) m' H' else Q (.bl false) H')) (fun H' => Q (.bl true) H') gn i m n H s →
    codeAny (model X.prog X.w) X.A (.builtin "all.loop" ⟨[.ref a], []⟩) R s := by
  intro n
  induction n with
  | zero =>
    intro i m H s G
    obtain ⟨_, _, _, _, gs, _, h, _⟩ := G
    exact absurd h (Nat.not_lt_zero _)
  | succ n ih =>
    intro i m H s G
    refine codeAny_builtin F.entry_all_loop ?_
    rw [Around.under_plainId F.plain_all_loop _]
    show wpAny _ X.A.in1 (pyNext (.ref a) >>= _) _ _ s
    refine wpAny_bind (gx_next ig hA hd G (fun v y H' s' i' m' r out I' cont => ?_) fun H' s' fin I' => ?_)
    · obtain ⟨k, rfl, hk⟩ := out
      obtain rfl : v = .bool k := r
      refine wpAny_bind (wpAny_holding (wpAny_truthy_bool ?_))
      refine wpAny_bind (wpAny_letGo ?_)
      cases k with
      | true =>
        obtain ⟨m'', hm, w'⟩ := hk
        exact wpAny_pure ⟨plainId_quiet F.plain_all_loop _, ih (i' + 1) m'' H' s' (cont m'' hm w')⟩
      | false =>
        refine wpAny_bind (wpAny_rule (wpAny_pure ?_))
        exact hR false H' s' hk I'
    · refine wpAny_bind (wpAny_rule (wpAny_pure ?_))
      exact hR true H' s' fin I'
theorem pe_allG {c T : Addr} {elt tg iter : Expr} {ifs : List Expr} {scope : Scope} {own : List (Str × Nat)} {gpos p pos : Pos} {wi : TI} {g : TG} {tt : TT} {te : TE} {k : Nat}
    (hr : Room (k + 1) X.A) (hgl : Gl X "all") (hm : X.mg "all" = none) (hc : X.calm = true) (hN : X.N.Nodup) (TB : GxR.TabB X.base X.mg c T) (hcode : X.env.code = .ref c) (ok : GOk X.N X.env.scope scope own) (hi : PI X tg iter wi)
    (hg : ∀ (A' : Around) (s3 : Shared) (H3 : Hp) (C : Addr) (code : Value) (fp : List Addr), PG (gxc X A' s3 H3 (genE X scope C code) fp) tg g)
    (ht : ∀ (A' : Around) (s3 : Shared) (H3 : Hp) (C : Addr) (code : Value) (fp : List Addr), Room k A' → PTs (gxc X A' s3 H3 (genE X scope C code) fp) ifs tt)
    (he : ∀ (A' : Around) (s3 : Shared) (H3 : Hp) (C : Addr) (code : Value) (fp : List Addr), Room k A' → PE (gxc X A' s3 H3 (genE X scope C code) fp) elt te)
    (hs : ∀ v, genFold iter X.env v = pure v := by intro _; rfl)
    (hst : starEach [.GeneratorExp elt [⟨tg, iter, ifs, 0⟩] scope gpos] X.env = (false, eval (.GeneratorExp elt [⟨tg, iter, ifs, 0⟩] scope gpos) X.env) :: starEach [] X.env := by rfl) :
    PE X (.Call (.Name "all" p) [.GeneratorExp elt [⟨tg, iter, ifs, 0⟩] scope gpos] [] pos) (tAllG T wi g tt te (own.map (·.2))) := by
  refine ⟨fun pins s σ H Q I h => wpAny_Call_Name_kw (ld_blt I hgl hm (show bootBuiltins "all" = some (.builtin "all") by decide +kernel) ?_)⟩
  refine PyProof.Rows.callWith_builtin1 ?_ hst (by rfl)
  rw [hst]
  have hA := I.ok.hd hc
  have hf := I.ok.frames
  refine Calls.spliced_cons (gx_mk (Outf := fun W i m y H' => ∃ k, y = .bl k ∧ (if k = true then ∃ m', m' < m ∧ W (i + 1) m' H' else Q (.bl false) H')) (Fin := fun H' => Q (.bl true) H')
    X.A.in1 hA hf (Nat.le_refl _) (by show X.A.units + 1 ≤ _; omega) hr hc hN TB hcode ok hi hg ht he hs I h ?_)
  · intro IG tn fp W a gn m H2 s5 ig hk G
    refine Calls.spliced_nil ?_
    refine call_function_tree F.kind_all F.plain_all F.entry_all (F.args_all1 _) ?_
    unfold Builtin.«all»
    refine wpAny_bind (m := oneArg "all" _) (wpAny_pure ?_)
    refine wpAny_bind (wpAny_pyIter_gen (ig.isgen G.1) ?_)
    exact wpAny_pure ⟨plainId_quiet F.plain_all_loop _, all_loop ig hA (Nat.lt_of_le_of_lt (by omega : X.A.depth ≤ X.A.depth + 3 * (k + 1) + 5) hr.dp) (fun b H s q I' => ⟨.bl b, H, ig.back I', rfl, q⟩) _ _ _ _ _ G⟩
end
/-! ### len(set(t)) of a tuple of texts -/
/-- the texts, each once -/
def once : List Str → List Str := fun xs => xs.foldl (fun acc x => if acc.contains x = true then acc else acc ++ [x]) []
theorem once_snoc (xs : List Str) (x : Str) : once (xs ++ [x]) = if (once xs).contains x = true then once xs else once xs ++ [x] := by
  unfold once
  rw [List.foldl_append]
  rfl
theorem once_le (l : List Str) : (once l).length ≤ l.length := by
  have more : ∀ (l acc : List Str), (l.foldl (fun acc x => if acc.contains x = true then acc else acc ++ [x]) acc).length ≤ acc.length + l.length := by
    intro l
    induction l with
    | nil => intro acc; exact Nat.le_refl _
    | cons x r ih =>
      intro acc
      refine Nat.le_trans (ih _) ?_
      show (if acc.contains x = true then acc else acc ++ [x]).length + r.length ≤ acc.length + (r.length + 1)
      by_cases h : acc.contains x = true
      · rw [if_pos h]; omega
      · rw [if_neg h, List.length_append]; show acc.length + 1 + r.length ≤ _; omega
  have h := more l []
  have z : (once l).length ≤ ([] : List Str).length + l.length := h
  simpa using z
section
variable {prog : Program} {w : World} {A : Around}
theorem set_texts_loop {R : Result → Shared → Prop} {it : Addr} {fp wr : List Addr} {G : Array GenState → Array GenState → Prop} {n : Nat} {P : Nat → Value → Prop} {St : Nat → Shared → Prop} (W : WalksS prog w A.in1 it fp wr G n P St) (S : Addr) (nS : S ∉ fp) (xs : List Str)
    (len : xs.length = n) (big : n + 1 < scanBound) (val : ∀ i v, P i v → ∃ t, v = .str (xs.getD i Str.empty) t) :
    ∀ (k i : Nat) (s : Shared), n - i = k → i ≤ n → St i s → s.heap.SetOf (PySem.strKind prog w) S (fun x => (once (xs.take i)).contains x) (once (xs.take i)).length →
      (∀ s', Moved (S :: wr) G s s' → s'.heap.SetOf (PySem.strKind prog w) S (fun x => (once xs).contains x) (once xs).length → R (.ok (.ret .none)) s') →
      codeAny (model prog w) A (.builtin "set.update.loop" ⟨[.ref S, .ref it], []⟩) R s := by
  have nW : S ∉ wr := fun h => nS (W.sub _ h)
  have up : ∀ b ∈ wr, b ∈ S :: wr := fun b hb => List.mem_cons_of_mem _ hb
  have stay : ∀ {s s' : Shared} {f : Str → Bool} {c : Nat}, Moved wr G s s' → s.heap.SetOf (PySem.strKind prog w) S f c → s'.heap.SetOf (PySem.strKind prog w) S f c := fun mv ⟨o, es, ep, t, ho, r⟩ => ⟨o, es, ep, t, mv.heap S _ nW ho, r⟩
  have most := once_le
  intro k
  induction k with
  | zero =>
    intro i s hk hi st hS hR
    obtain rfl : i = n := by omega
    refine codeAny_builtin PyProof.Rows.F.entry_set_update_loop ?_
    rw [Around.under_plainId PyProof.Rows.F.plain_set_update_loop _]
    show wpAny _ A.in1 (pyNext (.ref it) >>= _) _ _ s
    refine wpAny_bind (W.done s _ _ st fun s' mv => ?_)
    rw [List.take_of_length_le (Nat.le_of_eq len)] at hS
    exact wpAny_pure (hR s' (mv.mono up) (stay mv hS))
  | succ k ih =>
    intro i s hk hi st hS hR
    have lt : i < n := by omega
    refine codeAny_builtin PyProof.Rows.F.entry_set_update_loop ?_
    rw [Around.under_plainId PyProof.Rows.F.plain_set_update_loop _]
    show wpAny _ A.in1 (pyNext (.ref it) >>= _) _ _ s
    refine wpAny_bind (W.item i s _ _ lt st fun v s' hP st' mv => ?_)
    obtain ⟨t, rfl⟩ := val i v hP
    show wpAny _ A.in1 (holding [Value.str (xs.getD i Str.empty) t] (setAdd S (.str (xs.getD i Str.empty) t)) >>= _) _ _ s'
    refine wpAny_bind (wpAny_holding ?_)
    unfold setAdd
    refine wpAny_holding (wpAny_bind ((PySem.strKind prog w).pyHash (k := xs.getD i Str.empty) (strKind_is _ _ _ _) ?_))
    have small : (once (xs.take i)).length + 1 < scanBound := by
      have h := most (xs.take i)
      rw [List.length_take] at h
      omega
    refine wpAny_setAddHashed_of (knd := PySem.strKind prog w) (s := { s' with toks := s'.toks + 1 }) (strKind_is _ _ _ _) rfl (show s'.heap.SetOf _ S _ _ from stay mv hS) small fun h' sb hS2 => ?_
    have hx : xs.take (i + 1) = xs.take i ++ [xs.getD i Str.empty] := by
      have hl : i < xs.length := by omega
      rw [List.take_add_one, List.getElem?_eq_getElem hl, List.getD_eq_getElem?_getD, List.getElem?_eq_getElem hl]
      rfl
    have hS3 : h'.SetOf (PySem.strKind prog w) S (fun x => (once (xs.take (i + 1))).contains x) (once (xs.take (i + 1))).length := by
      rw [hx, once_snoc]
      revert hS2
      generalize xs.getD i Str.empty = z
      generalize once (xs.take i) = L
      intro hS2
      by_cases e : L.contains z = true
      · rw [if_pos e] at hS2 ⊢
        refine SetOf_congr hS2 (fun y => ?_) rfl
        by_cases q : y = z
        · rw [q, e]; rfl
        · rw [decide_eq_false q, Bool.or_false]
      · rw [if_neg e] at hS2 ⊢
        refine SetOf_congr hS2 (fun y => ?_) (by rw [List.length_append]; rfl)
        rw [List.contains_append]
        by_cases q : y = z
        · rw [q, decide_eq_true rfl]; simp
        · rw [decide_eq_false q]; simp [q]
    refine wpAny_pure ⟨plainId_quiet PyProof.Rows.F.plain_set_update_loop _, ih (i + 1) _ (by omega) lt (W.frame _ s' _ _ st' (Nat.le_succ _) fun b hb o e => ?_) hS3 fun s'' mv'' hS'' => ?_⟩
    · rw [sb.2 b (fun z : b = S => nS (by rw [← z]; exact hb))]
      exact e
    · refine hR s'' (Moved.trans W.gtrans ((mv.mono up).then_heap (Nat.le_succ _) fun b o hb e => ?_) mv'') hS''
      rw [sb.2 b (fun z : b = S => hb (by rw [z]; exact List.mem_cons_self))]
      exact e
abbrev set0 (led : Bool) : Obj := { cls := .type "set", dict := none, data := .set #[] 0 (.fresh 0 0 led) }
set_option maxHeartbeats 3200000 in
theorem set_of_texts {E : Value → Shared → Prop} {s : Shared} {l : Addr} {items : Array Value} {xs : List Str} {Q : Value → Shared → Prop} (hh : A.handled = none) (hl : s.heap.IsTuple l items) (hi : PyProof.Rows.StrsAre items.toList xs) (big : xs.length + 1 < scanBound)
    (h : ∀ (h' : Heap) (tk : Nat), h'.SetOf (PySem.strKind prog w) s.heap.objs.size (fun x => (once xs).contains x) (once xs).length →
      (∀ b o, b < s.heap.objs.size → s.heap.get? b = some o → h'.get? b = some o) → Q (.ref s.heap.objs.size) { s with heap := h', toks := tk }) :
    wpAny (model prog w) A (call (.type "set") [.ref l]) Q E s := by
  obtain ⟨c, tl, hmro⟩ := PySem.F.called_set.mro
  have hmade := PySem.F.called_set.made
  have hsub := PySem.F.called_set.sub
  refine wpAny_call (codeAny_of_tree ?_)
  show wpAny _ _ (callAny (.type "set") _) _ _ _
  refine wpAny_pure ⟨Code.quiet_builtin _ (by decide +kernel), codeAny_builtin PySem.F.entry_type_call ?_⟩
  rw [Around.under_plain (weight_type_call_type "set" [.ref l] []) rfl]
  have h1 := PySem.F.called_set.notType
  have h2 := PySem.F.called_set.canCreate
  have hct := PySem.F.typeCall_set_1 (.ref l)
  repeat (any_goals (first | assumption | wp_step))
  refine codeAny_mono (code_set_new_1 (.ref l) (E := E) (Q₁ := fun obj s₁ => ∃ led : Bool, obj = .ref s.heap.objs.size ∧ s₁ = { s with heap := s.heap.push { cls := .type "set", dict := none, data := .set #[] 0 (.fresh 0 0 led) } }) fun led => ⟨led, rfl, rfl⟩) fun r s₁ hr => ?_
  cases r with
  | error e => exact hr
  | ok fl =>
    cases fl with
    | ret obj =>
      obtain ⟨led, rfl, rfl⟩ := hr
      have fresh : (set0 led).isFreed = false := rfl
      have hS : (s.heap.push (set0 led)).get? s.heap.objs.size = some (set0 led) := Heap.get?_push_size _ fresh
      have hT : Shared.TypeIs { s with heap := s.heap.push (set0 led) } (.ref s.heap.objs.size) "set" := ⟨_, hS, rfl⟩
      have hli := PySem.F.called_set.init.lookup
      have hbi := PySem.F.called_set.init.bind (.ref s.heap.objs.size)
      repeat (any_goals (first | assumption | wp_step))
      refine codeAny_mono (codeAny_call_builtin (R := wants (fun r s₂ => r = .none ∧ ∃ h' tk, s₂ = { s with heap := h', toks := tk } ∧
          h'.SetOf (PySem.strKind prog w) s.heap.objs.size (fun x => (once xs).contains x) (once xs).length ∧
          (∀ b o, b < s.heap.objs.size → s.heap.get? b = some o → h'.get? b = some o)) E) PySem.F.called_set.init.plain PySem.F.entry_set_init (check_set_init_1 hT ?_)) fun r₂ s₂ hr₂ => ?_
      · obtain ⟨⟨ocls, odict, odata, oslots⟩, hol, hcl, nl, hdl⟩ := hl
        simp only at hcl hdl
        subst hcl; subst hdl
        have hol' : (s.heap.push (set0 led)).get? l = some { cls := .type "tuple", dict := odict, data := .seq items nl, slots := oslots } := Heap.get?_push_of_some _ hol
        have hsls := PySem.F.sub_tuple_set
        have hslf := PySem.F.sub_tuple_frozenset
        have hne : (Value.type "tuple" == Value.type "dict") = false := by decide
        have hl1 : (s.heap.push (set0 led)).IsTuple l items := ⟨_, hol', rfl, nl, rfl⟩
        unfold Builtin.«set.__init__» noKeywords Builtin.Frozenset.updateFrom
        generalize hPI : pyIter = PI
        wp_walk
        subst hPI
        refine wpAny_pyIter_tuple hl1 ?_
        refine wpAny_bind (wpAny_runValue ?_)
        have ltl : l < s.heap.objs.size := Heap.lt_size hol
        have szP : (s.heap.push (set0 led)).objs.size = s.heap.objs.size + 1 := Heap.size_push ..
        have hh3 : A.in1.in1.in1.handled = none := hh
        have neI : l ≠ (s.heap.push (set0 led)).objs.size := by rw [szP]; exact Nat.ne_of_lt (Nat.lt_succ_of_lt ltl)
        have len : xs.length = items.size := by rw [← StrsAre.len_eq hi, Array.length_toList]
        refine set_texts_loop ((Walks.tuple hh3 _ l neI items).toS) s.heap.objs.size ?n xs len (by rw [← len]; exact big)
          (fun i v hv => SS.strs_at hi i v (by rw [Array.getElem?_toList]; exact hv)) (items.size - 0) 0 _ (by omega) (Nat.zero_le _) ⟨⟨_, Heap.get?_push_size _ rfl, rfl, rfl⟩, (hl1.push _)⟩ ?z ?r
        case n =>
          rw [szP]
          simp only [List.mem_cons, List.not_mem_nil, or_false, not_or]
          exact ⟨Nat.ne_of_lt (Nat.lt_succ_self _), Nat.ne_of_gt ltl⟩
        case z =>
          refine PyProof.Rows.SetOf_congr ((PyProof.Rows.setObjOf_fresh (knd := PySem.strKind prog w) led).setOf (Heap.get?_push_of_some _ hS) (by unfold scanBound; omega)) (fun _ => rfl) rfl
        case r =>
          intro s' mv hS'
          obtain ⟨h', g', d', tk', os'⟩ := s'
          obtain rfl : g' = s.gens := mv.gens
          obtain rfl : d' = s.drawn := mv.drawn
          obtain rfl : os' = s.os := mv.os
          refine wpAny_pure ?_
          show wpAny _ _ (ret Value.none) _ _ _
          refine wpAny_pure ⟨rfl, h', tk', rfl, hS', fun b o hb e => mv.heap b o ?_ (Heap.get?_push_of_some _ (Heap.get?_push_of_some _ e))⟩
          rw [szP]
          simp only [List.mem_cons, List.not_mem_nil, or_false, not_or]
          exact ⟨Nat.ne_of_lt hb, Nat.ne_of_lt (Nat.lt_succ_of_lt hb)⟩
      · cases r₂ with
        | error e => exact hr₂
        | ok fl₂ =>
          cases fl₂ with
          | ret r =>
            obtain ⟨rfl, h', tk, rfl, hS', hk'⟩ := hr₂
            repeat (any_goals (first | assumption | wp_step))
            exact h _ _ hS' hk'
          | _ => exact hr₂.elim
    | _ => exact hr.elim
end
def tLenSetX (K : PySem.W.Frag) (ta : TE) : TE := fun σ H Q => ta σ H fun x H1 => ∃ l, ∃ xs : List Str, x = .ref l ∧ SqT K H1 l (xs.map V.str) ∧ xs.length ≤ 1000 ∧ Q (.int (once xs).length) H1
theorem pe_lenSetX {X : Cx} {a : Expr} {ta : TE} {p p2 q pos : Pos} (hc : X.calm = true) (hg : Gl X "len") (hm : X.mg "len" = none) (hg2 : Gl X "set") (hm2 : X.mg "set" = none) (ha : PE X a ta)
    (na : starEach [a] X.env = (false, eval a X.env) :: starEach [] X.env := by rfl) : PE X (.Call (.Name "len" p) [.Call (.Name "set" p2) [a] [] q] [] pos) (tLenSetX X.K ta) := by
  refine ⟨fun pins s σ H Q I h => Call_ (ld_blt I hg hm boot_len (PyProof.Rows.callWith_builtin1 (PyProof.Rows.args_cons ?_ rfl) rfl rfl))⟩
  refine Call_ (ld_blt I hg2 hm2 boot_set (PyProof.Rows.callWith_type1 (PyProof.Rows.args_cons (thn (ha.run pins s σ H _ I h) fun v s1 ⟨x, H1, I1, r1, q1⟩ => PyProof.Rows.args_nil ?_) na) na rfl))
  obtain ⟨l, xs, rfl, hq, le, q1⟩ := q1
  cases r1
  obtain ⟨its, r, pl, hz⟩ := I1.tuple hq
  refine set_of_texts (I1.ok.hd hc) pl (by simpa using strsAre_of r) (by unfold scanBound; omega) fun h' tk hS hk => PyProof.Rows.args_nil ?_
  obtain ⟨o, es, ep, t, ho, hex, hd, _, _, _, hf, hn⟩ := hS
  have I2 : Inv X pins σ H1 { s1 with heap := h', toks := tk } := I1.kept fun b o e => hk b o (Heap.lt_size e) e
  have most := once_le xs
  exact call_len_set ho hex hd hf (by rw [hn] <;> omega) ⟨.int (once xs).length, H1, I2.tok _, ⟨_, by rw [hn]⟩, q1⟩
/-! ### data that can be compared up to the first place where they differ -/
namespace Cs
open PySem PySem.SeqAt PySem.W PyProof.Rows
mutual
def cmpOk : PyData → PyData → Bool
  | .none, .none => true
  | .bool _, .bool _ => true
  | .int _, .int _ => true
  | .str _, .str _ => true
  | .tuple xs, .tuple ys => cmpAll xs ys
  | _, _ => false
def cmpAll : List PyData → List PyData → Bool
  | x :: xs, y :: ys => cmpOk x y && (!PyData.eqv x y || cmpAll xs ys)
  | [], _ => true
  | _ :: _, [] => true
end
theorem cmp_cons {x y : PyData} {xs ys : List PyData} (h : cmpAll (x :: xs) (y :: ys) = true) : cmpOk x y = true ∧ (PyData.eqv x y = true → cmpAll xs ys = true) := by
  rw [cmpAll, Bool.and_eq_true] at h
  refine ⟨h.1, fun e => ?_⟩
  have := h.2
  rw [e] at this
  simpa using this
abbrev lx := PyProof.Rows.lexLt itemOrd
mutual
theorem toks : ∀ (x y : PyData), cmpOk x y = true → (PyData.eqv x y = true → keyToks x = keyToks y) ∧ (PyData.eqv x y = false → ∀ l m, lx (keyToks x ++ l) (keyToks y ++ m) = lx (keyToks x) (keyToks y))
  | .tuple xs, y, h => by
    cases y with
    | tuple ys =>
      have t := toksA xs ys (by simpa [cmpOk] using h)
      simp only [keyToks, PyData.eqv]
      exact t
    | _ => exact absurd h (by simp [cmpOk])
  | .none, y, h => toks_eqv _ y (by cases y <;> first | rfl | exact absurd h (by simp [cmpOk]))
  | .bool a, y, h => toks_eqv _ y (by cases y <;> first | rfl | exact absurd h (by simp [cmpOk]))
  | .int a, y, h => toks_eqv _ y (by cases y <;> first | rfl | exact absurd h (by simp [cmpOk]))
  | .str a, y, h => toks_eqv _ y (by cases y <;> first | rfl | exact absurd h (by simp [cmpOk]))
  | .list _, y, h => absurd h (by cases y <;> simp [cmpOk])
  | .dict _, y, h => absurd h (by cases y <;> simp [cmpOk])
theorem toksA : ∀ (xs ys : List PyData), cmpAll xs ys = true → (PyData.eqvAll xs ys = true → keyToksAll xs = keyToksAll ys) ∧ (PyData.eqvAll xs ys = false → ∀ l m, lx (keyToksAll xs ++ l) (keyToksAll ys ++ m) = lx (keyToksAll xs) (keyToksAll ys))
  | [], ys, _ => toksAll_eqv [] ys (by cases ys <;> rfl)
  | x :: xs, [], _ => toksAll_eqv (x :: xs) [] rfl
  | x :: xs, y :: ys, h => by
    obtain ⟨c1, c2⟩ := cmp_cons h
    obtain ⟨a1, a2⟩ := toks x y c1
    rw [eqv_all_cons, toks_all_cons, toks_all_cons]
    by_cases hx : PyData.eqv x y = true
    · obtain ⟨b1, b2⟩ := toksA xs ys (c2 hx)
      rw [hx, a1 hx, Bool.true_and]
      refine ⟨fun e => by rw [b1 e], fun e l m => ?_⟩
      have k1 : ∀ (u v : List (Int ⊕ List Nat)), lx (Sum.inl 1 :: (keyToks y ++ u)) (Sum.inl 1 :: (keyToks y ++ v)) = lx u v := fun u v => (lex_self (O := itemOrd) _ _ _).trans (lex_pre _ _ _)
      rw [List.cons_append, List.cons_append, List.append_assoc, List.append_assoc, k1, k1]
      exact b2 e l m
    · have hx' : PyData.eqv x y = false := Bool.eq_false_iff.mpr hx
      rw [hx', Bool.false_and]
      refine ⟨fun e => (nomatch e), fun _ l m => ?_⟩
      have k1 : ∀ (u v : List (Int ⊕ List Nat)), lx (Sum.inl 1 :: (keyToks x ++ u)) (Sum.inl 1 :: (keyToks y ++ v)) = lx (keyToks x) (keyToks y) := fun u v => (lex_self (O := itemOrd) _ _ _).trans (a2 hx' _ _)
      rw [List.cons_append, List.cons_append, List.append_assoc, List.append_assoc, k1, k1]
end
theorem lt_yes {x y : PyData} {xs ys : List PyData} (h : cmpOk x y = true) (e : PyData.eqv x y = true) : lx (keyToksAll (x :: xs)) (keyToksAll (y :: ys)) = lx (keyToksAll xs) (keyToksAll ys) := by
  rw [toks_all_cons, toks_all_cons, (toks x y h).1 e]
  exact (lex_self (O := itemOrd) _ _ _).trans (lex_pre _ _ _)
theorem lt_no {x y : PyData} {xs ys : List PyData} (h : cmpOk x y = true) (e : PyData.eqv x y = false) : lx (keyToksAll (x :: xs)) (keyToksAll (y :: ys)) = dataLt x y := by
  rw [toks_all_cons, toks_all_cons]
  exact (lex_self (O := itemOrd) _ _ _).trans ((toks x y h).2 e _ _)
theorem first_toks : ∀ (xs ys : List PyData), cmpAll xs ys = true →
    firstLt (pairEq xs ys) (fun j => dataLt (xs.getD j .none) (ys.getD j .none)) (decide (xs.length < ys.length)) (List.range (min xs.length ys.length)) = lx (keyToksAll xs) (keyToksAll ys)
  | [], ys, _ => firstLt_toks [] ys (by cases ys <;> rfl)
  | x :: xs, [], _ => firstLt_toks (x :: xs) [] rfl
  | x :: xs, y :: ys, h => by
    obtain ⟨h1, h2⟩ := cmp_cons h
    have em : min (x :: xs).length (y :: ys).length = min xs.length ys.length + 1 := Nat.add_min_add_right _ _ 1
    have ed : decide ((x :: xs).length < (y :: ys).length) = decide (xs.length < ys.length) := decide_eq_decide.mpr (by rw [List.length_cons, List.length_cons]; omega)
    rw [em, ed, List.range_succ_eq_map]
    by_cases hx : PyData.eqv x y = true
    · have ih := first_toks xs ys (h2 hx)
      rw [firstLt_yes (show pairEq (x :: xs) (y :: ys) 0 = true from hx), firstLt_map, lt_yes h1 hx, ← ih]
      rfl
    · have hx' : PyData.eqv x y = false := Bool.eq_false_iff.mpr hx
      rw [firstLt_no (show pairEq (x :: xs) (y :: ys) 0 = false from hx'), lt_no h1 hx']
      rfl
theorem not_none {x y : PyData} (h : cmpOk x y = true) (e : PyData.eqv x y = false) : x ≠ .none := by
  rintro rfl
  cases y with
  | none => exact nomatch e
  | _ => exact absurd h (by simp [cmpOk])
/-- tuple.__lt__, where items behind the first place that differs aren't asked -/
theorem tup_lt (l b : Addr) (us vs : Array Value) (n m : Nat) (du dv : Option Addr) (su sv : Array (Option Value)) (e r : Nat → Bool) :
    Meets (Builtin.«tuple.__lt__» ⟨[.ref l, .ref b], []⟩) (fun A R s => s.heap.get? l = some { cls := .type "tuple", dict := du, data := .seq us n, slots := su } ∧ s.heap.get? b = some { cls := .type "tuple", dict := dv, data := .seq vs m, slots := sv } ∧
      (∀ j (h1 : j < us.size) (h2 : j < vs.size), EqAt A.in1 s us[j] vs[j] (e j)) ∧ (∀ j (h1 : j < us.size) (h2 : j < vs.size), (∀ i < j, e i = true) → e j = false → RcLt A.in1 s us[j] vs[j] (r j)) ∧
      R (.ok (.ret (.bool (firstLt e r (decide (us.size < vs.size)) (List.range (min us.size vs.size)))))) s) :=
  .of_wp fun prog w A R s h => by
    obtain ⟨hp, g, d, tk, os⟩ := s
    obtain ⟨hl, hb, he, hr, h⟩ := h
    have ft := AutoSeq1.sub_tuple_tuple
    have lz : (us.toList.zip vs.toList).length = min us.size vs.size := by simp
    wp_walk using AutoSeq1.wpAny_loadPart' hl, AutoSeq1.wpAny_loadPart' hb, wpAny_forIn_list _ (fun rest c s' => c.1 = none ∧ s' = ⟨hp, g, d, tk, os⟩ ∧ ∃ i, (∀ k < i, e k = true) ∧ rest = (us.toList.zip vs.toList).drop i ∧
      R (.ok (.ret (.bool (firstLt e r (decide (us.size < vs.size)) ((List.range (min us.size vs.size)).drop i))))) ⟨hp, g, d, tk, os⟩) _
    case turn =>
      rintro ⟨y, x⟩ rest c s' ⟨hc, rfl, i, al, hz, hR⟩
      have lt : i < (us.toList.zip vs.toList).length := Nat.lt_of_not_le fun q => by rw [List.drop_of_length_le q] at hz; cases hz
      have lm : i < min us.size vs.size := by omega
      have i1 : i < us.size := by omega
      have i2 : i < vs.size := by omega
      rw [List.drop_eq_getElem_cons lt] at hz
      injection hz with pq hrest
      obtain rfl : y = us[i] := by simpa using congrArg Prod.fst pq
      obtain rfl : x = vs[i] := by simpa using congrArg Prod.snd pq
      rw [show (List.range (min us.size vs.size)).drop i = i :: (List.range (min us.size vs.size)).drop (i + 1) by simp [List.drop_eq_getElem_cons, lm]] at hR
      refine wpAny_bind (he i i1 i2 prog w _ _ ?_)
      by_cases hy : e i = true
      · rw [firstLt_yes hy] at hR
        rw [hy]
        wp_walk
        exact ⟨rfl, rfl, i + 1, fun k hk => if z : k = i then z ▸ hy else al k (by omega), hrest, hR⟩
      · have hy' : e i = false := Bool.eq_false_iff.mpr hy
        rw [firstLt_no hy'] at hR
        rw [hy']
        have step : ∀ (E' : Value → Shared → Prop) (Q' : Value → Shared → Prop), Q' (.bool (r i)) ⟨hp, g, d, tk, os⟩ → wpAny (model prog w) A.in1 (richCompare .Lt us[i] vs[i]) Q' E' ⟨hp, g, d, tk, os⟩ := fun E' Q' q' => hr i i1 i2 al hy' prog w E' Q' q'
        revert step
        generalize richCompare .Lt us[i] vs[i] = cmp
        intro step
        wp_walk
        refine step _ _ ?_
        wp_walk
        exact ⟨_, rfl, hR⟩
    case fin =>
      rintro ⟨c1, c2⟩ s' ⟨hc, rfl, i, al, hz, hR⟩
      simp only at hc
      subst hc
      have ge : min us.size vs.size ≤ i := Nat.le_of_not_lt fun q => by rw [List.drop_eq_getElem_cons (by omega)] at hz; cases hz
      rw [List.drop_of_length_le (by simpa using ge)] at hR
      wp_walk
      exact ⟨_, rfl, by simpa [Builtin.Tuple.tupleCompareSizes, firstLt] using hR⟩
    case h => exact ⟨rfl, rfl, 0, fun k hk => absurd hk (Nat.not_lt_zero _), rfl, by simpa using h⟩
theorem rc_tup {A : Around} {s : Shared} {l b : Addr} {us vs : Array Value} {e r : Nat → Bool} (hl : s.heap.IsTuple l us) (hb : s.heap.IsTuple b vs) (hu : A.units < cLine)
    (he : ∀ j (h1 : j < us.size) (h2 : j < vs.size), EqAt A.in1 s us[j] vs[j] (e j)) (hr : ∀ j (h1 : j < us.size) (h2 : j < vs.size), (∀ i < j, e i = true) → e j = false → RcLt A.in1 s us[j] vs[j] (r j)) :
    RcLt A s (.ref l) (.ref b) (firstLt e r (decide (us.size < vs.size)) (List.range (min us.size vs.size))) := fun prog w E Q h => by
  obtain ⟨⟨c1, d1, t1, s1⟩, ho, hc, n, hd⟩ := id hl
  obtain ⟨⟨c2, d2, t2, s2⟩, ho2, hc2, n2, hd2⟩ := id hb
  dsimp only at hc hd hc2 hd2
  subst hc hd hc2 hd2
  exact richCompare_meets_room (op := .Lt) ⟨_, ho, rfl⟩ ⟨_, ho2, rfl⟩ F.slot_tuple_lt F.entry_tuple_lt (F.args_tuple_lt_2 _ _) (tup_lt l b us vs n n2 d1 d2 s1 s2 e r) ⟨ho, ho2, he, hr, (fun x => nomatch x), h⟩ hu
mutual
theorem rc : ∀ (da db : PyData) (A : Around) (s : Shared) (a b : Value) (as bs : List Addr), Reads s.heap a da as → Reads s.heap b db bs → da.canLay0 = true → db.canLay0 = true → cmpOk da db = true → da ≠ .none → A.units + min da.depth db.depth < cLine → RcLt A s a b (dataLt da db)
  | .tuple xs, db, A, s, a, b, as, bs, ra, rb, la, lb, h, e, hu => by
    cases db with
    | tuple ys =>
      have hal : cmpAll xs ys = true := by simpa [cmpOk] using h
      cases ra with
      | @tuple l o us n _ as₁ h1 h2 h3 h4 =>
        cases rb with
        | @tuple l' o' vs n' _ bs₁ k1 k2 k3 k4 =>
          have n1 : us.size = xs.length := by simpa using ReadsAll.length _ _ _ h4
          have n2 : vs.size = ys.length := by simpa using ReadsAll.length _ _ _ k4
          have la' : PyData.canLayAll0 xs = true := by simpa [PyData.canLay0] using la
          have lb' : PyData.canLayAll0 ys = true := by simpa [PyData.canLay0] using lb
          rw [dataLt_tuple]
          show RcLt A s (.ref l) (.ref l') (lx (keyToksAll xs) (keyToksAll ys))
          rw [← first_toks xs ys hal, ← n1, ← n2]
          refine rc_tup ⟨_, h1, h2, _, h3⟩ ⟨_, k1, k2, _, k3⟩ (room_here hu) (fun j j1 j2 => ?_) fun j j1 j2 al hj => ?_
          · have := eqAt_readsAll xs ys A.in1 s us.toList vs.toList _ _ h4 k4 la' lb' (room_in hu) j (by simpa using j1) (by simpa using j2)
            simpa using this
          · have := rcA xs ys A.in1 s us.toList vs.toList _ _ h4 k4 la' lb' hal (room_in hu) j (by simpa using j1) (by simpa using j2) al hj
            simpa using this
    | _ => exact absurd h (by simp [cmpOk])
  | .none, _, _, _, _, _, _, _, _, _, _, _, _, hn, _ => absurd rfl hn
  | .bool x, db, A, s, a, b, as, bs, ra, rb, _, _, h, e, hu => rcLt_alike _ db A s a b as bs ra rb (by cases db <;> first | rfl | exact absurd h (by simp [cmpOk])) e hu
  | .int x, db, A, s, a, b, as, bs, ra, rb, _, _, h, e, hu => rcLt_alike _ db A s a b as bs ra rb (by cases db <;> first | rfl | exact absurd h (by simp [cmpOk])) e hu
  | .str x, db, A, s, a, b, as, bs, ra, rb, _, _, h, e, hu => rcLt_alike _ db A s a b as bs ra rb (by cases db <;> first | rfl | exact absurd h (by simp [cmpOk])) e hu
  | .list _, db, _, _, _, _, _, _, _, _, _, _, h, _, _ => absurd h (by cases db <;> simp [cmpOk])
  | .dict _, db, _, _, _, _, _, _, _, _, _, _, h, _, _ => absurd h (by cases db <;> simp [cmpOk])
theorem rcA : ∀ (xs ys : List PyData) (A : Around) (s : Shared) (us vs : List Value) (as bs : List Addr), ReadsAll s.heap us xs as → ReadsAll s.heap vs ys bs → PyData.canLayAll0 xs = true → PyData.canLayAll0 ys = true → cmpAll xs ys = true →
    A.units + min (PyData.depthAll xs) (PyData.depthAll ys) < cLine → ∀ j (h1 : j < us.length) (h2 : j < vs.length), (∀ i < j, pairEq xs ys i = true) → pairEq xs ys j = false → RcLt A s us[j] vs[j] (dataLt (xs.getD j .none) (ys.getD j .none))
  | [], _, _, _, _, _, _, _, ra, _, _, _, _, _, j, h1, _, _, _ => by cases ra; exact absurd h1 (Nat.not_lt_zero _)
  | _ :: _, [], _, _, _, _, _, _, _, rb, _, _, _, _, j, _, h2, _, _ => by cases rb; exact absurd h2 (Nat.not_lt_zero _)
  | x :: xs, y :: ys, A, s, _, _, _, _, ra, rb, la, lb, h, hu, j, h1, h2, al, hj => by
    have la' : x.canLay0 = true ∧ PyData.canLayAll0 xs = true := by simpa [PyData.canLayAll0] using la
    have lb' : y.canLay0 = true ∧ PyData.canLayAll0 ys = true := by simpa [PyData.canLayAll0] using lb
    cases ra with
    | cons r rs =>
      cases rb with
      | cons r' rs' =>
        cases j with
        | zero => exact rc x y A s _ _ _ _ r r' la'.1 lb'.1 (cmp_cons h).1 (not_none (cmp_cons h).1 hj) (room_head hu)
        | succ j => exact rcA xs ys A s _ _ _ _ rs rs' la'.2 lb'.2 ((cmp_cons h).2 (al 0 (Nat.succ_pos _))) (room_tail hu) j (Nat.lt_of_succ_lt_succ h1) (Nat.lt_of_succ_lt_succ h2) (fun i hi => al (i + 1) (Nat.succ_lt_succ hi)) hj
end
/-! as sorting compares -/
section
variable {prog : Program} {w : World} {A : Around} {E : Value → Shared → Prop} {s : Shared}
theorem alike_of {da db : PyData} (h : cmpOk da db = true) (hf : ∀ xs, da ≠ .tuple xs) : alike da db = true := by
  cases da with
  | tuple xs => exact absurd rfl (hf xs)
  | list _ => exact absurd h (by cases db <;> simp [cmpOk])
  | dict _ => exact absurd h (by cases db <;> simp [cmpOk])
  | _ => cases db <;> first | rfl | exact absurd h (by simp [cmpOk])
theorem one {f : Bool} {da db : PyData} {a b : Value} {as bs : List Addr} {Q : Bool → Shared → Prop} (hf : f = true → ∀ xs, da ≠ .tuple xs) (ra : Reads s.heap a da as) (rb : Reads s.heap b db bs) (la : da.canLay0 = true) (lb : db.canLay0 = true) (h : cmpOk da db = true) (hn : da ≠ .none)
    (hu : A.units + min da.depth db.depth < cLine) (hq : Q (dataLt da db) s) : wpAny (model prog w) A (oneLt' f a b) Q E s := by
  cases f with
  | true => exact oneLt_alike (fun _ => hf rfl) ra rb (alike_of h (hf rfl)) hn hu hq
  | false =>
    rw [oneLt'_eq, if_neg (by decide)]
    exact wpAny_bind (rc da db A s a b as bs ra rb la lb h hn hu prog w E _ (wpAny_truthy_bool hq))
theorem kat {b fin : Bool} {Q : Bool → Shared → Prop} : ∀ (xs ys : List PyData) (i : Nat) (us vs : List Value) (as bs : List Addr), ReadsAll s.heap us xs as → ReadsAll s.heap vs ys bs → PyData.canLayAll0 xs = true → PyData.canLayAll0 ys = true → cmpAll xs ys = true →
    A.units + min (PyData.depthAll xs) (PyData.depthAll ys) < cLine → (b = true → i = 0 → ∀ x r t, xs = x :: r → x ≠ .tuple t) → fin = decide (xs.length < ys.length) → Q (lx (keyToksAll xs) (keyToksAll ys)) s → KatLex prog w A b fin Q (us.zip vs) i s
  | [], ys, i, us, vs, as, bs, ra, rb, _, _, _, hu, hb, hf, hq => katLex_alike [] ys i us vs as bs ra rb (by cases ys <;> rfl) hu hb hf hq
  | x :: xs, [], i, us, vs, as, bs, ra, rb, _, _, _, hu, hb, hf, hq => katLex_alike (x :: xs) [] i us vs as bs ra rb rfl hu hb hf hq
  | x :: xs, y :: ys, i, _, _, _, _, ra, rb, la, lb, h, hu, hb, hf, hq => by
    have la' : x.canLay0 = true ∧ PyData.canLayAll0 xs = true := by simpa [PyData.canLayAll0] using la
    have lb' : y.canLay0 = true ∧ PyData.canLayAll0 ys = true := by simpa [PyData.canLayAll0] using lb
    obtain ⟨h1, h2⟩ := cmp_cons h
    have hf' : fin = decide (xs.length < ys.length) := by
      rw [hf, List.length_cons, List.length_cons]
      exact decide_eq_decide.mpr (by omega)
    cases ra with
    | cons r rs =>
      cases rb with
      | cons r' rs' =>
        rw [List.zip_cons_cons]
        refine kat_cons (eqAt_reads x y A s _ _ _ _ r r' la'.1 lb'.1 (room_head hu) prog w _ _ (kat_go (fun hx => ?_) fun hx => ?_))
        · rw [lt_yes h1 hx] at hq
          exact kat_yes (kat xs ys (i + 1) _ _ _ _ rs rs' la'.2 lb'.2 (h2 hx) (room_tail hu) (fun _ hi => absurd hi (Nat.succ_ne_zero i)) hf' hq)
        · rw [lt_no h1 hx] at hq
          refine kat_no (one (fun hbi t => ?_) r r' la'.1 lb'.1 h1 (not_none h1 hx) (room_head hu) hq)
          rw [Bool.and_eq_true] at hbi
          exact hb hbi.1 (by simpa using hbi.2) x xs t rfl
theorem dk_some {h : Heap} {ds : List PyData} (lay : ∀ d ∈ ds, d.canLay0 = true) {v : Value} {d : PyData} {as : List Addr} (hd : d ∈ ds) (r : Reads h v d as) : (dataKind h ds).keyOf v = some (keyToks d) := by
  cases e : (dataKind h ds).keyOf v with
  | none =>
    exfalso
    have q : ∃ d, d ∈ ds ∧ ∃ as, Reads h v d as := ⟨d, hd, as, r⟩
    have e' : (open Classical in if q : ∃ d, d ∈ ds ∧ ∃ as, Reads h v d as then some (keyToks q.choose) else none) = none := e
    rw [dif_pos q] at e'
    cases e'
  | some k =>
    obtain ⟨d', as', hd', r', rfl⟩ := dataKind_inv e
    rw [← readOf_eq (lay d hd) r, ← readOf_eq (lay d' hd') r']
    rfl
theorem sorts {vs : List Value} {ds : List PyData} {T : Value} (e : EachIs (fun v d => ∃ as, Reads s.heap v d as) vs ds) (lay : ∀ d ∈ ds, d.canLay0 = true) (cmp : ∀ d ∈ ds, ∀ d' ∈ ds, cmpOk d d' = true) (ht : ∀ d ∈ ds, ∃ x r, d = .tuple (x :: r) ∧ dataType x = T)
    (hu : ∀ d ∈ ds, A.units + d.depth < cLine) : SortsAt prog w A s (dataKind s.heap ds) vs := by
  refine ⟨fun v hv => ?_, tuples' (T != Value.type "tuple"), ?_, fun h2 E Q hq => ?_⟩
  · obtain ⟨d, hd, as, r⟩ := e.left v hv
    exact ⟨_, dk_some lay hd r⟩
  · intro E x y a b Q ha hb hq
    obtain ⟨d, as, hd, ra, rfl⟩ := dataKind_inv ha
    obtain ⟨d', as', hd', rb, rfl⟩ := dataKind_inv hb
    have cm := cmp d hd d' hd'
    have ld := lay d hd
    have ld' := lay d' hd'
    have rm : A.units + min d.depth d'.depth < cLine := Nat.lt_of_le_of_lt (Nat.add_le_add_left (Nat.min_le_left _ _) _) (hu d hd)
    obtain ⟨x1, r1, rfl, t1⟩ := ht d hd
    obtain ⟨x2, r2, rfl, t2⟩ := ht d' hd'
    have hq' : Q (dataLt (.tuple (x1 :: r1)) (.tuple (x2 :: r2))) s := hq
    rw [dataLt_tuple] at hq'
    cases ra with
    | @tuple l o xs n _ _ h1 h2 h3 h4 =>
      cases rb with
      | @tuple l' o' xs' n' _ _ k1 k2 k3 k4 =>
        have n1 : xs.size = (x1 :: r1).length := by simpa using SeqAt.ReadsAll.length _ _ _ h4
        have n2 : xs'.size = (x2 :: r2).length := by simpa using SeqAt.ReadsAll.length _ _ _ k4
        refine kat_lt h1 h3 k1 k3 (kat (x1 :: r1) (x2 :: r2) 0 _ _ _ _ h4 k4 (by simpa [PyData.canLay0] using ld) (by simpa [PyData.canLay0] using ld') (by simpa [cmpOk] using cm) (by have q := SeqAt.room_in rm; omega) (fun hb _ x r t ex => ?_) (by rw [n1, n2]) hq')
        obtain ⟨rfl, rfl⟩ := List.cons.inj ex
        rw [← t1] at hb
        exact dataType_tuple hb t
  · obtain ⟨fs, f1, f2, f3⟩ := each_katTups e fun d hd => let ⟨x, r, e, _⟩ := ht d hd; ⟨x, r, e⟩
    refine kat_kind (T := T) f1 (by omega) (fun f hf => ?_) (beq_self_eq_true _) hq
    obtain ⟨x, r, as, m1, m2⟩ := f3 f hf
    obtain ⟨x', r', ex, tx⟩ := ht _ m1
    obtain ⟨rfl, rfl⟩ := List.cons.inj (PyData.tuple.inj ex)
    rw [← tx]
    exact looks_reads m2
/-- sorted(..) of a list or a tuple, by the way its items are sorted -/
theorem sorted_seq {κ : Heap → PyProof.Rows.KeyKind} {x : Addr} {T : String} {o : Obj} {items : Array Value} {n : Nat} {Q : Value → Shared → Prop} (hT : T = "list" ∨ T = "tuple") (ho : s.heap.get? x = some o) (hc : o.cls = .type T) (hd : o.data = .seq items n) (hL : items.size ≤ sizeLine)
    (S : ∀ h', (∀ b ob, s.heap.get? b = some ob → h'.get? b = some ob) → SortsAt prog w A.in1.in1 { s with heap := h' } (κ h') items.toList)
    (hQ : ∀ (h1 h' h2 : Heap) (ep : Nat), (∀ b ob, s.heap.get? b = some ob → h2.get? b = some ob) → (∀ b ob, s.heap.get? b = some ob → h1.get? b = some ob) → (∀ b ob, h1.get? b = some ob → h'.get? b = some ob) → h'.get? h1.objs.size = some (seqObj "list" (sortVals (κ h2) false items.toList items.toList).toArray ep) → Q (.ref h1.objs.size) { s with heap := h' }) :
    wpAny (model prog w) A (call (.builtin "sorted") [.ref x]) Q E s := by
  refine Calls.call_function_entry kind_sorted plain_sorted entry_sorted (args_sorted1 _) ?_
  unfold Builtin.«sorted»
  refine wpAny_bind (m := checkCount "sorted" 1 1 _) (wpAny_pure (wpAny_bind (wpAny_collect_seq x hT ho hc hd (fun h1 k1 => ?_) hL)))
  have oL : (h1.push (seqObj "list" items.toList.toArray 0)).get? h1.objs.size = some (seqObj "list" items.toList.toArray 0) := Heap.get?_push_size _ rfl
  have lL : items.toList.length ≤ sizeLine := by rw [Array.length_toList]; exact hL
  have k2 : ∀ b ob, h1.get? b = some ob → (sortingHeap (h1.push (seqObj "list" items.toList.toArray 0)) h1.objs.size items.toList).get? b = some ob := fun b ob e =>
    sortingHeap_old (Nat.ne_of_lt (Heap.lt_size e)) (Heap.get?_push_of_some _ e)
  refine wpAny_bind (wpAny_newList (wpAny_bind (wpAny_holding (wpAny_call_entry slot_list_sort ⟨_, oL, rfl⟩ entry_list_sort (list_sort_vals oL (S _ fun b ob e => k2 b ob (k1 b ob e)) lL ⟨_, rfl, ?_⟩) (args_list_sort _)))))
  obtain ⟨ep, he⟩ := sortedHeap_at (out := (sortVals (κ (sortingHeap (h1.push (seqObj "list" items.toList.toArray 0)) h1.objs.size items.toList)) false items.toList items.toList).toArray) oL
  refine wpAny_pure ⟨_, rfl, hQ h1 _ _ ep (fun b ob e => k2 b ob (k1 b ob e)) k1 (fun b ob e => ?_) he⟩
  have lt := Heap.lt_size e
  rw [sortedHeap_old (Nat.ne_of_lt lt) (by rw [Heap.size_push]; exact Nat.lt_succ_of_lt lt)]
  exact Heap.get?_push_of_some _ e
end
end Cs
/-! ### entries that are entries -/
abbrev TB2 (T1 T2 : Addr) (H H' : Hp) : Prop := (∀ b o, H b = some o → b ≠ T1 → b ≠ T2 → H' b = some o) ∧ GxR.TabG H' T1 ∧ GxR.TabG H' T2
theorem TB2.tr {T1 T2 : Addr} {H H1 H2 : Hp} (a : TB2 T1 T2 H H1) (b : TB2 T1 T2 H1 H2) : TB2 T1 T2 H H2 := ⟨fun c o e n1 n2 => b.1 c o (a.1 c o e n1 n2) n1 n2, b.2⟩
theorem tabg_same {H H' : Hp} {T : Addr} (b : Same H H') (t : GxR.TabG H T) : GxR.TabG H' T := by
  obtain ⟨ps, e, ok⟩ := t
  exact ⟨ps, b T _ e, ok⟩
theorem TB2.same {T1 T2 : Addr} {H H' : Hp} (t1 : GxR.TabG H T1) (t2 : GxR.TabG H T2) (h : Same H H') : TB2 T1 T2 H H' := ⟨fun b o e _ _ => h b o e, tabg_same h t1, tabg_same h t2⟩
theorem TB2.one {T1 T2 : Addr} {H H' : Hp} (ne : T1 ≠ T2) (t2 : GxR.TabG H T2) (h : GxR.Tabbed T1 H H') : TB2 T1 T2 H H' := by
  obtain ⟨ps, e, ok⟩ := t2
  exact ⟨fun b o e n1 _ => (h.2 b n1).trans e, h.1, ps, (h.2 T2 ne.symm).trans e, ok⟩
theorem TB2.two {T1 T2 : Addr} {H H' : Hp} (ne : T1 ≠ T2) (t1 : GxR.TabG H T1) (h : GxR.Tabbed T2 H H') : TB2 T1 T2 H H' := by
  obtain ⟨ps, e, ok⟩ := t1
  exact ⟨fun b o e _ n2 => (h.2 b n2).trans e, ⟨ps, (h.2 T1 ne).trans e, ok⟩, h.1⟩
/-- what is no table stays -/
theorem TB2.keep {T1 T2 : Addr} {H H' : Hp} (h : TB2 T1 T2 H H') (t1 : GxR.TabG H T1) (t2 : GxR.TabG H T2) {a : Addr} {o : HO} (e : H a = some o) (n : ∀ ps, o ≠ .tbl ps) : H' a = some o := by
  obtain ⟨p1, e1, _⟩ := t1
  obtain ⟨p2, e2, _⟩ := t2
  exact h.1 a o e (ne_of e e1 (n p1)) (ne_of e e2 (n p2))
def nmV : V → Bool
  | .str z => nameB z
  | _ => false
def bnd (x : Str) : Int × Int := if x = "moment" then (0, 9999) else if x = "many" then (1, 1000000000) else (0, 1000000000)
def inB (x : Str) : V → Bool
  | .int i => decide ((bnd x).1 ≤ i) && decide (i ≤ (bnd x).2)
  | _ => false
def fitB (v : V) (x : Str) : Bool := if x = "name" then nmV v else if x = "end" then (decide (v = .str "") || nmV v) else inB x v
def Part (v : V) : Prop := (∃ z : Str, v = .str z ∧ z.length ≤ 1000) ∨ ∃ i, v = .int i
def sorts4 : List Str := ["moment", "many", "counted", "price"]
def sorts6 : List Str := ["name", "end", "moment", "many", "counted", "price"]
def spWhole : Sp := fun vs H Q _ => ∃ v : V, vs = [v] ∧ Part v ∧ Q (.bl (match v with | .int _ => true | _ => false)) H
def spFits (T1 : Addr) : Sp := fun vs H Q _ => ∃ (v : V) (x : Str), vs = [v, .str x] ∧ Part v ∧ x ∈ sorts6 ∧ GxR.TabG H T1 ∧ ∀ H', GxR.Tabbed T1 H H' → Q (.bl (fitB v x)) H'
namespace Ent
def sorts : Ent → List Str
  | come .. => ["name", "moment", "name", "name", "many", "price"]
  | go .. => ["name", "moment", "name", "name", "many"]
  | move .. => ["name", "moment", "name", "name", "name", "many"]
  | some_ .. => ["name", "moment", "name", "name", "end"]
  | swap .. => ["name", "moment", "name", "name"]
  | count .. => ["name", "moment", "name", "name", "counted", "name"]
  | look .. => ["name", "moment", "name", "name"]
def parts (e : Ent) : List V := .str e.name :: .int e.moment :: e.rest
def places : Ent → List Str
  | come _ _ _ p _ _ => [p]
  | go _ _ _ p _ => [p]
  | move _ _ _ o t _ => [o, t]
  | some_ _ _ _ o t => if t = "" then [o] else [o, t]
  | swap _ _ o t => [o, t]
  | count _ _ _ p _ _ => [p]
  | look _ _ _ p => [p]
def goodV : Ent → V
  | come _ _ g _ _ _ => .str g
  | go _ _ g _ _ => .str g
  | move _ _ g _ _ _ => .str g
  | some_ _ _ g _ _ => .str g
  | swap _ _ _ _ => .non
  | count _ _ g _ _ _ => .str g
  | look _ _ g _ => .str g
structure Fine (e : Ent) : Prop where
  fit : ∀ (i : Nat) (v : V) (x : Str), e.parts[i]? = some v → e.sorts[i]? = some x → Part v ∧ fitB v x = true
  apart : e.places.Nodup
theorem len_parts (e : Ent) : e.parts.length = e.sorts.length := by cases e <;> rfl
theorem sorts_in (e : Ent) : ∀ x ∈ e.sorts, x ∈ sorts6 := by
  cases e <;> (intro x hx; simp only [sorts, sorts6, List.mem_cons, List.not_mem_nil, or_false] at hx ⊢; rcases hx with rfl | rfl | rfl | rfl | rfl | rfl <;> simp) 
end Ent
def spPlaces : Sp := fun vs H Q _ => ∃ (a : Addr) (e : Ent), vs = [.ref a] ∧ H a = some (.tup e.vals) ∧ ∀ (tp : Addr) (H' : Hp), Same H H' → H' tp = some (.tup (e.places.map V.str)) → Q (.ref tp) H'
def spGood : Sp := fun vs H Q _ => ∃ (a : Addr) (e : Ent), vs = [.ref a] ∧ H a = some (.tup e.vals) ∧ Q e.goodV H
def spIsEntry (T1 T2 : Addr) : Sp := fun vs H Q _ => ∃ (a : Addr) (e : Ent), vs = [.ref a] ∧ H a = some (.tup e.vals) ∧ e.Fine ∧ GxR.TabG H T1 ∧ GxR.TabG H T2 ∧ ∀ H', TB2 T1 T2 H H' → Q (.bl true) H'
section
variable {P : Program} {w : World} {K : PySem.W.Frag} {mg : Str → Option Value} {base : Heap}
theorem scWhole : FnScope ["thing"] ["thing"] (defScope sWhole) := ⟨rfl, rfl, rfl, by decide +kernel, rfl, by decide +kernel, by decide +kernel⟩
theorem scFits : FnScope ["part", "sort", "low", "high"] ["part", "sort"] (defScope sFits) := ⟨rfl, rfl, rfl, by decide +kernel, rfl, by decide +kernel, by decide +kernel⟩
theorem scGood : FnScope ["entry"] ["entry"] (defScope sGood) := ⟨rfl, rfl, rfl, by decide +kernel, rfl, by decide +kernel, by decide +kernel⟩
theorem scPlacesOf : FnScope ["entry", "word"] ["entry"] (defScope sPlacesOf) := ⟨rfl, rfl, rfl, by decide +kernel, rfl, by decide +kernel, by decide +kernel⟩
theorem at0 (e : Ent) : atI e.vals 0 = some (.str e.word) := atI_nat (j := 0) rfl
theorem at2 (e : Ent) : atI e.vals 2 = some (.int e.moment) := atI_nat (j := 2) rfl
theorem ok_whole {f : Addr} {fd : FuncData} (F : Fun K "is_whole" "is_whole" sWhole f fd) (mi : mg "isinstance" = none) (m1 : mg "int" = none) (m2 : mg "bool" = none) : FnOk P w K mg base CX0 1 f fd ["thing"] spWhole := by
  refine F.ok scWhole (fun vs H Q E h => ?_) (fun cdv A outer s H vs Q E hr h => ?_)
  · obtain ⟨v, rfl, _⟩ := h
    rfl
  · obtain ⟨v, rfl, pt, q⟩ := h
    refine ⟨_, pss_one (ps_ret (pe_and (pe_callB call_isi (by rfl) mi (by decide +kernel) (pa_cons (pv 0) (pa_cons (pe_bltn (v := .ty "int") (u := .type "int") (by rfl) m1 (by decide +kernel) rfl) pa_nil)))
      (pe_one (pe_not (pe_callB call_isi (by rfl) mi (by decide +kernel) (pa_cons (pv 0) (pa_cons (pe_bltn (v := .ty "bool") (u := .type "bool") (by rfl) m2 (by decide +kernel) rfl) pa_nil))))))), ?_⟩
    rcases pt with ⟨z, rfl, _⟩ | ⟨i, rfl⟩
    · exact ⟨_, rfl, _, _, _, _, false, rfl, .ty "int", .base (.str z), kit_ty (by decide +kernel), _, rfl, iteF q⟩
    · exact ⟨_, rfl, _, _, _, _, true, rfl, .ty "int", .base (.int i), kit_ty (by decide +kernel), _, rfl, iteT ⟨_, rfl, _, _, _, _, false, rfl, .ty "bool", .base (.int i), kit_ty (by decide +kernel), _, rfl, q⟩⟩
theorem at3 {e : Ent} (h : e.goodV ≠ .non) : atI e.vals 3 = some e.goodV := by
  cases e <;> first | exact atI_nat (j := 3) rfl | exact absurd rfl h
theorem sw_word (e : Ent) : e.word = "swap" ↔ e.goodV = .non := by
  have k1 : ("come" : Str) ≠ "swap" := by decide +kernel
  have k2 : ("go" : Str) ≠ "swap" := by decide +kernel
  have k3 : ("move" : Str) ≠ "swap" := by decide +kernel
  have k4 : ("some" : Str) ≠ "swap" := by decide +kernel
  have k6 : ("count" : Str) ≠ "swap" := by decide +kernel
  have k7 : ("look" : Str) ≠ "swap" := by decide +kernel
  cases e
  · exact ⟨fun h => absurd h k1, fun h => nomatch h⟩
  · exact ⟨fun h => absurd h k2, fun h => nomatch h⟩
  · exact ⟨fun h => absurd h k3, fun h => nomatch h⟩
  · exact ⟨fun h => absurd h k4, fun h => nomatch h⟩
  · exact ⟨fun _ => rfl, fun _ => rfl⟩
  · exact ⟨fun h => absurd h k6, fun h => nomatch h⟩
  · exact ⟨fun h => absurd h k7, fun h => nomatch h⟩
theorem ok_good {f : Addr} {fd : FuncData} (F : Fun K "good_of" "good_of" sGood f fd) : FnOk P w K mg base CX0 1 f fd ["entry"] spGood := by
  refine F.ok scGood (fun vs H Q E h => ?_) (fun cdv A outer s H vs Q E hr h => ?_)
  · obtain ⟨a, e, rfl, _⟩ := h
    rfl
  · obtain ⟨a, e, rfl, ha, q⟩ := h
    refine ⟨_, pss_cons (ps_if (pt_cmpR op_eq (pe_ix ix_tup (pv 0) pe_int (fun _ _ => rfl)) pe_str (nomark _)) (pss_one (ps_ret pe_non)) pss_nil) (pss_one (ps_ret (pe_ix ix_tup (pv 0) pe_int (fun _ _ => rfl)))), ?_⟩
    refine ⟨_, rfl, a, _, 0, _, rfl, rfl, SqT.of ha, at0 e, rfl, _, rfl, ite2 (fun z => ?_) (fun z => ?_)⟩
    · have z' : e.word = "swap" := V.str.inj (of_decide_eq_true z)
      rw [(sw_word e).mp z'] at q
      exact q
    · have z' : e.goodV ≠ .non := fun h => z (decide_eq_true (congrArg V.str ((sw_word e).mpr h)))
      exact ⟨_, rfl, a, _, 3, _, rfl, rfl, SqT.of ha, at3 z', q⟩
theorem ok_fits {f fN fW aB T1 : Addr} {fd dN dW : FuncData} (F : Fun K "fits" "fits" sFits f fd) (N : DefT P w K mg base "is_name" 1 fN dN ["thing"] (spName K T1)) (W : DefT P w K mg base "is_whole" 1 fW dW ["thing"] spWhole)
    (mB : mg "BOUNDS" = some (.ref aB)) (hB : ∀ x ∈ sorts4, ∃ aT, KDct K w aB x (.ref aT) ∧ ∀ H, SqT K H aT [.int (bnd x).1, .int (bnd x).2]) : FnOk P w K mg base CX0 2 f fd ["part", "sort"] (spFits T1) := by
  refine F.ok scFits (fun vs H Q E h => ?_) (fun cdv A outer s H vs Q E hr h => ?_)
  · obtain ⟨v, x, rfl, _⟩ := h
    rfl
  · obtain ⟨v, x, rfl, pt, hx, tg, q⟩ := h
    have nd := scFits.nd
    refine ⟨_, pss_cons (ps_if (pt_cmpR op_eq (pv 1) pe_str (nomark _)) (pss_one (ps_ret (pe_call N.ok hr (by rfl) N.g N.kp N.b .nil pass0 (pa_cons (pv 0) pa_nil)))) pss_nil)
      (pss_cons (ps_if (pt_cmpR op_eq (pv 1) pe_str (nomark _)) (pss_one (ps_ret (pe_or (pe_cmpR op_eq (pv 0) pe_str (nomark _)) (pe_one (pe_call N.ok hr (by rfl) N.g N.kp N.b .nil pass0 (pa_cons (pv 0) pa_nil)))))) pss_nil)
      (pss_cons (ps_asg (pe_ix ix_kdict (pe_glob (v := .ref aB) rfl mB rfl) (pv 1) (fun _ _ => rfl)) (pg_tup (by rfl) (pgs_cons (pg_name (i := 2) nd rfl (Or.inl rfl)) (pgs_cons (pg_name (i := 3) nd rfl (Or.inl rfl)) pgs_nil))))
      (pss_one (ps_ret (pe_and (pe_call W.ok hr (by rfl) W.g W.kp W.b .nil pass0 (pa_cons (pv 0) pa_nil)) (pe_one (pe_chain op_le op_le (pv 2) (pv 0) (pv 3)))))))), ?_⟩
    have same0 : GxR.Tabbed T1 H H := ⟨tg, fun _ _ => rfl⟩
    -- is_name of the part
    have nm : ∀ (Q1 : VK), (∀ H2, GxR.Tabbed T1 H H2 → Q1 (.bl (nmV v)) H2) → spName K T1 ([v] ++ []) H Q1 E0 := fun Q1 h1 => by
      rcases pt with ⟨z, rfl, lz⟩ | ⟨i, rfl⟩
      · exact ⟨_, rfl, tg, .inl ⟨z, rfl, small_sz lz, h1⟩⟩
      · exact ⟨_, rfl, tg, .inr ⟨"int", .base (.int i), by decide +kernel, h1 H same0⟩⟩
    refine ⟨_, rfl, rfl, _, rfl, ite2 (fun e => ?_) (fun e => ?_)⟩
    · have e' : x = "name" := V.str.inj (of_decide_eq_true e)
      refine ⟨_, rfl, nm _ fun H2 tb => ?_⟩
      have z := q H2 tb
      unfold fitB at z
      rw [if_pos e'] at z
      exact z
    · have e1 : ¬ x = "name" := fun h => e (decide_eq_true (congrArg V.str h))
      refine ⟨_, rfl, rfl, _, rfl, ite2 (fun e => ?_) (fun e => ?_)⟩
      · have e' : x = "end" := V.str.inj (of_decide_eq_true e)
        have fe : fitB v x = (decide (v = .str "") || nmV v) := by
          unfold fitB
          rw [if_neg e1, if_pos e']
        have fl : scal v (V.str "") = true := by
          rcases pt with ⟨z, rfl, _⟩ | ⟨i, rfl⟩ <;> rfl
        rw [fe] at q
        refine ⟨_, rfl, fl, decide (v = .str ""), rfl, ?_⟩
        cases hd : decide (v = V.str "") with
        | true =>
          rw [hd] at q
          exact iteT (q H same0)
        | false =>
          rw [hd] at q
          exact iteF ⟨_, rfl, nm _ fun H2 tb => q H2 tb⟩
      · have e2 : ¬ x = "end" := fun h => e (decide_eq_true (congrArg V.str h))
        have x4 : x ∈ sorts4 := by
          simp only [sorts6, sorts4, List.mem_cons, List.not_mem_nil, or_false] at hx ⊢
          rcases hx with h | h | h | h | h | h
          · exact absurd h e1
          · exact absurd h e2
          · exact .inl h
          · exact .inr (.inl h)
          · exact .inr (.inr (.inl h))
          · exact .inr (.inr (.inr h))
        obtain ⟨aT, kd, sq⟩ := hB x x4
        have fe : fitB v x = inB x v := by
          unfold fitB
          rw [if_neg e1, if_neg e2]
        rw [fe] at q
        have q0 := q H same0
        refine ⟨_, rfl, aB, x, _, rfl, rfl, kd, aT, _, rfl, sq H, rfl, _, _, rfl, _, _, rfl, rfl, _, rfl, v, rfl, pt, ?_⟩
        rcases pt with ⟨z, rfl, lz⟩ | ⟨i, rfl⟩
        · exact ⟨_, rfl, iteF q0⟩
        · refine ⟨_, rfl, iteT ⟨_, rfl, _, rfl, (bnd x).1, i, rfl, rfl, _, rfl, ite2 (fun a1 => ?_) (fun a1 => ?_)⟩⟩
          · refine ⟨_, rfl, i, (bnd x).2, rfl, rfl, ?_⟩
            have z : inB x (.int i) = decide (i ≤ (bnd x).2) := by
              show (decide ((bnd x).1 ≤ i) && decide (i ≤ (bnd x).2)) = _
              rw [a1, Bool.true_and]
            rw [z] at q0
            exact q0
          · have z : inB x (.int i) = false := by
              show (decide ((bnd x).1 ≤ i) && decide (i ≤ (bnd x).2)) = _
              rw [Bool.eq_false_iff.mpr a1, Bool.false_and]
            rw [z] at q0
            exact q0
end
/-! ### places_of, is_entry -/
theorem cut_mid {xs : List V} {i j : Nat} (h : j ≤ xs.length) (hi : i ≤ j) : cutV xs (some (i : Int)) (some (j : Int)) = (xs.drop i).take (j - i) := by
  unfold cutV
  rw [HT.sIx_nat, HT.sIx_nat, Nat.min_eq_left h, Nat.min_eq_left (Nat.le_trans hi h)]
theorem no_whole {n i j : Nat} (h : i ≤ n) (hi : 0 < i) : ¬ (HT.sIx n 0 (some (i : Int)) = 0 ∧ HT.sIx n n (some (j : Int)) = n) := by
  rw [HT.sIx_nat, Nat.min_eq_left h]
  omega
section
variable {P : Program} {w : World} {K : PySem.W.Frag} {mg : Str → Option Value} {base : Heap}
theorem bl_of {a b : Str} {k : Bool} (h : decide (V.str a = V.str b) = k) : V.bl (decide (V.str a = V.str b)) = V.bl k := congrArg V.bl h
theorem ok_placesOf {f : Addr} {fd : FuncData} (F : Fun K "places_of" "places_of" sPlacesOf f fd) : FnOk P w K mg base CX0 1 f fd ["entry"] spPlaces := by
  refine F.ok scPlacesOf (fun vs H Q E h => ?_) (fun cdv A outer s H vs Q E hr h => ?_)
  · obtain ⟨a, e, rfl, _⟩ := h
    rfl
  · obtain ⟨a, e, rfl, ha, q⟩ := h
    have nd := scPlacesOf.nd
    refine ⟨_, pss_cons (ps_set (i := 1) nd rfl (Or.inl rfl) (pe_ix ix_tup (pv 0) pe_int (fun _ _ => rfl)))
      (pss_cons (ps_if (pt_cmpR op_eq (pv 1) pe_str (nomark _)) (pss_one (ps_ret (pe_slice sl_tup (pv 0) (po_some pe_int) (po_some pe_int)))) pss_nil)
      (pss_cons (ps_if (PW.pt (pw_or (pt_cmpR op_eq (pv 1) pe_str (nomark _)) (pw_or1 (PW.pt (pw_and (pt_cmpR op_eq (pv 1) pe_str (nomark _)) (pw_and1 (pt_cmpR op_ne (pe_ix ix_tup (pv 0) pe_int (fun _ _ => rfl)) pe_str (nomark _)))))))) (pss_one (ps_ret (pe_slice sl_tup (pv 0) (po_some pe_int) (po_some pe_int)))) pss_nil)
      (pss_one (ps_ret (pe_slice sl_tup (pv 0) (po_some pe_int) (po_some pe_int)))))), ?_⟩
    refine ⟨_, rfl, a, _, 0, _, rfl, rfl, SqT.of ha, at0 e, ?_⟩
    have c1 : decide (V.str "come" = V.str "swap") = false := by decide +kernel
    have c2 : decide (V.str "go" = V.str "swap") = false := by decide +kernel
    have c3 : decide (V.str "move" = V.str "swap") = false := by decide +kernel
    have c4 : decide (V.str "some" = V.str "swap") = false := by decide +kernel
    have c6 : decide (V.str "count" = V.str "swap") = false := by decide +kernel
    have c7 : decide (V.str "look" = V.str "swap") = false := by decide +kernel
    have m1 : decide (V.str "come" = V.str "move") = false := by decide +kernel
    have m2 : decide (V.str "go" = V.str "move") = false := by decide +kernel
    have m4 : decide (V.str "some" = V.str "move") = false := by decide +kernel
    have m6 : decide (V.str "count" = V.str "move") = false := by decide +kernel
    have m7 : decide (V.str "look" = V.str "move") = false := by decide +kernel
    have s1 : decide (V.str "come" = V.str "some") = false := by decide +kernel
    have s2 : decide (V.str "go" = V.str "some") = false := by decide +kernel
    have s6 : decide (V.str "count" = V.str "some") = false := by decide +kernel
    have s7 : decide (V.str "look" = V.str "some") = false := by decide +kernel
    cases e with
    | come nme mo g pl many price =>
      refine ⟨_, rfl, rfl, false, bl_of c1, iteF ⟨_, rfl, rfl, false, bl_of m1, iteF ⟨_, rfl, rfl, false, bl_of s1, iteF ?_⟩⟩⟩
      exact ⟨_, rfl, 4, rfl, 5, rfl, a, _, rfl, SqT.of ha, no_whole (i := 4) (j := 5) (by show 4 ≤ 7; decide) (by decide), fun p np => q p _ (same_new np) (by rw [upd_same]; rfl)⟩
    | go nme mo g pl many =>
      refine ⟨_, rfl, rfl, false, bl_of c2, iteF ⟨_, rfl, rfl, false, bl_of m2, iteF ⟨_, rfl, rfl, false, bl_of s2, iteF ?_⟩⟩⟩
      exact ⟨_, rfl, 4, rfl, 5, rfl, a, _, rfl, SqT.of ha, no_whole (i := 4) (j := 5) (by show 4 ≤ 6; decide) (by decide), fun p np => q p _ (same_new np) (by rw [upd_same]; rfl)⟩
    | move nme mo g one other many =>
      refine ⟨_, rfl, rfl, false, bl_of c3, iteF ⟨_, rfl, rfl, true, bl_of (decide_eq_true rfl), iteT ?_⟩⟩
      exact ⟨_, rfl, 4, rfl, 6, rfl, a, _, rfl, SqT.of ha, no_whole (i := 4) (j := 6) (by show 4 ≤ 7; decide) (by decide), fun p np => q p _ (same_new np) (by rw [upd_same]; rfl)⟩
    | some_ nme mo g one other =>
      refine ⟨_, rfl, rfl, false, bl_of c4, iteF ⟨_, rfl, rfl, false, bl_of m4, iteF ⟨_, rfl, rfl, true, bl_of (decide_eq_true rfl), iteT ?_⟩⟩⟩
      refine ⟨_, rfl, a, _, 5, .str other, rfl, rfl, SqT.of ha, atI_nat (j := 5) rfl, rfl, !decide (V.str other = V.str ""), rfl, ?_⟩
      by_cases z : other = ""
      · rw [decide_eq_true (congrArg V.str z)]
        refine iteF ⟨_, rfl, 4, rfl, 5, rfl, a, _, rfl, SqT.of ha, no_whole (i := 4) (j := 5) (by show 4 ≤ 6; decide) (by decide), fun p np => q p _ (same_new np) ?_⟩
        rw [upd_same]
        show some (HO.tup [V.str one]) = some (HO.tup ((if other = "" then [one] else [one, other]).map V.str))
        rw [if_pos z]
        rfl
      · rw [decide_eq_false fun h => z (V.str.inj h)]
        refine iteT ⟨_, rfl, 4, rfl, 6, rfl, a, _, rfl, SqT.of ha, no_whole (i := 4) (j := 6) (by show 4 ≤ 6; decide) (by decide), fun p np => q p _ (same_new np) ?_⟩
        rw [upd_same]
        show some (HO.tup [V.str one, V.str other]) = some (HO.tup ((if other = "" then [one] else [one, other]).map V.str))
        rw [if_neg z]
        rfl
    | swap nme mo one other =>
      refine ⟨_, rfl, rfl, true, bl_of (decide_eq_true rfl), iteT ?_⟩
      exact ⟨_, rfl, 3, rfl, 5, rfl, a, _, rfl, SqT.of ha, no_whole (i := 3) (j := 5) (by show 3 ≤ 5; decide) (by decide), fun p np => q p _ (same_new np) (by rw [upd_same]; rfl)⟩
    | count nme mo g pl many hand =>
      refine ⟨_, rfl, rfl, false, bl_of c6, iteF ⟨_, rfl, rfl, false, bl_of m6, iteF ⟨_, rfl, rfl, false, bl_of s6, iteF ?_⟩⟩⟩
      exact ⟨_, rfl, 4, rfl, 5, rfl, a, _, rfl, SqT.of ha, no_whole (i := 4) (j := 5) (by show 4 ≤ 7; decide) (by decide), fun p np => q p _ (same_new np) (by rw [upd_same]; rfl)⟩
    | look nme mo g pl =>
      refine ⟨_, rfl, rfl, false, bl_of c7, iteF ⟨_, rfl, rfl, false, bl_of m7, iteF ⟨_, rfl, rfl, false, bl_of s7, iteF ?_⟩⟩⟩
      exact ⟨_, rfl, 4, rfl, 5, rfl, a, _, rfl, SqT.of ha, no_whole (i := 4) (j := 5) (by show 4 ≤ 5; decide) (by decide), fun p np => q p _ (same_new np) (by rw [upd_same]; rfl)⟩
theorem once_nodup : ∀ {xs : List Str}, xs.Nodup → once xs = xs := by
  intro xs
  have key : ∀ (l acc : List Str), (acc ++ l).Nodup → l.foldl (fun acc x => if acc.contains x = true then acc else acc ++ [x]) acc = acc ++ l := by
    intro l
    induction l with
    | nil => intro acc _; rw [List.append_nil]; rfl
    | cons x r ih =>
      intro acc h
      have nx : ¬ acc.contains x = true := fun z => by
        have hx : x ∈ acc := by simpa using z
        rw [List.nodup_append] at h
        exact h.2.2 x hx x List.mem_cons_self rfl
      rw [List.foldl_cons, if_neg nx]
      have e : acc ++ x :: r = (acc ++ [x]) ++ r := by rw [List.append_assoc]; rfl
      rw [e] at h ⊢
      exact ih _ h
  intro h
  exact key xs [] h
abbrev isN : List Str := ["thing", "sorts", "places", "part", "sort"]
theorem scIs : FnScope isN ["thing"] (defScope sIsEntry) := ⟨rfl, rfl, rfl, by decide +kernel, rfl, by decide +kernel, by decide +kernel⟩
theorem vals_cut (e : Ent) : cutV e.vals (some 1) none = e.parts := by
  have h : cutV e.vals (some ((1 : Nat) : Int)) none = e.parts := by
    unfold cutV
    rw [HT.sIx_nat, HT.sIx_none]
    have l : 1 ≤ e.vals.length := by show 1 ≤ _ + 1; omega
    rw [Nat.min_eq_left l]
    show (e.parts).take (e.parts.length + 1 - 1) = e.parts
    rw [Nat.add_sub_cancel]
    exact List.take_length
  exact h
theorem places_le (e : Ent) : e.places.length ≤ 2 := by
  cases e with
  | some_ n m g o t =>
    by_cases z : t = ""
    · rw [show Ent.places (.some_ n m g o t) = [o] from if_pos z]
      exact Nat.le_succ 1
    · rw [show Ent.places (.some_ n m g o t) = [o, t] from if_neg z]
      exact Nat.le_refl 2
  | move _ _ _ _ _ _ => exact Nat.le_refl 2
  | swap _ _ _ _ => exact Nat.le_refl 2
  | come _ _ _ _ _ _ => exact Nat.le_succ 1
  | go _ _ _ _ _ => exact Nat.le_succ 1
  | count _ _ _ _ _ _ => exact Nat.le_succ 1
  | look _ _ _ _ => exact Nat.le_succ 1
theorem ok_isEntry {f cE T1 T2 aF fF fP : Addr} {dF dP : FuncData} {oc kV doc pm ct : Value} {od an : Option Addr} {osl : Array (Option Value)} {es : Array DictEntry} {nE : Nat}
    (lk : K.lookup f = some ⟨oc, od, .func (PySem.W.fnOf "is_entry" "is_entry" (defArgs sIsEntry) (defBody sIsEntry) (defScope sIsEntry) .none kV doc pm an (.ref cE) ct), osl⟩) (cdI : PySem.W.codeIn K (.ref cE) "is_entry" = true)
    (TB : GxR.TabB base mg cE T2) (ne : T1 ≠ T2) (FI : DefT P w K mg base "fits" 2 fF dF ["part", "sort"] (spFits T1)) (PO : DefT P w K mg base "places_of" 1 fP dP ["entry"] spPlaces)
    (mi : mg "isinstance" = none) (mt : mg "tuple" = none) (ml : mg "len" = none) (mst : mg "str" = none) (ma : mg "all" = none) (mz : mg "zip" = none) (ms : mg "set" = none) (mF : mg "FORMS" = some (.ref aF)) (D : KDict K w aF es nE)
    (hF : ∀ e : Ent, ∃ aS, KDct K w aF e.word (.ref aS) ∧ ∀ H, SqT K H aS (e.sorts.map V.str)) :
    FnOk P w K mg base CX0 4 f (PySem.W.fnOf "is_entry" "is_entry" (defArgs sIsEntry) (defBody sIsEntry) (defScope sIsEntry) .none kV doc pm an (.ref cE) ct) ["thing"] (spIsEntry T1 T2) := by
  refine fn_of lk cdI scIs (fun vs H Q E h => ?_) (fun A outer s H vs Q E hr h => ?_)
  · obtain ⟨a, e, rfl, _⟩ := h
    rfl
  · obtain ⟨a, e, rfl, ha, fine, t1, t2, q⟩ := h
    have nd := scIs.nd
    have hr1 : Room 1 _ := hr.mono (by decide)
    refine ⟨_, pss_cons (ps_if (PW.pt (pw_or (pt_not (pt_val (pe_callB call_isi (by rfl) mi (by decide +kernel) (pa_cons (pv 0) (pa_cons (pe_bltn (v := .ty "tuple") (u := .type "tuple") (by rfl) mt (by decide +kernel) rfl) pa_nil)))))
          (pw_or1 (pt_cmpR op_eq (pe_callB call_len_seq (by rfl) ml PySem.boot_len (pa_cons (pv 0) pa_nil)) pe_int (nomark _))))) (pss_one (ps_ret pe_bl)) pss_nil)
      (pss_cons (ps_if (PW.pt (pw_or (pt_not (pt_val (pe_callB call_isi (by rfl) mi (by decide +kernel) (pa_cons (pe_ix ix_tup (pv 0) pe_int (fun _ _ => rfl)) (pa_cons (pe_bltn (v := .ty "str") (u := .type "str") (by rfl) mst (by decide +kernel) rfl) pa_nil)))))
          (pw_or1 (pt_cmpR (op_notIn_kd D) (pe_ix ix_tup (pv 0) pe_int (fun _ _ => rfl)) (pe_glob (v := .ref aF) rfl mF rfl) (by rfl))))) (pss_one (ps_ret pe_bl)) pss_nil)
      (pss_cons (ps_set (i := 1) nd rfl (Or.inl rfl) (pe_ix ix_kdict (pe_glob (v := .ref aF) rfl mF rfl) (pe_ix ix_tup (pv 0) pe_int (fun _ _ => rfl)) (fun _ _ => rfl)))
      (pss_cons (ps_if (pt_cmpR op_ne (pe_callB call_len_seq (by rfl) ml PySem.boot_len (pa_cons (pv 0) pa_nil)) (pe_op op_add (pe_callB call_len_seq (by rfl) ml PySem.boot_len (pa_cons (pv 1) pa_nil)) pe_int) (nomark _)) (pss_one (ps_ret pe_bl)) pss_nil)
      (pss_cons (ps_if (pt_not (pt_val (pe_allG (T := T2) (c := cE) (k := 2) (own := [("part", 3), ("sort", 4)]) (g := gTup K 2 (gCons (gName 3) (gCons (gName 4) gNil))) (tt := tYes) (te := tCall (spFits T1) [] E0 (tCons (tVar 3) (tCons (tVar 4) tNil)))
          hr (by rfl) ma rfl nd TB rfl ⟨blkOk_by (N := isN) (sc := defScope sIsEntry) (by decide +kernel), rfl, by decide +kernel, rfl⟩
          (RZ.pi_zipA (by rfl) mz (pa_cons (pe_slice sl_tup (pv 0) (po_some pe_int) po_none) (pa_cons (pv 1) pa_nil)))
          (fun _ _ _ _ _ _ => pg_tup (by rfl) (pgs_cons (pg_name (i := 3) nd rfl (Or.inl rfl)) (pgs_cons (pg_name (i := 4) nd rfl (Or.inl rfl)) pgs_nil)))
          (fun _ _ _ _ _ _ _ => pts_nil) (fun _ _ _ _ _ _ hr' => pe_call FI.ok hr' (by rfl) FI.g FI.kp FI.b .nil pass0 (pa_cons (pv 3) (pa_cons (pv 4) pa_nil)))))) (pss_one (ps_ret pe_bl)) pss_nil)
      (pss_cons (ps_set (i := 2) nd rfl (Or.inl rfl) (pe_call PO.ok hr1 (by rfl) PO.g PO.kp PO.b .nil pass0 (pa_cons (pv 0) pa_nil)))
      (pss_one (ps_ret (pe_cmpR op_eq (pe_lenSetX rfl (by rfl) ml (by rfl) ms (pv 2)) (pe_callB call_len_seq (by rfl) ml PySem.boot_len (pa_cons (pv 2) pa_nil)) (nomark _))))))))), ?_⟩
    obtain ⟨aS, kd, sq⟩ := hF e
    -- a tuple, not empty
    refine ⟨_, rfl, _, _, _, _, true, rfl, .ty "tuple", .base (.tup ha), kit_ty (by decide +kernel), _, rfl, iteF ?_⟩
    refine ⟨_, rfl, a, _, rfl, .inr (SqT.of ha), rfl, false, congrArg V.bl (decide_eq_false fun z => ?_), iteF ?_⟩
    · have z' : ((e.vals.length : Nat) : Int) = 0 := V.int.inj z
      have : e.vals.length = e.parts.length + 1 := rfl
      omega
    -- a word of the forms
    refine ⟨_, rfl, a, _, 0, _, rfl, rfl, SqT.of ha, at0 e, _, _, _, _, true, rfl, .ty "str", .base (.str e.word), kit_ty (by decide +kernel), _, rfl, iteF ?_⟩
    obtain ⟨es', n', u, hl, hlit, hns, ru⟩ := id kd
    refine ⟨_, rfl, a, _, 0, _, rfl, rfl, SqT.of ha, at0 e, e.word, some u, rfl, rfl, hns, _, rfl, iteF ?_⟩
    -- the sorts
    refine ⟨_, rfl, a, _, 0, _, rfl, rfl, SqT.of ha, at0 e, aF, e.word, _, rfl, rfl, kd, ?_⟩
    refine ⟨_, rfl, a, _, rfl, .inr (SqT.of ha), _, rfl, aS, _, rfl, .inr (sq H), _, 1, rfl, rfl, rfl, false, ?_, iteF ?_⟩
    · refine congrArg V.bl ?_
      have l1 : (e.vals.length : Int) = ((e.sorts.map V.str).length : Int) + 1 := by
        have : e.vals.length = e.parts.length + 1 := rfl
        rw [this, e.len_parts, List.length_map]
        rfl
      rw [l1, decide_eq_true rfl]
      rfl
    -- all fit
    refine ⟨_, rfl, 1, rfl, a, _, rfl, SqT.of ha, ?_, fun pp npp => ?_⟩
    · rintro ⟨z, _⟩
      rw [show HT.sIx e.vals.length 0 (some 1) = min 1 e.vals.length from HT.sIx_nat _ _ 1] at z
      have : e.vals.length = e.parts.length + 1 := rfl
      omega
    have sp := @same_new _ _ (.tup (cutV e.vals (some 1) none)) npp
    refine ⟨_, rfl, pp, aS, cutV e.vals (some 1) none, e.sorts.map V.str, rfl, .inr ⟨SqT.of upd_same, sq _, tabg_same sp t2, fun H2 tb2 => ?_⟩⟩
    have hpp : (upd H pp (.tup (cutV e.vals (some 1) none))) pp = some (.tup e.parts) := by rw [upd_same, vals_cut]
    have b0 : TB2 T1 T2 H H2 := (TB2.same t1 t2 sp).tr (.two ne (tabg_same sp t1) tb2)
    have b1 : TB2 T1 T2 (upd H pp (.tup (cutV e.vals (some 1) none))) H2 := .two ne (tabg_same sp t1) tb2
    have hp2 : H2 pp = some (.tup e.parts) := b1.keep (tabg_same sp t1) (tabg_same sp t2) hpp (by intro ps z; cases z)
    refine ⟨fun i m H' => m = e.parts.length - i ∧ i ≤ e.parts.length ∧ H' pp = some (.tup e.parts) ∧ TB2 T1 T2 H H', ⟨_, rfl, Nat.zero_le _, hp2, b0⟩, ?_⟩
    rintro i m H3 ⟨rfl, hi, hp3, b3⟩
    by_cases lt : i < e.parts.length
    · refine .inr ⟨⟨e.parts, e.sorts.map V.str, e.parts[i], .str (e.sorts[i]'(by rw [← e.len_parts]; exact lt)), SqT.of hp3, sq _, List.getElem?_eq_getElem lt, ?_⟩, fun v H4 y => ?_⟩
      · rw [List.getElem?_map, List.getElem?_eq_getElem (by rw [← e.len_parts]; exact lt)]
        rfl
      · obtain ⟨TT, x', y', rfl, nT, rfl, f1, f2⟩ := y
        have g1 := f1 e.parts (SqT.of hp3)
        have g2 := f2 (e.sorts.map V.str) (sq _)
        rw [List.getElem?_map] at g2
        obtain ⟨srt, hsrt, rfl⟩ := Option.map_eq_some_iff.mp g2
        obtain ⟨prt, fit⟩ := fine.fit i x' srt g1 hsrt
        have s4 := @same_new _ _ (.tup [x', V.str srt]) nT
        have b4 : TB2 T1 T2 H (upd H3 TT (.tup [x', V.str srt])) := b3.tr (.same b3.2.1 b3.2.2 s4)
        refine ⟨TT, _, rfl, SqT.of upd_same, rfl, _, _, rfl, _, _, rfl, rfl, rfl, yesT ?_⟩
        refine ⟨_, rfl, _, rfl, x', srt, rfl, prt, e.sorts_in srt (List.mem_of_getElem? hsrt), b4.2.1, fun H5 tb5 => ?_⟩
        have b5 : TB2 T1 T2 H H5 := b4.tr (.one ne b4.2.2 tb5)
        have b45 : TB2 T1 T2 (upd H3 TT (.tup [x', V.str srt])) H5 := .one ne b4.2.2 tb5
        rw [fit]
        exact ⟨true, rfl, iteT ⟨_, by omega, rfl, lt, b45.keep b4.2.1 b4.2.2 (s4 _ _ hp3) (by intro ps z; cases z), b5⟩⟩
    · have ei : i = e.parts.length := by omega
      refine .inl ⟨⟨e.parts, e.sorts.map V.str, SqT.of hp3, sq _, .inl (by omega)⟩, ?_⟩
      refine ⟨true, rfl, iteF ?_⟩
      -- unlike places
      have ha3 : H3 a = some (.tup e.vals) := b3.keep t1 t2 ha (by intro ps z; cases z)
      refine ⟨_, rfl, a, e, rfl, ha3, fun tp H4 s4 ht => ?_⟩
      refine ⟨_, rfl, tp, e.places, rfl, SqT.of ht, Nat.le_trans (places_le e) (by decide), _, rfl, tp, _, rfl, .inr (SqT.of ht), rfl, ?_⟩
      rw [once_nodup fine.apart, List.length_map, decide_eq_true rfl]
      exact q H4 (b3.tr (.same b3.2.1 b3.2.2 s4))
end
/-! ### what is drawn is fine -/
theorem name_len {y : Str} (h : nameB y = true) : 1 ≤ y.length ∧ y.length ≤ 8 := by
  unfold nameB at h
  rw [Bool.and_eq_true, Bool.and_eq_true, decide_eq_true_eq, decide_eq_true_eq] at h
  exact h.1
theorem name_ne {y : Str} (h : nameB y = true) : y ≠ "" := fun z => by
  have := (name_len h).1
  rw [z] at this
  exact absurd this (by decide +kernel)
theorem kmn : ¬ ("moment" : Str) = "name" := by decide +kernel
theorem kme : ¬ ("moment" : Str) = "end" := by decide +kernel
theorem kyn : ¬ ("many" : Str) = "name" := by decide +kernel
theorem kye : ¬ ("many" : Str) = "end" := by decide +kernel
theorem kym : ¬ ("many" : Str) = "moment" := by decide +kernel
theorem kcn : ¬ ("counted" : Str) = "name" := by decide +kernel
theorem kce : ¬ ("counted" : Str) = "end" := by decide +kernel
theorem kcm : ¬ ("counted" : Str) = "moment" := by decide +kernel
theorem kcy : ¬ ("counted" : Str) = "many" := by decide +kernel
theorem kpn : ¬ ("price" : Str) = "name" := by decide +kernel
theorem kpe : ¬ ("price" : Str) = "end" := by decide +kernel
theorem kpm : ¬ ("price" : Str) = "moment" := by decide +kernel
theorem kpy : ¬ ("price" : Str) = "many" := by decide +kernel
theorem ken : ¬ ("end" : Str) = "name" := by decide +kernel
theorem fit_name {y : Str} (h : nameB y = true) : Part (.str y) ∧ fitB (.str y) "name" = true := by
  refine ⟨.inl ⟨y, rfl, by have := (name_len h).2; omega⟩, ?_⟩
  unfold fitB
  rw [if_pos rfl]
  exact h
theorem fit_end {y : Str} (h : y = "" ∨ nameB y = true) : Part (.str y) ∧ fitB (.str y) "end" = true := by
  have e : fitB (.str y) "end" = (decide (V.str y = .str "") || nameB y) := by
    unfold fitB
    rw [if_neg ken, if_pos rfl]
    rfl
  rcases h with rfl | h
  · exact ⟨.inl ⟨_, rfl, Nat.zero_le _⟩, by rw [e, decide_eq_true rfl]; rfl⟩
  · exact ⟨.inl ⟨y, rfl, by have := (name_len h).2; omega⟩, by rw [e, h, Bool.or_true]⟩
theorem fit_moment {m : Int} (h0 : 0 ≤ m) (h1 : m ≤ 9999) : Part (.int m) ∧ fitB (.int m) "moment" = true := by
  refine ⟨.inr ⟨m, rfl⟩, ?_⟩
  unfold fitB inB bnd
  rw [if_neg kmn, if_neg kme, if_pos rfl]
  simp [h0, h1]
theorem fit_many {m : Int} (h0 : 1 ≤ m) (h1 : m ≤ 1000000000) : Part (.int m) ∧ fitB (.int m) "many" = true := by
  refine ⟨.inr ⟨m, rfl⟩, ?_⟩
  unfold fitB inB bnd
  rw [if_neg kyn, if_neg kye, if_neg kym, if_pos rfl]
  simp [h0, h1]
theorem fit_counted {m : Int} (h0 : 0 ≤ m) (h1 : m ≤ 1000000000) : Part (.int m) ∧ fitB (.int m) "counted" = true := by
  refine ⟨.inr ⟨m, rfl⟩, ?_⟩
  unfold fitB inB bnd
  rw [if_neg kcn, if_neg kce, if_neg kcm, if_neg kcy]
  simp [h0, h1]
theorem fit_price {m : Int} (h0 : 0 ≤ m) (h1 : m ≤ 1000000000) : Part (.int m) ∧ fitB (.int m) "price" = true := by
  refine ⟨.inr ⟨m, rfl⟩, ?_⟩
  unfold fitB inB bnd
  rw [if_neg kpn, if_neg kpe, if_neg kpm, if_neg kpy]
  simp [h0, h1]
theorem nd1 (x : Str) : [x].Nodup := List.nodup_cons.mpr ⟨fun z => (nomatch z), List.nodup_nil⟩
theorem zip_at {α β : Type} {xs : List α} {ys : List β} {i : Nat} {x : α} {y : β} (h1 : xs[i]? = some x) (h2 : ys[i]? = some y) : (x, y) ∈ xs.zip ys :=
  List.mem_of_getElem? (List.getElem?_zip_eq_some.mpr ⟨h1, h2⟩)
theorem fine_of {PL GL HL : List Str} {e : Ent} (h : e.From PL GL HL) (nd : PL.Nodup) (np : ∀ y ∈ PL, nameB y = true) (ng : ∀ y ∈ GL, nameB y = true) (nh : ∀ y ∈ HL, nameB y = true) (nn : nameB e.name = true) (m0 : 0 ≤ e.moment) (m1 : e.moment ≤ 9999) :
    e.Fine ∧ ∀ y ∈ e.places, nameB y = true := by
  have two : ∀ {o t : Str}, o ≠ t → [o, t].Nodup := fun h => List.nodup_cons.mpr ⟨fun z => h (List.mem_singleton.mp z), nd1 _⟩
  cases e with
  | come n m g p k r =>
    obtain ⟨h1, h2, h3, h4, h5, h6⟩ := h
    refine ⟨⟨fun i v x hv hx => ?_, nd1 _⟩, fun y hy => by rw [List.mem_singleton.mp hy]; exact np p h2⟩
    have hz := zip_at hv hx
    simp only [Ent.parts, Ent.sorts, Ent.rest, List.zip_cons_cons, List.zip_nil_left, List.mem_cons, List.not_mem_nil, or_false, Prod.mk.injEq] at hz
    rcases hz with ⟨rfl, rfl⟩ | ⟨rfl, rfl⟩ | ⟨rfl, rfl⟩ | ⟨rfl, rfl⟩ | ⟨rfl, rfl⟩ | ⟨rfl, rfl⟩
    · exact fit_name nn
    · exact fit_moment m0 m1
    · exact fit_name (ng g h1)
    · exact fit_name (np p h2)
    · exact fit_many h3 h4
    · exact fit_price h5 h6
  | go n m g p k =>
    obtain ⟨h1, h2, h3, h4⟩ := h
    refine ⟨⟨fun i v x hv hx => ?_, nd1 _⟩, fun y hy => by rw [List.mem_singleton.mp hy]; exact np p h2⟩
    have hz := zip_at hv hx
    simp only [Ent.parts, Ent.sorts, Ent.rest, List.zip_cons_cons, List.zip_nil_left, List.mem_cons, List.not_mem_nil, or_false, Prod.mk.injEq] at hz
    rcases hz with ⟨rfl, rfl⟩ | ⟨rfl, rfl⟩ | ⟨rfl, rfl⟩ | ⟨rfl, rfl⟩ | ⟨rfl, rfl⟩
    · exact fit_name nn
    · exact fit_moment m0 m1
    · exact fit_name (ng g h1)
    · exact fit_name (np p h2)
    · exact fit_many h3 h4
  | move n m g o t k =>
    obtain ⟨h1, h2, h3, h4, h5, h6⟩ := h
    refine ⟨⟨fun i v x hv hx => ?_, two (h4 nd)⟩, fun y hy => ?_⟩
    · have hz := zip_at hv hx
      simp only [Ent.parts, Ent.sorts, Ent.rest, List.zip_cons_cons, List.zip_nil_left, List.mem_cons, List.not_mem_nil, or_false, Prod.mk.injEq] at hz
      rcases hz with ⟨rfl, rfl⟩ | ⟨rfl, rfl⟩ | ⟨rfl, rfl⟩ | ⟨rfl, rfl⟩ | ⟨rfl, rfl⟩ | ⟨rfl, rfl⟩
      · exact fit_name nn
      · exact fit_moment m0 m1
      · exact fit_name (ng g h1)
      · exact fit_name (np o h2)
      · exact fit_name (np t h3)
      · exact fit_many h5 h6
    · simp only [Ent.places, List.mem_cons, List.not_mem_nil, or_false] at hy
      rcases hy with rfl | rfl
      · exact np _ h2
      · exact np _ h3
  | some_ n m g o t =>
    obtain ⟨h1, h2, h3⟩ := h
    refine ⟨⟨fun i v x hv hx => ?_, ?_⟩, fun y hy => ?_⟩
    · have hz := zip_at hv hx
      simp only [Ent.parts, Ent.sorts, Ent.rest, List.zip_cons_cons, List.zip_nil_left, List.mem_cons, List.not_mem_nil, or_false, Prod.mk.injEq] at hz
      rcases hz with ⟨rfl, rfl⟩ | ⟨rfl, rfl⟩ | ⟨rfl, rfl⟩ | ⟨rfl, rfl⟩ | ⟨rfl, rfl⟩
      · exact fit_name nn
      · exact fit_moment m0 m1
      · exact fit_name (ng g h1)
      · exact fit_name (np o h2)
      · exact fit_end (h3.imp id fun z => np t z.1)
    · show (if t = "" then [o] else [o, t]).Nodup
      by_cases z : t = ""
      · rw [if_pos z]; exact nd1 _
      · rw [if_neg z]; exact two ((h3.resolve_left z).2 nd)
    · have hy' : y ∈ (if t = "" then [o] else [o, t]) := hy
      by_cases z : t = ""
      · rw [if_pos z] at hy'
        rw [List.mem_singleton.mp hy']
        exact np o h2
      · rw [if_neg z] at hy'
        simp only [List.mem_cons, List.not_mem_nil, or_false] at hy'
        rcases hy' with rfl | rfl
        · exact np _ h2
        · exact np _ (h3.resolve_left z).1
  | swap n m o t =>
    obtain ⟨h1, h2, h3⟩ := h
    refine ⟨⟨fun i v x hv hx => ?_, two (h3 nd)⟩, fun y hy => ?_⟩
    · have hz := zip_at hv hx
      simp only [Ent.parts, Ent.sorts, Ent.rest, List.zip_cons_cons, List.zip_nil_left, List.mem_cons, List.not_mem_nil, or_false, Prod.mk.injEq] at hz
      rcases hz with ⟨rfl, rfl⟩ | ⟨rfl, rfl⟩ | ⟨rfl, rfl⟩ | ⟨rfl, rfl⟩
      · exact fit_name nn
      · exact fit_moment m0 m1
      · exact fit_name (np o h1)
      · exact fit_name (np t h2)
    · simp only [Ent.places, List.mem_cons, List.not_mem_nil, or_false] at hy
      rcases hy with rfl | rfl
      · exact np _ h1
      · exact np _ h2
  | count n m g p k hd =>
    obtain ⟨h1, h2, h3, h4, h5⟩ := h
    refine ⟨⟨fun i v x hv hx => ?_, nd1 _⟩, fun y hy => by rw [List.mem_singleton.mp hy]; exact np p h2⟩
    have hz := zip_at hv hx
    simp only [Ent.parts, Ent.sorts, Ent.rest, List.zip_cons_cons, List.zip_nil_left, List.mem_cons, List.not_mem_nil, or_false, Prod.mk.injEq] at hz
    rcases hz with ⟨rfl, rfl⟩ | ⟨rfl, rfl⟩ | ⟨rfl, rfl⟩ | ⟨rfl, rfl⟩ | ⟨rfl, rfl⟩ | ⟨rfl, rfl⟩
    · exact fit_name nn
    · exact fit_moment m0 m1
    · exact fit_name (ng g h1)
    · exact fit_name (np p h2)
    · exact fit_counted h3 h4
    · exact fit_name (nh hd h5)
  | look n m g p =>
    obtain ⟨h1, h2⟩ := h
    refine ⟨⟨fun i v x hv hx => ?_, nd1 _⟩, fun y hy => by rw [List.mem_singleton.mp hy]; exact np p h2⟩
    have hz := zip_at hv hx
    simp only [Ent.parts, Ent.sorts, Ent.rest, List.zip_cons_cons, List.zip_nil_left, List.mem_cons, List.not_mem_nil, or_false, Prod.mk.injEq] at hz
    rcases hz with ⟨rfl, rfl⟩ | ⟨rfl, rfl⟩ | ⟨rfl, rfl⟩ | ⟨rfl, rfl⟩
    · exact fit_name nn
    · exact fit_moment m0 m1
    · exact fit_name (ng g h1)
    · exact fit_name (np p h2)
/-! ### the order of entries, by the law -/
def Ent.rank : Ent → Int
  | .swap .. => 0 | .come .. => 1 | .go .. => 1 | .move .. => 1 | .some_ .. => 1 | .count .. => 2 | .look .. => 2
def ordV (e : Ent) : List V := [.int e.moment, .int e.rank, .str e.name]
def ordD (e : Ent) : PyData := .tuple [.int e.moment, .int e.rank, .str e.name]
theorem ord_dp {K : PySem.W.Frag} {H : Hp} {tp : Addr} {e : Ent} (h : H tp = some (.tup (ordV e))) : Dp K H (.ref tp) (ordD e) := .tup (SqT.of h) (.cons (.int _) (.cons (.int _) (.cons (.str _) .nil)))
theorem ord_alike (e g : Ent) : PySem.W.alike (ordD e) (ordD g) = true := rfl
def spOrd : Sp := fun vs H Q _ => ∃ (a : Addr) (e : Ent), vs = [.ref a] ∧ H a = some (.tup e.vals) ∧ ∀ (tp : Addr) (H' : Hp), Same H H' → H' tp = some (.tup (ordV e)) → Q (.ref tp) H'
def rankW (x : Str) : Int := 1 - (if decide (V.str x = V.str "swap") = true then 1 else 0) + (if inV (V.str x) [V.str "count", V.str "look"] = true then 1 else 0)
theorem rank_own (e : Ent) : rankW e.word = e.rank := by
  have h1 : rankW "come" = 1 := by decide +kernel
  have h2 : rankW "go" = 1 := by decide +kernel
  have h3 : rankW "move" = 1 := by decide +kernel
  have h4 : rankW "some" = 1 := by decide +kernel
  have h5 : rankW "swap" = 0 := by decide +kernel
  have h6 : rankW "count" = 2 := by decide +kernel
  have h7 : rankW "look" = 2 := by decide +kernel
  cases e
  · exact h1
  · exact h2
  · exact h3
  · exact h4
  · exact h5
  · exact h6
  · exact h7
section
variable {P : Program} {w : World} {K : PySem.W.Frag} {mg : Str → Option Value} {base : Heap}
theorem scOwn : FnScope ["_law_entry_here", "_law_rank"] ["_law_entry_here"] (defScope sOwn) := ⟨rfl, rfl, rfl, by decide +kernel, rfl, by decide +kernel, by decide +kernel⟩
theorem at1 (e : Ent) : atI e.vals 1 = some (.str e.name) := atI_nat (j := 1) rfl
theorem ok_own {f : Addr} {fd : FuncData} (F : Fun K "_law_order" "_law_order" sOwn f fd) (mi : mg "int" = none) : FnOk P w K mg base CX0 1 f fd ["_law_entry_here"] spOrd := by
  refine F.ok scOwn (fun vs H Q E h => ?_) (fun cdv A outer s H vs Q E hr h => ?_)
  · obtain ⟨a, e, rfl, _⟩ := h
    rfl
  · obtain ⟨a, e, rfl, ha, q⟩ := h
    refine ⟨_, pss_cons (ps_set (i := 1) scOwn.nd rfl (Or.inl rfl) (pe_op op_add (pe_op op_sub pe_int (pe_callTy call_int1 (by rfl) mi (by decide +kernel) (pa_cons (pe_cmpR op_eq (pe_ix ix_tup (pv 0) pe_int (fun _ _ => rfl)) pe_str (nomark _)) pa_nil)))
        (pe_callTy call_int1 (by rfl) mi (by decide +kernel) (pa_cons (pe_cmpR op_in_seq (pe_ix ix_tup (pv 0) pe_int (fun _ _ => rfl)) (pe_tup (pa_cons pe_str (pa_cons pe_str pa_nil))) (by rfl)) pa_nil))))
      (pss_one (ps_ret (pe_tup (pa_cons (pe_ix ix_tup (pv 0) pe_int (fun _ _ => rfl)) (pa_cons (pv 1) (pa_cons (pe_ix ix_tup (pv 0) pe_int (fun _ _ => rfl)) pa_nil)))))), ?_⟩
    refine ⟨_, rfl, a, _, 0, _, rfl, rfl, SqT.of ha, at0 e, rfl, .inr ⟨_, rfl, 1, _, rfl, rfl, _, rfl, a, _, 0, _, rfl, rfl, SqT.of ha, at0 e, (by show 2 ≤ sizeLine; decide), fun t nt => ?_⟩⟩
    have s1 := @same_new _ _ (.tup [V.str "count", .str "look"]) nt
    refine ⟨t, _, rfl, .inr (SqT.of upd_same), rfl, ?_, .inr ⟨_, rfl, _, _, rfl, rfl, ?_⟩⟩
    · rfl
    · refine ⟨_, rfl, a, _, 2, _, rfl, rfl, SqT.of (s1 _ _ ha), at2 e, _, rfl, _, rfl, a, _, 1, _, rfl, rfl, SqT.of (s1 _ _ ha), at1 e, (by show 3 ≤ sizeLine; decide), fun tp ntp => ?_⟩
      refine q tp _ (s1.trans (same_new ntp)) ?_
      rw [upd_same]
      exact congrArg (fun k => some (HO.tup [V.int e.moment, V.int k, V.str e.name])) (rank_own e)
end
section
variable {P : Program} {w : World} {K : PySem.W.Frag} {mg : Str → Option Value} {base : Heap}
theorem scOrd : FnScope ["entry"] ["entry"] (defScope sOrd) := ⟨rfl, rfl, rfl, by decide +kernel, rfl, by decide +kernel, by decide +kernel⟩
theorem ok_ord {f aR : Addr} {fd : FuncData} (F : Fun K "order_of" "order_of" sOrd f fd) (mR : mg "RANKS" = some (.ref aR)) (hR : ∀ e : Ent, KDct K w aR e.word (.int e.rank)) : FnOk P w K mg base CX0 1 f fd ["entry"] spOrd := by
  refine F.ok scOrd (fun vs H Q E h => ?_) (fun cdv A outer s H vs Q E hr h => ?_)
  · obtain ⟨a, e, rfl, _⟩ := h
    rfl
  · obtain ⟨a, e, rfl, ha, q⟩ := h
    refine ⟨_, pss_one (ps_ret (pe_tup (pa_cons (pe_ix ix_tup (pv 0) pe_int (fun _ _ => rfl)) (pa_cons (pe_ix ix_kdict (pe_glob (v := .ref aR) rfl mR rfl) (pe_ix ix_tup (pv 0) pe_int (fun _ _ => rfl)) (fun _ _ => rfl)) (pa_cons (pe_ix ix_tup (pv 0) pe_int (fun _ _ => rfl)) pa_nil))))), ?_⟩
    refine ⟨_, rfl, a, _, 2, _, rfl, rfl, SqT.of ha, at2 e, _, rfl, a, _, 0, _, rfl, rfl, SqT.of ha, at0 e, aR, e.word, _, rfl, rfl, hR e, _, rfl, a, _, 1, _, rfl, rfl, SqT.of ha, at1 e, (by show 3 ≤ sizeLine; decide), fun tp ntp => ?_⟩
    exact q tp _ (same_new ntp) upd_same
end
/-! ### houses -/
/-- each address holds its entry -/
inductive EntsAt (H : Hp) : List Addr → List Ent → Prop
  | nil : EntsAt H [] []
  | cons {a : Addr} {e : Ent} {as : List Addr} {es : List Ent} : H a = some (.tup e.vals) → EntsAt H as es → EntsAt H (a :: as) (e :: es)
theorem EntsAt.on {H H' : Hp} (k : TK H H') {as : List Addr} {es : List Ent} (h : EntsAt H as es) : EntsAt H' as es := by
  induction h with
  | nil => exact .nil
  | cons a _ ih => exact .cons (k _ _ a) ih
theorem EntsAt.len {H : Hp} {as : List Addr} {es : List Ent} (h : EntsAt H as es) : as.length = es.length := by
  induction h with
  | nil => rfl
  | cons _ _ ih => simp [ih]
theorem EntsAt.snoc {H : Hp} {a : Addr} {e : Ent} {as : List Addr} {es : List Ent} (h : EntsAt H as es) (q : H a = some (.tup e.vals)) : EntsAt H (as ++ [a]) (es ++ [e]) := by
  induction h with
  | nil => exact .cons q .nil
  | cons a _ ih => exact .cons a ih
theorem EntsAt.get {H : Hp} {as : List Addr} {es : List Ent} (h : EntsAt H as es) : ∀ {i : Nat} {a : Addr}, as[i]? = some a → ∃ e, es[i]? = some e ∧ H a = some (.tup e.vals) := by
  induction h with
  | nil => intro i a q; cases q
  | @cons a0 e0 as es q _ ih =>
    intro i a z
    cases i with
    | zero => exact ⟨e0, rfl, by rw [← Option.some.inj z]; exact q⟩
    | succ n => exact ih (i := n) z
structure HouseAt (H : Hp) (h : Addr) (P G : List Str) (es : List Ent) : Prop where
  ex : ∃ (hp hg he : Addr) (tps : List Addr), H h = some (.tup [.ref hp, .ref hg, .ref he]) ∧ H hp = some (.tup (P.map V.str)) ∧ H hg = some (.tup (G.map V.str)) ∧ H he = some (.tup (tps.map V.ref)) ∧ EntsAt H tps es
theorem HouseAt.on {H H' : Hp} (k : TK H H') {h : Addr} {P G : List Str} {es : List Ent} (x : HouseAt H h P G es) : HouseAt H' h P G es := by
  obtain ⟨hp, hg, he, tps, h1, h2, h3, h4, h5⟩ := x.ex
  exact ⟨hp, hg, he, tps, k _ _ h1, k _ _ h2, k _ _ h3, k _ _ h4, h5.on k⟩
/-- what holds of a house that a law makes -/
structure Good (P G : List Str) (es : List Ent) (m : Nat) : Prop where
  nd : P.Nodup
  ne : P ≠ []
  le : P.length ≤ 6
  nm : ∀ y ∈ P, nameB y = true
  ge : G ≠ []
  gl : G.length ≤ 3
  gn : ∀ y ∈ G, nameB y = true
  gd : G.Nodup
  many : es.length = m
  ents : ∀ e ∈ es, nameB e.name = true ∧ 0 ≤ e.moment ∧ e.moment ≤ 9999 ∧ ∃ HL : List Str, (∀ y ∈ HL, nameB y = true) ∧ e.From P G HL
theorem From.perm {e : Ent} {P P' G G' HL : List Str} (h : e.From P G HL) (p : P'.Perm P) (g : G'.Perm G) : e.From P' G' HL := by
  have nd : P'.Nodup → P.Nodup := fun z => p.nodup_iff.mp z
  cases e with
  | come n m gg pl k r => exact ⟨g.mem_iff.mpr h.1, p.mem_iff.mpr h.2.1, h.2.2⟩
  | go n m gg pl k => exact ⟨g.mem_iff.mpr h.1, p.mem_iff.mpr h.2.1, h.2.2⟩
  | move n m gg o t k => exact ⟨g.mem_iff.mpr h.1, p.mem_iff.mpr h.2.1, p.mem_iff.mpr h.2.2.1, fun z => h.2.2.2.1 (nd z), h.2.2.2.2⟩
  | some_ n m gg o t => exact ⟨g.mem_iff.mpr h.1, p.mem_iff.mpr h.2.1, h.2.2.imp id fun z => ⟨p.mem_iff.mpr z.1, fun q => z.2 (nd q)⟩⟩
  | swap n m o t => exact ⟨p.mem_iff.mpr h.1, p.mem_iff.mpr h.2.1, fun z => h.2.2 (nd z)⟩
  | count n m gg pl k hd => exact ⟨g.mem_iff.mpr h.1, p.mem_iff.mpr h.2.1, h.2.2⟩
  | look n m gg pl => exact ⟨g.mem_iff.mpr h.1, p.mem_iff.mpr h.2⟩
/-! the house as data -/
def dV : V → PyData
  | .str x => .str x
  | .int i => .int i
  | _ => .none
def entD (e : Ent) : PyData := .tuple (e.vals.map dV)
def houseD (P G : List Str) (es : List Ent) : PyData := .tuple [.tuple (P.map .str), .tuple (G.map .str), .tuple (es.map entD)]
theorem dp_strs {K : PySem.W.Frag} {H : Hp} : ∀ ys : List Str, DpAll K H (ys.map V.str) (ys.map PyData.str)
  | [] => .nil
  | y :: r => .cons (.str y) (dp_strs r)
theorem dp_ent {K : PySem.W.Frag} {H : Hp} {a : Addr} {e : Ent} (h : H a = some (.tup e.vals)) : Dp K H (.ref a) (entD e) := by
  refine .tup (SqT.of h) ?_
  cases e <;> (repeat' (first | exact .nil | refine .cons (.str _) ?_ | refine .cons (.int _) ?_))
theorem dp_ents {K : PySem.W.Frag} {H : Hp} {as : List Addr} {es : List Ent} (h : EntsAt H as es) : DpAll K H (as.map V.ref) (es.map entD) := by
  induction h with
  | nil => exact .nil
  | cons a _ ih => exact .cons (dp_ent a) ih
theorem HouseAt.dp {K : PySem.W.Frag} {H : Hp} {h : Addr} {P G : List Str} {es : List Ent} (x : HouseAt H h P G es) : Dp K H (.ref h) (houseD P G es) := by
  obtain ⟨hp, hg, he, tps, h1, h2, h3, h4, h5⟩ := x.ex
  exact .tup (SqT.of h1) (.cons (.tup (SqT.of h2) (dp_strs P)) (.cons (.tup (SqT.of h3) (dp_strs G)) (.cons (.tup (SqT.of h4) (dp_ents h5)) .nil)))
/-! its text isn't long -/
structure Short (d : PyData) (n k : Nat) : Prop where
  sh : d.showable = true
  nd : d.hasDict = false
  ls : d.leavesShort 13 = true
  bk : d.bulk ≤ n
  dp : d.depth ≤ k
theorem short_str {y : Str} (h : nameB y = true ∨ y = "" ∨ y ∈ words7) : Short (.str y) 8 0 := by
  have lo : y.cps.toList.all (fun c => decide (c < 16 ^ 8)) = true ∧ y.cps.size ≤ 8 := by
    rcases h with h | rfl | h
    · unfold nameB at h
      rw [Bool.and_eq_true, Bool.and_eq_true] at h
      have l8 : y.length ≤ 8 := of_decide_eq_true h.1.2
      refine ⟨List.all_eq_true.mpr fun c hc => decide_eq_true ?_, l8⟩
      have q : ∀ c ∈ abc.cps.toList, c < 16 ^ 8 := by decide +kernel
      exact q c (of_decide_eq_true (List.all_eq_true.mp h.2 c hc))
    · exact ⟨rfl, Nat.zero_le _⟩
    · simp only [words7, List.mem_cons, List.not_mem_nil, or_false] at h
      rcases h with rfl | rfl | rfl | rfl | rfl | rfl | rfl <;> exact ⟨by decide +kernel, by decide +kernel⟩
  exact ⟨rfl, rfl, lo.1, lo.2, Nat.zero_le _⟩
theorem short_int {i : Int} (h0 : 0 ≤ i) (h1 : i ≤ 1000000000) : Short (.int i) 8 0 := by
  have e : (PyData.shown (.int i)).length ≤ 13 := Nat.le_trans (toString_length_le h0 (k := 10) (by decide) (by omega)) (by decide)
  refine ⟨?_, rfl, decide_eq_true e, Nat.zero_le _, Nat.zero_le _⟩
  show decide (i.natAbs.log2 < 1920) = true
  refine decide_eq_true ?_
  by_cases z : i.natAbs = 0
  · rw [z]
    decide
  · exact Nat.lt_trans ((Nat.log2_lt z).mpr (show i.natAbs < 2 ^ 30 by omega)) (by decide)
theorem short_all {n k : Nat} : ∀ {ds : List PyData}, (∀ d ∈ ds, Short d n k) → PyData.showableAll ds = true ∧ PyData.hasDictAll ds = false ∧ PyData.leavesShortAll 13 ds = true ∧ PyData.bulkAll ds ≤ ds.length * (n + 1) ∧ PyData.depthAll ds ≤ k
  | [], _ => ⟨rfl, rfl, rfl, Nat.le_of_eq (by simp [PyData.bulkAll]), Nat.zero_le _⟩
  | d :: ds, h => by
    have h1 := h d List.mem_cons_self
    obtain ⟨a1, a2, a3, a4, a5⟩ := short_all fun x hx => h x (List.mem_cons_of_mem _ hx)
    refine ⟨?_, ?_, ?_, ?_, ?_⟩
    · rw [PyData.showableAll, h1.sh, a1]
      rfl
    · rw [PyData.hasDictAll, h1.nd, a2]
      rfl
    · rw [PyData.leavesShortAll, h1.ls, a3]
      rfl
    · rw [PyData.bulkAll, List.length_cons, Nat.succ_mul]
      have := h1.bk
      omega
    · rw [PyData.depthAll]
      exact Nat.max_le.mpr ⟨h1.dp, a5⟩
theorem short_tup {n k m : Nat} {ds : List PyData} (h : ∀ d ∈ ds, Short d n k) (l : ds.length * (n + 1) ≤ m) : Short (.tuple ds) m (k + 1) := by
  obtain ⟨a1, a2, a3, a4, a5⟩ := short_all h
  refine ⟨?_, ?_, ?_, ?_, ?_⟩
  · rw [PyData.showable]; exact a1
  · rw [PyData.hasDict]; exact a2
  · rw [PyData.leavesShort]; exact a3
  · rw [PyData.bulk]; omega
  · rw [PyData.depth]; omega
theorem Short.mono {d : PyData} {n k n' k' : Nat} (h : Short d n k) (hn : n ≤ n') (hk : k ≤ k') : Short d n' k' := ⟨h.sh, h.nd, h.ls, Nat.le_trans h.bk hn, Nat.le_trans h.dp hk⟩
theorem Short.fits {d : PyData} {n k : Nat} (h : Short d n k) (hn : n ≤ 100000) : d.shown.length ≤ sizeLine := by
  have q := PyData.shown_le_bulk 13 (by decide) d h.ls
  have := h.bk
  rw [sizeLine_eq]
  omega
theorem short_names {ys : List Str} (h : ∀ y ∈ ys, nameB y = true) (l : ys.length ≤ 31) : Short (.tuple (ys.map .str)) 300 1 := by
  refine short_tup (n := 8) (k := 0) (fun d hd => ?_) (by rw [List.length_map]; omega)
  obtain ⟨y, hy, rfl⟩ := List.mem_map.mp hd
  exact short_str (.inl (h y hy))
theorem short_ent {e : Ent} {P G HL : List Str} (nn : nameB e.name = true) (m0 : 0 ≤ e.moment) (m1 : e.moment ≤ 9999) (hP : ∀ y ∈ P, nameB y = true) (hG : ∀ y ∈ G, nameB y = true) (hH : ∀ y ∈ HL, nameB y = true) (h : e.From P G HL) : Short (entD e) 70 1 := by
  have w : ∀ {x : Str}, x ∈ words7 → Short (.str x) 8 0 := fun hx => short_str (.inr (.inr hx))
  have n : ∀ {x : Str}, nameB x = true → Short (.str x) 8 0 := fun hx => short_str (.inl hx)
  have mo : Short (.int e.moment) 8 0 := short_int m0 (by omega)
  refine short_tup (n := 8) (k := 0) (fun d hd => ?_) (by rw [List.length_map]; cases e <;> simp [Ent.vals, Ent.rest])
  obtain ⟨v, hv, rfl⟩ := List.mem_map.mp hd
  cases e with
  | come nm m g pl k r =>
    obtain ⟨h1, h2, h3, h4, h5, h6⟩ := h
    simp only [Ent.vals, Ent.rest, List.mem_cons, List.not_mem_nil, or_false] at hv
    rcases hv with rfl | rfl | rfl | rfl | rfl | rfl | rfl
    · exact w (Ent.word_in _)
    · exact n nn
    · exact mo
    · exact n (hG _ h1)
    · exact n (hP _ h2)
    · exact short_int (by omega) h4
    · exact short_int h5 h6
  | go nm m g pl k =>
    obtain ⟨h1, h2, h3, h4⟩ := h
    simp only [Ent.vals, Ent.rest, List.mem_cons, List.not_mem_nil, or_false] at hv
    rcases hv with rfl | rfl | rfl | rfl | rfl | rfl
    · exact w (Ent.word_in _)
    · exact n nn
    · exact mo
    · exact n (hG _ h1)
    · exact n (hP _ h2)
    · exact short_int (by omega) h4
  | move nm m g o t k =>
    obtain ⟨h1, h2, h3, h4, h5, h6⟩ := h
    simp only [Ent.vals, Ent.rest, List.mem_cons, List.not_mem_nil, or_false] at hv
    rcases hv with rfl | rfl | rfl | rfl | rfl | rfl | rfl
    · exact w (Ent.word_in _)
    · exact n nn
    · exact mo
    · exact n (hG _ h1)
    · exact n (hP _ h2)
    · exact n (hP _ h3)
    · exact short_int (by omega) h6
  | some_ nm m g o t =>
    obtain ⟨h1, h2, h3⟩ := h
    simp only [Ent.vals, Ent.rest, List.mem_cons, List.not_mem_nil, or_false] at hv
    rcases hv with rfl | rfl | rfl | rfl | rfl | rfl
    · exact w (Ent.word_in _)
    · exact n nn
    · exact mo
    · exact n (hG _ h1)
    · exact n (hP _ h2)
    · rcases h3 with rfl | h3
      · exact short_str (.inr (.inl rfl))
      · exact n (hP _ h3.1)
  | swap nm m o t =>
    obtain ⟨h1, h2, h3⟩ := h
    simp only [Ent.vals, Ent.rest, List.mem_cons, List.not_mem_nil, or_false] at hv
    rcases hv with rfl | rfl | rfl | rfl | rfl
    · exact w (Ent.word_in _)
    · exact n nn
    · exact mo
    · exact n (hP _ h1)
    · exact n (hP _ h2)
  | count nm m g pl k hd =>
    obtain ⟨h1, h2, h3, h4, h5⟩ := h
    simp only [Ent.vals, Ent.rest, List.mem_cons, List.not_mem_nil, or_false] at hv
    rcases hv with rfl | rfl | rfl | rfl | rfl | rfl | rfl
    · exact w (Ent.word_in _)
    · exact n nn
    · exact mo
    · exact n (hG _ h1)
    · exact n (hP _ h2)
    · exact short_int h3 h4
    · exact n (hH _ h5)
  | look nm m g pl =>
    obtain ⟨h1, h2⟩ := h
    simp only [Ent.vals, Ent.rest, List.mem_cons, List.not_mem_nil, or_false] at hv
    rcases hv with rfl | rfl | rfl | rfl | rfl
    · exact w (Ent.word_in _)
    · exact n nn
    · exact mo
    · exact n (hG _ h1)
    · exact n (hP _ h2)
theorem Good.short {P G : List Str} {es : List Ent} {m : Nat} (g : Good P G es m) (hm : m ≤ 31) : Short (houseD P G es) 10000 3 := by
  refine short_tup (n := 3000) (k := 2) (fun d hd => ?_) (by show 3 * 3001 ≤ 10000; decide)
  simp only [List.mem_cons, List.not_mem_nil, or_false] at hd
  rcases hd with rfl | rfl | rfl
  · exact (short_names g.nm (Nat.le_trans g.le (by decide))).mono (by decide) (by decide)
  · exact (short_names g.gn (Nat.le_trans g.gl (by decide))).mono (by decide) (by decide)
  · refine short_tup (n := 70) (k := 1) (fun d hd => ?_) (by rw [List.length_map, g.many]; omega)
    obtain ⟨e, he, rfl⟩ := List.mem_map.mp hd
    obtain ⟨e1, e2, e3, HL, e4, e5⟩ := g.ents e he
    exact short_ent e1 e2 e3 g.nm g.gn e4 e5
/-! ### along_tracks -/
/-- nothing but the tables has changed -/
def TabsG (Ts : List Addr) (H : Hp) : Prop := ∀ T ∈ Ts, GxR.TabG H T
structure TB1 (Ts : List Addr) (H H' : Hp) : Prop where
  tg : TabsG Ts H'
  kp : ∀ a o, H a = some o → (∀ ps, o ≠ .tbl ps) → H' a = some o
  free : ∀ a, H' a = none → H a = none
  oth : ∀ a o, H a = some o → a ∉ Ts → H' a = some o
theorem tabg_sm {H H' : Hp} {T : Addr} (sm : Same H H') (t : GxR.TabG H T) : GxR.TabG H' T := by
  obtain ⟨ps, e, ok⟩ := t
  exact ⟨ps, sm _ _ e, ok⟩
theorem tabs_sm {H H' : Hp} {Ts : List Addr} (sm : Same H H') (t : TabsG Ts H) : TabsG Ts H' := fun T hT => tabg_sm sm (t T hT)
theorem TB1.same {Ts : List Addr} {H H' : Hp} (t : TabsG Ts H) (sm : Same H H') : TB1 Ts H H' := ⟨tabs_sm sm t, fun a o e _ => sm a o e, fun a n => sm.free n, fun a o e _ => sm a o e⟩
theorem TB1.tr {Ts : List Addr} {H H1 H2 : Hp} (a : TB1 Ts H H1) (b : TB1 Ts H1 H2) : TB1 Ts H H2 := ⟨b.1, fun c o e n => b.2 c o (a.2 c o e n) n, fun c n => a.free c (b.free c n), fun c o e n => b.oth c o (a.oth c o e n) n⟩
theorem TB1.tab {Ts : List Addr} {T : Addr} {H H' : Hp} (t : GxR.Tabbed T H H') (g : TabsG Ts H) (hT : T ∈ Ts) : TB1 Ts H H' := by
  refine ⟨fun T' hT' => ?_, fun a o e n => ?_, fun a n => ?_, fun a o e n => (t.2 a fun z => n (z ▸ hT)).trans e⟩
  · by_cases z : T' = T
    · rw [z]
      exact t.1
    · obtain ⟨ps, e, ok⟩ := g T' hT'
      exact ⟨ps, (t.2 T' z).trans e, ok⟩
  · have na : a ≠ T := fun z => by
      obtain ⟨ps, e', _⟩ := g T hT
      rw [z, e'] at e
      exact n ps (Option.some.inj e).symm
    rw [t.2 a na]
    exact e
  · by_cases z : a = T
    · obtain ⟨ps, e, _⟩ := t.1
      rw [z, e] at n
      cases n
    · rw [← t.2 a z]
      exact n
theorem TB1.tk {Ts : List Addr} {H H' : Hp} (t : TB1 Ts H H') : TK H H' := fun a xs e => t.2 a _ e fun ps z => nomatch z
theorem TB1.lst {Ts : List Addr} {H H' : Hp} (t : TB1 Ts H H') {a : Addr} {xs : List V} (e : H a = some (.lst xs)) : H' a = some (.lst xs) := t.2 a _ e fun ps z => nomatch z
theorem TB1.dct {Ts : List Addr} {H H' : Hp} (t : TB1 Ts H H') {a : Addr} {kvs : List (Key × V)} (e : H a = some (.dK kvs)) : H' a = some (.dK kvs) := t.2 a _ e fun ps z => nomatch z
theorem tabs_upd {H : Hp} {Ts : List Addr} {l : Addr} {xs : List V} {o : HO} (t : TabsG Ts H) (e : H l = some (.lst xs)) : TabsG Ts (upd H l o) := fun T hT => by
  obtain ⟨ps, e1, ok⟩ := t T hT
  exact ⟨ps, (upd_ne (ne_of e1 e (by intro z; cases z))).trans e1, ok⟩
/-- a list that came since is written -/
theorem TB1.put {Ts : List Addr} {H H' : Hp} {l : Addr} {xs : List V} {o : HO} (t : TB1 Ts H H') (n : H l = none) (e : H' l = some (.lst xs)) : TB1 Ts H (upd H' l o) :=
  ⟨tabs_upd t.1 e, fun a u eu na => (upd_ne (ne_of_none eu n)).trans (t.2 a u eu na), fun a na => by
    by_cases z : a = l
    · rw [z]
      exact n
    · rw [upd_ne z] at na
      exact t.free a na, fun a u eu na => (upd_ne (ne_of_none eu n)).trans (t.oth a u eu na)⟩
/-! ### sorted(..) of what gives texts -/
def leS (a b : Str) : Prop := a.cps.toList ≤ b.cps.toList
theorem leS_of {a b : Str} (h : ltCps b.cps.toList a.cps.toList = false) : leS a b := by
  rw [ltCps_eq] at h
  exact List.not_lt.mp (of_decide_eq_false h)
theorem str_ext {a b : Str} (h : a.cps.toList = b.cps.toList) : a = b := by
  cases a with
  | mk x => cases b with
    | mk y =>
      have : x = y := Array.toList_inj.mp h
      rw [this]
theorem leS_trans {a b c : Str} (h1 : leS a b) (h2 : leS b c) : leS a c := List.le_trans h1 h2
theorem leS_anti {a b : Str} (h1 : leS a b) (h2 : leS b a) : a = b := str_ext (List.le_antisymm h1 h2)
theorem rising_pw : ∀ (p : Str) (l : List Str), risingS p l = true → (p :: l).Pairwise leS
  | p, [], _ => List.pairwise_singleton _ _
  | p, x :: r, h => by
    have h' : (!ltCps x.cps.toList p.cps.toList && risingS x r) = true := h
    rw [Bool.and_eq_true] at h'
    have le : leS p x := leS_of (by simpa using h'.1)
    have ih := rising_pw x r h'.2
    refine List.pairwise_cons.mpr ⟨fun y hy => ?_, ih⟩
    rcases List.mem_cons.mp hy with rfl | hy
    · exact le
    · exact leS_trans le (List.rel_of_pairwise_cons ih hy)
theorem sorted_pw {l : List Str} (h : sortedS l = true) : l.Pairwise leS := by
  cases l with
  | nil => exact .nil
  | cons x r => exact rising_pw x r h
/-- two sorted lists of the same texts are one -/
theorem sorted_one {l r : List Str} (p : l.Perm r) (h1 : sortedS l = true) (h2 : sortedS r = true) : l = r :=
  List.Perm.eq_of_pairwise (fun a b _ _ x y => leS_anti x y) (sorted_pw h1) (sorted_pw h2) p
theorem sorted_by {prog : Program} {w : World} {A : Around} {E : Value → Shared → Prop} {s : Shared} {x : Value} {Q : Value → Shared → Prop}
    (h : wpAny (model prog w) A.in1 (collect x) (fun vs s1 => ∃ ss, StrsAre vs ss ∧ vs.length < 64 ∧ ∀ (out : Array Value) (ss' : List Str) (h' : Heap) (ep : Nat), StrsAre out.toList ss' → ss'.Perm ss → sortedS ss' = true →
      (∀ b o, s1.heap.get? b = some o → h'.get? b = some o) → h'.get? s1.heap.objs.size = some (seqObj "list" out ep) → Q (.ref s1.heap.objs.size) { s1 with heap := h' }) E s) :
    wpAny (model prog w) A (call (.builtin "sorted") [x]) Q E s := by
  refine Calls.call_function_entry kind_sorted plain_sorted entry_sorted (args_sorted1 _) ?_
  unfold Builtin.«sorted»
  refine wpAny_bind (m := checkCount "sorted" 1 1 _) (wpAny_pure (wpAny_bind (wpAny_mono h (fun vs s1 ⟨ss, hS, h64, hq⟩ => ?_) fun _ _ e => e)))
  have hoL : (s1.heap.push (seqObj "list" vs.toArray 0)).get? s1.heap.objs.size = some (seqObj "list" vs.toArray 0) := Heap.get?_push_size _ rfl
  refine wpAny_bind (wpAny_newList (wpAny_bind (wpAny_holding (wpAny_call_entry slot_list_sort ⟨_, hoL, rfl⟩ entry_list_sort (list_sort_treeK strKind_oneLt hoL hS.keysOf (fun v1 v2 rest e => keyKind_strs (by rw [← e]; exact hS)) h64 fun st' hp hs => ⟨_, rfl, ?_⟩) (args_list_sort _)))))
  obtain ⟨ss', h1, h2, h3⟩ := sorted_out_str hS hp hs
  obtain ⟨ep, he⟩ := sortedHeap_at (out := (arrOf st').map (·.2)) hoL
  refine wpAny_pure ⟨_, rfl, hq _ ss' _ ep h1 h2 h3 (fun b o e => ?_) he⟩
  have lt := Heap.lt_size e
  rw [sortedHeap_old (Nat.ne_of_lt lt) (by rw [Heap.size_push]; exact Nat.lt_succ_of_lt lt)]
  exact Heap.get?_push_of_some _ e
/-- of a tuple of texts -/
theorem cr_sortedTS {X : Cx} : CallR X (.builtin "sorted") (fun vs H Q => ∃ (a : Addr) (xs : List Str), vs = [.ref a] ∧ SqT X.K H a (xs.map V.str) ∧ xs.length < 64 ∧
    ∀ (ys : List Str) (p : Addr), ys.Perm xs → sortedS ys = true → H p = none → Q (.ref p) (upd H p (.lst (ys.map V.str)))) := by
  rintro pins s σ H vs us Q I r ⟨a, xs, rfl, hs, h64, q⟩
  rw [Vals.ref1 r]
  obtain ⟨its, rv, ⟨o, e1, e2, n, e3⟩, hz⟩ := I.tuple hs
  have l0 := rv.length
  rw [List.length_map] at l0
  refine sorted_by (wpAny_collect_seq a (.inr rfl) e1 e2 e3 (fun h1 k1 => ⟨xs, ?_, ?_, fun out ys h' ep g1 g2 g3 k2 g4 => ?_⟩) (by rw [List.size_toArray, ← rv.length]; exact hz))
  · exact rv.strs
  · show its.length < 64
    rw [← l0]
    exact h64
  · have I1 := I.kept (t' := s.toks) k1
    have hlen : (ys.map V.str).length ≤ sizeLine := by rw [List.length_map, g2.length_eq]; exact small64 h64
    exact ⟨.ref h1.objs.size, upd H h1.objs.size (.lst (ys.map V.str)), I1.laid (t' := s.toks) k2 (Nat.le_refl _) ⟨hlen, out.toList, ep, vals_of_strs g1, by rw [g4]⟩, rfl, q ys _ g2 g3 (I1.hok.fresh (Nat.le_refl _))⟩
/-! ### sorted(set(xs)) of texts: a set that tells its table -/
structure SetTx (P : Program) (w : World) (h : Heap) (a : Addr) (l : List Str) : Prop where
  ex : ∃ D : PySem.Froz.SD, h.get? a = some (PySem.Froz.sObj "set" D) ∧ PySem.Froz.TxOk P w D l ∧ L2.Ris D.2.2.place.toList ∧ (w.params.followText "set-order" = true ∨ D.2.2.led = true)
theorem perm_of_sub : ∀ {l ks : List Str}, l.Nodup → (∀ x ∈ l, x ∈ ks) → ks.length ≤ l.length → ks.Perm l
  | [], ks, _, _, h => by
    have : ks = [] := List.eq_nil_of_length_eq_zero (Nat.le_zero.mp h)
    rw [this]
  | x :: r, ks, nd, h, le => by
    obtain ⟨n1, n2⟩ := List.nodup_cons.mp nd
    have hx := h x List.mem_cons_self
    have p := List.perm_cons_erase hx
    refine p.trans (.cons x (perm_of_sub n2 (fun y hy => ?_) ?_))
    · have ne : y ≠ x := fun z => n1 (by rw [← z]; exact hy)
      exact (List.mem_erase_of_ne ne).mpr (h y (List.mem_cons_of_mem _ hy))
    · have := p.length_eq
      simp only [List.length_cons] at this le
      omega
section
variable {P : Program} {w : World} {A : Around} {E : Value → Shared → Prop} {s : Shared}
theorem tail_ris {ep : Nat} {es1 : Array (Int × Value)} {t2 : SetTable} {b : Bool} (h : L2.Ris t2.place.toList) : L2.Ris (PySem.Froz.tailTx ep es1 t2 b).2.2.place.toList ∧ (PySem.Froz.tailTx ep es1 t2 b).2.2.led = t2.led := by
  unfold PySem.Froz.tailTx
  split
  · exact ⟨L2.relayAll_ris _ _ _, L2.relayAll_led _ _ _⟩
  · exact ⟨h, rfl⟩
theorem addTx_ris {D : PySem.Froz.SD} {h : Int} {v : Value} (r : L2.Ris D.2.2.place.toList) : L2.Ris (PySem.Froz.addTx h v D).2.2.place.toList ∧ (PySem.Froz.addTx h v D).2.2.led = D.2.2.led := by
  have r1 := L2.layNew_ris D.2.2 D.1 h v r
  have l1 := L2.layNew_led D.2.2 D.1 h v
  unfold PySem.Froz.addTx
  split
  · obtain ⟨a1, a2⟩ := tail_ris (ep := D.2.1) (es1 := (layNew D.2.2 D.1 h v).1) (b := (layNew D.2.2 D.1 h v).2.2.1) (t2 := { (layNew D.2.2 D.1 h v).2.1 with plain := false }) r1
    exact ⟨a1, a2.trans l1⟩
  · obtain ⟨a1, a2⟩ := tail_ris (ep := D.2.1) (es1 := (layNew D.2.2 D.1 h v).1) (b := (layNew D.2.2 D.1 h v).2.2.1) r1
    exact ⟨a1, a2.trans l1⟩
/-- one that is there is put in again -/
theorem add_old {a : Addr} {T : String} {D : PySem.Froz.SD} {l : List Str} {k : Str} {u : Tok} {Q : Bool → Shared → Prop} (ho : s.heap.get? a = some (PySem.Froz.sObj T D)) (F : PySem.Froz.TxOk P w D l) (hk : k ∈ l) (hb : l.length < scanBound) (h : Q false s) :
    wpAny (model P w) A (setAddHashed a (.str k u) (hashStr w k)) Q E s := by
  obtain ⟨es, ep, t⟩ := D
  have hsz : es.size = l.length := F.sz
  have hel : ElemsOf (PySem.strKind P w) es.toList := F.el
  unfold setAddHashed setAddHashedIn
  refine wpAny_holding (wpAny_bind (wpAny_setState_of ho rfl F.fit ?_))
  dsimp only
  rw [byScan_of rfl (by omega) hel]
  simp only [↓reduceIte]
  unfold setAddByScan
  refine wpAny_bind (wpAny_bind (wpAny_rule (wpAny_bind (wpAny_setScan_of (knd := PySem.strKind P w) (k := k) (PySem.Froz.is_str k u) ho rfl F.fit hel ?_))))
  cases hr : List.findIdx? (fun e => (PySem.strKind P w).is k e.2) es.toList with
  | some j => exact wpAny_pure (wpAny_pure h)
  | none =>
    obtain ⟨e, he, q⟩ := (F.mem k).mp hk
    have c := List.findIdx?_eq_none_iff.mp hr e he
    rw [q] at c
    cases c
/-- x into the set -/
theorem setTx_add {a : Addr} {l : List Str} {k : Str} {u : Tok} {Q : Bool → Shared → Prop} (R : SetTx P w s.heap a l) (hb : l.length + 1 < scanBound)
    (h : ∀ h' b, Heap.SameBut a s.heap h' → SetTx P w h' a (if k ∈ l then l else k :: l) → Q b { s with heap := h' }) : wpAny (model P w) A (setAddHashed a (.str k u) (hashStr w k)) Q E s := by
  obtain ⟨D, ho, F, r, ld⟩ := R.ex
  by_cases hk : k ∈ l
  · rw [if_pos hk] at h
    exact add_old ho F hk (by omega) (h s.heap false (Heap.SameBut.refl _ _) R)
  · rw [if_neg hk] at h
    refine PySem.Froz.add_x ho F hk hb (h _ true (Heap.SameBut.update _ _ _) ⟨_, PySem.Froz.get_upd _ ho rfl, PySem.Froz.add_ok u F, (addTx_ris r).1, ?_⟩)
    rw [(addTx_ris r).2]
    exact ld
end
def onceR (xs : List Str) : List Str := xs.foldl (fun l x => if x ∈ l then l else x :: l) []
theorem onceR_snoc (xs : List Str) (x : Str) : onceR (xs ++ [x]) = if x ∈ onceR xs then onceR xs else x :: onceR xs := by
  unfold onceR
  rw [List.foldl_append]
  rfl
theorem onceR_ok : ∀ (xs l : List Str), l.Nodup → (xs.foldl (fun l x => if x ∈ l then l else x :: l) l).Nodup ∧ (∀ y, y ∈ xs.foldl (fun l x => if x ∈ l then l else x :: l) l ↔ y ∈ l ∨ y ∈ xs) ∧ (xs.foldl (fun l x => if x ∈ l then l else x :: l) l).length ≤ l.length + xs.length
  | [], l, h => ⟨h, fun y => by simp, Nat.le_refl _⟩
  | x :: r, l, h => by
    rw [List.foldl_cons]
    by_cases z : x ∈ l
    · rw [if_pos z]
      obtain ⟨a, b, c⟩ := onceR_ok r l h
      refine ⟨a, fun y => (b y).trans ?_, by rw [List.length_cons]; omega⟩
      rw [List.mem_cons]
      constructor
      · rintro (q | q)
        · exact .inl q
        · exact .inr (.inr q)
      · rintro (q | q | q)
        · exact .inl q
        · exact .inl (by rw [q]; exact z)
        · exact .inr q
    · rw [if_neg z]
      obtain ⟨a, b, c⟩ := onceR_ok r (x :: l) (List.nodup_cons.mpr ⟨z, h⟩)
      refine ⟨a, fun y => (b y).trans ?_, by rw [List.length_cons] at c ⊢; omega⟩
      rw [List.mem_cons, List.mem_cons, or_assoc, or_left_comm]
theorem onceR_nodup (xs : List Str) : (onceR xs).Nodup := (onceR_ok xs [] .nil).1
theorem onceR_mem (xs : List Str) (y : Str) : y ∈ onceR xs ↔ y ∈ xs := ((onceR_ok xs [] .nil).2.1 y).trans (by simp)
theorem onceR_len (xs : List Str) : (onceR xs).length ≤ xs.length := Nat.le_trans (onceR_ok xs [] .nil).2.2 (by simp)
section
variable {prog : Program} {w : World} {A : Around}
theorem setTx_loop {R : Result → Shared → Prop} {it : Addr} {fp wr : List Addr} {G : Array GenState → Array GenState → Prop} {n : Nat} {P : Nat → Value → Prop} {St : Nat → Shared → Prop} (W : WalksS prog w A.in1 it fp wr G n P St) (S : Addr) (nS : S ∉ fp) (xs : List Str)
    (len : xs.length = n) (big : n + 1 < scanBound) (val : ∀ i v, P i v → ∃ t, v = .str (xs.getD i Str.empty) t) :
    ∀ (k i : Nat) (s : Shared), n - i = k → i ≤ n → St i s → SetTx prog w s.heap S (onceR (xs.take i)) →
      (∀ s', Moved (S :: wr) G s s' → SetTx prog w s'.heap S (onceR xs) → R (.ok (.ret .none)) s') →
      codeAny (model prog w) A (.builtin "set.update.loop" ⟨[.ref S, .ref it], []⟩) R s := by
  have nW : S ∉ wr := fun h => nS (W.sub _ h)
  have up : ∀ b ∈ wr, b ∈ S :: wr := fun b hb => List.mem_cons_of_mem _ hb
  have stay : ∀ {s s' : Shared} {l : List Str}, Moved wr G s s' → SetTx prog w s.heap S l → SetTx prog w s'.heap S l := fun mv ⟨D, ho, r⟩ => ⟨D, mv.heap S _ nW ho, r⟩
  intro k
  induction k with
  | zero =>
    intro i s hk hi st hS hR
    obtain rfl : i = n := by omega
    refine codeAny_builtin PyProof.Rows.F.entry_set_update_loop ?_
    rw [Around.under_plainId PyProof.Rows.F.plain_set_update_loop _]
    show wpAny _ A.in1 (pyNext (.ref it) >>= _) _ _ s
    refine wpAny_bind (W.done s _ _ st fun s' mv => ?_)
    rw [List.take_of_length_le (Nat.le_of_eq len)] at hS
    exact wpAny_pure (hR s' (mv.mono up) (stay mv hS))
  | succ k ih =>
    intro i s hk hi st hS hR
    have lt : i < n := by omega
    refine codeAny_builtin PyProof.Rows.F.entry_set_update_loop ?_
    rw [Around.under_plainId PyProof.Rows.F.plain_set_update_loop _]
    show wpAny _ A.in1 (pyNext (.ref it) >>= _) _ _ s
    refine wpAny_bind (W.item i s _ _ lt st fun v s' hP st' mv => ?_)
    obtain ⟨t, rfl⟩ := val i v hP
    show wpAny _ A.in1 (holding [Value.str (xs.getD i Str.empty) t] (setAdd S (.str (xs.getD i Str.empty) t)) >>= _) _ _ s'
    refine wpAny_bind (wpAny_holding ?_)
    unfold setAdd
    refine wpAny_holding (wpAny_bind ((PySem.strKind prog w).pyHash (k := xs.getD i Str.empty) (strKind_is _ _ _ _) ?_))
    have small : (onceR (xs.take i)).length + 1 < scanBound := by
      have h := onceR_len (xs.take i)
      rw [List.length_take] at h
      omega
    refine setTx_add (s := { s' with toks := s'.toks + 1 }) (show SetTx prog w s'.heap S _ from stay mv hS) small fun h' b sb hS2 => ?_
    have hx : xs.take (i + 1) = xs.take i ++ [xs.getD i Str.empty] := by
      have hl : i < xs.length := by omega
      rw [List.take_add_one, List.getElem?_eq_getElem hl, List.getD_eq_getElem?_getD, List.getElem?_eq_getElem hl]
      rfl
    rw [← onceR_snoc, ← hx] at hS2
    refine wpAny_pure ⟨plainId_quiet PyProof.Rows.F.plain_set_update_loop _, ih (i + 1) _ (by omega) lt (W.frame _ s' _ _ st' (Nat.le_succ _) fun b hb o e => ?_) hS2 fun s'' mv'' hS'' => ?_⟩
    · rw [sb.2 b (fun z : b = S => nS (by rw [← z]; exact hb))]
      exact e
    · refine hR s'' (Moved.trans W.gtrans ((mv.mono up).then_heap (Nat.le_succ _) fun b o hb e => ?_) mv'') hS''
      rw [sb.2 b (fun z : b = S => hb (by rw [z]; exact List.mem_cons_self))]
      exact e
theorem code_set_led1 {E : Value → Shared → Prop} {s : Shared} (a : Value) {Q₁ : Value → Shared → Prop}
    (h : Q₁ (.ref s.heap.objs.size) { s with heap := s.heap.push (PySem.Froz.sObj "set" (#[], 0, .fresh 0 0 (!w.params.followText "set-order"))) }) :
    codeAny (model prog w) A (.call (.builtin "set.__new__") ⟨[.type "set", a], []⟩) (wants Q₁ E) s := by
  refine codeAny_of_tree ?_
  show wpAny _ A.in1 (do checkBuiltinCall "set.__new__" ⟨[.type "set", a], []⟩; again (.builtin "set.__new__" ⟨[.type "set", a], []⟩)) _ _ s
  refine wpAny_bind (wpAny_of_eq (PySem.F.newCall_set_1 a) (wpAny_pure ⟨plainId_quiet PySem.F.plain_set_new _, codeAny_builtin PySem.F.entry_set_new ?_⟩))
  rw [Around.under_plainId PySem.F.plain_set_new _]
  unfold Builtin.«set.__new__» Builtin.Frozenset.newClass
  have hsub := sub_set_self
  obtain ⟨hp, g, d, tk, os⟩ := s
  dsimp only
  wp_walk
  refine wpAny_askSetting (wpAny_pure ?_)
  dsimp only
  simp only [newObj]
  refine wpAny_bind (wpAny_alloc (wpAny_pure ?_))
  exact wpAny_pure h
abbrev setL (w : World) : Obj := PySem.Froz.sObj "set" (#[], 0, .fresh 0 0 (!w.params.followText "set-order"))
theorem setTx_fresh {h : Heap} : SetTx prog w (h.push (setL w)) h.objs.size (onceR []) :=
  ⟨_, Heap.get?_push_size _ rfl, PySem.Froz.TxOk.nil rfl, List.Pairwise.nil, by
    show _ ∨ (!w.params.followText "set-order") = true
    cases w.params.followText "set-order"
    · exact .inr rfl
    · exact .inl rfl⟩
set_option maxHeartbeats 3200000 in
theorem setTx_of_tuple {E : Value → Shared → Prop} {s : Shared} {l : Addr} {items : Array Value} {xs : List Str} {Q : Value → Shared → Prop} (hh : A.handled = none) (hl : s.heap.IsTuple l items) (hi : PyProof.Rows.StrsAre items.toList xs) (big : xs.length + 1 < scanBound)
    (h : ∀ (h' : Heap) (tk : Nat), SetTx prog w h' s.heap.objs.size (onceR xs) →
      (∀ b o, b < s.heap.objs.size → s.heap.get? b = some o → h'.get? b = some o) → Q (.ref s.heap.objs.size) { s with heap := h', toks := tk }) :
    wpAny (model prog w) A (call (.type "set") [.ref l]) Q E s := by
  obtain ⟨c, tl, hmro⟩ := PySem.F.called_set.mro
  have hmade := PySem.F.called_set.made
  have hsub := PySem.F.called_set.sub
  refine wpAny_call (codeAny_of_tree ?_)
  show wpAny _ _ (callAny (.type "set") _) _ _ _
  refine wpAny_pure ⟨Code.quiet_builtin _ (by decide +kernel), codeAny_builtin PySem.F.entry_type_call ?_⟩
  rw [Around.under_plain (weight_type_call_type "set" [.ref l] []) rfl]
  have h1 := PySem.F.called_set.notType
  have h2 := PySem.F.called_set.canCreate
  have hct := PySem.F.typeCall_set_1 (.ref l)
  repeat (any_goals (first | assumption | wp_step))
  refine codeAny_mono (code_set_led1 (.ref l) (E := E) (Q₁ := fun obj s₁ => obj = .ref s.heap.objs.size ∧ s₁ = { s with heap := s.heap.push (setL w) }) ⟨rfl, rfl⟩) fun r s₁ hr => ?_
  cases r with
  | error e => exact hr
  | ok fl =>
    cases fl with
    | ret obj =>
      obtain ⟨rfl, rfl⟩ := hr
      have hS : (s.heap.push (setL w)).get? s.heap.objs.size = some (setL w) := Heap.get?_push_size _ rfl
      have hT : Shared.TypeIs { s with heap := s.heap.push (setL w) } (.ref s.heap.objs.size) "set" := ⟨_, hS, rfl⟩
      have hli := PySem.F.called_set.init.lookup
      have hbi := PySem.F.called_set.init.bind (.ref s.heap.objs.size)
      repeat (any_goals (first | assumption | wp_step))
      refine codeAny_mono (codeAny_call_builtin (R := wants (fun r s₂ => r = .none ∧ ∃ h' tk, s₂ = { s with heap := h', toks := tk } ∧
          SetTx prog w h' s.heap.objs.size (onceR xs) ∧
          (∀ b o, b < s.heap.objs.size → s.heap.get? b = some o → h'.get? b = some o)) E) PySem.F.called_set.init.plain PySem.F.entry_set_init (check_set_init_1 hT ?_)) fun r₂ s₂ hr₂ => ?_
      · obtain ⟨⟨ocls, odict, odata, oslots⟩, hol, hcl, nl, hdl⟩ := hl
        simp only at hcl hdl
        subst hcl; subst hdl
        have hol' : (s.heap.push (setL w)).get? l = some { cls := .type "tuple", dict := odict, data := .seq items nl, slots := oslots } := Heap.get?_push_of_some _ hol
        have hsls := PySem.F.sub_tuple_set
        have hslf := PySem.F.sub_tuple_frozenset
        have hne : (Value.type "tuple" == Value.type "dict") = false := by decide
        have hl1 : (s.heap.push (setL w)).IsTuple l items := ⟨_, hol', rfl, nl, rfl⟩
        unfold Builtin.«set.__init__» noKeywords Builtin.Frozenset.updateFrom
        generalize hPI : pyIter = PI
        wp_walk
        subst hPI
        refine wpAny_pyIter_tuple hl1 ?_
        refine wpAny_bind (wpAny_runValue ?_)
        have ltl : l < s.heap.objs.size := Heap.lt_size hol
        have szP : (s.heap.push (setL w)).objs.size = s.heap.objs.size + 1 := Heap.size_push ..
        have hh3 : A.in1.in1.in1.handled = none := hh
        have neI : l ≠ (s.heap.push (setL w)).objs.size := by rw [szP]; exact Nat.ne_of_lt (Nat.lt_succ_of_lt ltl)
        have len : xs.length = items.size := by rw [← StrsAre.len_eq hi, Array.length_toList]
        refine setTx_loop ((Walks.tuple hh3 _ l neI items).toS) s.heap.objs.size ?n xs len (by rw [← len]; exact big)
          (fun i v hv => SS.strs_at hi i v (by rw [Array.getElem?_toList]; exact hv)) (items.size - 0) 0 _ (by omega) (Nat.zero_le _) ⟨⟨_, Heap.get?_push_size _ rfl, rfl, rfl⟩, (hl1.push _)⟩ ?z ?r
        case n =>
          rw [szP]
          simp only [List.mem_cons, List.not_mem_nil, or_false, not_or]
          exact ⟨Nat.ne_of_lt (Nat.lt_succ_self _), Nat.ne_of_gt ltl⟩
        case z =>
          obtain ⟨D, q1, q2⟩ := (setTx_fresh (prog := prog) (w := w) (h := s.heap)).ex
          exact ⟨D, Heap.get?_push_of_some _ q1, q2⟩
        case r =>
          intro s' mv hS'
          obtain ⟨h', g', d', tk', os'⟩ := s'
          obtain rfl : g' = s.gens := mv.gens
          obtain rfl : d' = s.drawn := mv.drawn
          obtain rfl : os' = s.os := mv.os
          refine wpAny_pure ?_
          show wpAny _ _ (ret Value.none) _ _ _
          refine wpAny_pure ⟨rfl, h', tk', rfl, hS', fun b o hb e => mv.heap b o ?_ (Heap.get?_push_of_some _ (Heap.get?_push_of_some _ e))⟩
          rw [szP]
          simp only [List.mem_cons, List.not_mem_nil, or_false, not_or]
          exact ⟨Nat.ne_of_lt hb, Nat.ne_of_lt (Nat.lt_succ_of_lt hb)⟩
      · cases r₂ with
        | error e => exact hr₂
        | ok fl₂ =>
          cases fl₂ with
          | ret r =>
            obtain ⟨rfl, h', tk, rfl, hS', hk'⟩ := hr₂
            repeat (any_goals (first | assumption | wp_step))
            exact h _ _ hS' hk'
          | _ => exact hr₂.elim
    | _ => exact hr.elim
set_option maxHeartbeats 3200000 in
theorem setTx_of_list {E : Value → Shared → Prop} {s : Shared} {l : Addr} {items : Array Value} {xs : List Str} {Q : Value → Shared → Prop} (hh : A.handled = none) (hl : s.heap.IsList l items) (hi : PyProof.Rows.StrsAre items.toList xs) (big : xs.length + 1 < scanBound)
    (h : ∀ (h' : Heap) (tk : Nat), SetTx prog w h' s.heap.objs.size (onceR xs) →
      (∀ b o, b < s.heap.objs.size → s.heap.get? b = some o → h'.get? b = some o) → Q (.ref s.heap.objs.size) { s with heap := h', toks := tk }) :
    wpAny (model prog w) A (call (.type "set") [.ref l]) Q E s := by
  obtain ⟨c, tl, hmro⟩ := PySem.F.called_set.mro
  have hmade := PySem.F.called_set.made
  have hsub := PySem.F.called_set.sub
  refine wpAny_call (codeAny_of_tree ?_)
  show wpAny _ _ (callAny (.type "set") _) _ _ _
  refine wpAny_pure ⟨Code.quiet_builtin _ (by decide +kernel), codeAny_builtin PySem.F.entry_type_call ?_⟩
  rw [Around.under_plain (weight_type_call_type "set" [.ref l] []) rfl]
  have h1 := PySem.F.called_set.notType
  have h2 := PySem.F.called_set.canCreate
  have hct := PySem.F.typeCall_set_1 (.ref l)
  repeat (any_goals (first | assumption | wp_step))
  refine codeAny_mono (code_set_led1 (.ref l) (E := E) (Q₁ := fun obj s₁ => obj = .ref s.heap.objs.size ∧ s₁ = { s with heap := s.heap.push (setL w) }) ⟨rfl, rfl⟩) fun r s₁ hr => ?_
  cases r with
  | error e => exact hr
  | ok fl =>
    cases fl with
    | ret obj =>
      obtain ⟨rfl, rfl⟩ := hr
      have hS : (s.heap.push (setL w)).get? s.heap.objs.size = some (setL w) := Heap.get?_push_size _ rfl
      have hT : Shared.TypeIs { s with heap := s.heap.push (setL w) } (.ref s.heap.objs.size) "set" := ⟨_, hS, rfl⟩
      have hli := PySem.F.called_set.init.lookup
      have hbi := PySem.F.called_set.init.bind (.ref s.heap.objs.size)
      repeat (any_goals (first | assumption | wp_step))
      refine codeAny_mono (codeAny_call_builtin (R := wants (fun r s₂ => r = .none ∧ ∃ h' tk, s₂ = { s with heap := h', toks := tk } ∧
          SetTx prog w h' s.heap.objs.size (onceR xs) ∧
          (∀ b o, b < s.heap.objs.size → s.heap.get? b = some o → h'.get? b = some o)) E) PySem.F.called_set.init.plain PySem.F.entry_set_init (check_set_init_1 hT ?_)) fun r₂ s₂ hr₂ => ?_
      · obtain ⟨⟨ocls, odict, odata, oslots⟩, hol, hcl, nl, hdl⟩ := hl
        simp only at hcl hdl
        subst hcl; subst hdl
        have hol' : (s.heap.push (setL w)).get? l = some { cls := .type "list", dict := odict, data := .seq items nl, slots := oslots } := Heap.get?_push_of_some _ hol
        have hsls := PySem.F.sub_list_set
        have hslf := PySem.F.sub_list_frozenset
        have hne : (Value.type "list" == Value.type "dict") = false := by decide
        have hl1 : (s.heap.push (setL w)).IsList l items := ⟨_, hol', rfl, nl, rfl⟩
        unfold Builtin.«set.__init__» noKeywords Builtin.Frozenset.updateFrom
        generalize hPI : pyIter = PI
        wp_walk
        subst hPI
        refine wpAny_pyIter_list hl1 ?_
        refine wpAny_bind (wpAny_runValue ?_)
        have ltl : l < s.heap.objs.size := Heap.lt_size hol
        have szP : (s.heap.push (setL w)).objs.size = s.heap.objs.size + 1 := Heap.size_push ..
        have hh3 : A.in1.in1.in1.handled = none := hh
        have neI : l ≠ (s.heap.push (setL w)).objs.size := by rw [szP]; exact Nat.ne_of_lt (Nat.lt_succ_of_lt ltl)
        have len : xs.length = items.size := by rw [← StrsAre.len_eq hi, Array.length_toList]
        refine setTx_loop ((Walks.list hh3 _ l neI items).toS) s.heap.objs.size ?n xs len (by rw [← len]; exact big)
          (fun i v hv => SS.strs_at hi i v (by rw [Array.getElem?_toList]; exact hv)) (items.size - 0) 0 _ (by omega) (Nat.zero_le _) ⟨⟨_, Heap.get?_push_size _ rfl, rfl, rfl⟩, (hl1.push _)⟩ ?z ?r
        case n =>
          rw [szP]
          simp only [List.mem_cons, List.not_mem_nil, or_false, not_or]
          exact ⟨Nat.ne_of_lt (Nat.lt_succ_self _), Nat.ne_of_gt ltl⟩
        case z =>
          obtain ⟨D, q1, q2⟩ := (setTx_fresh (prog := prog) (w := w) (h := s.heap)).ex
          exact ⟨D, Heap.get?_push_of_some _ q1, q2⟩
        case r =>
          intro s' mv hS'
          obtain ⟨h', g', d', tk', os'⟩ := s'
          obtain rfl : g' = s.gens := mv.gens
          obtain rfl : d' = s.drawn := mv.drawn
          obtain rfl : os' = s.os := mv.os
          refine wpAny_pure ?_
          show wpAny _ _ (ret Value.none) _ _ _
          refine wpAny_pure ⟨rfl, h', tk', rfl, hS', fun b o hb e => mv.heap b o ?_ (Heap.get?_push_of_some _ (Heap.get?_push_of_some _ e))⟩
          rw [szP]
          simp only [List.mem_cons, List.not_mem_nil, or_false, not_or]
          exact ⟨Nat.ne_of_lt hb, Nat.ne_of_lt (Nat.lt_succ_of_lt hb)⟩
      · cases r₂ with
        | error e => exact hr₂
        | ok fl₂ =>
          cases fl₂ with
          | ret r =>
            obtain ⟨rfl, h', tk, rfl, hS', hk'⟩ := hr₂
            repeat (any_goals (first | assumption | wp_step))
            exact h _ _ hS' hk'
          | _ => exact hr₂.elim
    | _ => exact hr.elim
end
def strV : Value → Str
  | .str k _ => k
  | _ => Str.empty
theorem strs_are : ∀ vs : List Value, (∀ v ∈ vs, ∃ k tk, v = Value.str k tk) → StrsAre vs (vs.map strV)
  | [], _ => .nil
  | v :: r, h => by
    obtain ⟨k, tk, rfl⟩ := h v List.mem_cons_self
    exact .cons k tk (strs_are r fun u hu => h u (List.mem_cons_of_mem _ hu))
theorem isStr_shape {P : Program} {w : World} {k : Str} {v : Value} (h : (PySem.strKind P w).is k v = true) : ∃ tk, v = .str k tk := Value.isStrOf_shape h
/-- sorted(s) of a set of texts -/
theorem sorted_setTx {P : Program} {w : World} {A : Around} {E : Value → Shared → Prop} {s : Shared} {a : Addr} {l : List Str} {Q : Value → Shared → Prop} (R : SetTx P w s.heap a l) (nd : l.Nodup) (hh : A.handled = none) (h64 : l.length < 64)
    (hQ : ∀ s' p (out : Array Value) (c : Nat) (ys : List Str), (∀ b o, s.heap.get? b = some o → s'.heap.get? b = some o) → s'.gens = s.gens → s'.os = s.os → s.heap.objs.size ≤ p →
      s'.heap.get? p = some (seqObj "list" out c) → StrsAre out.toList ys → ys.Perm l → sortedS ys = true → Q (.ref p) s') :
    wpAny (model P w) A (call (.builtin "sorted") [.ref a]) Q E s := by
  obtain ⟨D, ho, F, r, ld⟩ := R.ex
  obtain ⟨es, ep, t⟩ := D
  have hsz : es.size = l.length := F.sz
  refine sorted_by (L2.collect_set (A := A.in1) (es := es) (ep := ep) (t := t) hh ⟨_, ho, rfl, rfl⟩ F.fit (by unfold scanBound; omega) r ld fun s1 vs k1 hz g1 o1 pm => ?_)
  have sh : ∀ v ∈ vs, ∃ k tk, v = Value.str k tk := fun v hv => by
    obtain ⟨e, he, q⟩ := List.mem_map.mp (pm.mem_iff.mp hv)
    obtain ⟨⟨k, hk, _⟩, _⟩ := F.el e he
    obtain ⟨tk, z⟩ := isStr_shape hk
    exact ⟨k, tk, by rw [← q, z]⟩
  have len : vs.length = l.length := by rw [pm.length_eq, List.length_map, Array.length_toList]; exact hsz
  have pl : (vs.map strV).Perm l := perm_of_sub nd (fun x hx => by
    obtain ⟨e, he, q⟩ := (F.mem x).mp hx
    obtain ⟨tk, z⟩ := isStr_shape q
    exact List.mem_map.mpr ⟨.str x tk, pm.mem_iff.mpr (List.mem_map.mpr ⟨e, he, z⟩), rfl⟩) (by rw [List.length_map, len]; exact Nat.le_refl _)
  refine ⟨vs.map strV, strs_are vs sh, by rw [len]; exact h64, fun out ys h' c q1 q2 q3 q4 q5 => ?_⟩
  exact hQ _ _ out c ys (fun b o e => q4 b o (k1 b o e)) g1 o1 hz q5 q1 (q2.trans pl) q3
def tSortSet (K : PySem.W.Frag) (ta : TE) : TE := fun σ H Q => ta σ H fun x H1 => ∃ l, ∃ xs : List Str, x = .ref l ∧ (SqT K H1 l (xs.map V.str) ∨ SqL K H1 l (xs.map V.str)) ∧ (onceR xs).length < 64 ∧ xs.length ≤ 1000 ∧
  ∀ (ys : List Str) (p : Addr), ys.Perm (onceR xs) → sortedS ys = true → H1 p = none → Q (.ref p) (upd H1 p (.lst (ys.map V.str)))
theorem pe_sortSet {X : Cx} {a : Expr} {ta : TE} {p p2 q pos : Pos} (hc : X.calm = true) (hg : Gl X "sorted") (hm : X.mg "sorted" = none) (hg2 : Gl X "set") (hm2 : X.mg "set" = none) (ha : PE X a ta)
    (na : starEach [a] X.env = (false, eval a X.env) :: starEach [] X.env := by rfl) : PE X (.Call (.Name "sorted" p) [.Call (.Name "set" p2) [a] [] q] [] pos) (tSortSet X.K ta) := by
  refine ⟨fun pins s σ H Q I h => Call_ (ld_blt I hg hm boot_sorted (PyProof.Rows.callWith_builtin1 (PyProof.Rows.args_cons ?_ rfl) rfl rfl))⟩
  refine Call_ (ld_blt I hg2 hm2 boot_set (PyProof.Rows.callWith_type1 (PyProof.Rows.args_cons (thn (ha.run pins s σ H _ I h) fun v s1 ⟨x, H1, I1, r1, q1⟩ => PyProof.Rows.args_nil ?_) na) na rfl))
  obtain ⟨l, xs, rfl, hq, l64, le, q1⟩ := q1
  cases r1
  have fin : ∀ (h' : Heap) (tk : Nat), SetTx X.prog X.w h' s1.heap.objs.size (onceR xs) → (∀ b o, b < s1.heap.objs.size → s1.heap.get? b = some o → h'.get? b = some o) →
      wpAny (model X.prog X.w) X.A (call (.builtin "sorted") [.ref s1.heap.objs.size]) (fun v s' => ∃ x H2, Inv X pins σ H2 s' ∧ RelV x v ∧ Q x H2) X.xe { s1 with heap := h', toks := tk } := fun h' tk hS hk => by
    have I2 : Inv X pins σ H1 { s1 with heap := h', toks := tk } := I1.kept fun b o e => hk b o (Heap.lt_size e) e
    refine sorted_setTx hS (onceR_nodup xs) (I1.ok.hd hc) l64 fun s' p out c ys k g o hp hgp hi pm hs => ?_
    have hlen : (ys.map V.str).length ≤ sizeLine := by rw [List.length_map, pm.length_eq]; exact small64 l64
    have hn : H1 p = none := I2.hok.fresh hp
    have J : Inv X pins σ (upd H1 p (.lst (ys.map V.str))) { ({ s1 with heap := h', toks := tk } : Shared) with heap := s'.heap, gens := s'.gens, drawn := s'.drawn, toks := s'.toks } :=
      I2.call (ch := []) (Un.laid k hp hn) (I2.hok.laid k hp ⟨hlen, out.toList, c, vals_of_strs hi, hgp⟩) (by rw [g]; exact I2.bare) (fun _ z => nomatch z)
    have e : s' = { ({ s1 with heap := h', toks := tk } : Shared) with heap := s'.heap, gens := s'.gens, drawn := s'.drawn, toks := s'.toks } := by
      cases s'
      cases s1
      cases o
      rfl
    rw [e]
    exact ⟨.ref p, _, J, rfl, q1 ys p pm hs hn⟩
  rcases hq with hq | hq
  · obtain ⟨its, r, pl, hz⟩ := I1.tuple hq
    exact setTx_of_tuple (I1.ok.hd hc) pl (by simpa using strsAre_of r) (by unfold scanBound; omega) fun h' tk hS hk => PyProof.Rows.args_nil (fin h' tk hS hk)
  · obtain ⟨its, r, pl, hz⟩ := I1.list hq
    exact setTx_of_list (I1.ok.hd hc) pl.isList (by simpa using strsAre_of r) (by unfold scanBound; omega) fun h' tk hS hk => PyProof.Rows.args_nil (fin h' tk hS hk)
/-! ### x in d.values(), texts -/
section
variable {prog : Program} {w : World} {A : Around} {E : Value → Shared → Prop} {s : Shared}
theorem plain_ci : plainId "proto.contains_iter" = true := by decide +kernel
theorem entry_ci : entryFor table "proto.contains_iter" = some Builtin.«proto.contains_iter» := entryFor_of_tree (by kernel_rfl)
theorem nocont_vals : typeLookup (.type "dict_values") "__contains__" = pure none := by rw [typeLookup_type, builtinLookup_eq_fast]; kernel_rfl
theorem ci_loop {it d : Addr} {ep : Nat} {vs : List (Key × Value)} {ys : List Str} {z : Str} {t : Tok} (hA : A.handled = none) (hv : ∀ (i : Nat) (p : Key × Value), vs[i]? = some p → ∃ y u, ys[i]? = some y ∧ p.2 = .str y u) (hl : ys.length = vs.length) (hdi : d ≠ it) {R : Result → Shared → Prop} :
    ∀ (n i : Nat) (s : Shared), i + n = vs.length → s.heap.IsValIter it d i vs.length ep → s.heap.DictAt (mixKind prog w) d vs ep → (∀ h', Heap.ExtBut it s.heap h' → R (.ok (.ret (.bool (decide (z ∈ ys.drop i))))) { s with heap := h' }) →
      codeAny (model prog w) A (.builtin "proto.contains_iter" ⟨[.ref it, .str z t], []⟩) R s
  | 0, i, s, hn, hit, hd, hR => by
    refine codeAny_builtin entry_ci ?_
    rw [Around.under_plainId plain_ci]
    unfold Builtin.«proto.contains_iter»
    refine wpAny_bind (wpAny_pyNext_values_end hA hit hd (List.getElem?_eq_none (by omega)) fun h' eb => ?_)
    refine wpAny_bind (wpAny_rule (wpAny_pure ?_))
    have e : ys.drop i = [] := List.drop_eq_nil_of_le (by omega)
    have q := hR h' eb
    rw [e] at q
    exact q
  | n + 1, i, s, hn, hit, hd, hR => by
    refine codeAny_builtin entry_ci ?_
    rw [Around.under_plainId plain_ci]
    unfold Builtin.«proto.contains_iter»
    obtain ⟨p, hp⟩ : ∃ p, vs[i]? = some p := ⟨_, List.getElem?_eq_getElem (by omega)⟩
    obtain ⟨y, u, hy, ev⟩ := hv i p hp
    have ed : ys.drop i = y :: ys.drop (i + 1) := by
      rw [List.drop_eq_getElem_cons (by omega)]
      rw [List.getElem?_eq_getElem (by omega)] at hy
      rw [Option.some.inj hy]
    refine wpAny_bind (wpAny_pyNext_values_item hit hd (k := p.1) (v := p.2) hp fun h' hit' sb => ?_)
    rw [ev]
    refine wpAny_bind ((mixKind prog w).eqBool (a := Sum.inr y) (b := Sum.inr z) (kV_is (k := Sum.inr y) ⟨u, rfl⟩) (kV_is (k := Sum.inr z) ⟨t, rfl⟩) ?_)
    by_cases e : y = z
    · rw [if_pos (by simp [e])]
      refine wpAny_bind (wpAny_rule (wpAny_pure ?_))
      have q := hR h' fun b o hb eo => (sb.2 b hb).trans eo
      rw [ed, decide_eq_true (by rw [e]; exact List.mem_cons_self)] at q
      exact q
    · rw [if_neg (by simp [e])]
      refine wpAny_pure ⟨plainId_quiet plain_ci _, ci_loop hA hv hl hdi n (i + 1) { s with heap := h' } (by omega) hit' (let ⟨o, es, ho, r⟩ := hd; ⟨o, es, (sb.2 d hdi).trans ho, r⟩) fun h2 eb2 => ?_⟩
      have q := hR h2 (fun b o hb eo => eb2 b o hb ((sb.2 b hb).trans eo))
      rw [ed] at q
      have e2 : decide (z ∈ y :: ys.drop (i + 1)) = decide (z ∈ ys.drop (i + 1)) := by
        have : ¬ z = y := fun h => e h.symm
        simp [this]
      rw [e2] at q
      exact q
end
def valsO (v d : Addr) : HO := .ext fun h => h.get? v = some { cls := .type "dict_values", data := .fields #[.ref d] }
/-- d.values(), as a value -/
def tVals (td : TE) : TE := fun σ H Q => td σ H fun x H1 => ∃ (d : Addr) (kvs : List (Key × V)), x = .ref d ∧ H1 d = some (.dK kvs) ∧ ∀ v, H1 v = none → Q (.ref v) (upd H1 v (valsO v d))
theorem pe_vals {X : Cx} {e : Expr} {td : TE} {apos cpos : Pos} (he : PE X e td) (hbase : attributeBase e "values" X.env (eval e X.env) = eval e X.env := by rfl) (hline : (apos.endLine == cpos.line) = true := by rfl) :
    PE X (.Call (.Attribute e "values" apos) [] [] cpos) (tVals td) := by
  refine ⟨fun pins s σ H Q I h => ?_⟩
  refine wpAny_Call_method (T := "dict") (id := "dict.values") hbase rfl hline F.plainAttrs_dict F.slot_dict_values F.type_dict_values (thn (he.run pins s σ H _ I h) ?_)
  rintro u s1 ⟨x, H1, I1, rx, d, kvs, rfl, hd, q⟩
  obtain rfl : u = Value.ref d := rx
  obtain ⟨_, dS, vs, rel, dd⟩ := dk_of I1.hok hd
  refine ⟨dd.typeIs, dd.mapOf.noDict, ?_⟩
  show wpAny _ _ (callWith cpos (.builtin "dict.values") [.ref d] [] []) _ X.xe s1
  refine method_meetsIn F.slot_dict_values F.entry_dict_values rfl (PySem.evalArgs_none ⟨rfl, dd.typeIs, F.args_dict_values_1 _, _, meets_dict_values (mixKind X.prog X.w) d dS, ⟨vs, dd⟩, ?_⟩)
  refine ⟨.ref s1.heap.objs.size, _, I1.laid (t' := s1.toks) (a := s1.heap.objs.size) (o := valsO s1.heap.objs.size d) (fun b ob q => Heap.get?_push_of_some _ q) (Nat.le_refl _) ?_, rfl, q _ (I1.hok.fresh (Nat.le_refl _))⟩
  have e : (s1.heap.push { cls := .type "dict_values", data := .fields #[.ref d] }).get? s1.heap.objs.size = some { cls := .type "dict_values", data := .fields #[.ref d] } := Heap.get?_push_size _ rfl
  exact ⟨e, ⟨_, e⟩, fun h1 h2 p k => k _ p⟩
def rInVals : R2 := fun x y H Q => ∃ (z : Str) (v d : Addr) (kvs : List (Key × V)) (ys : List Str), x = .str z ∧ y = .ref v ∧ H v = some (valsO v d) ∧ H d = some (.dK kvs) ∧ kvs.map (·.2) = ys.map V.str ∧ Q (.bl (decide (z ∈ ys))) H
theorem op_inVals {X : Cx} (hc : X.calm = true) : OpR X (compareOp .In) rInVals := by
  rintro pins s σ H x y vx vy Q I rx ry ⟨z, v, d, kvs, ys, rfl, rfl, hv, hd, hy, q⟩
  obtain ⟨t, rfl⟩ : ∃ t, vx = Value.str z t := rx
  obtain rfl : vy = Value.ref v := ry
  obtain ⟨ev, _, _⟩ := I.hok v _ hv
  obtain ⟨_, dS, vs, rel, o, es, ep, dd⟩ := dk_of I.hok hd
  have dA : s.heap.DictAt (mixKind X.prog X.w) d vs ep := ⟨o, es, dd⟩
  have tv : s.TypeIs (.ref v) "dict_values" := ⟨_, ev, rfl⟩
  have lv : kvs.length = vs.length := Paired.length rel
  have ly : ys.length = vs.length := by
    have := congrArg List.length hy
    rw [List.length_map, List.length_map] at this
    omega
  show wpAny _ _ (contains (.ref v) (.str z t) >>= fun b => pure (Value.bool b)) _ _ s
  refine wpAny_bind ?_
  unfold contains
  refine wpAny_holding ?_
  show wpAny _ _ (specialOf (.ref v) "__contains__" >>= _) _ _ s
  refine wpAny_bind (wpAny_specialOf tv nocont_vals ?_)
  show wpAny _ _ (if ((none : Option Value) == some Value.none) = true then _ else _) _ _ s
  rw [if_neg (by decide)]
  refine wpAny_bind (wpAny_callSpecialUnlessNone?_none tv nocont_vals ?_)
  refine wpAny_bind (wpAny_rule ?_)
  refine wpAny_bind (wpAny_tryCatch (wpAny_pyIter_values (d := d) (knd := mixKind X.prog X.w) ⟨_, ev, rfl, rfl⟩ dA ?_))
  have nvi : d ≠ s.heap.objs.size := Nat.ne_of_lt (Heap.lt_size dd.1)
  refine wpAny_bind (wpAny_runValue (ci_loop (ys := ys) (I.ok.hd hc) ?_ ly nvi vs.length 0 _ (by omega) ⟨_, Heap.get?_push_size _ rfl, rfl, rfl⟩ ?_ fun h' eb => ?_))
  · intro i p hp
    have hi : i < vs.length := (List.getElem?_eq_some_iff.mp hp).1
    obtain ⟨⟨k, v'⟩, hk⟩ : ∃ e, kvs[i]? = some e := ⟨_, List.getElem?_eq_getElem (by omega)⟩
    obtain ⟨u, hu, ru⟩ := kv_get rel hk
    obtain ⟨y, hy'⟩ : ∃ y, ys[i]? = some y := ⟨_, List.getElem?_eq_getElem (by omega)⟩
    have e1 : (kvs.map (·.2))[i]? = some v' := by rw [List.getElem?_map, hk]; rfl
    rw [hy, List.getElem?_map, hy'] at e1
    obtain rfl : V.str y = v' := Option.some.inj e1
    obtain ⟨t2, rfl⟩ := ru
    rw [hp] at hu
    exact ⟨y, t2, hy', by rw [Option.some.inj hu]⟩
  · exact ⟨o, es, Heap.get?_push_of_some _ dd.1, dd.2⟩
  · refine wpAny_pure (wpAny_pure ⟨.bl _, H, I.kept (t' := s.toks) (fun b ob e => eb b ob (Nat.ne_of_lt (Heap.lt_size e)) (Heap.get?_push_of_some _ e)), rfl, ?_⟩)
    rw [List.drop_zero]
    exact q
/-! ### d.setdefault, list(d.values()), walks over lists and tuples -/
namespace Sdf
section
variable {prog : Program} {w : World} {K : Type} [DecidableEq K] {knd : KeyKind prog w K} {A : Around} {E : Value → Shared → Prop} {s : Shared}
theorem sdf_pairs {d : Addr} {kvs : List (K × Value)} {k : K} {key dflt : Value} {Q : Value → Shared → Prop} (hkey : knd.is k key = true) (hm : s.heap.DictOf knd d kvs) (hsz : kvs.length ≤ sizeLine)
    (hthere : ∀ v, valueAt kvs k = some v → Q v { s with toks := s.toks + 1 })
    (hnew : valueAt kvs k = none → ∀ h', h'.DictOf knd d (stored kvs k dflt) → Heap.SameBut d s.heap h' → Q dflt { s with heap := h', toks := s.toks + 1 }) :
    wpAny (model prog w) A (dictSetDefault d key dflt) Q E s := by
  have hm0 := hm.mapOf
  obtain ⟨o, es, ep, ho, hc, hd, hk, hp, hn⟩ := hm
  have hes : es.size ≤ sizeLine := by
    have e1 := hp.length
    have e2 : es.toList.length = es.size := by simp
    omega
  have hf : ∀ x, findBy knd.is es x = valueAt kvs x := fun x => by
    rw [← hp.find x]
    obtain ⟨l⟩ := es
    simp [findBy]
  unfold dictSetDefault
  try with_reducible refine wpAny_holding ?_
  refine wpAny_bind (knd.pyHash hkey ?_)
  refine wpAny_bind (wpAny_dictFind_of (s := { s with toks := s.toks + 1 }) hkey ho hd hk ?_)
  have hidx : (es.findIdx? fun e => knd.is k e.key) = kvs.findIdx? fun kv => decide (kv.1 = k) := by
    rw [← hp.findIdx k]; obtain ⟨l⟩ := es; simp
  cases hi : es.findIdx? fun e => knd.is k e.key with
  | some i =>
    have hfk : valueAt kvs k = (es[i]?).map (·.val) := by rw [← hf k, findBy_of_findIdx?, hi]
    refine wpAny_bind (wpAny_dictEntries (s := { s with toks := s.toks + 1 }) ho hd ?_)
    cases he : es[i]? with
    | none =>
      exfalso
      have := Array.findIdx?_eq_some_iff_findIdx_eq.mp hi
      have hlt : i < es.size := this.1
      rw [Array.getElem?_eq_getElem hlt] at he
      exact nomatch he
    | some e =>
      rw [he] at hfk
      exact wpAny_bind (wpAny_rule (wpAny_pure (hthere e.val hfk)))
  | none =>
    have hfk : valueAt kvs k = none := by rw [← hf k, findBy_of_findIdx?, hi]
    have hnot : k ∉ kvs.map (·.1) := not_mem_of_findIdx_none (hidx ▸ hi)
    have hany : ¬ (kvs.any fun kv => decide (kv.1 = k)) = true := by
      rw [List.any_eq_true]; rintro ⟨kv, hkv, he⟩
      exact hnot (List.mem_map.mpr ⟨kv, hkv, of_decide_eq_true he⟩)
    refine wpAny_bind (wpAny_rule (wpAny_bind (wpAny_updateDictKeys (hz := hes) (s := { s with toks := s.toks + 1 }) ho hd (wpAny_pure (hnew hfk _ ⟨_, _, ep + 1, Heap.get?_update_self _ ho (Obj.isFreed_of_dict (Obj.data_mapDictKeys hd _)),
      hc.mapDictKeys _, Obj.data_mapDictKeys hd _, hk.push hkey _, ?_, ?_⟩ (Heap.SameBut.update ..))))))
    · rw [stored, if_neg hany]
      have := hp.append hkey (knd.hash k) dflt
      obtain ⟨l⟩ := es
      simpa using this
    · rw [stored, if_neg hany, List.map_append, List.nodup_append]
      refine ⟨hn, by simp, ?_⟩
      intro a ha b hb
      simp only [List.map_cons, List.map_nil, List.mem_singleton] at hb
      subst hb
      exact fun e => hnot (e ▸ ha)
theorem meets_sdf (knd : KeyKind prog w K) {k : K} {key : Value} (d : Addr) (hkey : knd.is k key = true) (hd : (d == sysModules) = false) (dflt : Value) :
    MeetsIn prog w (Builtin.«dict.setdefault» ⟨[.ref d, key, dflt], []⟩) (fun _ R s => ∃ kvs, s.heap.DictOf knd d kvs ∧ kvs.length ≤ sizeLine ∧
      (∀ v, valueAt kvs k = some v → R (.ok (.ret v)) { s with toks := s.toks + 1 }) ∧
      (valueAt kvs k = none → ∀ h', h'.DictOf knd d (stored kvs k dflt) → Heap.SameBut d s.heap h' → R (.ok (.ret dflt)) { s with heap := h', toks := s.toks + 1 })) :=
  .of_wp fun A R s ⟨kvs, hm, hz, h1, h2⟩ => by
    unfold Builtin.«dict.setdefault»
    refine wpAny_bind ?_
    unfold Builtin.Dict.keyAndDefault
    refine wpAny_bind (wpAny_notOrdered_dict hm.typeIs ?_)
    show wpAny _ _ (pure (d, key, some dflt)) _ _ s
    refine wpAny_pure ?_
    show wpAny _ _ (if (d == sysModules) = true then _ else (dictSetDefault d key dflt >>= _)) _ _ s
    rw [if_neg (by rw [hd]; exact Bool.false_ne_true)]
    exact wpAny_bind (sdf_pairs hkey hm hz (fun v hv => wpAny_pure ⟨v, rfl, h1 v hv⟩) fun hn h' hm' hs' => wpAny_pure ⟨dflt, rfl, h2 hn h' hm' hs'⟩)
end
section
variable {X : Cx} {pins : List (Addr × Obj)} {σ : L2.St} {H : Hp} {s : Shared} {a : Addr} {A : Around} {E : Value → Shared → Prop}
theorem d_sdf {kvs : List (Key × V)} {k : Key} {z : V} {u r : Value} {Q : Value → Shared → Prop} (I : Inv X pins σ H s) (e : H a = some (.dK kvs)) (lt : kvs.length < sizeLine) (ry : RelV (kV k) u) (rz : RelV z r)
    (h1 : ∀ v w' s', valV kvs k = some v → Inv X pins σ H s' → RelV v w' → Q w' s') (h2 : ∀ s', valV kvs k = none → Inv X pins σ (upd H a (.dK (putK kvs k z))) s' → Q r s') :
    wpAny (model X.prog X.w) A (call (.builtin "dict.setdefault") [.ref a, u, r]) Q E s := by
  obtain ⟨zz, hd, vs, rel, dd⟩ := dk_of I.hok e
  have hz : vs.length ≤ sizeLine := by rw [← rel.length]; exact zz
  refine call_meetsIn PySem.F.slot_dict_setdefault dd.typeIs PySem.F.entry_dict_setdefault (PySem.F.args_dict_setdefault_3 _ _ _) (meets_sdf (mixKind X.prog X.w) a (kV_is ry) hd r) ⟨vs, dd, hz, fun w' hw => ?_, fun hn h' dd' hs => ?_⟩
  · have q := rel.val k
    rw [hw] at q
    cases ev : valV kvs k with
    | none =>
      rw [ev] at q
      exact absurd q (fun z => by cases z)
    | some v =>
      rw [ev] at q
      exact h1 v w' _ ev (I.tok _) q
  · have ev : valV kvs k = none := by
      have q := rel.val k
      rw [hn] at q
      cases ev : valV kvs k with
      | none => rfl
      | some v =>
        rw [ev] at q
        exact absurd q (fun z => by cases z)
    have he : ∃ q, h'.get? a = some q := let ⟨q, _, _, hq, _⟩ := dd'; ⟨q, hq⟩
    have hl : (putK kvs k z).length ≤ sizeLine := by have := length_putK kvs k z; omega
    exact h2 _ ev (d_write I (by rw [e]; exact True.intro) hs he (dk_new hl hd (rel.put k rz) dd'))
end
end Sdf
/-- d.setdefault(k, x) -/
def tSdf (td ty tx : TE) : TE := fun σ H Q => td σ H fun x H1 => ∃ a, x = .ref a ∧ IsD H1 a ∧ ty σ H1 fun y H2 => tx σ H2 fun z H3 => ∃ kvs k, H3 a = some (.dK kvs) ∧ y = kV k ∧ kvs.length < sizeLine ∧
  (∀ v, valV kvs k = some v → Q v H3) ∧ (valV kvs k = none → Q z (upd H3 a (.dK (putK kvs k z))))
theorem pe_sdf {X : Cx} {o e f : Expr} {apos cpos : Pos} {td ty tx : TE} (ho : PE X o td) (he : PE X e ty) (hf : PE X f tx) (m : M2 X o "setdefault" apos e f cpos) : PE X (.Call (.Attribute o "setdefault" apos) [e, f] [] cpos) (tSdf td ty tx) := by
  refine ⟨fun pins s σ H Q I h => ?_⟩
  refine wpAny_Call_method m.base m.few m.line PySem.F.plainAttrs_dict PySem.F.slot_dict_setdefault PySem.F.type_dict_setdefault (thn (ho.run pins s σ H _ I h) fun u s1 ⟨x, H1, I1, rx, a, ex, d, q1⟩ => ?_)
  subst ex
  obtain rfl : u = Value.ref a := rx
  obtain ⟨t1, t2, _⟩ := isD_at I1 d
  refine ⟨t1, t2, ?_⟩
  rw [m.trees]
  refine Calls.callWith_builtin rfl (Calls.evalArgs_plain (Calls.spliced_cons (thn (he.run pins s1 σ H1 _ I1 q1) fun iv s2 ⟨y, H2, I2, ry, q2⟩ =>
    Calls.spliced_cons (thn (hf.run pins s2 σ H2 _ I2 q2) fun fv s3 ⟨z, H3, I3, rz, kvs, k, hd, ey, lt, qa, qb⟩ => Calls.spliced_nil ?_))))
  subst ey
  exact Sdf.d_sdf I3 hd lt ry rz (fun v w' s4 ev I4 rw' => ⟨_, H3, I4, rw', qa v ev⟩) fun s4 ev I4 => ⟨_, _, I4, rz, qb ev⟩
/-- list(d.values()) -/
theorem call_listVals {X : Cx} (hc : X.calm = true) : CallR X (.type "list") (fun xs H Q => ∃ (v d : Addr) (kvs : List (Key × V)), xs = [.ref v] ∧ H v = some (valsO v d) ∧ H d = some (.dK kvs) ∧ ∀ q, H q = none → Q (.ref q) (upd H q (.lst (kvs.map (·.2))))) := by
  rintro pins s σ H xs us Q I r ⟨v, d, kvs, rfl, hv, hd, q⟩
  obtain ⟨u, eu, rx⟩ := vals1 r
  subst eu
  obtain rfl : u = Value.ref v := rx
  obtain ⟨ev, _, _⟩ := I.hok v _ hv
  obtain ⟨z, lo, vs, rk, hdd⟩ := (show ObjOk X.prog X.w H s.heap d (.dK kvs) from I.hok d _ hd)
  obtain ⟨ep, hat⟩ := hdd.dictAt
  have hl : kvs.length = vs.length := Paired.length rk
  refine PySem.W.kdl_call (PySem.W.kdl_values (knd := mixKind X.prog X.w) (kvs := vs) (ep := ep)) (I.ok.hd hc) ⟨⟨_, ev, rfl, rfl⟩, hat⟩ (by rw [← hl]; exact z) fun h' tk acc' c' hkeep hS hacc => ?_
  refine ⟨.ref s.heap.objs.size, upd H s.heap.objs.size (.lst (kvs.map (·.2))), I.laid hkeep (Nat.le_refl _) (show ObjOk X.prog X.w _ _ _ (.lst (kvs.map (·.2))) from ⟨?_, acc'.toList, c', ?_, ?_⟩), rfl, q _ (I.hok.fresh (Nat.le_refl _))⟩
  · rw [List.length_map]; exact z
  · have el : acc'.toList.length = acc'.size := by simp
    refine vals_of_at (by rw [List.length_map, el, hacc.1, hl]) fun j x w h1 h2 => ?_
    obtain ⟨k, hky⟩ := hacc.2 j w (by rw [← Array.getElem?_toList]; exact h2)
    obtain ⟨y, hy, ry⟩ := KV.at' rk hky
    rw [List.getElem?_map, hy] at h1
    rw [← Option.some.inj h1]
    exact ry
  · rw [Array.toArray_toList]; exact hS
/-! a list or a tuple -/
def LT (H : Hp) (a : Addr) (xs : List V) : Prop := H a = some (.lst xs) ∨ H a = some (.tup xs)
theorem LT.by {H H' : Hp} {a : Addr} {xs : List V} (h : LT H a xs) (k : ∀ o, H a = some o → (∀ ps, o ≠ .tbl ps) → H' a = some o) : LT H' a xs := h.imp (fun e => k _ e fun _ z => nomatch z) fun e => k _ e fun _ z => nomatch z
theorem LT.on {H H' : Hp} {a : Addr} {xs : List V} (h : LT H a xs) (s : Same H H') : LT H' a xs := h.imp (fun e => s _ _ e) fun e => s _ _ e
abbrev iSeq (K : PySem.W.Frag) (tl : TE) : TI := fun σ H R => iList K tl σ H R ∨ iTup K tl σ H R
theorem pi_seq {X : Cx} {tg l : Expr} {tl : TE} (hl : PE X l tl) : PI X tg l (iSeq X.K tl) := ⟨fun pins s σ H R I h => h.elim ((pi_list hl).run pins s σ H R I) ((pi_tup hl).run pins s σ H R I)⟩
structure Over (J : It) (xs : List V) (At : Hp → Prop) : Prop where
  go : ∀ i H x, At H → xs[i]? = some x → J.go i H
  yld : ∀ i H y H', At H → J.yld i H y H' → H' = H ∧ xs[i]? = some y
  stop : ∀ i H, At H → xs.length ≤ i → J.stop i H
theorem over_l {K : PySem.W.Frag} {a : Addr} {xs : List V} : Over (Itl K a) xs (fun H => SqL K H a xs) :=
  ⟨fun i H x h e => ⟨xs, x, h, e⟩, fun i H y H' h z => ⟨z.1, z.2 xs h⟩, fun i H h e => ⟨xs, h, e⟩⟩
theorem over_t {K : PySem.W.Frag} {a : Addr} {xs : List V} : Over (Itt K a) xs (fun H => SqT K H a xs) :=
  ⟨fun i H x h e => ⟨xs, x, h, e⟩, fun i H y H' h z => ⟨z.1, z.2 xs h⟩, fun i H h e => ⟨xs, h, e⟩⟩
/-- all(.. for x in xs), its iterator being there -/
theorem all_over {J : It} {At : Hp → Prop} {T : Addr} {xs : List V} {g : TG} {tt : TT} {te : TE} {vs : List Nat} {σ : L2.St} {H : Hp} {Q : VK} (o : Over J xs At) (W : Nat → Hp → Prop) (tg : GxR.TabG H T) (h0 : ∀ H2, GxR.Tabbed T H H2 → W 0 H2) (hl : ∀ i H', i ≤ xs.length → W i H' → At H')
    (step : ∀ i x H' (Go : Hp → Prop), xs[i]? = some x → W i H' → (∀ H4, W (i + 1) H4 → Go H4) → g x (wipe σ vs) H' fun σ2 H2 => wipe σ2 vs = wipe σ vs ∧ tt σ2 H2 fun b H3 => if b = true then te σ2 H3 fun y H4 => ∃ k, y = .bl k ∧ (if k = true then Go H4 else Q (.bl false) H4) else Go H3)
    (done : ∀ H', W xs.length H' → Q (.bl true) H') :
    GxR.TabG H T ∧ ∀ H2, GxR.Tabbed T H H2 → ∃ W : Nat → Nat → Hp → Prop, (∃ m, W 0 m H2) ∧
      GTurns J g tt te vs σ W (fun i m y H' => ∃ k, y = .bl k ∧ (if k = true then ∃ m', m' < m ∧ W (i + 1) m' H' else Q (.bl false) H')) (fun H' => Q (.bl true) H') := by
  refine ⟨tg, fun H2 tb => ⟨fun i m H' => m = xs.length - i ∧ i ≤ xs.length ∧ W i H', ⟨_, rfl, Nat.zero_le _, h0 H2 tb⟩, ?_⟩⟩
  rintro i m H3 ⟨rfl, hi, w3⟩
  by_cases lt : i < xs.length
  · refine .inr ⟨o.go i H3 xs[i] (hl i H3 hi w3) (List.getElem?_eq_getElem lt), fun x H' y => ?_⟩
    obtain ⟨rfl, hx⟩ := o.yld i H3 x H' (hl i H3 hi w3) y
    exact step i x _ (fun H' => ∃ m', m' < xs.length - i ∧ m' = xs.length - (i + 1) ∧ i + 1 ≤ xs.length ∧ W (i + 1) H') hx w3 fun H4 w4 => ⟨_, by omega, rfl, lt, w4⟩
  · have ei : i = xs.length := by omega
    exact .inl ⟨o.stop i H3 (hl i H3 hi w3) (by omega), done H3 (ei ▸ w3)⟩
theorem all_seq {K : PySem.W.Frag} {T l : Addr} {xs : List V} {g : TG} {tt : TT} {te : TE} {vs : List Nat} {σ : L2.St} {H : Hp} {Q : VK} {k : Nat} (h : LT H l xs) (hv : σ[k]? = some (some (.ref l))) (W : Nat → Hp → Prop) (tg : GxR.TabG H T) (h0 : ∀ H2, GxR.Tabbed T H H2 → W 0 H2) (hl : ∀ i H', i ≤ xs.length → W i H' → ∀ o, H l = some o → (∀ ps, o ≠ .tbl ps) → H' l = some o)
    (step : ∀ i x H' (Go : Hp → Prop), xs[i]? = some x → W i H' → (∀ H4, W (i + 1) H4 → Go H4) → g x (wipe σ vs) H' fun σ2 H2 => wipe σ2 vs = wipe σ vs ∧ tt σ2 H2 fun b H3 => if b = true then te σ2 H3 fun y H4 => ∃ k, y = .bl k ∧ (if k = true then Go H4 else Q (.bl false) H4) else Go H3)
    (done : ∀ H', W xs.length H' → Q (.bl true) H') : tAllG T (iSeq K (tVar k)) g tt te vs σ H Q := by
  rcases h with h | h
  · exact .inl ⟨_, hv, l, rfl, ⟨_, SqL.of h⟩, all_over over_l W tg h0 (fun i H' hi w => SqL.of (hl i H' hi w _ h fun _ z => nomatch z)) step done⟩
  · exact .inr ⟨_, hv, l, rfl, ⟨_, SqT.of h⟩, all_over over_t W tg h0 (fun i H' hi w => SqT.of (hl i H' hi w _ h fun _ z => nomatch z)) step done⟩
theorem for_seq {K : PySem.W.Frag} {l : Addr} {xs : List V} {g : TG} {tb : TS} {D : Ends} {σ : L2.St} {H : Hp} {k : Nat} (h : LT H l xs) (hv : σ[k]? = some (some (.ref l))) (Pv : Nat → L2.St → Hp → Prop) (h0 : Pv 0 σ H) (hl : ∀ i σ H', i ≤ xs.length → Pv i σ H' → ∀ o, H l = some o → (∀ ps, o ≠ .tbl ps) → H' l = some o)
    (hs : ∀ i x σ H, xs[i]? = some x → Pv i σ H → g x σ H fun σ2 H2 => tb { D with nx := Pv (i + 1), ct := Pv (i + 1), bk := D.nx } σ2 H2) (hd : ∀ σ H, Pv xs.length σ H → D.nx σ H) : tFor (iSeq K (tVar k)) g tb D σ H := by
  rcases h with h | h
  · exact .inl ⟨_, hv, l, rfl, ⟨_, SqL.of h⟩, for_list Pv h0 (fun i σ' H' hi w => SqL.of (hl i σ' H' hi w _ h fun _ z => nomatch z)) hs hd⟩
  · exact .inr ⟨_, hv, l, rfl, ⟨_, SqT.of h⟩, for_tup Pv h0 (fun i σ' H' hi w => SqT.of (hl i σ' H' hi w _ h fun _ z => nomatch z)) hs hd⟩
/-! ### sorted(..) of a list of data -/
theorem each_unmap {R : Value → PyData → Prop} {f : V × PyData → PyData} : ∀ {es : List (V × PyData)} {us : List Value}, PySem.W.EachIs R us (es.map f) → PySem.W.EachIs (fun v e => R v (f e)) us es
  | [], _, .nil => .nil
  | _ :: _, _, .cons a t => .cons a (each_unmap t)
theorem cr_sortD {X : Cx} (hu : X.A.units + 64 < cLine) : CallR X (.builtin "sorted") (fun vs H Q => ∃ (l : Addr) (es : List (V × PyData)), vs = [.ref l] ∧ SqL X.K H l (es.map (·.1)) ∧ DpAll X.K H (es.map (·.1)) (es.map (·.2)) ∧ PySem.W.AllAlike (es.map (·.2)) ∧ PySem.W.Sortable (es.map (·.2)) ∧
    (∀ e ∈ es, e.2.depth ≤ 60) ∧ ∀ p, H p = none → Q (.ref p) (upd H p (.lst ((keyed es).map (·.1))))) := by
  rintro pins s σ H vs us Q I r ⟨l, es, rfl, hs, dp, al, so, de, q⟩
  obtain rfl := Vals.ref1 r
  obtain ⟨its, rv, hl, hz⟩ := I.list hs
  have hlen : its.length = es.length := by rw [← rv.length, List.length_map]
  have hL : es.length ≤ sizeLine := by rw [← hlen, ← rv.length]; exact hz
  refine PySem.W.sorted_data (R := fun v (e : V × PyData) => RelV e.1 v) (enc := fun e : V × PyData => e.2) hl.isList (each_pairs rv) (each_unmap (each_dp I dp rv)) al so hL (fun b hb => ?_) fun out lo eo => ?_
  · have := de b hb
    omega
  · obtain ⟨c, hc⟩ := sortedAll_at s.heap its out.toArray
    have l2 : ((keyed es).map (·.1)).length ≤ sizeLine := by
      rw [List.length_map, List.length_mergeSort]
      exact hL
    exact ⟨.ref (s.heap.objs.size + 1), upd H (s.heap.objs.size + 1) (.lst ((keyed es).map (·.1))), I.laid (t' := s.toks) (fun b o => sortedAll_old) (Nat.le_succ _) ⟨l2, out, c, pairs_each eo, hc⟩, rfl, q _ (I.hok.fresh (Nat.le_succ _))⟩
/-! their text isn't long -/
theorem toString_neg (i : Int) (h : i < 0) : (toString i).length ≤ (toString (-i)).length + 1 := by
  obtain ⟨n, rfl⟩ : ∃ n : Nat, i = -((n + 1 : Nat) : Int) := ⟨(-i).toNat - 1, by omega⟩
  rw [Int.neg_neg]
  show ("-" ++ toString (n + 1)).length ≤ (toString (n + 1)).length + 1
  rw [String.length_append]
  have : ("-" : String).length = 1 := rfl
  omega
theorem short_big {i : Int} (h0 : -100000000000 < i) (h1 : i < 100000000000) : Short (.int i) 8 0 := by
  have e : (PyData.shown (.int i)).length ≤ 13 := by
    by_cases z : 0 ≤ i
    · exact Nat.le_trans (toString_length_le z (k := 11) (by decide) (by omega)) (by decide)
    · show (Str.ofString (toString i)).length ≤ 13
      have h := toString_length_le (v := -i) (by omega) (k := 11) (by decide) (by omega)
      rw [PySem.ofString_length] at h ⊢
      have := toString_neg i (by omega)
      omega
  refine ⟨?_, rfl, decide_eq_true e, Nat.zero_le _, Nat.zero_le _⟩
  show decide (i.natAbs.log2 < 1920) = true
  refine decide_eq_true ?_
  by_cases z : i.natAbs = 0
  · rw [z]
    decide
  · exact Nat.lt_trans ((Nat.log2_lt z).mpr (show i.natAbs < 2 ^ 40 by omega)) (by decide)
theorem short_lst {n k m : Nat} {ds : List PyData} (h : ∀ d ∈ ds, Short d n k) (l : ds.length * (n + 1) ≤ m) : Short (.list ds) m (k + 1) := by
  obtain ⟨a1, a2, a3, a4, a5⟩ := short_all h
  refine ⟨?_, ?_, ?_, ?_, ?_⟩
  · rw [PyData.showable]; exact a1
  · rw [PyData.hasDict]; exact a2
  · rw [PyData.leavesShort]; exact a3
  · rw [PyData.bulk]; omega
  · rw [PyData.depth]; omega
theorem Short.fits2 {d : PyData} {n k : Nat} (h : Short d n k) (hn : n ≤ 400000) : d.shown.length ≤ sizeLine := by
  have q := PyData.shown_le_bulk 13 (by decide) d h.ls
  have := h.bk
  rw [sizeLine_eq]
  omega
/-! ### sorted(..) of such data -/
theorem cr_sortC {X : Cx} (hu : X.A.units + 64 < cLine) : CallR X (.builtin "sorted") (fun vs H Q => ∃ (l : Addr) (es : List (V × PyData)) (T : Value), vs = [.ref l] ∧ (SqL X.K H l (es.map (·.1)) ∨ SqT X.K H l (es.map (·.1))) ∧ DpAll X.K H (es.map (·.1)) (es.map (·.2)) ∧
    (∀ e ∈ es, e.2.canLay0 = true ∧ e.2.depth ≤ 60 ∧ ∃ x r, e.2 = .tuple (x :: r) ∧ PySem.W.dataType x = T) ∧ (∀ e ∈ es, ∀ f ∈ es, Cs.cmpOk e.2 f.2 = true) ∧ ∀ p, H p = none → Q (.ref p) (upd H p (.lst ((keyed es).map (·.1))))) := by
  rintro pins s σ H vs us Q I r ⟨l, es, T, rfl, hs, dp, ok, cm, q⟩
  obtain rfl := Vals.ref1 r
  obtain ⟨its, rv, To, o, n, hT, ho, hc, hd, hz⟩ : ∃ (its : List Value), Vals (es.map (·.1)) its ∧ ∃ (To : String) (o : Obj) (n : Nat), (To = "list" ∨ To = "tuple") ∧ s.heap.get? l = some o ∧ o.cls = .type To ∧ o.data = .seq its.toArray n ∧ its.length ≤ sizeLine := by
    rcases hs with hs | hs
    · obtain ⟨its, rv, ⟨o, n, e1, e2, e3, e4⟩, hz⟩ := I.list hs
      exact ⟨its, rv, "list", o, n, .inl rfl, e1, e2, e4, by rw [← rv.length]; exact hz⟩
    · obtain ⟨its, rv, ⟨o, e1, e2, n, e3⟩, hz⟩ := I.tuple hs
      exact ⟨its, rv, "tuple", o, n, .inr rfl, e1, e2, e3, by rw [← rv.length]; exact hz⟩
  have hlen : its.length = es.length := by rw [← rv.length, List.length_map]
  have er := each_dp I dp rv
  have lay : ∀ d ∈ es.map (·.2), d.canLay0 = true := fun d hd => by
    obtain ⟨e, he, rfl⟩ := List.mem_map.mp hd
    exact (ok e he).1
  have key : ∀ h', (∀ b ob, s.heap.get? b = some ob → h'.get? b = some ob) → PySem.W.EachIs (fun v d => ∃ as, Reads h' v d as) its (es.map (·.2)) := fun h' k => er.mono fun _ _ ⟨as, r⟩ => ⟨as, PyProof.Rows.Reads.keeps k r⟩
  refine Cs.sorted_seq (κ := fun h' => PySem.W.dataKind h' (es.map (·.2))) hT ho hc hd (by simpa using hz) (fun h' k => ?_) fun h1 h' h2 ep k0 k1 k2 he => ?_
  · refine Cs.sorts (s := { s with heap := h' }) (T := T) (key h' k) lay (fun d hd d' hd' => ?_) (fun d hd => ?_) fun d hd => ?_
    · obtain ⟨e, he, rfl⟩ := List.mem_map.mp hd
      obtain ⟨f, hf, rfl⟩ := List.mem_map.mp hd'
      exact cm e he f hf
    · obtain ⟨e, he, rfl⟩ := List.mem_map.mp hd
      exact (ok e he).2.2
    · obtain ⟨e, he, rfl⟩ := List.mem_map.mp hd
      have := (ok e he).2.1
      show X.A.units + 2 + e.2.depth < cLine
      omega
  · have eo := PySem.W.sortVals_each (κ := PySem.W.dataKind h2 (es.map (·.2))) (R := fun v (e : V × PyData) => RelV e.1 v) (rev := false) (ks := its) (vs := its) (bs := es) (fun e => PySem.W.keyToks e.2) (each_pairs rv)
      (each_unmap (R := fun v d => (PySem.W.dataKind h2 (es.map (·.2))).keyOf v = some (PySem.W.keyToks d)) (f := (·.2)) ((PySem.W.each_mem (key h2 k0)).mono fun v d x => let ⟨⟨as, r⟩, hd⟩ := x; Cs.dk_some lay hd r))
    have vo : Vals ((keyed es).map (·.1)) (PySem.W.sortVals (PySem.W.dataKind h2 (es.map (·.2))) false its its) := pairs_each eo
    have I1 := I.kept (t' := s.toks) k1
    have l2 : ((keyed es).map (·.1)).length ≤ sizeLine := by
      rw [List.length_map, List.length_mergeSort, ← hlen]
      exact hz
    simp only [List.toList_toArray] at he
    exact ⟨.ref h1.objs.size, upd H h1.objs.size (.lst ((keyed es).map (·.1))), I1.laid (t' := s.toks) k2 (Nat.le_refl _) ⟨l2, _, ep, vo, he⟩, rfl, q _ (I1.hok.fresh (Nat.le_refl _))⟩
/-! ### any(..) of a generator expression; list.count of texts -/
def tAnyG (T : Addr) (wi : TI) (g : TG) (tt : TT) (te : TE) (vs : List Nat) : TE := fun σ H Q => wi σ H fun J H1 => GxR.TabG H1 T ∧ ∀ H2, GxR.Tabbed T H1 H2 → ∃ W : Nat → Nat → Hp → Prop, (∃ m, W 0 m H2) ∧
  GTurns J g tt te vs σ W (fun i m y H' => ∃ k, y = .bl k ∧ (if k = true then Q (.bl true) H' else ∃ m', m' < m ∧ W (i + 1) m' H')) (fun H' => Q (.bl false) H')
section
variable {X : Cx} {pins : List (Addr × Obj)} {σ : L2.St}
theorem any_loop {IG : Hp → Shared → Prop} {tn : Nat → Heap → Prop} {fp : List Addr} {W : Nat → Nat → Hp → Prop} {a : Addr} {gn : Nat} {Q : VK} {R : Result → Shared → Prop} (ig : IGok X pins σ a gn IG) (hA : X.A.handled = none) (hd : X.A.depth < recursionLimit)
    (hR : ∀ b H s, Q (.bl b) H → IG H s → R (.ok (.ret (.bool b))) s) : ∀ (n i m : Nat) (H : Hp) (s : Shared),
    GRun X X.A.in1 IG tn fp W (fun i m y H' => ∃ k, y = .bl k ∧ (if k = true then Q (.bl true) H' else ∃ m', m' < m ∧ W (i + 1) m' H')) (fun H' => Q (.bl false) H') gn i m n H s →
    codeAny (model X.prog X.w) X.A (.builtin "any.loop" ⟨[.ref a], []⟩) R s := by
  intro n
  induction n with
  | zero =>
    intro i m H s G
    obtain ⟨_, _, _, _, gs, _, h, _⟩ := G
    exact absurd h (Nat.not_lt_zero _)
  | succ n ih =>
    intro i m H s G
    refine codeAny_builtin F.entry_any_loop ?_
    rw [Around.under_plainId F.plain_any_loop _]
    show wpAny _ X.A.in1 (pyNext (.ref a) >>= _) _ _ s
    refine wpAny_bind (gx_next ig hA hd G (fun v y H' s' i' m' r out I' cont => ?_) fun H' s' fin I' => ?_)
    · obtain ⟨k, rfl, hk⟩ := out
      obtain rfl : v = .bool k := r
      refine wpAny_bind (wpAny_holding (wpAny_truthy_bool ?_))
      refine wpAny_bind (wpAny_letGo ?_)
      cases k with
      | false =>
        obtain ⟨m'', hm, w'⟩ := hk
        exact wpAny_pure ⟨plainId_quiet F.plain_any_loop _, ih (i' + 1) m'' H' s' (cont m'' hm w')⟩
      | true =>
        refine wpAny_bind (wpAny_rule (wpAny_pure ?_))
        exact hR true H' s' hk I'
    · refine wpAny_bind (wpAny_rule (wpAny_pure ?_))
      exact hR false H' s' fin I'
theorem pe_anyG {c T : Addr} {elt tg iter : Expr} {ifs : List Expr} {scope : Scope} {own : List (Str × Nat)} {gpos p pos : Pos} {wi : TI} {g : TG} {tt : TT} {te : TE} {k : Nat}
    (hr : Room (k + 1) X.A) (hgl : Gl X "any") (hm : X.mg "any" = none) (hc : X.calm = true) (hN : X.N.Nodup) (TB : GxR.TabB X.base X.mg c T) (hcode : X.env.code = .ref c) (ok : GOk X.N X.env.scope scope own) (hi : PI X tg iter wi)
    (hg : ∀ (A' : Around) (s3 : Shared) (H3 : Hp) (C : Addr) (code : Value) (fp : List Addr), PG (gxc X A' s3 H3 (genE X scope C code) fp) tg g)
    (ht : ∀ (A' : Around) (s3 : Shared) (H3 : Hp) (C : Addr) (code : Value) (fp : List Addr), Room k A' → PTs (gxc X A' s3 H3 (genE X scope C code) fp) ifs tt)
    (he : ∀ (A' : Around) (s3 : Shared) (H3 : Hp) (C : Addr) (code : Value) (fp : List Addr), Room k A' → PE (gxc X A' s3 H3 (genE X scope C code) fp) elt te)
    (hs : ∀ v, genFold iter X.env v = pure v := by intro _; rfl)
    (hst : starEach [.GeneratorExp elt [⟨tg, iter, ifs, 0⟩] scope gpos] X.env = (false, eval (.GeneratorExp elt [⟨tg, iter, ifs, 0⟩] scope gpos) X.env) :: starEach [] X.env := by rfl) :
    PE X (.Call (.Name "any" p) [.GeneratorExp elt [⟨tg, iter, ifs, 0⟩] scope gpos] [] pos) (tAnyG T wi g tt te (own.map (·.2))) := by
  refine ⟨fun pins s σ H Q I h => wpAny_Call_Name_kw (ld_blt I hgl hm (show bootBuiltins "any" = some (.builtin "any") by decide +kernel) ?_)⟩
  refine PyProof.Rows.callWith_builtin1 ?_ hst (by rfl)
  rw [hst]
  have hA := I.ok.hd hc
  have hf := I.ok.frames
  refine Calls.spliced_cons (gx_mk (Outf := fun W i m y H' => ∃ k, y = .bl k ∧ (if k = true then Q (.bl true) H' else ∃ m', m' < m ∧ W (i + 1) m' H')) (Fin := fun H' => Q (.bl false) H')
    X.A.in1 hA hf (Nat.le_refl _) (by show X.A.units + 1 ≤ _; omega) hr hc hN TB hcode ok hi hg ht he hs I h ?_)
  · intro IG tn fp W a gn m H2 s5 ig hk G
    refine Calls.spliced_nil ?_
    refine call_function_tree F.kind_any F.plain_any F.entry_any (F.args_any1 _) ?_
    unfold Builtin.«any»
    refine wpAny_bind (m := oneArg "any" _) (wpAny_pure ?_)
    refine wpAny_bind (wpAny_pyIter_gen (ig.isgen G.1) ?_)
    exact wpAny_pure ⟨plainId_quiet F.plain_any_loop _, any_loop ig hA (Nat.lt_of_le_of_lt (by omega : X.A.depth ≤ X.A.depth + 3 * (k + 1) + 5) hr.dp) (fun b H s q I' => ⟨.bl b, H, ig.back I', rfl, q⟩) _ _ _ _ _ G⟩
end
theorem any_over {J : It} {At : Hp → Prop} {T : Addr} {xs : List V} {g : TG} {tt : TT} {te : TE} {vs : List Nat} {σ : L2.St} {H : Hp} {Q : VK} (o : Over J xs At) (W : Nat → Hp → Prop) (tg : GxR.TabG H T) (h0 : ∀ H2, GxR.Tabbed T H H2 → W 0 H2) (hl : ∀ i H', i ≤ xs.length → W i H' → At H')
    (step : ∀ i x H' (Go : Hp → Prop), xs[i]? = some x → W i H' → (∀ H4, W (i + 1) H4 → Go H4) → g x (wipe σ vs) H' fun σ2 H2 => wipe σ2 vs = wipe σ vs ∧ tt σ2 H2 fun b H3 => if b = true then te σ2 H3 fun y H4 => ∃ k, y = .bl k ∧ (if k = true then Q (.bl true) H4 else Go H4) else Go H3)
    (done : ∀ H', W xs.length H' → Q (.bl false) H') :
    GxR.TabG H T ∧ ∀ H2, GxR.Tabbed T H H2 → ∃ W : Nat → Nat → Hp → Prop, (∃ m, W 0 m H2) ∧
      GTurns J g tt te vs σ W (fun i m y H' => ∃ k, y = .bl k ∧ (if k = true then Q (.bl true) H' else ∃ m', m' < m ∧ W (i + 1) m' H')) (fun H' => Q (.bl false) H') := by
  refine ⟨tg, fun H2 tb => ⟨fun i m H' => m = xs.length - i ∧ i ≤ xs.length ∧ W i H', ⟨_, rfl, Nat.zero_le _, h0 H2 tb⟩, ?_⟩⟩
  rintro i m H3 ⟨rfl, hi, w3⟩
  by_cases lt : i < xs.length
  · refine .inr ⟨o.go i H3 xs[i] (hl i H3 hi w3) (List.getElem?_eq_getElem lt), fun x H' y => ?_⟩
    obtain ⟨rfl, hx⟩ := o.yld i H3 x H' (hl i H3 hi w3) y
    exact step i x _ (fun H' => ∃ m', m' < xs.length - i ∧ m' = xs.length - (i + 1) ∧ i + 1 ≤ xs.length ∧ W (i + 1) H') hx w3 fun H4 w4 => ⟨_, by omega, rfl, lt, w4⟩
  · have ei : i = xs.length := by omega
    exact .inl ⟨o.stop i H3 (hl i H3 hi w3) (by omega), done H3 (ei ▸ w3)⟩
def eqsV (z : Str) : Value → Bool
  | .str y _ => y == z
  | _ => false
def rCntS (K : PySem.W.Frag) : V → List V → Hp → VK → Prop := fun x xs H Q => ∃ (p : Addr) (ns : List Str) (k : Str), x = .ref p ∧ xs = [.str k] ∧ SqL K H p (ns.map V.str) ∧ Q (.int (ns.count k : Nat)) H
theorem cnt_strs {z : Str} : ∀ {ns : List Str} {us : List Value}, Vals (ns.map V.str) us → us.countP (eqsV z) = ns.count z
  | [], _, .nil => rfl
  | n :: r, _, .cons h t => by
    obtain ⟨u, rfl⟩ : ∃ u, _ = Value.str n u := h
    rw [List.countP_cons, cnt_strs t, List.count_cons]
    rfl
theorem mt_lcountS {X : Cx} : MtR X "list.count" (rCntS X.K) := by
  rintro pins s σ H x xs v us Q I rx rxs ⟨p, ns, k, rfl, rfl, hs, q⟩
  cases rx
  obtain ⟨u, rfl, ru⟩ := rxs.one
  obtain ⟨t, rfl⟩ := ru
  obtain ⟨its, rv, ⟨⟨cls, dd, data, sl⟩, n, ho, hc, hdn, hd⟩, hlen⟩ := I.list hs
  dsimp only at hc hd
  subst hc hd
  refine call_meets PySem.F.slot_list_count ⟨_, ho, rfl⟩ PySem.F.entry_list_count (PySem.F.args_list_count_2 _ _)
    (SeqAt.list_countAt p its.toArray n dd sl (.str k t) (eqsV k)) ⟨ho, fun y hy => ?_, ?_⟩
  · obtain ⟨i, hi⟩ := List.mem_iff_getElem?.mp (show y ∈ its by simpa using hy)
    obtain ⟨w, hw, rw'⟩ := vals_get rv hi
    rw [List.getElem?_map] at hw
    obtain ⟨z, _, rfl⟩ := Option.map_eq_some_iff.mp hw
    obtain ⟨t', rfl⟩ : ∃ t', y = Value.str z t' := rw'
    exact SeqAt.EqAt.str_str z t' k t
  · refine ⟨.int (ns.count k : Nat), H, I.tok _, ⟨s.toks, ?_⟩, q⟩
    show Value.int ((its.toArray.toList.countP (eqsV k) : Nat) : Int) s.toks = _
    rw [List.toList_toArray, cnt_strs rv]
/-! ### rising_names -/
theorem seq_l {K : PySem.W.Frag} : PySem.W.kitAny K (.type "list") [.type "list", .type "tuple"] = some true := by
  simp only [PySem.W.kitAny, kit_ty (show kitB "list" "list" = some true by decide +kernel)]
theorem seq_t {K : PySem.W.Frag} : PySem.W.kitAny K (.type "tuple") [.type "list", .type "tuple"] = some true := by
  simp only [PySem.W.kitAny, kit_ty (show kitB "tuple" "list" = some false by decide +kernel), kit_ty (show kitB "tuple" "tuple" = some true by decide +kernel)]
theorem is_lt {K : PySem.W.Frag} {H : Hp} {a : Addr} {xs : List V} (h : LT H a xs) : ∃ t, TyX K H (.ref a) t ∧ PySem.W.kitAny K t [.type "list", .type "tuple"] = some true := by
  rcases h with h | h
  · exact ⟨_, .base (.lst h), seq_l⟩
  · exact ⟨_, .base (.tup h), seq_t⟩
abbrev clsLT : Paired ClsV [V.ty "list", V.ty "tuple"] [.type "list", .type "tuple"] := .cons (.ty "list") (.cons (.ty "tuple") .nil)
def spRising (Ts : List Addr) : Sp := fun vs H Q _ => ∃ (l : Addr) (xs : List Str) (most : Int), vs = [.ref l, .int most] ∧ LT H l (xs.map V.str) ∧ (∀ y ∈ xs, nameB y = true) ∧ xs.length ≤ 1000 ∧ 1 ≤ (onceR xs).length ∧ ((onceR xs).length : Int) ≤ most ∧ most ≤ 60 ∧ TabsG Ts H ∧
  ∀ (tp : Addr) (ys : List Str) (H' : Hp), ys.Perm (onceR xs) → sortedS ys = true → TB1 Ts H H' → H' tp = some (.tup (ys.map V.str)) → Q (.ref tp) H'
section
variable {P : Program} {w : World} {K : PySem.W.Frag} {mg : Str → Option Value} {base : Heap}
abbrev sRisingN : List Str := ["things", "most", "names", "thing"]
theorem sc_sRising : FnScope sRisingN ["things", "most"] (defScope sRising) := ⟨rfl, rfl, rfl, by decide +kernel, rfl, by decide +kernel, by decide +kernel⟩
theorem ok_rising {f cR T1 T3 fN : Addr} {Ts : List Addr} {dN : FuncData} {oc kV doc pm ct : Value} {od an : Option Addr} {osl : Array (Option Value)}
    (lk : K.lookup f = some ⟨oc, od, .func (PySem.W.fnOf "rising_names" "rising_names" (defArgs sRising) (defBody sRising) (defScope sRising) .none kV doc pm an (.ref cR) ct), osl⟩) (cdI : PySem.W.codeIn K (.ref cR) "rising_names" = true)
    (TB : GxR.TabB base mg cR T3) (i1 : T1 ∈ Ts) (i3 : T3 ∈ Ts) (NM : DefT P w K mg base "is_name" 1 fN dN ["thing"] (spName K T1))
    (mis : mg "isinstance" = none) (mT_list : mg "list" = none) (mT_tuple : mg "tuple" = none) (ml : mg "len" = none) (mal : mg "all" = none) (ms : mg "sorted" = none) (mse : mg "set" = none) :
    FnOk P w K mg base CX0 3 f (PySem.W.fnOf "rising_names" "rising_names" (defArgs sRising) (defBody sRising) (defScope sRising) .none kV doc pm an (.ref cR) ct) ["things", "most"] (spRising Ts) := by
  refine fn_of lk cdI sc_sRising (fun vs H Q E h => ?_) (fun A outer s H vs Q E hr h => ?_)
  · obtain ⟨l, xs, most, rfl, _⟩ := h
    rfl
  · obtain ⟨l, xs, most, rfl, hl, nm, lx, o1, o2, o3, tg, q⟩ := h
    have nd := sc_sRising.nd
    refine ⟨_, pss_cons (ps_if (pt_not (pt_val (pe_callB call_isiT (by rfl) mis (by decide +kernel) (pa_cons (pv 0) (pa_cons (pe_tup (pa_cons (pe_bltn (v := .ty "list") (u := .type "list") (by rfl) mT_list (by decide +kernel) rfl) (pa_cons (pe_bltn (v := .ty "tuple") (u := .type "tuple") (by rfl) mT_tuple (by decide +kernel) rfl) pa_nil))) pa_nil))))) (pss_one ps_never) pss_nil)
      (pss_cons (ps_if (pt_not (pt_val (pe_allG (T := T3) (c := cR) (k := 1) (own := [("thing", 3)]) (g := gName 3) (tt := tYes) (te := tCall (spName K T1) [] E0 (tCons (tVar 3) tNil))
          hr (by rfl) mal rfl nd TB rfl ⟨blkOk_by (N := sRisingN) (sc := defScope sRising) (by decide +kernel), rfl, by decide +kernel, rfl⟩
          (pi_seq (pv 0)) (fun _ _ _ _ _ _ => pg_name (i := 3) nd rfl (Or.inl rfl)) (fun _ _ _ _ _ _ _ => pts_nil) (fun _ _ _ _ _ _ hr' => pe_call NM.ok hr' (by rfl) NM.g NM.kp NM.b .nil pass0 (pa_cons (pv 3) pa_nil))))) (pss_one ps_never) pss_nil)
      (pss_cons (ps_set (i := 2) nd rfl (Or.inl rfl) (pe_callTy call_tuple_of (by rfl) mT_tuple (by decide +kernel) (pa_cons (pe_sortSet rfl (by rfl) ms (by rfl) mse (pv 0)) pa_nil)))
      (pss_cons (ps_if (pt_not (pt_chain op_le op_le pe_int (pe_callB call_len_seq (by rfl) ml PySem.boot_len (pa_cons (pv 2) pa_nil)) (pv 1))) (pss_one ps_never) pss_nil)
      (pss_one (ps_ret (pv 2)))))), ?_⟩
    refine ⟨_, rfl, (by show 2 ≤ sizeLine; decide), fun tq ntq => ?_⟩
    have s0 := @same_new _ _ (.tup [V.ty "list", V.ty "tuple"]) ntq
    have hl0 := hl.on s0
    have tg0 := tabs_sm s0 tg
    have b0 : TB1 Ts H (upd H tq (.tup [V.ty "list", V.ty "tuple"])) := .same tg s0
    obtain ⟨t, ty, kt⟩ := is_lt (K := K) hl0
    refine ⟨_, tq, _, t, _, true, rfl, upd_same, clsLT, ty, kt, _, rfl, iteF ?_⟩
    generalize upd H tq (.tup [V.ty "list", V.ty "tuple"]) = H1 at hl0 tg0 b0
    clear ty kt
    -- all are names
    dsimp only [tNext, tSeq, tIfS, tNot, tB]
    refine all_seq (k := 0) hl0 rfl (fun _ H' => TB1 Ts H1 H') (tg0 T3 i3) (fun H2 tb => TB1.tab tb tg0 i3) (fun i H' _ b o e n => b.2 _ _ e n) ?_ ?_
    · intro i x H' Go hx b go
      rw [List.getElem?_map] at hx
      obtain ⟨y, hy, rfl⟩ := Option.map_eq_some_iff.mp hx
      have ny := nm y (List.mem_of_getElem? hy)
      refine ⟨rfl, yesT ⟨_, rfl, _, rfl, b.1 T1 i1, .inl ⟨y, rfl, small_sz (by have := name_len ny; omega), fun H3 tb => ?_⟩⟩⟩
      rw [ny]
      exact ⟨true, rfl, iteT (go _ (b.tr (.tab tb b.1 i1)))⟩
    · intro H2 b2
      refine ⟨true, rfl, iteF ?_⟩
      have hl2 : LT H2 l (xs.map V.str) := hl0.by fun o e n => b2.2 _ _ e n
      refine ⟨_, rfl, l, xs, rfl, hl2.symm.imp (fun h => SqT.of h) (fun h => SqL.of h), by omega, lx, fun ys p pm so np => ?_⟩
      refine ⟨p, _, rfl, .inl ⟨SqL.of upd_same, fun tp ntp => ?_⟩⟩
      have s3 := (@same_new _ _ (.lst (ys.map V.str)) np).trans (@same_new _ _ (.tup (ys.map V.str)) ntp)
      have ly : ys.length = (onceR xs).length := pm.length_eq
      have z1 : decide ((1 : Int) ≤ ((ys.map V.str).length : Int)) = true := decide_eq_true (by rw [List.length_map, ly]; omega)
      have z2 : decide (((ys.map V.str).length : Int) ≤ most) = true := decide_eq_true (by rw [List.length_map, ly]; omega)
      refine ⟨_, rfl, tp, _, rfl, .inr (SqT.of upd_same), 1, _, rfl, rfl, _, rfl, ?_⟩
      rw [z1]
      refine iteT ⟨_, rfl, _, most, rfl, rfl, _, rfl, ?_⟩
      rw [z2]
      exact iteF ⟨_, rfl, q tp ys _ pm so (b0.tr (b2.tr (.same b2.1 s3))) upd_same⟩
end
theorem inV_iff {x : Str} {ys : List Str} : inV (.str x) (ys.map V.str) = decide (x ∈ ys) := by
  unfold inV
  rw [List.any_map]
  by_cases h : x ∈ ys
  · rw [decide_eq_true h]
    exact List.any_eq_true.mpr ⟨x, h, by show (x == x) = true; simp⟩
  · rw [decide_eq_false h, List.any_eq_false]
    intro y hy z
    have z' : (y == x) = true := z
    exact h (eq_of_beq z' ▸ hy)
theorem all_flat (ys : List Str) : (ys.map V.str).all flatV = true := by
  rw [List.all_map]
  exact List.all_eq_true.mpr fun y _ => rfl
theorem scal_good (e : Ent) (g : Str) : scal e.goodV (.str g) = true := by cases e <;> rfl
/-! ### is_entry_of -/
theorem TB1.of2 {Ts : List Addr} {T1 T2 : Addr} {H H' : Hp} (g : TabsG Ts H) (i1 : T1 ∈ Ts) (i2 : T2 ∈ Ts) (b : TB2 T1 T2 H H') : TB1 Ts H H' := by
  have n1 : ∀ {a o}, H a = some o → (∀ ps, o ≠ .tbl ps) → a ≠ T1 ∧ a ≠ T2 := fun {a o} e n => by
    obtain ⟨p1, e1, _⟩ := g T1 i1
    obtain ⟨p2, e2, _⟩ := g T2 i2
    exact ⟨ne_of e e1 (n p1), ne_of e e2 (n p2)⟩
  refine ⟨fun T hT => ?_, fun a o e n => b.1 a o e (n1 e n).1 (n1 e n).2, fun a n => ?_, fun a o e n => b.1 a o e (fun z => n (z ▸ i1)) fun z => n (z ▸ i2)⟩
  · by_cases z1 : T = T1
    · rw [z1]; exact b.2.1
    · by_cases z2 : T = T2
      · rw [z2]; exact b.2.2
      · obtain ⟨ps, e, ok⟩ := g T hT
        exact ⟨ps, b.1 T _ e z1 z2, ok⟩
  · cases e : H a with
    | none => rfl
    | some o =>
      by_cases z1 : a = T1
      · obtain ⟨ps, e1, _⟩ := b.2.1
        rw [z1, e1] at n
        cases n
      · by_cases z2 : a = T2
        · obtain ⟨ps, e1, _⟩ := b.2.2
          rw [z2, e1] at n
          cases n
        · rw [b.1 a o e z1 z2] at n
          cases n
theorem take_sn {α : Type} {l : List α} {i : Nat} {x : α} (h : l[i]? = some x) : l.take (i + 1) = l.take i ++ [x] := by
  rw [List.take_add_one, h]
  rfl
def goodOk (e : Ent) (G : List Str) : Bool := match e.goodV with | .str g => decide (g ∈ G) | _ => true
def ofB (e : Ent) (P G : List Str) : Bool := goodOk e G && e.places.all fun y => decide (y ∈ P)
def spIsEntryOf (Ts : List Addr) : Sp := fun vs H Q _ => ∃ (a pl gl : Addr) (e : Ent) (P G : List Str), vs = [.ref a, .ref pl, .ref gl] ∧ H a = some (.tup e.vals) ∧ e.Fine ∧ H pl = some (.tup (P.map V.str)) ∧ H gl = some (.tup (G.map V.str)) ∧ TabsG Ts H ∧
  ∀ H', TB1 Ts H H' → Q (.bl (ofB e P G)) H'
theorem goodV_cases (e : Ent) : e.goodV = .non ∨ ∃ g, e.goodV = .str g := by cases e <;> first | exact .inl rfl | exact .inr ⟨_, rfl⟩
section
variable {P : Program} {w : World} {K : PySem.W.Frag} {mg : Str → Option Value} {base : Heap}
abbrev sIsEntryOfN : List Str := ["thing", "places", "goods", "good", "place"]
theorem sc_sIsEntryOf : FnScope sIsEntryOfN ["thing", "places", "goods"] (defScope sIsEntryOf) := ⟨rfl, rfl, rfl, by decide +kernel, rfl, by decide +kernel, by decide +kernel⟩
theorem ok_isEntryOf {f cR T1 T2 T4 fI fG fP : Addr} {Ts : List Addr} {dI dG dP : FuncData} {oc kV doc pm ct : Value} {od an : Option Addr} {osl : Array (Option Value)}
    (lk : K.lookup f = some ⟨oc, od, .func (PySem.W.fnOf "is_entry_of" "is_entry_of" (defArgs sIsEntryOf) (defBody sIsEntryOf) (defScope sIsEntryOf) .none kV doc pm an (.ref cR) ct), osl⟩) (cdI : PySem.W.codeIn K (.ref cR) "is_entry_of" = true)
    (TB : GxR.TabB base mg cR T4) (i1 : T1 ∈ Ts) (i2 : T2 ∈ Ts) (i4 : T4 ∈ Ts) (IE : DefT P w K mg base "is_entry" 4 fI dI ["thing"] (spIsEntry T1 T2)) (GO : DefT P w K mg base "good_of" 1 fG dG ["entry"] spGood) (PO : DefT P w K mg base "places_of" 1 fP dP ["entry"] spPlaces)
    (mal : mg "all" = none) :
    FnOk P w K mg base CX0 5 f (PySem.W.fnOf "is_entry_of" "is_entry_of" (defArgs sIsEntryOf) (defBody sIsEntryOf) (defScope sIsEntryOf) .none kV doc pm an (.ref cR) ct) ["thing", "places", "goods"] (spIsEntryOf Ts) := by
  refine fn_of lk cdI sc_sIsEntryOf (fun vs H Q E h => ?_) (fun A outer s H vs Q E hr h => ?_)
  · obtain ⟨a, pl, gl, e, Ps, G, rfl, _⟩ := h
    rfl
  · obtain ⟨a, pl, gl, e, Ps, G, rfl, ha, fi, hp, hg, tg, q⟩ := h
    have nd := sc_sIsEntryOf.nd
    have hr1 : Room 1 _ := hr.mono (by decide)
    refine ⟨_, pss_cons (ps_if (pt_not (pt_val (pe_call IE.ok hr (by rfl) IE.g IE.kp IE.b .nil pass0 (pa_cons (pv 0) pa_nil)))) (pss_one (ps_ret pe_bl)) pss_nil)
      (pss_cons (ps_set (i := 3) nd rfl (Or.inl rfl) (pe_call GO.ok hr1 (by rfl) GO.g GO.kp GO.b .nil pass0 (pa_cons (pv 0) pa_nil)))
      (pss_cons (ps_if (PW.pt (pw_and (pt_cmpR op_notN (pv 3) pe_non (by rfl)) (pw_and1 (pt_cmpR op_notIn_seq (pv 3) (pv 2) (by rfl))))) (pss_one (ps_ret pe_bl)) pss_nil)
      (pss_one (ps_ret (pe_allG (T := T4) (c := cR) (k := 1) (own := [("place", 4)]) (g := gName 4) (tt := tYes) (te := tOp (rIn K false) (tVar 4) (tVar 1))
          (hr.mono (by decide)) (by rfl) mal rfl nd TB rfl ⟨blkOk_by (N := sIsEntryOfN) (sc := defScope sIsEntryOf) (by decide +kernel), rfl, by decide +kernel, rfl⟩
          (pi_tup (pe_call PO.ok hr1 (by rfl) PO.g PO.kp PO.b .nil pass0 (pa_cons (pv 0) pa_nil))) (fun _ _ _ _ _ _ => pg_name (i := 4) nd rfl (Or.inl rfl)) (fun _ _ _ _ _ _ _ => pts_nil) (fun _ _ _ _ _ _ _ => pe_cmpR op_in_seq (pv 4) (pv 1) (by rfl))))))), ?_⟩
    refine ⟨_, rfl, a, e, rfl, ha, fi, tg T1 i1, tg T2 i2, fun H1 b => ?_⟩
    have b1 := TB1.of2 tg i1 i2 b
    have ha1 := b1.tk _ _ ha
    have hp1 := b1.tk _ _ hp
    have hg1 := b1.tk _ _ hg
    refine ⟨true, rfl, iteF ⟨_, rfl, a, e, rfl, ha1, ?_⟩⟩
    -- the places
    have last : goodOk e G = true → tRet (tAllG T4 (iTup K (tCall spPlaces [] E0 (tCons (tVar 0) tNil))) (gName 4) tYes (tOp (rIn K false) (tVar 4) (tVar 1)) [4]) { nx := fun x H' => Q V.non H', rt := Q } [some (.ref a), some (.ref pl), some (.ref gl), some e.goodV, none] H1 := fun go => by
      refine ⟨_, rfl, a, e, rfl, ha1, fun tp H4 s4 ht => ⟨tp, rfl, ⟨_, SqT.of ht⟩, ?_⟩⟩
      have b4 := b1.tr (.same b1.1 s4)
      refine all_over (over_t (K := K) (a := tp) (xs := e.places.map V.str)) (fun i H' => TB1 Ts H4 H' ∧ (e.places.take i).all (fun y => decide (y ∈ Ps)) = true) (b4.1 T4 i4) (fun H2 tb => ⟨.tab tb b4.1 i4, rfl⟩) (fun i H' _ b => SqT.of (b.1.tk _ _ ht)) ?_ ?_
      · intro i x H' Go hx b go'
        rw [List.getElem?_map] at hx
        obtain ⟨y, hy, rfl⟩ := Option.map_eq_some_iff.mp hx
        refine ⟨rfl, yesT ⟨_, rfl, _, rfl, pl, Ps.map V.str, rfl, .inr (SqT.of (b.1.tk _ _ (s4 _ _ hp1))), rfl, all_flat _, _, rfl, ?_⟩⟩
        rw [inV_iff]
        by_cases z : y ∈ Ps
        · rw [decide_eq_true z]
          refine iteT (go' _ ⟨b.1, ?_⟩)
          rw [take_sn hy, List.all_append, b.2]
          simp [z]
        · rw [decide_eq_false z]
          refine iteF ?_
          have := q H' (b4.tr b.1)
          rw [show ofB e Ps G = false by
            unfold ofB
            rw [go, Bool.true_and, List.all_eq_false]
            exact ⟨y, List.mem_of_getElem? hy, by simp [z]⟩] at this
          exact this
      · intro H' b
        have := q H' (b4.tr b.1)
        rw [show ofB e Ps G = true by
          unfold ofB
          rw [go, Bool.true_and, ← b.2, List.length_map, List.take_length]] at this
        exact this
    rcases goodV_cases e with eg | ⟨g, eg⟩
    · have go : goodOk e G = true := by unfold goodOk; rw [eg]
      refine ⟨_, rfl, rfl, ?_⟩
      have := last go
      rw [eg] at this ⊢
      exact ⟨_, rfl, iteF this⟩
    · have go : goodOk e G = decide (g ∈ G) := by unfold goodOk; rw [eg]
      refine ⟨_, rfl, rfl, ?_⟩
      rw [eg] at last ⊢
      refine ⟨_, rfl, iteT ⟨_, rfl, _, rfl, gl, G.map V.str, rfl, .inr (SqT.of hg1), rfl, all_flat _, _, rfl, ?_⟩⟩
      rw [inV_iff]
      by_cases z : g ∈ G
      · rw [decide_eq_true z]
        exact iteF (last (by rw [go, decide_eq_true z]))
      · rw [decide_eq_false z]
        refine iteT ?_
        have := q H1 b1
        rw [show ofB e Ps G = false by unfold ofB; rw [go, decide_eq_false z]; rfl] at this
        exact this
end
/-! ### own_entries, in_order, house_of -/
theorem ents_pairs {H : Hp} : ∀ {pr : List (Addr × Ent)}, (∀ x ∈ pr, H x.1 = some (.tup x.2.vals)) → EntsAt H (pr.map (·.1)) (pr.map (·.2))
  | [], _ => .nil
  | x :: r, h => .cons (h x List.mem_cons_self) (ents_pairs fun y hy => h y (List.mem_cons_of_mem _ hy))
def prV (x : Addr × Ent) : V × PyData := (.ref x.1, ordD x.2)
/-- entries in their order -/
def ordLe (a b : Addr × Ent) : Bool := PySem.W.dataLe false id (ordD a.2) (ordD b.2)
def sortE (pr : List (Addr × Ent)) : List (Addr × Ent) := pr.mergeSort ordLe
theorem keyed_prV (pr : List (Addr × Ent)) : keyed (pr.map prV) = (sortE pr).map prV := (List.map_mergeSort (f := prV) (s := PySem.W.dataLe false fun e : V × PyData => e.2) (r := ordLe) (l := pr) fun a _ b _ => rfl).symm
theorem sortE_p (pr : List (Addr × Ent)) : (sortE pr).Perm pr := List.mergeSort_perm _ _
theorem ord_inj {e g : Ent} (h : PySem.W.keyToks (ordD e) = PySem.W.keyToks (ordD g)) : e.name = g.name := by
  have h' : ([.inl 1, .inl e.moment, .inl 1, .inl e.rank, .inl 1, .inr e.name.cps.toList, .inl 0] : List (Int ⊕ List Nat)) = [.inl 1, .inl g.moment, .inl 1, .inl g.rank, .inl 1, .inr g.name.cps.toList, .inl 0] := by
    simpa [ordD, PySem.W.keyToks, PySem.W.keyToksAll] using h
  simp only [List.cons.injEq, Sum.inr.injEq, Sum.inl.injEq, true_and, and_true] at h'
  exact str_ext h'.2.2
theorem dle_iff (a b : PyData) : PySem.W.dataLe false id a b = !PySem.W.dataLt b a := rfl
theorem dlt_asym {a b : PyData} (h : PySem.W.dataLt a b = true) : PySem.W.dataLt b a = false := by
  cases e : PySem.W.dataLt b a with
  | false => rfl
  | true =>
    have := PyProof.Rows.lex_trans (O := PyProof.Rows.itemOrd) _ _ _ h e
    rw [PyProof.Rows.lex_irrefl] at this
    cases this
theorem dle_tr (a b c : PyData) (h1 : PySem.W.dataLe false id a b = true) (h2 : PySem.W.dataLe false id b c = true) : PySem.W.dataLe false id a c = true := by
  rw [dle_iff] at *
  have g1 : PySem.W.dataLt b a = false := by simpa using h1
  have g2 : PySem.W.dataLt c b = false := by simpa using h2
  cases e : PySem.W.dataLt c a with
  | false => rfl
  | true =>
    rcases PyProof.Rows.lex_negTrans (O := PyProof.Rows.itemOrd) _ (PySem.W.keyToks b) _ e with z | z
    · exact absurd (g2.symm.trans z) (by decide)
    · exact absurd (g1.symm.trans z) (by decide)
theorem dle_tot (a b : PyData) : (PySem.W.dataLe false id a b || PySem.W.dataLe false id b a) = true := by
  rw [dle_iff, dle_iff]
  cases e : PySem.W.dataLt b a with
  | false => rfl
  | true => rw [dlt_asym e]; rfl
theorem ordLe_tr (a b c : Addr × Ent) (h1 : ordLe a b = true) (h2 : ordLe b c = true) : ordLe a c = true := dle_tr _ _ _ h1 h2
theorem ordLe_tot (a b : Addr × Ent) : (ordLe a b || ordLe b a) = true := dle_tot _ _
theorem sortE_perm {a b : List (Addr × Ent)} (p : a.Perm b) (inj : ∀ x ∈ a, ∀ y ∈ a, x.2.name = y.2.name → x = y) : sortE a = sortE b := by
  have pa := sortE_p a
  have pb := sortE_p b
  refine List.Perm.eq_of_pairwise (le := fun x y => ordLe x y = true) (fun x y hx hy h1 h2 => ?_) (List.pairwise_mergeSort ordLe_tr ordLe_tot a) (List.pairwise_mergeSort ordLe_tr ordLe_tot b) (pa.trans (p.trans pb.symm))
  unfold ordLe at h1 h2
  rw [dle_iff] at h1 h2
  have g1 : PySem.W.dataLt (ordD y.2) (ordD x.2) = false := by simpa using h1
  have g2 : PySem.W.dataLt (ordD x.2) (ordD y.2) = false := by simpa using h2
  exact inj x (pa.mem_iff.mp hx) y (p.mem_iff.mpr (pb.mem_iff.mp hy)) (ord_inj (PyProof.Rows.lex_total (O := PyProof.Rows.itemOrd) _ _ g2 g1))
def spInOrder : Sp := fun vs H Q _ => ∃ (l : Addr) (pr : List (Addr × Ent)), vs = [.ref l] ∧ H l = some (.lst (pr.map fun x => V.ref x.1)) ∧ (∀ x ∈ pr, H x.1 = some (.tup x.2.vals)) ∧
  ∀ (tp : Addr) (H' : Hp), H tp = none → Same H H' → H' tp = some (.tup ((sortE pr).map fun x => V.ref x.1)) → Q (.ref tp) H'
section
variable {P : Program} {w : World} {K : PySem.W.Frag} {mg : Str → Option Value} {base : Heap}
abbrev sInOrderN : List Str := ["entries"]
theorem sc_sInOrder : FnScope sInOrderN ["entries"] (defScope sInOrder) := ⟨rfl, rfl, rfl, by decide +kernel, rfl, by decide +kernel, by decide +kernel⟩
theorem ok_inOrder {f fO : Addr} {fd dO : FuncData} (F : Fun K "in_order" "in_order" sInOrder f fd) (O : DefT P w K mg base "order_of" 1 fO dO ["entry"] spOrd) (ms : mg "sorted" = none) (mt : mg "tuple" = none) : FnOk P w K mg base CX0 4 f fd ["entries"] spInOrder := by
  refine F.ok sc_sInOrder (fun vs H Q E h => ?_) (fun cdv A outer s H vs Q E hr h => ?_)
  · obtain ⟨l, pr, rfl, _⟩ := h
    rfl
  · obtain ⟨l, pr, rfl, hl, hE, q⟩ := h
    have nd := sc_sInOrder.nd
    have hr3 : Room 3 _ := hr
    have nd := sc_sInOrder.nd
    have hr3 : Room 3 _ := hr.mono (by decide)
    refine ⟨_, pss_one (ps_ret (pe_callTy call_tuple_of (by rfl) mt (by decide +kernel) (pa_cons (pe_callBK (cr_sortK O.ok hr3 O.b) (by rfl) ms (by decide +kernel) (pa_cons (pv 0) pa_nil) (pk_cons (pe_glob (v := .ref fO) (by rfl) O.g rfl) pk_nil)) pa_nil))), ?_⟩
    refine ⟨_, rfl, l, pr.map prV, rfl, rfl, SqL.of (by rw [hl, List.map_map]; rfl), ?_, .inl ?_, ?_, ?_, fun a3 H10 na3 s3 h3 => ⟨a3, _, rfl, .inl ⟨SqL.of h3, fun t3 nt3 => ?_⟩⟩⟩
    · intro d hd d' hd'
      rw [List.map_map] at hd hd'
      obtain ⟨x, _, rfl⟩ := List.mem_map.mp hd
      obtain ⟨y, _, rfl⟩ := List.mem_map.mp hd'
      exact ord_alike x.2 y.2
    · intro d hd
      rw [List.map_map] at hd
      obtain ⟨x, _, rfl⟩ := List.mem_map.mp hd
      exact ⟨_, _, rfl⟩
    · intro e he
      obtain ⟨x, _, rfl⟩ := List.mem_map.mp he
      show 1 ≤ 60
      decide
    · intro e he H1 sm Q1 hq
      obtain ⟨x, hx, rfl⟩ := List.mem_map.mp he
      exact ⟨x.1, x.2, rfl, sm _ _ (hE x hx), fun tp H2 sm2 h2 => hq _ _ sm2 (ord_dp h2)⟩
    · rw [keyed_prV]
      refine q t3 _ ?_ (s3.trans (same_new nt3)) ?_
      · cases e : H t3 with
        | none => rfl
        | some o => exact absurd (s3 _ _ e) (by rw [nt3]; intro z; cases z)
      · rw [upd_same, List.map_map]
        rfl
end
/-! ### own_entries -/
theorem snocInd {α : Type} {p : List α → Prop} (h0 : p []) (h1 : ∀ r y, p r → p (r ++ [y])) (l : List α) : p l := by
  have : ∀ m : List α, p m.reverse := fun m => by
    induction m with
    | nil => exact h0
    | cons y r ih => rw [List.reverse_cons]; exact h1 _ _ ih
  have := this l.reverse
  rwa [List.reverse_reverse] at this
theorem nodup_of_map {α β : Type} {f : α → β} {l : List α} (h : (l.map f).Nodup) : l.Nodup := (List.pairwise_map.mp h).imp fun h z => h (congrArg f z)
theorem perm_of_in {α : Type} {l ks : List α} (n1 : l.Nodup) (n2 : ks.Nodup) (h : ∀ x, x ∈ l ↔ x ∈ ks) : l.Perm ks := by
  classical
  induction l generalizing ks with
  | nil =>
    cases ks with
    | nil => exact .nil
    | cons y r => exact nomatch (h y).mpr List.mem_cons_self
  | cons x r ih =>
    have hx : x ∈ ks := (h x).mp List.mem_cons_self
    have p := List.perm_cons_erase hx
    refine (List.Perm.cons x (ih (List.nodup_cons.mp n1).2 (n2.erase x) fun y => ?_)).trans p.symm
    rw [n2.mem_erase_iff]
    constructor
    · intro hy
      exact ⟨fun z => (List.nodup_cons.mp n1).1 (z ▸ hy), (h y).mp (List.mem_cons_of_mem _ hy)⟩
    · intro ⟨ne, hy⟩
      exact (List.mem_cons.mp ((h y).mpr hy)).resolve_left ne
def hasN (l : List (Addr × Ent)) (n : Str) : Bool := l.any fun y => decide (y.2.name = n)
def onceN (ts : List (Addr × Ent)) : List (Addr × Ent) := ts.foldl (fun acc x => if hasN acc x.2.name = true then acc else acc ++ [x]) []
theorem onceN_snoc (ts : List (Addr × Ent)) (x : Addr × Ent) : onceN (ts ++ [x]) = if hasN (onceN ts) x.2.name = true then onceN ts else onceN ts ++ [x] := by
  unfold onceN
  rw [List.foldl_append]
  rfl
def kvN (l : List (Addr × Ent)) : List (Key × V) := l.map fun x => ((Sum.inr x.2.name : Key), V.ref x.1)
theorem hasN_iff {l : List (Addr × Ent)} {n : Str} : hasN l n = true ↔ ∃ y ∈ l, y.2.name = n := by
  unfold hasN
  rw [List.any_eq_true]
  exact ⟨fun ⟨y, hy, e⟩ => ⟨y, hy, of_decide_eq_true e⟩, fun ⟨y, hy, e⟩ => ⟨y, hy, decide_eq_true e⟩⟩
theorem onceN_sub (ts : List (Addr × Ent)) : ∀ x ∈ onceN ts, x ∈ ts := by
  induction ts using snocInd with
  | h0 => intro x hx; exact nomatch hx
  | h1 r y ih =>
    intro x hx
    rw [onceN_snoc] at hx
    by_cases h : hasN (onceN r) y.2.name = true
    · rw [if_pos h] at hx
      exact List.mem_append.mpr (.inl (ih x hx))
    · rw [if_neg h] at hx
      rcases List.mem_append.mp hx with hx | hx
      · exact List.mem_append.mpr (.inl (ih x hx))
      · exact List.mem_append.mpr (.inr hx)
theorem onceN_has (ts : List (Addr × Ent)) : ∀ x ∈ ts, hasN (onceN ts) x.2.name = true := by
  induction ts using snocInd with
  | h0 => intro x hx; exact nomatch hx
  | h1 r y ih =>
    intro x hx
    rw [onceN_snoc]
    by_cases h : hasN (onceN r) y.2.name = true
    · rw [if_pos h]
      rcases List.mem_append.mp hx with hx | hx
      · exact ih x hx
      · rw [List.mem_singleton.mp hx]; exact h
    · rw [if_neg h]
      rcases List.mem_append.mp hx with hx | hx
      · obtain ⟨z, hz, e⟩ := hasN_iff.mp (ih x hx)
        exact hasN_iff.mpr ⟨z, List.mem_append.mpr (.inl hz), e⟩
      · exact hasN_iff.mpr ⟨x, List.mem_append.mpr (.inr hx), rfl⟩
theorem onceN_nodup (ts : List (Addr × Ent)) : ((onceN ts).map fun x => x.2.name).Nodup := by
  induction ts using snocInd with
  | h0 => exact .nil
  | h1 r y ih =>
    rw [onceN_snoc]
    by_cases h : hasN (onceN r) y.2.name = true
    · rw [if_pos h]; exact ih
    · rw [if_neg h, List.map_append, List.nodup_append]
      refine ⟨ih, List.nodup_cons.mpr ⟨fun z => (nomatch z), .nil⟩, fun a ha b hb z => h ?_⟩
      obtain ⟨u, hu, rfl⟩ := List.mem_map.mp ha
      rw [List.mem_singleton.mp hb] at z
      exact hasN_iff.mpr ⟨u, hu, z⟩
theorem onceN_len (ts : List (Addr × Ent)) : (onceN ts).length ≤ ts.length := by
  induction ts using snocInd with
  | h0 => exact Nat.le_refl _
  | h1 r y ih =>
    rw [onceN_snoc, List.length_append]
    by_cases h : hasN (onceN r) y.2.name = true
    · rw [if_pos h]; omega
    · rw [if_neg h, List.length_append]; simp only [List.length_cons, List.length_nil]; omega
/-- whatever the order: where a name tells the entry, what is left is the set -/
theorem onceN_perm {ts pr : List (Addr × Ent)} (nd : (pr.map fun x => x.2.name).Nodup) (h1 : ∀ x ∈ ts, x ∈ pr) (h2 : ∀ x ∈ pr, x ∈ ts) : (onceN ts).Perm pr := by
  have n1 : (onceN ts).Nodup := nodup_of_map (onceN_nodup ts)
  have n2 : pr.Nodup := nodup_of_map nd
  refine perm_of_in n1 n2 fun x => ⟨fun h => h1 x (onceN_sub ts x h), fun h => ?_⟩
  obtain ⟨z, hz, e⟩ := hasN_iff.mp (onceN_has ts x (h2 x h))
  have hz' := h1 z (onceN_sub ts z hz)
  have : z = x := by
    obtain ⟨i, hi⟩ := List.mem_iff_getElem?.mp hz'
    obtain ⟨j, hj⟩ := List.mem_iff_getElem?.mp h
    have : i = j := (List.getElem?_inj (by rw [List.length_map]; exact (List.getElem?_eq_some_iff.mp hi).1) nd).mp (by rw [List.getElem?_map, List.getElem?_map, hi, hj]; exact congrArg some e)
    rw [this, hj] at hi
    exact (Option.some.inj hi).symm
  rw [← this]
  exact hz
theorem val_kvN {l : List (Addr × Ent)} {n : Str} : (hasN l n = false → valV (kvN l) (Sum.inr n) = none) ∧ (∀ v, valV (kvN l) (Sum.inr n) = some v → ∃ y ∈ l, y.2.name = n ∧ v = .ref y.1) ∧ (hasN l n = true → (valV (kvN l) (Sum.inr n)).isSome = true) := by
  induction l with
  | nil => exact ⟨fun _ => rfl, fun v h => (nomatch h), fun h => (nomatch h)⟩
  | cons x r ih =>
    have e0 : kvN (x :: r) = ((Sum.inr x.2.name : Key), V.ref x.1) :: kvN r := rfl
    have e1 : hasN (x :: r) n = (decide (x.2.name = n) || hasN r n) := rfl
    by_cases z : x.2.name = n
    · have e2 : valV (kvN (x :: r)) (Sum.inr n) = some (.ref x.1) := by rw [e0]; exact valV_pos (congrArg Sum.inr z)
      rw [e1, decide_eq_true z, e2]
      exact ⟨fun h => (nomatch h), fun v h => ⟨x, List.mem_cons_self, z, (Option.some.inj h).symm⟩, fun _ => rfl⟩
    · have e2 : valV (kvN (x :: r)) (Sum.inr n) = valV (kvN r) (Sum.inr n) := by rw [e0]; exact valV_neg fun q => z (Sum.inr.inj q)
      rw [e1, decide_eq_false z, e2, Bool.false_or]
      exact ⟨ih.1, fun v h => let ⟨y, hy, r⟩ := ih.2.1 v h; ⟨y, List.mem_cons_of_mem _ hy, r⟩, ih.2.2⟩
def spOwnEnts (Ts : List Addr) : Sp := fun vs H Q _ => ∃ (l pl gl : Addr) (ts : List (Addr × Ent)) (P G : List Str), vs = [.ref l, .ref pl, .ref gl] ∧ LT H l (ts.map fun x => V.ref x.1) ∧ (∀ x ∈ ts, H x.1 = some (.tup x.2.vals) ∧ x.2.Fine ∧ SeqAt.shaped (entD x.2) = true ∧ ofB x.2 P G = true) ∧
  (∀ x ∈ ts, ∀ y ∈ ts, x.2.name = y.2.name → x = y) ∧ ts.length ≤ 1000 ∧ (onceN ts).length ≤ 30 ∧ H pl = some (.tup (P.map V.str)) ∧ H gl = some (.tup (G.map V.str)) ∧ TabsG Ts H ∧
  ∀ (tp : Addr) (H' : Hp), TB1 Ts H H' → H' tp = some (.tup ((sortE (onceN ts)).map fun x => V.ref x.1)) → Q (.ref tp) H'
theorem ent_dp {K : PySem.W.Frag} {H : Hp} {a : Addr} {e : Ent} (h : H a = some (.tup e.vals)) : Dp K H (.ref a) (entD e) := dp_ent h
theorem tabs_updD {H : Hp} {Ts : List Addr} {l : Addr} {kvs : List (Key × V)} {o : HO} (t : TabsG Ts H) (e : H l = some (.dK kvs)) : TabsG Ts (upd H l o) := fun T hT => by
  obtain ⟨ps, e1, ok⟩ := t T hT
  exact ⟨ps, (upd_ne (ne_of e1 e (by intro z; cases z))).trans e1, ok⟩
theorem TB1.putD {Ts : List Addr} {H H' : Hp} {l : Addr} {kvs : List (Key × V)} {o : HO} (t : TB1 Ts H H') (n : H l = none) (e : H' l = some (.dK kvs)) : TB1 Ts H (upd H' l o) :=
  ⟨tabs_updD t.1 e, fun a u eu na => (upd_ne (ne_of_none eu n)).trans (t.2 a u eu na), fun a na => by
    by_cases z : a = l
    · rw [z]
      exact n
    · rw [upd_ne z] at na
      exact t.free a na, fun a u eu na => (upd_ne (ne_of_none eu n)).trans (t.oth a u eu na)⟩
section
variable {P : Program} {w : World} {K : PySem.W.Frag} {mg : Str → Option Value} {base : Heap}
abbrev sOwnEntsN : List Str := ["things", "places", "goods", "called", "thing"]
theorem sc_sOwnEnts : FnScope sOwnEntsN ["things", "places", "goods"] (defScope sOwnEnts) := ⟨rfl, rfl, rfl, by decide +kernel, rfl, by decide +kernel, by decide +kernel⟩
set_option maxHeartbeats 1000000 in
theorem ok_ownEnts {f fI fO : Addr} {fd dI dO : FuncData} {Ts : List Addr} (F : Fun K "own_entries" "own_entries" sOwnEnts f fd) (IO : DefT P w K mg base "is_entry_of" 5 fI dI ["thing", "places", "goods"] (spIsEntryOf Ts)) (IN : DefT P w K mg base "in_order" 4 fO dO ["entries"] spInOrder)
    (mis : mg "isinstance" = none) (mT_list : mg "list" = none) (mT_tuple : mg "tuple" = none) (ml : mg "len" = none) (mME : ∃ t, mg "MOST_ENTRIES" = some (.int 30 t)) : FnOk P w K mg base CX0 6 f fd ["things", "places", "goods"] (spOwnEnts Ts) := by
  obtain ⟨tME, mME⟩ := mME
  refine F.ok sc_sOwnEnts (fun vs H Q E h => ?_) (fun cdv A outer s H vs Q E hr h => ?_)
  · obtain ⟨l, pl, gl, ts, Ps, G, rfl, _⟩ := h
    rfl
  · obtain ⟨l, pl, gl, ts, Ps, G, rfl, hl, hE, inj, lt, l30, hp, hg, tg, q⟩ := h
    have nd := sc_sOwnEnts.nd
    have hr4 : Room 4 _ := hr.mono (by decide)
    have nd := sc_sOwnEnts.nd
    have hr4 : Room 4 _ := hr.mono (by decide)
    refine ⟨_, pss_cons (ps_if (pt_not (pt_val (pe_callB call_isiT (by rfl) mis (by decide +kernel) (pa_cons (pv 0) (pa_cons (pe_tup (pa_cons (pe_bltn (v := .ty "list") (u := .type "list") (by rfl) mT_list (by decide +kernel) rfl) (pa_cons (pe_bltn (v := .ty "tuple") (u := .type "tuple") (by rfl) mT_tuple (by decide +kernel) rfl) pa_nil))) pa_nil))))) (pss_one ps_never) pss_nil)
      (pss_cons (ps_set (i := 3) nd rfl (Or.inl rfl) pe_dnewK)
      (pss_cons (ps_for PassesOwn.never rfl (pi_seq (pv 0)) (pg_name (i := 4) nd rfl (Or.inl rfl))
        (pss_cons (ps_if (pt_not (pt_val (pe_call IO.ok hr (by rfl) IO.g IO.kp IO.b .nil pass0 (pa_cons (pv 4) (pa_cons (pv 1) (pa_cons (pv 2) pa_nil)))))) (pss_one ps_never) pss_nil)
        (pss_one (ps_if (pt_cmpR (op_neD hr.units) (pe_sdf (pv 3) (pe_ix ix_tup (pv 4) pe_int (fun _ _ => rfl)) (pv 4) ⟨rfl, rfl, rfl, rfl⟩) (pv 4) (nomark _)) (pss_one ps_never) pss_nil))))
      (pss_cons (ps_if (pt_cmpR op_gt (pe_callB call_lenD (by rfl) ml PySem.boot_len (pa_cons (pv 3) pa_nil)) (pe_glob (v := .int 30) rfl mME ⟨_, rfl⟩) (nomark _)) (pss_one ps_never) pss_nil)
      (pss_one (ps_ret (pe_call IN.ok hr4 (by rfl) IN.g IN.kp IN.b .nil pass0 (pa_cons (pe_callTy (call_listVals rfl) (by rfl) mT_list (by decide +kernel) (pa_cons (pe_vals (pv 3)) pa_nil)) pa_nil))))))), ?_⟩
    refine ⟨_, rfl, (by show 2 ≤ sizeLine; decide), fun tq ntq => ?_⟩
    have s0 := @same_new _ _ (.tup [V.ty "list", V.ty "tuple"]) ntq
    obtain ⟨t, ty, kt⟩ := is_lt (K := K) (hl.on s0)
    refine ⟨_, tq, _, t, _, true, rfl, upd_same, clsLT, ty, kt, _, rfl, iteF fun D nD => ?_⟩
    clear ty kt
    have sD := s0.trans (@same_new _ _ (.dK []) nD)
    have hDn : H D = none := s0.free nD
    have hD : (upd (upd H tq (.tup [V.ty "list", V.ty "tuple"])) D (.dK [])) D = some (.dK []) := upd_same
    generalize upd (upd H tq (.tup [V.ty "list", V.ty "tuple"])) D (.dK []) = H1 at sD hD
    dsimp only [tNext, tSeq]
    refine for_seq (k := 0) (hl.on sD) rfl (fun i σ H' => ∃ y4, σ = [some (.ref l), some (.ref pl), some (.ref gl), some (.ref D), y4] ∧ TB1 Ts H H' ∧ H' D = some (.dK (kvN (onceN (ts.take i))))) ⟨_, rfl, .same tg sD, hD⟩ ?_ ?_ ?_
    · rintro i σ H' hi ⟨y4, rfl, b, _⟩ o e n
      rcases hl with h | h
      · rw [sD _ _ h] at e
        exact (b.2 _ _ h fun _ z => nomatch z).trans e
      · rw [sD _ _ h] at e
        exact (b.2 _ _ h fun _ z => nomatch z).trans e
    · rintro i x σ H2 hx ⟨y4, rfl, b2, hD2⟩
      rw [List.getElem?_map] at hx
      obtain ⟨y, hy, rfl⟩ := Option.map_eq_some_iff.mp hx
      have my := List.mem_of_getElem? hy
      obtain ⟨e1, e2, e3, e4⟩ := hE y my
      refine ⟨_, rfl, _, rfl, _, rfl, y.1, pl, gl, y.2, Ps, G, rfl, b2.tk _ _ e1, e2, b2.tk _ _ hp, b2.tk _ _ hg, b2.1, fun H3 b3 => ?_⟩
      rw [e4]
      have b23 := b2.tr b3
      have hD3 := b3.dct hD2
      have hy3 := b23.tk _ _ e1
      refine ⟨true, rfl, iteF ⟨_, rfl, D, rfl, .inl ⟨_, .inl hD3⟩, _, rfl, y.1, _, 1, _, rfl, rfl, SqT.of hy3, at1 y.2, _, rfl, _, Sum.inr y.2.name, hD3, rfl, ?_, fun v hv => ?_, fun hv => ?_⟩⟩
      · have : (kvN (onceN (ts.take i))).length ≤ 1000 := by
          show (List.map _ _).length ≤ _
          rw [List.length_map]
          refine Nat.le_trans (onceN_len _) ?_
          rw [List.length_take]
          omega
        exact small1000 (by omega)
      · obtain ⟨z, hz, ez, rfl⟩ := val_kvN.2.1 v hv
        have mz : z ∈ ts := List.mem_of_mem_take (onceN_sub _ z hz)
        obtain rfl := inj z mz y my ez
        refine ⟨_, rfl, _, _, ent_dp hy3, ent_dp hy3, e3, e3, _, rfl, ?_⟩
        rw [SeqAt.eqv_refl _ (SeqAt.canLay_of_shaped e3)]
        refine iteF ⟨_, rfl, b23, ?_⟩
        rw [hD3, take_sn hy, onceN_snoc, if_pos (hasN_iff.mpr ⟨z, hz, rfl⟩)]
      · refine ⟨_, rfl, _, _, ent_dp ((upd_ne (ne_of hy3 hD3 (by intro z; cases z))).trans hy3), ent_dp ((upd_ne (ne_of hy3 hD3 (by intro z; cases z))).trans hy3), e3, e3, _, rfl, ?_⟩
        rw [SeqAt.eqv_refl _ (SeqAt.canLay_of_shaped e3)]
        refine iteF ⟨_, rfl, b23.putD hDn hD3, ?_⟩
        have hn : ¬ hasN (onceN (ts.take i)) y.2.name = true := fun z => by
          have := val_kvN.2.2 z
          rw [hv] at this
          cases this
        rw [upd_same, putK_new _ hv, take_sn hy, onceN_snoc, if_neg hn]
        show _ = some (HO.dK (List.map _ (_ ++ [y])))
        rw [List.map_append]
        rfl
    · rintro σ H2 ⟨y4, rfl, b2, hD2⟩
      rw [List.length_map, List.take_length] at hD2
      refine ⟨_, rfl, D, _, rfl, hD2, (kvN (onceN ts)).length, 30, rfl, rfl, _, rfl, ?_⟩
      have z30 : (kvN (onceN ts)).length = (onceN ts).length := List.length_map _
      rw [decide_eq_false (show ¬ ((30 : Int) < ((kvN (onceN ts)).length : Int)) by rw [z30]; omega)]
      refine iteF ⟨_, rfl, D, _, rfl, hD2, fun v nv => ?_⟩
      have nvD : D ≠ v := ne_of_none hD2 nv
      refine ⟨v, D, _, rfl, upd_same, (upd_ne nvD).trans hD2, fun a na => ?_⟩
      have s3 := (@same_new _ _ (valsO v D) nv).trans (@same_new _ _ (.lst ((kvN (onceN ts)).map (·.2))) na)
      have b3 := b2.tr (.same b2.1 s3)
      refine ⟨a, onceN ts, rfl, ?_, fun x hx => b3.tk _ _ (hE x (onceN_sub ts x hx)).1, fun tp H5 ntp s5 h5 => q tp H5 (b3.tr (.same b3.1 s5)) h5⟩
      rw [upd_same]
      show some (HO.lst (List.map _ (List.map _ _))) = _
      rw [List.map_map]
      rfl
end
def spHouseOf (Ts : List Addr) : Sp := fun vs H Q _ => ∃ (l1 l2 l3 : Addr) (xs ys : List Str) (ts : List (Addr × Ent)), vs = [.ref l1, .ref l2, .ref l3] ∧ LT H l1 (xs.map V.str) ∧ LT H l2 (ys.map V.str) ∧ LT H l3 (ts.map fun x => V.ref x.1) ∧
  (∀ y ∈ xs, nameB y = true) ∧ xs.length ≤ 1000 ∧ 1 ≤ (onceR xs).length ∧ (onceR xs).length ≤ 6 ∧ (∀ y ∈ ys, nameB y = true) ∧ ys.length ≤ 1000 ∧ 1 ≤ (onceR ys).length ∧ (onceR ys).length ≤ 3 ∧
  (∀ x ∈ ts, H x.1 = some (.tup x.2.vals) ∧ x.2.Fine ∧ SeqAt.shaped (entD x.2) = true ∧ ofB x.2 xs ys = true) ∧ (∀ x ∈ ts, ∀ y ∈ ts, x.2.name = y.2.name → x = y) ∧ ts.length ≤ 1000 ∧ (onceN ts).length ≤ 30 ∧ TabsG Ts H ∧
  ∀ (h : Addr) (P G : List Str) (H' : Hp), P.Perm (onceR xs) → sortedS P = true → G.Perm (onceR ys) → sortedS G = true → TB1 Ts H H' → (∃ hp hg he, H' h = some (.tup [.ref hp, .ref hg, .ref he]) ∧ H' hp = some (.tup (P.map V.str)) ∧ H' hg = some (.tup (G.map V.str)) ∧ H' he = some (.tup ((sortE (onceN ts)).map fun x => V.ref x.1))) → Q (.ref h) H'
theorem ofB_congr {e : Ent} {P P' G G' : List Str} (h1 : ∀ y, y ∈ P ↔ y ∈ P') (h2 : ∀ y, y ∈ G ↔ y ∈ G') : ofB e P G = ofB e P' G' := by
  have e1 : (fun y => decide (y ∈ P)) = fun y => decide (y ∈ P') := funext fun y => decide_eq_decide.mpr (h1 y)
  have e2 : goodOk e G = goodOk e G' := by
    unfold goodOk
    cases e.goodV with
    | str g => exact decide_eq_decide.mpr (h2 g)
    | _ => rfl
  unfold ofB
  rw [e1, e2]
section
variable {P : Program} {w : World} {K : PySem.W.Frag} {mg : Str → Option Value} {base : Heap}
abbrev sHouseOfN : List Str := ["places", "goods", "entries", "own_places", "own_goods"]
theorem sc_sHouseOf : FnScope sHouseOfN ["places", "goods", "entries"] (defScope sHouseOf) := ⟨rfl, rfl, rfl, by decide +kernel, rfl, by decide +kernel, by decide +kernel⟩
theorem ok_houseOf {f fR fO : Addr} {fd dR dO : FuncData} {Ts : List Addr} (F : Fun K "house_of" "house_of" sHouseOf f fd) (RN : DefT P w K mg base "rising_names" 3 fR dR ["things", "most"] (spRising Ts)) (OE : DefT P w K mg base "own_entries" 6 fO dO ["things", "places", "goods"] (spOwnEnts Ts))
    (mP : ∃ t, mg "MOST_PLACES" = some (.int 6 t)) (mG : ∃ t, mg "MOST_GOODS" = some (.int 3 t)) : FnOk P w K mg base CX0 7 f fd ["places", "goods", "entries"] (spHouseOf Ts) := by
  obtain ⟨tP, mP⟩ := mP
  obtain ⟨tG, mG⟩ := mG
  refine F.ok sc_sHouseOf (fun vs H Q E h => ?_) (fun cdv A outer s H vs Q E hr h => ?_)
  · obtain ⟨l1, l2, l3, xs, ys, ts, rfl, _⟩ := h
    rfl
  · obtain ⟨l1, l2, l3, xs, ys, ts, rfl, h1, h2, h3, n1, lx, a1, a2, n2, ly, g1, g2, hE, inj, lt, l30, tg, q⟩ := h
    have nd := sc_sHouseOf.nd
    have hr3 : Room 3 _ := hr.mono (by decide)
    have nd := sc_sHouseOf.nd
    have hr3 : Room 3 _ := hr.mono (by decide)
    refine ⟨_, pss_cons (ps_set (i := 3) nd rfl (Or.inl rfl) (pe_call RN.ok hr3 (by rfl) RN.g RN.kp RN.b .nil pass0 (pa_cons (pv 0) (pa_cons (pe_glob (v := .int 6) rfl mP ⟨_, rfl⟩) pa_nil))))
      (pss_cons (ps_set (i := 4) nd rfl (Or.inl rfl) (pe_call RN.ok hr3 (by rfl) RN.g RN.kp RN.b .nil pass0 (pa_cons (pv 1) (pa_cons (pe_glob (v := .int 3) rfl mG ⟨_, rfl⟩) pa_nil))))
      (pss_one (ps_ret (pe_tup (pa_cons (pv 3) (pa_cons (pv 4) (pa_cons (pe_call OE.ok hr (by rfl) OE.g OE.kp OE.b .nil pass0 (pa_cons (pv 2) (pa_cons (pv 3) (pa_cons (pv 4) pa_nil)))) pa_nil))))))), ?_⟩
    refine ⟨_, rfl, l1, xs, 6, rfl, h1, n1, lx, a1, by omega, by decide, tg, fun t1 Ps H1 pm1 so1 b1 k1 => ?_⟩
    refine ⟨_, rfl, l2, ys, 3, rfl, h2.by fun o e n => b1.2 _ _ e n, n2, ly, g1, by omega, by decide, b1.1, fun t2 G H2 pm2 so2 b2 k2 => ?_⟩
    have b12 := b1.tr b2
    have m1 : ∀ y, y ∈ xs ↔ y ∈ Ps := fun y => ⟨fun h => pm1.mem_iff.mpr ((onceR_mem xs y).mpr h), fun h => (onceR_mem xs y).mp (pm1.mem_iff.mp h)⟩
    have m2 : ∀ y, y ∈ ys ↔ y ∈ G := fun y => ⟨fun h => pm2.mem_iff.mpr ((onceR_mem ys y).mpr h), fun h => (onceR_mem ys y).mp (pm2.mem_iff.mp h)⟩
    refine ⟨_, rfl, _, rfl, _, rfl, _, rfl, _, rfl, l3, t1, t2, ts, Ps, G, rfl, h3.by fun o e n => b12.2 _ _ e n, fun x hx => ?_, inj, lt, l30, b2.tk _ _ k1, k2, b12.1, fun t3 H3 b3 k3 => ?_⟩
    · obtain ⟨e1, e2, e3, e4⟩ := hE x hx
      exact ⟨b12.tk _ _ e1, e2, e3, (ofB_congr m1 m2) ▸ e4⟩
    · have b123 := b12.tr b3
      refine ⟨(by show 3 ≤ sizeLine; decide), fun h nh => ?_⟩
      have s4 := @same_new _ _ (.tup [V.ref t1, .ref t2, .ref t3]) nh
      exact q h Ps G _ pm1 so1 pm2 so2 (b123.tr (.same b123.1 s4)) ⟨t1, t2, t3, upd_same, s4 _ _ (b3.tk _ _ (b2.tk _ _ k1)), s4 _ _ (b3.tk _ _ k2), s4 _ _ k3⟩
end
/-! ### what is told is what is due -/
theorem ty_l {K : PySem.W.Frag} {H : Hp} {a : Addr} {xs : List V} (h : SqL K H a xs) : TyX K H (.ref a) (.type "list") := by
  rcases h with (h | ⟨o, h⟩) | ⟨o, _, _, h, c, _⟩
  · exact .base (.lst h)
  · exact .base (.frz h)
  · exact .kList h c
theorem ty_t {K : PySem.W.Frag} {H : Hp} {a : Addr} {xs : List V} (h : SqT K H a xs) : TyX K H (.ref a) (.type "tuple") := by
  rcases h with (h | ⟨o, h⟩) | ⟨o, _, _, h, c, _⟩
  · exact .base (.tup h)
  · exact .fTuple h
  · exact .kTuple h c
/-- [.. for a, b in zip(xs, ys)], its iterator being there -/
theorem lc_zip {J : It} {xs ys : List V} {At : Hp → Prop} {g : TG} {tt : TT} {te : TE} {vs : List Nat} {σ : L2.St} {H1 : Hp} {D : Addr} {Qd : Hp → Prop} (hlen : xs.length = ys.length) (go : ∀ i H, At H → i < xs.length → J.go i H)
    (yl : ∀ i H v H', At H → J.yld i H v H' → ∃ T x y, v = .ref T ∧ H T = none ∧ H' = upd H T (.tup [x, y]) ∧ xs[i]? = some x ∧ ys[i]? = some y) (stop : ∀ i H, At H → xs.length ≤ i → J.stop i H)
    (Pv : Nat → Hp → Prop) (h0 : Pv 0 (upd H1 D (.lst []))) (hl : ∀ i H, i ≤ xs.length → Pv i H → At H)
    (hs : ∀ i T x y H, xs[i]? = some x → ys[i]? = some y → Pv i H → H T = none → g (.ref T) (wipe σ vs) (upd H T (.tup [x, y])) fun σ2 H2 => wipe σ2 vs = wipe σ vs ∧ tt σ2 H2 fun b H3 =>
      if b = true then te σ2 H3 fun y H4 => ∃ acc, H4 D = some (.lst acc) ∧ acc.length < sizeLine ∧ Pv (i + 1) (upd H4 D (.lst (acc ++ [y]))) else Pv (i + 1) H3) (hd : ∀ H, Pv xs.length H → Qd H) :
    ∃ W : Nat → Nat → Hp → Prop, (∃ m, W 0 m (upd H1 D (.lst []))) ∧ ∀ i m H, W i m H →
      (J.stop i H ∧ Qd H) ∨ (J.go i H ∧ ∃ Nx : Hp → Prop, (∀ H', Nx H' → ∃ m', m' < m ∧ W (i + 1) m' H') ∧ ∀ x H', J.yld i H x H' → g x (wipe σ vs) H' fun σ2 H2 => wipe σ2 vs = wipe σ vs ∧ tt σ2 H2 fun b H3 =>
        if b = true then te σ2 H3 fun y H4 => ∃ acc, H4 D = some (.lst acc) ∧ acc.length < sizeLine ∧ Nx (upd H4 D (.lst (acc ++ [y]))) else Nx H3) := by
  refine ⟨fun i m H => m = xs.length - i ∧ i ≤ xs.length ∧ Pv i H, ⟨xs.length, by simp, Nat.zero_le _, h0⟩, ?_⟩
  rintro i m H ⟨rfl, hi, p⟩
  by_cases lt : i < xs.length
  · refine .inr ⟨go i H (hl i H hi p) lt, Pv (i + 1), fun H' p' => ⟨xs.length - (i + 1), by omega, rfl, lt, p'⟩, fun v H' y => ?_⟩
    obtain ⟨T, x, z, rfl, nT, rfl, hx, hz⟩ := yl i H v H' (hl i H hi p) y
    exact hs i T x z H hx hz p nT
  · obtain rfl : i = xs.length := by omega
    exact .inl ⟨stop _ H (hl _ H hi p) (Nat.le_refl _), hd H p⟩
theorem sql_on {K : PySem.W.Frag} {H H' : Hp} {a : Addr} {xs : List V} (s : Same H H') (h : SqL K H a xs) : SqL K H' a xs := h.imp (fun z => z.imp (s _ _) fun ⟨o, e⟩ => ⟨o, s _ _ e⟩) id
theorem sqt_on {K : PySem.W.Frag} {H H' : Hp} {a : Addr} {xs : List V} (s : Same H H') (h : SqT K H a xs) : SqT K H' a xs := h.imp (fun z => z.imp (s _ _) fun ⟨o, e⟩ => ⟨o, s _ _ e⟩) id
theorem dpall_get {K : PySem.W.Frag} {H : Hp} : ∀ {vs : List V} {ds : List PyData}, DpAll K H vs ds → ∀ {i : Nat} {v : V}, vs[i]? = some v → ∃ d, ds[i]? = some d ∧ Dp K H v d
  | _, _, .nil, i, v, h => by cases h
  | _, _, .cons a r, i, v, h => by
    cases i with
    | zero => exact ⟨_, rfl, by rw [← Option.some.inj h]; exact a⟩
    | succ n => exact dpall_get r (i := n) h
theorem depth_mem {ds : List PyData} {d : PyData} (h : d ∈ ds) : d.depth ≤ PyData.depthAll ds := by
  induction ds with
  | nil => exact nomatch h
  | cons e r ih =>
    rw [PyData.depthAll]
    rcases List.mem_cons.mp h with rfl | h
    · exact Nat.le_max_left _ _
    · exact Nat.le_trans (ih h) (Nat.le_max_right _ _)
theorem bulk_mem {ds : List PyData} {d : PyData} (h : d ∈ ds) : d.bulk ≤ PyData.bulkAll ds ∧ True := by
  induction ds with
  | nil => exact nomatch h
  | cons e r ih =>
    rw [PyData.bulkAll]
    rcases List.mem_cons.mp h with rfl | h
    · exact ⟨by omega, trivial⟩
    · exact ⟨Nat.le_trans (ih h).1 (by omega), trivial⟩
theorem bulk_len : ∀ ds : List PyData, ds.length ≤ PyData.bulkAll ds
  | [] => Nat.zero_le _
  | d :: r => by
    have := bulk_len r
    rw [PyData.bulkAll, List.length_cons]
    omega
/-- both are these data -/
def spSame (K : PySem.W.Frag) (n : Nat) : Sp := fun vs H Q _ => ∃ (x y : V) (d : PyData), vs = [x, y] ∧ Dp K H x d ∧ Dp K H y d ∧ d.depth ≤ n ∧ d.bulk ≤ 1000000 ∧ ∀ H', Same H H' → Q (.bl true) H'
theorem no_any {K : PySem.W.Frag} {t : String} (h1 : kitB t "list" = some false) (h2 : kitB t "tuple" = some false) : PySem.W.kitAny K (.type t) [.type "list", .type "tuple"] = some false := by
  simp only [PySem.W.kitAny, kit_ty h1, kit_ty h2]
section
variable {P : Program} {w : World} {K : PySem.W.Frag} {mg : Str → Option Value} {base : Heap}
abbrev sSameN : List Str := ["_law_found", "_law_due_here", "_law_one", "_law_other"]
theorem sc_sSame : FnScope sSameN ["_law_found", "_law_due_here"] (defScope sSame) := ⟨rfl, rfl, rfl, by decide +kernel, rfl, by decide +kernel, by decide +kernel⟩
theorem ok_same {f : Addr} {fd : FuncData} (F : Fun K "_law_same" "_law_same" sSame f fd) (g : mg "_law_same" = some (.ref f)) (kp : PySem.W.keepIn K (.ref f) = true) (b : Binds K fd ["_law_found", "_law_due_here"] [])
    (mis : mg "isinstance" = none) (mT_list : mg "list" = none) (mT_tuple : mg "tuple" = none) (mT_bool : mg "bool" = none) (ml : mg "len" = none) (mal : mg "all" = none) (mz : mg "zip" = none) : ∀ n : Nat, FnOk P w K mg base CX0 (n + 1) f fd ["_law_found", "_law_due_here"] (spSame K n) := by
  have atom : ∀ (n : Nat) (t : String) (x : V) (H : Hp) (Q : VK) (E : XK) (cdv : Value) (A : Around) (outer : List Env) (s : Shared), TyX K H x (.type t) → (∀ tq ts, H tq = none → TyX K (upd H tq (.tup ts)) x (.type t)) → kitB t "list" = some false → kitB t "tuple" = some false → (∃ bb, kitB t "bool" = some bb) → scal x x = true →
      (∀ H', Same H H' → Q (.bl true) H') → ∃ tt, PSs (cxOf CX0 P w K mg base sSameN (Str.ofString "_law_same") (defScope sSame) f cdv A outer s H E).nox (defBody sSame) tt ∧ tt { nx := fun _ H' => Q .non H', rt := Q } (start sSameN [x, x]) H := by
    intro n t x H Q E cdv A outer s ty ty2 k1 k2 k3 sx q
    have nd := sc_sSame.nd
    obtain ⟨bb, k3⟩ := k3
    refine ⟨_, pss_cons (ps_if (pt_val (pe_callB call_isiT (by rfl) mis (by decide +kernel) (pa_cons (pv 1) (pa_cons (pe_tup (pa_cons (pe_bltn (v := .ty "list") (u := .type "list") (by rfl) mT_list (by decide +kernel) rfl) (pa_cons (pe_bltn (v := .ty "tuple") (u := .type "tuple") (by rfl) mT_tuple (by decide +kernel) rfl) pa_nil))) pa_nil)))) (pss_cons ps_never (pss_one ps_never)) pss_nil)
      (pss_one (ps_ret (pe_and (pe_cmpR op_eq (pe_callB call_isi (by rfl) mis (by decide +kernel) (pa_cons (pv 0) (pa_cons (pe_bltn (v := .ty "bool") (u := .type "bool") (by rfl) mT_bool (by decide +kernel) rfl) pa_nil))) (pe_callB call_isi (by rfl) mis (by decide +kernel) (pa_cons (pv 1) (pa_cons (pe_bltn (v := .ty "bool") (u := .type "bool") (by rfl) mT_bool (by decide +kernel) rfl) pa_nil))) (nomark _)) (pe_one (pe_cmpR op_eq (pv 0) (pv 1) (nomark _)))))), ?_⟩
    refine ⟨_, rfl, (by show 2 ≤ sizeLine; decide), fun tq ntq => ⟨_, tq, _, .type t, _, false, rfl, upd_same, clsLT, ty2 tq _ ntq, no_any k1 k2, _, rfl, iteF ?_⟩⟩
    refine ⟨_, rfl, _, _, _, _, bb, rfl, .ty "bool", ty2 tq _ ntq, kit_ty k3, _, rfl, _, _, _, _, bb, rfl, .ty "bool", ty2 tq _ ntq, kit_ty k3, rfl, ?_⟩
    rw [decide_eq_true rfl]
    refine ⟨true, rfl, iteT ⟨_, rfl, _, rfl, sx, ?_⟩⟩
    rw [decide_eq_true rfl]
    exact q _ (same_new ntq)
  have flat : ∀ (n : Nat) (x y : V) (d : PyData) (H : Hp) (Q : VK) (E : XK) (cdv : Value) (A : Around) (outer : List Env) (s : Shared), Dp K H x d → Dp K H y d → (∀ ds, d ≠ .list ds) → (∀ ds, d ≠ .tuple ds) →
      (∀ H', Same H H' → Q (.bl true) H') → ∃ tt, PSs (cxOf CX0 P w K mg base sSameN (Str.ofString "_law_same") (defScope sSame) f cdv A outer s H E).nox (defBody sSame) tt ∧ tt { nx := fun _ H' => Q .non H', rt := Q } (start sSameN [x, y]) H := by
    intro n x y d H Q E cdv A outer s dx dy n1 n2 q
    cases dx with
    | non =>
      cases dy
      exact atom n "NoneType" _ H Q E cdv A outer s (.base .non) (fun _ _ _ => .base .non) (by decide +kernel) (by decide +kernel) ⟨false, by decide +kernel⟩ rfl q
    | bl b0 =>
      cases dy
      exact atom n "bool" _ H Q E cdv A outer s (.base (.bl _)) (fun _ _ _ => .base (.bl _)) (by decide +kernel) (by decide +kernel) ⟨true, by decide +kernel⟩ rfl q
    | int i0 =>
      cases dy
      exact atom n "int" _ H Q E cdv A outer s (.base (.int _)) (fun _ _ _ => .base (.int _)) (by decide +kernel) (by decide +kernel) ⟨false, by decide +kernel⟩ rfl q
    | str x0 =>
      cases dy
      exact atom n "str" _ H Q E cdv A outer s (.base (.str _)) (fun _ _ _ => .base (.str _)) (by decide +kernel) (by decide +kernel) ⟨false, by decide +kernel⟩ rfl q
    | lst _ _ => exact absurd rfl (n1 _)
    | tup _ _ => exact absurd rfl (n2 _)
  intro n
  induction n with
  | zero =>
    refine F.ok sc_sSame (fun vs H Q E h => ?_) (fun cdv A outer s H vs Q E hr h => ?_)
    · obtain ⟨x, y, d, rfl, _⟩ := h
      rfl
    · obtain ⟨x, y, d, rfl, dx, dy, dp, bk, q⟩ := h
      exact flat 0 x y d H Q E cdv A outer s dx dy (fun ds z => by rw [z, PyData.depth] at dp; omega) (fun ds z => by rw [z, PyData.depth] at dp; omega) q
  | succ n ih =>
    have NS : DefT P w K mg base "_law_same" (n + 1) f fd ["_law_found", "_law_due_here"] (spSame K n) := ⟨ih, g, kp, b⟩
    refine F.ok sc_sSame (fun vs H Q E h => ?_) (fun cdv A outer s H vs Q E hr h => ?_)
    · obtain ⟨x, y, d, rfl, _⟩ := h
      rfl
    · obtain ⟨x, y, d, rfl, dx, dy, dp, bk, q⟩ := h
      have nd := sc_sSame.nd
      by_cases isq : (∃ ds, d = .list ds) ∨ ∃ ds, d = .tuple ds
      · obtain ⟨a, c, xs, ys, ds, rfl, rfl, px, py, dpl, kind⟩ : ∃ a c xs ys ds, x = .ref a ∧ y = .ref c ∧ DpAll K H xs ds ∧ DpAll K H ys ds ∧ (PyData.depthAll ds ≤ n ∧ PyData.bulkAll ds ≤ 1000000) ∧ ((SqL K H a xs ∧ SqL K H c ys) ∨ (SqT K H a xs ∧ SqT K H c ys)) := by
          rcases isq with ⟨ds, rfl⟩ | ⟨ds, rfl⟩
          · cases dx with
            | lst h1 h2 =>
              cases dy with
              | lst h3 h4 => exact ⟨_, _, _, _, ds, rfl, rfl, h2, h4, ⟨by rw [PyData.depth] at dp; omega, by rw [PyData.bulk] at bk; omega⟩, .inl ⟨h1, h3⟩⟩
          · cases dx with
            | tup h1 h2 =>
              cases dy with
              | tup h3 h4 => exact ⟨_, _, _, _, ds, rfl, rfl, h2, h4, ⟨by rw [PyData.depth] at dp; omega, by rw [PyData.bulk] at bk; omega⟩, .inr ⟨h1, h3⟩⟩
        have lx := DpAll.len px
        have ly := DpAll.len py
        have nd := sc_sSame.nd
        refine ⟨_, pss_cons (ps_if (pt_val (pe_callB call_isiT (by rfl) mis (by decide +kernel) (pa_cons (pv 1) (pa_cons (pe_tup (pa_cons (pe_bltn (v := .ty "list") (u := .type "list") (by rfl) mT_list (by decide +kernel) rfl) (pa_cons (pe_bltn (v := .ty "tuple") (u := .type "tuple") (by rfl) mT_tuple (by decide +kernel) rfl) pa_nil))) pa_nil)))) (pss_cons (ps_if (PW.pt (pw_or (pt_not (pt_val (pe_callB call_isiT (by rfl) mis (by decide +kernel) (pa_cons (pv 0) (pa_cons (pe_tup (pa_cons (pe_bltn (v := .ty "list") (u := .type "list") (by rfl) mT_list (by decide +kernel) rfl) (pa_cons (pe_bltn (v := .ty "tuple") (u := .type "tuple") (by rfl) mT_tuple (by decide +kernel) rfl) pa_nil))) pa_nil))))) (pw_or1 (pt_cmpR op_ne (pe_callB call_isi (by rfl) mis (by decide +kernel) (pa_cons (pv 0) (pa_cons (pe_bltn (v := .ty "list") (u := .type "list") (by rfl) mT_list (by decide +kernel) rfl) pa_nil))) (pe_callB call_isi (by rfl) mis (by decide +kernel) (pa_cons (pv 1) (pa_cons (pe_bltn (v := .ty "list") (u := .type "list") (by rfl) mT_list (by decide +kernel) rfl) pa_nil))) (nomark _))))) (pss_one (ps_ret pe_bl)) pss_nil)
            (pss_one (ps_ret (pe_and (pe_cmpR op_eq (pe_callB call_len_seq (by rfl) ml PySem.boot_len (pa_cons (pv 0) pa_nil)) (pe_callB call_len_seq (by rfl) ml PySem.boot_len (pa_cons (pv 1) pa_nil)) (nomark _)) (pe_one (pe_callB (cr_all rfl) (by rfl) mal (by decide +kernel) (pa_cons (pe_lc (own := [("_law_one", 2), ("_law_other", 3)]) (g := gTup K 2 (gCons (gName 2) (gCons (gName 3) gNil))) (tt := tYes) (te := tCall (spSame K n) [] E0 (tCons (tVar 2) (tCons (tVar 3) tNil))) rfl nd (RZ.pi_zipA (by rfl) mz (pa_cons (pv 0) (pa_cons (pv 1) pa_nil))) (blkOk_by (N := sSameN) (sc := defScope sSame) (by decide +kernel)) (fun _ _ _ _ _ => (pg_tup (by rfl) (pgs_cons (pg_name (i := 2) nd rfl (Or.inl rfl)) (pgs_cons (pg_name (i := 3) nd rfl (Or.inl rfl)) pgs_nil)))) (fun _ _ _ _ _ => pts_nil) (fun _ _ _ _ _ => (pe_call NS.ok hr (by rfl) NS.g NS.kp NS.b .nil pass0 (pa_cons (pv 2) (pa_cons (pv 3) pa_nil))))) pa_nil))))))) pss_nil)
          (pss_one (ps_ret (pe_and (pe_cmpR op_eq (pe_callB call_isi (by rfl) mis (by decide +kernel) (pa_cons (pv 0) (pa_cons (pe_bltn (v := .ty "bool") (u := .type "bool") (by rfl) mT_bool (by decide +kernel) rfl) pa_nil))) (pe_callB call_isi (by rfl) mis (by decide +kernel) (pa_cons (pv 1) (pa_cons (pe_bltn (v := .ty "bool") (u := .type "bool") (by rfl) mT_bool (by decide +kernel) rfl) pa_nil))) (nomark _)) (pe_one (pe_cmpR op_eq (pv 0) (pv 1) (nomark _)))))), ?_⟩
        have ty : ∀ {H' : Hp}, Same H H' → ∃ t bb, TyX K H' (.ref a) (.type t) ∧ TyX K H' (.ref c) (.type t) ∧ PySem.W.kitAny K (.type t) [.type "list", .type "tuple"] = some true ∧ kitB t "list" = some bb := fun sm => by
          rcases kind with ⟨k1, k2⟩ | ⟨k1, k2⟩
          · exact ⟨"list", true, ty_l (sql_on sm k1), ty_l (sql_on sm k2), seq_l, by decide +kernel⟩
          · exact ⟨"tuple", false, ty_t (sqt_on sm k1), ty_t (sqt_on sm k2), seq_t, by decide +kernel⟩
        refine ⟨_, rfl, (by show 2 ≤ sizeLine; decide), fun tq ntq => ?_⟩
        have s1 := @same_new _ _ (.tup [V.ty "list", V.ty "tuple"]) ntq
        obtain ⟨t, bb, t1, t2, t3, t4⟩ := ty s1
        refine ⟨_, tq, _, _, _, true, rfl, upd_same, clsLT, t2, t3, _, rfl, iteT ?_⟩
        clear t1 t2 t3 t4
        refine ⟨_, rfl, (by show 2 ≤ sizeLine; decide), fun tr ntr => ?_⟩
        have s2 := s1.trans (@same_new _ _ (.tup [V.ty "list", V.ty "tuple"]) ntr)
        obtain ⟨t, bb, t1, t2, t3, t4⟩ := ty s2
        refine ⟨_, tr, _, _, _, true, rfl, upd_same, clsLT, t1, t3, _, rfl, iteF ?_⟩
        refine ⟨_, rfl, _, _, _, _, bb, rfl, .ty "list", t1, kit_ty t4, _, rfl, _, _, _, _, bb, rfl, .ty "list", t2, kit_ty t4, rfl, _, rfl, ?_⟩
        rw [decide_eq_true rfl]
        refine iteF ?_
        generalize upd (upd H tq (.tup [V.ty "list", V.ty "tuple"])) tr (.tup [V.ty "list", V.ty "tuple"]) = H2 at s2
        have kd : (SqL K H2 a xs ∧ SqL K H2 c ys) ∨ (SqT K H2 a xs ∧ SqT K H2 c ys) := kind.imp (fun z => ⟨sql_on s2 z.1, sql_on s2 z.2⟩) fun z => ⟨sqt_on s2 z.1, sqt_on s2 z.2⟩
        have ka : SqL K H2 a xs ∨ SqT K H2 a xs := kd.imp (·.1) (·.1)
        have kc : SqL K H2 c ys ∨ SqT K H2 c ys := kd.imp (·.2) (·.2)
        refine ⟨_, rfl, a, xs, rfl, ka, _, rfl, c, ys, rfl, kc, rfl, ?_⟩
        rw [decide_eq_true (show V.int (xs.length : Int) = V.int (ys.length : Int) by rw [lx, ly])]
        refine ⟨true, rfl, iteT ?_⟩
        refine ⟨_, rfl, _, rfl, a, c, xs, ys, rfl, ?_⟩
        rcases kd with ⟨k1, k2⟩ | ⟨k1, k2⟩
        · refine .inl ⟨k1, k2, fun D nD => ?_⟩
          refine lc_zip (xs := xs) (ys := ys) (At := fun H' => SqL K H' a xs ∧ SqL K H' c ys) (by rw [lx, ly]) (fun i H' h lt => ?_) (fun i H' v H'' h y => ?_) (fun i H' h le => ⟨xs, ys, h.1, h.2, .inl le⟩) (fun i H' => Same H2 H' ∧ H' D = some (.lst ((List.replicate i true).map V.bl))) ⟨same_new nD, upd_same⟩ (fun i H' _ h => ⟨sql_on h.1 k1, sql_on h.1 k2⟩) ?_ ?_
          · exact ⟨xs, ys, xs[i], ys[i]'(by rw [← ly] at lx; omega), h.1, h.2, List.getElem?_eq_getElem lt, List.getElem?_eq_getElem _⟩
          · obtain ⟨T, x', y', rfl, nT, rfl, f1, f2⟩ := y
            exact ⟨T, x', y', rfl, nT, rfl, f1 xs h.1, f2 ys h.2⟩
          · intro i T x y H' hx hy pv nT
            obtain ⟨d, hd, dx⟩ := dpall_get px hx
            obtain ⟨d', hd', dy⟩ := dpall_get py hy
            rw [hd] at hd'
            obtain rfl := Option.some.inj hd'
            have md := List.mem_of_getElem? hd
            have sT := @same_new _ _ (.tup [x, y]) nT
            have sAll := s2.trans (pv.1.trans sT)
            refine ⟨T, _, rfl, SqT.of upd_same, rfl, _, _, rfl, _, _, rfl, rfl, rfl, yesT ⟨_, rfl, _, rfl, x, y, d, rfl, Shelf.Dp.on sAll dx, Shelf.Dp.on sAll dy, Nat.le_trans (depth_mem md) dpl.1, Nat.le_trans (bulk_mem md).1 dpl.2, fun H4 s4 => ?_⟩⟩
            have hD4 := s4 _ _ (sT _ _ pv.2)
            have il : i < ds.length := by rw [← lx]; exact (List.getElem?_eq_some_iff.mp hx).1
            have lb := bulk_len ds
            refine ⟨_, hD4, ?_, fun b o e => (upd_ne (ne_of_none e nD)).trans (s4 b o (sT b o (pv.1 b o e))), ?_⟩
            · rw [List.length_map, List.length_replicate, sizeLine_eq]
              omega
            · rw [upd_same, List.replicate_succ', List.map_append]
              rfl
          · rintro H' ⟨sm, hD⟩
            refine ⟨D, _, rfl, SqL.of hD, ?_⟩
            rw [show (List.replicate xs.length true).all id = true by simp]
            exact q _ (s2.trans sm)
        · refine .inr ⟨k1, k2, fun D nD => ?_⟩
          refine lc_zip (xs := xs) (ys := ys) (At := fun H' => SqT K H' a xs ∧ SqT K H' c ys) (by rw [lx, ly]) (fun i H' h lt => ?_) (fun i H' v H'' h y => ?_) (fun i H' h le => ⟨xs, ys, h.1, h.2, .inl le⟩) (fun i H' => Same H2 H' ∧ H' D = some (.lst ((List.replicate i true).map V.bl))) ⟨same_new nD, upd_same⟩ (fun i H' _ h => ⟨sqt_on h.1 k1, sqt_on h.1 k2⟩) ?_ ?_
          · exact ⟨xs, ys, xs[i], ys[i]'(by rw [← ly] at lx; omega), h.1, h.2, List.getElem?_eq_getElem lt, List.getElem?_eq_getElem _⟩
          · obtain ⟨T, x', y', rfl, nT, rfl, f1, f2⟩ := y
            exact ⟨T, x', y', rfl, nT, rfl, f1 xs h.1, f2 ys h.2⟩
          · intro i T x y H' hx hy pv nT
            obtain ⟨d, hd, dx⟩ := dpall_get px hx
            obtain ⟨d', hd', dy⟩ := dpall_get py hy
            rw [hd] at hd'
            obtain rfl := Option.some.inj hd'
            have md := List.mem_of_getElem? hd
            have sT := @same_new _ _ (.tup [x, y]) nT
            have sAll := s2.trans (pv.1.trans sT)
            refine ⟨T, _, rfl, SqT.of upd_same, rfl, _, _, rfl, _, _, rfl, rfl, rfl, yesT ⟨_, rfl, _, rfl, x, y, d, rfl, Shelf.Dp.on sAll dx, Shelf.Dp.on sAll dy, Nat.le_trans (depth_mem md) dpl.1, Nat.le_trans (bulk_mem md).1 dpl.2, fun H4 s4 => ?_⟩⟩
            have hD4 := s4 _ _ (sT _ _ pv.2)
            have il : i < ds.length := by rw [← lx]; exact (List.getElem?_eq_some_iff.mp hx).1
            have lb := bulk_len ds
            refine ⟨_, hD4, ?_, fun b o e => (upd_ne (ne_of_none e nD)).trans (s4 b o (sT b o (pv.1 b o e))), ?_⟩
            · rw [List.length_map, List.length_replicate, sizeLine_eq]
              omega
            · rw [upd_same, List.replicate_succ', List.map_append]
              rfl
          · rintro H' ⟨sm, hD⟩
            refine ⟨D, _, rfl, SqL.of hD, ?_⟩
            rw [show (List.replicate xs.length true).all id = true by simp]
            exact q _ (s2.trans sm)
      · exact flat n x y d H Q E cdv A outer s dx dy (fun ds z => isq (.inl ⟨ds, z⟩)) (fun ds z => isq (.inr ⟨ds, z⟩)) q
end
/-! ### parts of tuples, tuples one behind the other -/
theorem cut_head {xs : List V} {k : Nat} : cutV xs none (some (k : Int)) = xs.take k := by
  unfold cutV
  rw [HT.sIx_nat]
  show (xs.drop 0).take (min k xs.length - 0) = _
  rw [List.drop_zero, Nat.sub_zero, ← List.take_eq_take_min]
theorem cut_tail {xs : List V} {k : Nat} : cutV xs (some (k : Int)) none = xs.drop k := by
  unfold cutV
  rw [HT.sIx_nat, HT.sIx_none]
  by_cases h : k ≤ xs.length
  · rw [Nat.min_eq_left h, List.take_of_length_le (by rw [List.length_drop]; exact Nat.le_refl _)]
  · rw [Nat.min_eq_right (by omega), List.drop_of_length_le (by omega), List.drop_of_length_le (by omega), List.take_nil]
/-- a part of a tuple, made or the same -/
def rSlS : V → Option Int → Option Int → Hp → VK → Prop := fun x lo hi H Q => ∃ (a : Addr) (xs : List V), x = .ref a ∧ H a = some (.tup xs) ∧ ∀ (b : Addr) (H' : Hp), Same H H' → H' b = some (.tup (cutV xs lo hi)) → Q (.ref b) H'
theorem sl_S {X : Cx} : SlR X rSlS := by
  rintro pins s σ H x v vl vu lo hi sl Q I rx hs pl pu ⟨a, xs, rfl, ha, q⟩
  refine sl_tupA pins s σ H _ v vl vu _ _ sl Q I rx hs pl pu ⟨a, xs, rfl, SqT.of ha, fun z => q a H (fun _ _ e => e) ?_, fun _ p np => q p _ (same_new np) upd_same⟩
  rw [ha]
  unfold cutV
  rw [z.1, z.2, List.drop_zero, Nat.sub_zero, List.take_length]
/-- tuples one behind the other -/
theorem op_catS {X : Cx} : OpR X (binaryOp .Add) (fun x y H Q => ∃ (a b : Addr) (xs ys : List V), x = .ref a ∧ y = .ref b ∧ H a = some (.tup xs) ∧ H b = some (.tup ys) ∧ xs ≠ [] ∧ xs.length + ys.length ≤ sizeLine ∧
    ∀ (t : Addr) (H' : Hp), Same H H' → H' t = some (.tup (xs ++ ys)) → Q (.ref t) H') := by
  rintro pins s σ H x y v u Q I rx ry ⟨a, b, xs, ys, rfl, rfl, ha, hb, ne, hz, q⟩
  refine op_catT pins s σ H _ _ v u Q I rx ry ⟨a, b, xs, ys, rfl, rfl, SqT.of ha, SqT.of hb, ne, hz, fun z => q a H (fun _ _ e => e) ?_, fun _ p np => q p _ (same_new np) upd_same⟩
  rw [ha, z, List.append_nil]
theorem vals_len_e (e : Ent) : 5 ≤ e.vals.length ∧ e.vals.length ≤ 7 := by cases e <;> simp [Ent.vals, Ent.rest]
/-! ### generators whose consumer keeps an object of its own -/
abbrev Pins := List (Addr × Obj)
def GTurnsL (J : It) (g : TG) (tt : TT) (te : TE) (vs : List Nat) (σ : L2.St) (W : Nat → Nat → List V → Hp → Prop) (Out : Nat → Nat → List V → V → Hp → Prop) (Fin : List V → Hp → Prop) : Prop :=
  ∀ i m ys H, W i m ys H → (J.stop i H ∧ Fin ys H) ∨ (J.go i H ∧ ∀ x H', J.yld i H x H' → g x (wipe σ vs) H' fun σ2 H2 => wipe σ2 vs = wipe σ vs ∧ tt σ2 H2 fun b H3 =>
    if b = true then te σ2 H3 fun y H4 => Out i m ys y H4 else ∃ m', m' < m ∧ W (i + 1) m' ys H3)
def gxYL (IG : Pins → Hp → Shared → Prop) (PX : List V → Pins → Prop) (tn : Nat → Heap → Prop) (fp : List Addr) (W : Nat → Nat → List V → Hp → Prop) (Out : Nat → Nat → List V → V → Hp → Prop) (gn : Nat) : Protocol := fun n s₀ v s kap =>
  ∃ i m ys y H px, (∀ p ∈ px, s₀.heap.get? p.1 = some p.2) ∧ RelV y v ∧ PX ys px ∧ IG px H s ∧ tn (i + 1) s.heap ∧ (∀ b ∈ fp, H b = none) ∧ Out i m ys y H ∧ gn < s.gens.size ∧ m ≤ n ∧
    ∀ m' px', m' < m → W (i + 1) m' (ys ++ [y]) H → PX (ys ++ [y]) px' → ∀ s'' : Shared, IG px' H s'' → tn (i + 1) s''.heap → gn < s''.gens.size → kap (.send .none) s''
def gxRL (IG : Pins → Hp → Shared → Prop) (PX : List V → Pins → Prop) (Fin : List V → Hp → Prop) : Nat → Shared → Shared → Prop := fun _ s₀ s1 => ∃ ys H px, (∀ p ∈ px, s₀.heap.get? p.1 = some p.2) ∧ PX ys px ∧ IG px H s1 ∧ Fin ys H
section
variable {X : Cx} {σ : L2.St} {Ag : Around} {tg elt iter : Expr} {ifs : List Expr} {scope : Scope} {gpos : Pos} {it a : Addr} {oG : Obj} {ce : Env} {fp : List Addr} {s3 : Shared} {H3 : Hp} {tn : Nat → Heap → Prop} {J : It} {vs : List Nat} {gn : Nat}
  {g : TG} {tt : TT} {te : TE} {W : Nat → Nat → List V → Hp → Prop} {Out : Nat → Nat → List V → V → Hp → Prop} {Fin : List V → Hp → Prop} {PX : List V → Pins → Prop}
theorem gx_statL {σ' : L2.St} {H' : Hp} {s' : Shared} {A' : Around} {px : Pins} (I' : Inv (gxc X A' s3 H3 ce fp) ((a, oG) :: px) σ' H' s') (na : a ∉ fp) (hpx : ∀ p ∈ px, p.1 ∉ fp) (hn : ∀ b ∈ fp, H' b = none) : ∀ b ∈ fp, FpOk (gxc X A' s3 H3 ce fp) ((a, oG) :: px) H' b := fun b hb => by
  refine ⟨hn b hb, (I'.ok.exf b hb).1, I'.ok.exfs b hb, .inl hb, fun x c e => (I'.ok.exf b hb).2 x c e, fun p hp z => ?_⟩
  have hp' : p ∈ (a, oG) :: px := by simpa using hp
  rcases List.mem_cons.mp hp' with e | e
  · subst e
    have z' : a = b := z
    exact na (z' ▸ hb)
  · exact hpx p e (z ▸ hb)
theorem gx_segL (T : Turn X.prog X.w X.K tg J fp it tn) (na : a ∉ fp) (hco : ce.scope.isCoroutine = false)
    (pg : PG (gxl X Ag elt tg iter ifs scope gpos it ce s3 H3 fp) tg g)
    (pt : PTs (gxl X Ag elt tg iter ifs scope gpos it ce s3 H3 fp) ifs tt)
    (pe : PE (gxl X Ag elt tg iter ifs scope gpos it ce s3 H3 fp) elt te)
    (turn : GTurnsL J g tt te vs σ W Out Fin) (IG : Pins → Hp → Shared → Prop) (Px : Pins → Prop) (hPx : ∀ px, Px px → ∀ p ∈ px, p.1 ∉ fp)
    (hIG : IG = fun px H s => Px px ∧ Inv (gxl X Ag elt tg iter ifs scope gpos it ce s3 H3 fp) ((a, oG) :: px) (wipe σ vs) H s) :
    ∀ (m n i : Nat) (ys : List V) (px : Pins) (H : Hp) (s s0 : Shared), m < n → (∀ p ∈ px, s0.heap.get? p.1 = some p.2) → PX ys px → IG px H s → tn i s.heap → (∀ b ∈ fp, H b = none) → W i m ys H → gn < s.gens.size →
      Seg (model X.prog X.w) Ag (fun n s0 r s1 => r = .ok .next ∧ gxRL IG PX Fin n s0 s1) (gxYL IG PX tn fp W Out gn) n s0
        (.compLoop (.GeneratorExp elt [⟨tg, iter, ifs, 0⟩] scope gpos) 0 (.ref it) .none ce)
        ((model X.prog X.w).den (.compLoop (.GeneratorExp elt [⟨tg, iter, ifs, 0⟩] scope gpos) 0 (.ref it) .none ce)) [] s := by
  intro m
  induction m using Nat.strongRecOn with
  | ind m ih =>
  intro n i ys px H s s0 hmn h00 hX I0 st n0 w0 hg
  have I1 : Px px ∧ Inv (gxl X Ag elt tg iter ifs scope gpos it ce s3 H3 fp) ((a, oG) :: px) (wipe σ vs) H s := by
    rw [hIG] at I0
    exact I0
  obtain ⟨hP, I⟩ := I1
  have hpx := hPx px hP
  show Seg _ Ag _ _ _ s0 _ ((compTurn (.GeneratorExp elt [⟨tg, iter, ifs, 0⟩] scope gpos) 0 (.ref it) .none ce).onRaise (leaving ce)) [] s
  rw [compTurn_gen, Sem.onRaise_eq_wrap]
  refine seg_bind_wrap (wpAny_standAt ?_)
  rcases turn i m ys H w0 with ⟨stop, fin⟩ | ⟨go, step⟩
  · refine seg_bind_wrap (thnF (T.done (gxl X Ag elt tg iter ifs scope gpos it ce s3 H3 fp) rfl rfl rfl rfl i ((a, oG) :: px) s _ H (fun _ _ => False) I (gx_statL I na hpx n0) st stop) fun r s6 ⟨hr, I6⟩ => ?_)
    subst hr
    exact seg_end (.ok .next) ⟨rfl, ys, H, px, h00, hX, by rw [hIG]; exact ⟨hP, I6⟩, fin⟩
  · refine seg_bind_wrap (GenW.wpAny_gsz hg (thnF (T.item (gxl X Ag elt tg iter ifs scope gpos it ce s3 H3 fp) rfl rfl rfl rfl i ((a, oG) :: px) s _ H (fun _ _ => False) I (gx_statL I na hpx n0) st go) fun r s6 ⟨u, hr, h6⟩ hg6 => ?_))
    subst hr
    refine seg_bind_wrap (GenW.wpAny_gsz hg6 (thnF h6 fun _ s7 ⟨x, H7, I7, r7, y7, st7, n7⟩ hg7 => ?_))
    have I7' := I7.pinned (gx_statL I7 na hpx n7) (T.obj _ _ st7)
    refine seg_bind_wrap (GenW.wpAny_gsz hg7 (thnF (pg.run _ s7 _ H7 x u _ I7' r7 (step x H7 y7)) fun _ s8 ⟨σ8, H8, I8, hw8, q8⟩ hg8 => ?_))
    refine seg_bind_wrap (GenW.wpAny_gsz hg8 (thnF (pt.run _ s8 σ8 H8 _ I8 q8) fun b s9 ⟨H9, I9, q9⟩ hg9 => ?_))
    have hl : (wipe σ vs).length = σ8.length := by rw [← hw8, wipe_length]
    have back : ∀ {s' : Shared} {H' : Hp}, Inv (gxl X Ag elt tg iter ifs scope gpos it ce s3 H3 fp) (((a, oG) :: px) ++ pinsAt fp s7.heap) σ8 H' s' →
        IG px H' s' ∧ tn (i + 1) s'.heap ∧ ∀ b ∈ fp, H' b = none := fun {s' H'} I' => by
      have pin' : ∀ b ∈ fp, ∀ o, s7.heap.get? b = some o → s'.heap.get? b = some o ∧ H' b = none := fun b hb o e =>
        let z := I'.pin (b, o) (List.mem_append_right _ (List.mem_append_right _ (mem_pinsAt hb e)))
        ⟨z.1, z.2.1⟩
      refine ⟨?_, T.keep _ _ _ st7 fun b hb o e => (pin' b hb o e).1, fun b hb => ?_⟩
      · rw [hIG]
        refine ⟨hP, I'.unpinned.weak hl fun j v e => ?_⟩
        rw [← hw8] at e
        exact (wipe_some e).1
      · obtain ⟨o, e, _⟩ := T.obj _ _ st7 b hb
        exact (pin' b hb o e).2
    cases b with
    | false =>
      simp only [Bool.false_eq_true, if_false] at q9 ⊢
      obtain ⟨m', hm, w'⟩ := q9
      obtain ⟨b1, b2, b3⟩ := back I9
      exact seg_again rfl (ih m' hm n (i + 1) ys px H9 s9 s0 (Nat.lt_trans hm hmn) h00 hX b1 b2 b3 w' hg9)
    | true =>
      simp only [if_true] at q9 ⊢
      have hy : ∀ v, yieldOut ce v = yieldValue v := fun v => by simp only [yieldOut, hco, Bool.false_eq_true, if_false]
      simp only [hy]
      rw [Sem.bind_eq_wrap', Sem.bind_eq_wrap', Sem.wrap_wrap, Sem.wrap_wrap]
      obtain ⟨n', rfl⟩ : ∃ n', n = n' + 1 := ⟨n - 1, by omega⟩
      refine seg_wrap (GenW.wpAny_gsz hg9 (thnF (pe.run _ s9 σ8 H9 _ I9 q9) fun z s10 ⟨yv, H10, I10, r10, out⟩ hg10 => ?_))
      obtain ⟨b1, b2, b3⟩ := back I10
      refine seg_at (seg_yield rfl rfl rfl ⟨i, m, ys, yv, H10, px, h00, r10, hX, b1, b2, b3, out, hg10, by omega, fun m' px' hm w' hX' s'' I'' st'' hg'' => ?_⟩)
      exact seg_again rfl (ih m' hm n' (i + 1) _ px' H10 s'' s'' (by omega) (fun p hp => by rw [hIG] at I''; exact (I''.2.pin p (by simp [hp])).1) hX' I'' st'' b3 w' hg'')
end
structure IGokL (X : Cx) (pins : List (Addr × Obj)) (σ : L2.St) (a : Addr) (gn : Nat) (tn : Nat → Heap → Prop) (IG : Pins → Hp → Shared → Prop) : Prop where
  bare : ∀ {px H s}, IG px H s → AllBare s.gens
  gens : ∀ {px H s g'}, IG px H s → AllBare g' → IG px H { s with gens := g' }
  kept : ∀ {px : Pins} {H : Hp} {s : Shared} {h' : Heap} {tk : Nat}, IG px H s → (∀ b o, s.heap.get? b = some o → h'.get? b = some o) → IG px H { s with heap := h', toks := tk }
  isgen : ∀ {px H s}, IG px H s → s.heap.IsGen a gn
  nolim : ∀ {px H s}, IG px H s → s.heap.NoLimit
  back : ∀ {px H s}, IG px H s → Inv X pins σ H s
  add : ∀ {H : Hp} {s : Shared} {h' : Heap} {tk : Nat} {S : Addr} {o : Obj}, IG [] H s → (∀ b u, s.heap.get? b = some u → h'.get? b = some u) → s.heap.objs.size ≤ S → h'.get? S = some o → (∀ v, o.data ≠ .cell v) → IG [(S, o)] H { s with heap := h', toks := tk }
  put : ∀ {H : Hp} {s : Shared} {h' : Heap} {tk : Nat} {S : Addr} {o o' : Obj}, IG [(S, o)] H s → (∀ b u, b ≠ S → s.heap.get? b = some u → h'.get? b = some u) → h'.get? S = some o' → (∀ v, o'.data ≠ .cell v) → IG [(S, o')] H { s with heap := h', toks := tk }
  own : ∀ {H s S o}, IG [(S, o)] H s → s.heap.get? S = some o
  tnk : ∀ {i h h'}, tn i h → (∀ b o, h.get? b = some o → h'.get? b = some o) → tn i h'
  tnp : ∀ {H s S o i h'}, IG [(S, o)] H s → tn i s.heap → (∀ b u, b ≠ S → s.heap.get? b = some u → h'.get? b = some u) → tn i h'
def GRunL (X : Cx) (Ac : Around) (IG : Pins → Hp → Shared → Prop) (PX : List V → Pins → Prop) (tn : Nat → Heap → Prop) (fp : List Addr) (W : Nat → Nat → List V → Hp → Prop) (Out : Nat → Nat → List V → V → Hp → Prop) (Fin : List V → Hp → Prop) (gn i m n : Nat) (ys : List V) (px : Pins) (H : Hp) (s : Shared) : Prop :=
  PX ys px ∧ IG px H s ∧ tn i s.heap ∧ (∀ b ∈ fp, H b = none) ∧ W i m ys H ∧ ∃ gs, s.gens[gn]? = some gs ∧ m < n ∧ ∀ (px' : Pins) (s'' : Shared), PX ys px' → IG px' H s'' → tn i s''.heap → gn < s''.gens.size →
    gs.Goes (model X.prog X.w) Ac.in1 (fun n s0 r s1 => r = .ok .next ∧ gxRL IG PX Fin n s0 s1) (gxYL IG PX tn fp W Out gn) n (.send .none) s''
def GStartL (X : Cx) (Ac : Around) (IG : Pins → Hp → Shared → Prop) (tn : Nat → Heap → Prop) (fp : List Addr) (W : Nat → Nat → List V → Hp → Prop) (Out : Nat → Nat → List V → V → Hp → Prop) (Fin : List V → Hp → Prop) (gn m : Nat) (H : Hp) (s : Shared) : Prop :=
  IG [] H s ∧ tn 0 s.heap ∧ (∀ b ∈ fp, H b = none) ∧ W 0 m [] H ∧ ∃ gs, s.gens[gn]? = some gs ∧ ∀ (PX : List V → Pins → Prop) (px' : Pins) (s'' : Shared), PX [] px' → IG px' H s'' → tn 0 s''.heap → gn < s''.gens.size →
    gs.Goes (model X.prog X.w) Ac.in1 (fun n s0 r s1 => r = .ok .next ∧ gxRL IG PX Fin n s0 s1) (gxYL IG PX tn fp W Out gn) (m + 1) (.send .none) s''
section
variable {X : Cx} {pins : List (Addr × Obj)} {σ : L2.St} {Ac : Around} {IG : Pins → Hp → Shared → Prop} {PX : List V → Pins → Prop} {tn : Nat → Heap → Prop} {fp : List Addr} {W : Nat → Nat → List V → Hp → Prop} {Out : Nat → Nat → List V → V → Hp → Prop} {Fin : List V → Hp → Prop} {a : Addr} {gn : Nat}
theorem gx_nextL {E : Value → Shared → Prop} {Q : Option Value → Shared → Prop} {i m n : Nat} {ys : List V} {px : Pins} {H : Hp} {s : Shared} (ig : IGokL X pins σ a gn tn IG) (hA : Ac.handled = none) (hd : Ac.depth < recursionLimit) (G : GRunL X Ac IG PX tn fp W Out Fin gn i m n ys px H s)
    (hout : ∀ v y H' s' i' m' ys' px', (∀ p ∈ px', s.heap.get? p.1 = some p.2) → RelV y v → Out i' m' ys' y H' → PX ys' px' → IG px' H' s' → tn (i' + 1) s'.heap →
      (∀ m'' px'' h' tk, m'' < m' → W (i' + 1) m'' (ys' ++ [y]) H' → PX (ys' ++ [y]) px'' → IG px'' H' { s' with heap := h', toks := tk } → tn (i' + 1) h' → GRunL X Ac IG PX tn fp W Out Fin gn (i' + 1) m'' (n - 1) (ys' ++ [y]) px'' H' { s' with heap := h', toks := tk }) → Q (some v) s')
    (hfin : ∀ ys' H' s' px', (∀ p ∈ px', s.heap.get? p.1 = some p.2) → Fin ys' H' → PX ys' px' → IG px' H' s' → Q none s') : wpAny (model X.prog X.w) Ac (pyNext (.ref a)) Q E s := by
  obtain ⟨g0, g1, g2, g3, g4, gs, g5, g6, g7⟩ := G
  have lt := (Array.getElem?_eq_some_iff.mp g5).1
  have run : IG px H (s.setGen gn .running) := ig.gens g1 (bare_set (ig.bare g1) rfl)
  refine wpAny_pyNext_genexpQ (P := gxRL IG PX Fin) hA (ig.nolim g1) hd (ig.isgen g1) g5 (g7 px _ g0 run g2 (by rw [GenW.setGen_size]; exact lt)) (fun v s1 gs' hb hv => ?_) fun s1 hp h' hk => ?_
  · obtain ⟨i', m', ys', y, H', px', h00, r, hX, I1, st1, nf, out, hg1, hmn, kap⟩ := hv
    have I2 : IG px' H' (s1.setGen gn gs') := ig.gens I1 (bare_set (ig.bare I1) hb)
    refine hout v y H' _ i' m' ys' px' h00 r out hX I2 st1 fun m'' px'' h' tk hm w' hX' I3 st3 => ⟨hX', I3, st3, nf, w', gs', ?_, by omega, fun pz s'' hXz J'' st'' hg'' => ?_⟩
    · show (s1.gens.setIfInBounds gn gs')[gn]? = some gs'
      rw [Array.getElem?_setIfInBounds_self_of_lt hg1]
    · have q := kap m'' pz hm w' hXz s'' J'' st'' hg''
      cases n with
      | zero => exact q.elim
      | succ n => exact q
  · obtain ⟨ys', H', px', h00, hX, I1, fin⟩ := hp
    exact hfin ys' H' _ px' h00 fin hX (ig.kept (tk := (s1.setGen gn .finished).toks) (ig.gens I1 (bare_set (ig.bare I1) rfl)) hk)
/-- from the start on, with what the consumer keeps -/
theorem GStartL.run {m : Nat} {H : Hp} {s : Shared} {px : Pins} {h' : Heap} {tk : Nat} (G : GStartL X Ac IG tn fp W Out Fin gn m H s) (hX : PX [] px) (I : IG px H { s with heap := h', toks := tk }) (st : tn 0 h') : GRunL X Ac IG PX tn fp W Out Fin gn 0 m (m + 1) [] px H { s with heap := h', toks := tk } := by
  obtain ⟨g1, g2, g3, g4, gs, g5, g7⟩ := G
  exact ⟨hX, I, st, g3, g4, gs, g5, Nat.lt_succ_self _, fun px' s'' hX' I' st' hg => g7 PX px' s'' hX' I' st' hg⟩
end
section
variable {X : Cx} {pins : List (Addr × Obj)} {σ : L2.St} {H : Hp} {s : Shared}
theorem gx_mkL {c T : Addr} {elt tg iter : Expr} {ifs : List Expr} {scope : Scope} {own : List (Str × Nat)} {gpos : Pos} {wi : TI} {g : TG} {tt : TT} {te : TE} {k : Nat} {Q' : Value → Shared → Prop} {Outf : (Nat → Nat → List V → Hp → Prop) → Nat → Nat → List V → V → Hp → Prop} {Fin : List V → Hp → Prop}
    (Ac : Around) (hA : Ac.handled = none) (hfr : Ac.frames = some X.stack) (hd : Ac.depth ≤ X.A.depth) (hu : Ac.units ≤ X.A.units + 8) (hr : Room (k + 1) X.A) (hc : X.calm = true) (hN : X.N.Nodup) (TB : GxR.TabB X.base X.mg c T) (hcode : X.env.code = .ref c) (ok : GOk X.N X.env.scope scope own) (hi : PI X tg iter wi)
    (hg : ∀ (A' : Around) (s3 : Shared) (H3 : Hp) (C : Addr) (code : Value) (fp : List Addr), PG (gxc X A' s3 H3 (genE X scope C code) fp) tg g)
    (ht : ∀ (A' : Around) (s3 : Shared) (H3 : Hp) (C : Addr) (code : Value) (fp : List Addr), Room k A' → PTs (gxc X A' s3 H3 (genE X scope C code) fp) ifs tt)
    (he : ∀ (A' : Around) (s3 : Shared) (H3 : Hp) (C : Addr) (code : Value) (fp : List Addr), Room k A' → PE (gxc X A' s3 H3 (genE X scope C code) fp) elt te)
    (hs : ∀ v, genFold iter X.env v = pure v) (I : Inv X pins σ H s)
    (h : wi σ H fun J H1 => GxR.TabG H1 T ∧ ∀ H2, GxR.Tabbed T H1 H2 → ∃ W, (∃ m, W 0 m [] H2) ∧ GTurnsL J g tt te (own.map (·.2)) σ W (Outf W) Fin)
    (hQ : ∀ (IG : Pins → Hp → Shared → Prop) (tn : Nat → Heap → Prop) (fp : List Addr) W (a : Addr) (gn m : Nat) (H2 : Hp) (s5 : Shared), IGokL X pins σ a gn tn IG →
      GStartL X Ac IG tn fp W (Outf W) Fin gn m H2 s5 → Q' (.ref a) s5) :
    wpAny (model X.prog X.w) X.A (eval (.GeneratorExp elt [⟨tg, iter, ifs, 0⟩] scope gpos) X.env) Q' X.xe s := by
  have free := gx_free I ok
  refine wpAny_GeneratorExp_make ok.co (closure_ok free) ok.cell ok.dot ok.blk.kind (Nat.lt_of_le_of_lt (by omega : X.A.depth ≤ X.A.depth + 3 * (k + 1) + 5) hr.dp) ?_ hs
  refine thn (hi.run pins s σ H _ I h) fun xv s1 h1 => thn h1 fun itv s2 h2 => ?_
  obtain ⟨it, fp, tn, J, H1, rfl, J1, TU, st2, f2, ⟨ps, hT, hok⟩, q⟩ := h2
  have gT : s2.heap.get? T = some (PySem.W.tabObj ps) := J1.hok T _ hT
  have cd : PySem.W.CodeHd s2.heap c T := TB.code.keeps J1.bk
  refine ⟨J1.nolimit, ?_⟩
  have lts : ∀ b ∈ fp, b < s2.heap.objs.size := fun b hb => by
    obtain ⟨o, e, _⟩ := TU.obj _ _ st2 b hb
    exact Heap.lt_size e
  have nfT : ∀ b ∈ fp, b ≠ T := fun b hb z => by
    have := (f2 b hb).1
    rw [z, hT] at this
    cases this
  -- behind the code object
  have on : ∀ (code : Value) (h3 : Heap) (tk : Nat) (more : Array Value), Heap.ExtBut T s2.heap h3 → s2.heap.objs.size ≤ h3.objs.size → h3.get? T = some (PySem.W.tabObj (ps ++ more)) → TriplesOk (ps ++ more).toList →
      wpAny (model X.prog X.w) X.A (builtinsFor X.env.globals X.env.builtins) (fun bi s4 =>
        ∀ h', h'.Ns s4.heap.objs.size (fun y => if y = ".0" then some (.ref it) else none) → Heap.SameBut s4.heap.objs.size (s4.heap.push { cls := .type "frame", data := .dict #[] }) h' →
          Q' (.ref h'.objs.size) { s4 with
            gens := s4.gens.push (.fresh (.compStart (.GeneratorExp elt [⟨tg, iter, ifs, 0⟩] scope gpos) 0 (.ref it) .none (genEnv scope (cloFrom X.env.cells scope.names []) s4.heap.objs.size code bi X.env))),
            toks := s4.toks + 1 + 1 + 1,
            heap := h'.push { cls := .type "generator", data := .fields #[.int s4.gens.size 0, .str "<genexpr>" (s4.toks + 1), .str (X.env.qual ++ "<genexpr>") (s4.toks + 1 + 1)] } }) X.xe { s2 with heap := h3, toks := tk } := by
    intro code h3 tk more ext ge3 gT3 ok3
    have J3 : Inv X pins σ (upd H1 T (.tbl (ps ++ more))) { s2 with heap := h3, toks := tk } := GxR.inv_tab (g' := s2.gens) (d' := s2.drawn) J1 hT ext gT3 J1.bare
    have tb : GxR.Tabbed T H1 (upd H1 T (.tbl (ps ++ more))) := ⟨⟨_, upd_same, ok3⟩, fun b nb => upd_ne nb⟩
    obtain ⟨W, ⟨m0, w0⟩, turn⟩ := q _ tb
    obtain ⟨bm, ob, e1, e2, _, e4, e5, e6, e7, e8⟩ := TB.bm
    refine wpAny_builtinsFor (m := X.mg) (by rw [J3.ok.glob]; exact J3.mod.glob.keeps J3.bk) e1 e2 (ext _ _ e4 (J1.bk _ _ e5)) e6 e7 e8 ?_
    intro h' hn hsb
    have f3 : ∀ b ∈ fp, FpOk X pins (upd H1 T (.tbl (ps ++ more))) b ∧ b < h3.objs.size := fun b hb => by
      refine ⟨⟨?_, (f2 b hb).2⟩, Nat.lt_of_lt_of_le (lts b hb) ge3⟩
      rw [upd_ne (nfT b hb)]
      exact (f2 b hb).1
    have st3 : tn 0 h3 := TU.keep _ _ _ st2 fun b hb o e => ext b o (nfT b hb) e
    have nf3 : ∀ b ∈ fp, (upd H1 T (.tbl (ps ++ more))) b = none := fun b hb => (f3 b hb).1.1
    generalize hH3 : upd H1 T (.tbl (ps ++ more)) = H3 at J3 w0 f3 nf3
    generalize hs3 : ({ s2 with heap := h3, toks := tk } : Shared) = s3 at J3 hn hsb ⊢
    have eh : s3.heap = h3 := by rw [← hs3]
    have szh : h'.objs.size = s3.heap.objs.size + 1 := by rw [hsb.1, Heap.size_push]
    have kp : ∀ b o, s3.heap.get? b = some o → h'.get? b = some o := fun b o e => hsb.extBut b o (Nat.ne_of_lt (Heap.lt_size e)) (Heap.get?_push_of_some _ e)
    generalize hoG : ({ cls := .type "generator", data := .fields #[.int s3.gens.size 0, .str "<genexpr>" (s3.toks + 1), .str (X.env.qual ++ "<genexpr>") (s3.toks + 1 + 1)] } : Obj) = oG
    have na : h'.objs.size ∉ fp := fun z => by
      have := (f3 _ z).2
      rw [← eh] at this
      exact Nat.lt_irrefl _ (Nat.lt_of_lt_of_le this (by rw [szh]; exact Nat.le_succ _))
    have start := gx_start (A' := Ac.in1.over (.compLoop (.GeneratorExp elt [⟨tg, iter, ifs, 0⟩] scope gpos) 0 (.ref it) .none (genE X scope s3.heap.objs.size code)) []) (code := code) (it := .ref it) (oG := oG)
      (g' := s3.gens.push (.fresh (.compStart (.GeneratorExp elt [⟨tg, iter, ifs, 0⟩] scope gpos) 0 (.ref it) .none (genE X scope s3.heap.objs.size code)))) (t' := s3.toks + 1 + 1 + 1) J3 ok hN (fun b hb => ⟨(f3 b hb).1, by rw [eh]; exact (f3 b hb).2⟩) hA (over_gen hfr) hn hsb
      (fun v => by rw [← hoG]; exact fun z => nomatch z) (J3.bare.push rfl) (by rw [← hoG]; rfl)
    have rm : Room k (Ac.in1.over (.compLoop (.GeneratorExp elt [⟨tg, iter, ifs, 0⟩] scope gpos) 0 (.ref it) .none (genE X scope s3.heap.objs.size code)) []) :=
      room_gen hA (by have := hr.dp; show Ac.depth + 1 + 3 * k + 5 < _; omega) (by have := hr.un; show Ac.units + 1 + 3 + 16 * k + 200 < _; omega)
    let Px : Pins → Prop := fun px => ∀ p ∈ px, h'.objs.size + 1 ≤ p.1
    have hPx : ∀ px, Px px → ∀ p ∈ px, p.1 ∉ fp := fun px z p hp q => by
      have l1 : h'.objs.size + 1 ≤ p.1 := z p hp
      have l2 := (f3 _ q).2
      rw [← eh] at l2
      have l0 : s3.heap.objs.size ≤ h'.objs.size + 1 := by omega
      exact Nat.lt_irrefl _ (Nat.lt_of_lt_of_le l2 (Nat.le_trans l0 l1))
    refine hQ (fun px H' s' => Px px ∧ Inv (gxl X Ac.in1 elt tg iter ifs scope gpos it (genE X scope s3.heap.objs.size code) s3 H3 fp) ((h'.objs.size, oG) :: px) (wipe σ (own.map (·.2))) H' s') tn fp W h'.objs.size s3.gens.size m0 H3 _ ?_ ?_
    · have bk : ∀ {px : Pins} {H' : Hp} {s' : Shared}, Inv (gxl X Ac.in1 elt tg iter ifs scope gpos it (genE X scope s3.heap.objs.size code) s3 H3 fp) ((h'.objs.size, oG) :: px) (wipe σ (own.map (·.2))) H' s' → Inv X pins σ H' s' := fun I' =>
        J3.call' (ch := fp) I'.os I'.base I'.hok I'.bare fun b hb => ⟨(f3 b hb).1.2.2.2.1, (f3 b hb).1.2.1, (f3 b hb).1.2.2.2.2.1, (f3 b hb).1.2.2.2.2.2⟩
      refine ⟨fun I' => I'.2.bare, fun I' hb => ⟨I'.1, I'.2.ok, I'.2.os, hb, I'.2.base, I'.2.loc, I'.2.cell, I'.2.free, I'.2.freeC, I'.2.pin, I'.2.hok, I'.2.len⟩, fun I' kk => ⟨I'.1, I'.2.kept kk⟩, fun I' => ?_, fun I' => I'.2.nolimit, fun I' => bk I'.2, ?_, ?_, ?_, ?_, ?_⟩
      · have z := (I'.2.pin (h'.objs.size, oG) (by simp)).1
        rw [← hoG] at z
        exact ⟨_, _, _, z, rfl, rfl, rfl⟩
      · intro H' s' h2' tk' S o I' kk hS e nc
        have g0 := (I'.2.pin (h'.objs.size, oG) (by simp)).1
        have l0 := Heap.lt_size g0
        refine ⟨fun p hp => ?_, ?_⟩
        · rw [List.mem_singleton.mp hp]
          exact Nat.le_trans l0 hS
        · have K1 := I'.2.kept (t' := tk') kk
          have F := I'.2.fpOk (b := S) hS (I'.2.hok.fresh hS)
          refine K1.pins_of fun p hp => ?_
          rcases List.mem_cons.mp hp with z | z
          · rw [z]
            exact K1.pin _ (by simp)
          · rw [List.mem_singleton.mp z]
            exact ⟨e, F.1, F.2.1, F.2.2.1, nc⟩
      · intro H' s' h2' tk' S o o' I' kk e nc
        obtain ⟨p1, I1⟩ := I'
        obtain ⟨q1, q2, q3, q4, q5⟩ := I1.pin (S, o) (by simp)
        have lS : h'.objs.size + 1 ≤ S := p1 (S, o) (by simp)
        have Iu : Inv (gxl X Ac.in1 elt tg iter ifs scope gpos it (genE X scope s3.heap.objs.size code) s3 H3 fp) [(h'.objs.size, oG)] (wipe σ (own.map (·.2))) H' s' := I1.pins_of fun p hp => I1.pin p (by rw [List.mem_singleton.mp hp]; simp)
        have K1 := Iu.turned (t' := tk') (it := S) kk q2 q3 (.inr (by show s3.heap.objs.size ≤ S; omega)) (fun y cc ec z => ?_) (fun p hp z => ?_)
        · refine ⟨fun p hp => by rw [List.mem_singleton.mp hp]; exact lS, K1.pins_of fun p hp => ?_⟩
          rcases List.mem_cons.mp hp with z | z
          · rw [z]
            exact K1.pin _ (by simp)
          · rw [List.mem_singleton.mp z]
            exact ⟨e, q2, q3, q4, nc⟩
        · obtain ⟨v, zc⟩ := J3.cell y cc (by
            have ec' : (cloFrom X.env.cells scope.names []).lookup y = some cc := ec
            rcases cloFrom_mem (PySem.mem_of_lookup ec') with hm | ⟨h1, rfl⟩
            · cases hm
            · obtain ⟨c0, hc0⟩ := free _ h1 rfl
              rw [hc0]
              rfl)
          have l0 : s3.heap.objs.size ≤ h'.objs.size + 1 := by omega
          have l4 := zc.lt
          rw [z] at l4
          exact Nat.lt_irrefl _ (Nat.lt_of_lt_of_le l4 (Nat.le_trans l0 lS))
        · have hp' : p = (h'.objs.size, oG) := by simpa using hp
          rw [hp'] at z
          have z' : h'.objs.size = S := z
          omega
      · intro H' s' S o I'
        exact (I'.2.pin (S, o) (by simp)).1
      · exact fun st kk => TU.keep _ _ _ st fun b _ o e => kk b o e
      · intro H' s' S o i h2' I' st kk
        refine TU.keep _ _ _ st fun b hb ob e => kk b ob (fun z => ?_) e
        exact hPx _ I'.1 (S, o) (by simp) (z ▸ hb)
    · refine ⟨⟨fun p hp => (nomatch hp), start⟩, TU.keep _ _ _ st3 fun b hb o e => Heap.get?_push_of_some _ (kp b o (by rw [eh]; exact e)), nf3, w0, _, Array.getElem?_push_size .., fun PX px s'' hX I'' st'' hg'' => ⟨rfl, ?_⟩⟩
      exact gx_seg0 TU st'' (gx_segL TU na ok.co (hg _ s3 H3 _ code fp) (ht _ s3 H3 _ code fp rm) (he _ s3 H3 _ code fp rm) turn _ Px hPx rfl m0 (m0 + 1) 0 [] px H3 s'' s'' (Nat.lt_succ_self _) (fun p hp => (I''.2.pin p (by simp [hp])).1) hX I'' st'' nf3 w0 hg'')
  cases among : codeAmong gpos ps.toList with
  | some cv =>
    refine wpAny_genexprCode_hit hcode (cd.code gT hok) among ?_
    exact on cv s2.heap s2.toks #[] (Heap.ExtBut.refl _ _) (Nat.le_refl _) (by rw [Array.append_empty]; exact gT) (by rw [Array.append_empty]; exact hok)
  | none =>
    refine wpAny_genexprCodeX hcode (cd.code gT hok) (cd.tab gT) among fun c' h' tk hx hge hlt isC _ tab' _ => ?_
    obtain ⟨_, _, _, _, _, _, _, _, _, _, _, _, _, _, _, _, _, _, _, ok', _⟩ := isC
    exact on _ h' tk _ hx (Nat.le_trans hge (Nat.le_of_lt hlt)) tab'.2 ok'
end
/-! ### tuple(..) of a generator expression -/
abbrev lsO (acc : Array Value) (c : Nat) : Obj := { cls := .type "list", dict := none, data := .seq acc c, slots := #[] }
def pxL (S : Addr) : List V → Pins → Prop := fun ys px => ∃ acc c, px = [(S, lsO acc c)] ∧ Vals ys acc.toList
abbrev outL (W : Nat → Nat → List V → Hp → Prop) : Nat → Nat → List V → V → Hp → Prop := fun i m ys y H' => ys.length < sizeLine ∧ ∃ m', m' < m ∧ W (i + 1) m' (ys ++ [y]) H'
section
variable {X : Cx} {pins : List (Addr × Obj)} {σ : L2.St} {IG : Pins → Hp → Shared → Prop} {tn : Nat → Heap → Prop} {fp : List Addr} {W : Nat → Nat → List V → Hp → Prop} {Fin : List V → Hp → Prop} {a : Addr} {gn : Nat} {B : Around}
theorem vals_len {ys : List V} {acc : Array Value} (h : Vals ys acc.toList) : acc.size = ys.length := by
  rw [← Array.length_toList]
  exact h.length.symm
theorem gx_extend {S : Addr} {res : Value} {R : Result → Shared → Prop} (ig : IGokL X pins σ a gn tn IG) (hA : B.handled = none) (hd : B.depth < recursionLimit)
    (hR : ∀ ys acc c H s, Vals ys acc.toList → Fin ys H → IG [(S, lsO acc c)] H s → R (.ok (.ret res)) s) : ∀ (n i m : Nat) (ys : List V) (px : Pins) (H : Hp) (s : Shared),
    GRunL X B.in1 IG (pxL S) tn fp W (outL W) Fin gn i m n ys px H s → codeAny (model X.prog X.w) B (.builtin "list.extend.loop" ⟨[.ref S, .ref a, res], []⟩) R s := by
  intro n
  induction n with
  | zero =>
    intro i m ys px H s G
    obtain ⟨_, _, _, _, _, gs, _, h, _⟩ := G
    exact absurd h (Nat.not_lt_zero _)
  | succ n ih =>
    intro i m ys px H s G
    refine codeAny_builtin F.entry_extend_loop (Around.under_plainId (A := B) F.plain_extend_loop _ ▸ ?_)
    show wpAny _ B.in1 (pyNext (.ref a) >>= _) _ _ s
    refine wpAny_bind (gx_nextL ig hA hd G (fun v y H' s' i' m' ys' px' _ r out hX I' st' cont => ?_) fun ys' H' s' px' _ fin hX I' => ?_)
    · obtain ⟨acc, c, rfl, hv⟩ := hX
      obtain ⟨hlt, m'', hm, w'⟩ := out
      have own := ig.own I'
      have ln := vals_len hv
      have oth : ∀ b u, b ≠ S → s'.heap.get? b = some u → (s'.heap.update S (Obj.mapSeq (·.push v))).get? b = some u := fun b u nb e => (Heap.get?_update_other _ _ (Ne.symm nb)).trans e
      have self := Heap.get?_update_self (Obj.mapSeq (·.push v)) own rfl
      show wpAny _ B.in1 (updateSeq S (·.push v) >>= _) _ _ _
      refine wpAny_bind (wpAny_updateSeq own rfl (wpAny_pure ⟨plainId_quiet F.plain_extend_loop _, ih (i' + 1) m'' _ _ H' _ (cont m'' _ _ s'.toks hm w' ⟨acc.push v, _, rfl, ?_⟩ (ig.put I' oth self fun u z => nomatch z) (ig.tnp I' st' oth))⟩) (by omega)
        (by show (acc.push v).size ≤ sizeLine + 1; rw [Array.size_push]; omega))
      rw [Array.toList_push]
      exact Paired.snoc hv r
    · obtain ⟨acc, c, rfl, hv⟩ := hX
      exact wpAny_pure (hR ys' acc c H' s' hv fin I')
/-- what is collected from it -/
theorem gx_collect {Q : List Value → Shared → Prop} {E : Value → Shared → Prop} {m : Nat} {H : Hp} {s : Shared} (ig : IGokL X pins σ a gn tn IG) (hA : B.handled = none) (hd : B.depth < recursionLimit)
    (G : GStartL X B.in1 IG tn fp W (outL W) Fin gn m H s) (hQ : ∀ ys (acc : Array Value) H' s', Vals ys acc.toList → Fin ys H' → Inv X pins σ H' s' → Q acc.toList s') : wpAny (model X.prog X.w) B (collect (.ref a)) Q E s := by
  have g0 := ig.isgen G.1
  have lt : (a : Nat) < s.heap.objs.size := by
    obtain ⟨o, nm, qn, ho, _⟩ := g0
    exact Heap.lt_size ho
  have nSa : s.heap.objs.size ≠ a := Nat.ne_of_gt lt
  unfold collect
  refine wpAny_bind (wpAny_runValue (codeAny_builtin F.entry_proto_collect (Around.under_plainId (A := B) F.plain_proto_collect _ ▸ ?_)))
  show wpAny _ B.in1 (newList [] >>= fun l => again (.builtin "list.__iadd__" ⟨[l, .ref a], []⟩)) _ _ s
  refine wpAny_bind (wpAny_newObj_type (wpAny_pure ⟨plainId_quiet F.plain_list_iadd _, codeAny_builtin F.entry_list_iadd (Around.under_plainId (A := B) F.plain_list_iadd _ ▸ ?_)⟩))
  have k1 : ∀ b u, s.heap.get? b = some u → (s.heap.push { cls := .type "list", data := .seq ([] : List Value).toArray }).get? b = some u := fun b u e => Heap.get?_push_of_some _ e
  have gS : (s.heap.push { cls := .type "list", data := .seq ([] : List Value).toArray }).get? s.heap.objs.size = some (lsO #[] 0) := Heap.get?_push_size _ rfl
  generalize s.heap.push { cls := .type "list", data := .seq ([] : List Value).toArray } = h1 at k1 gS
  have ty : Shared.TypeIs { s with heap := h1 } (.ref a) "generator" := Heap.IsGen.typeIs (s := { s with heap := h1 }) (g0.keeps k1)
  show wpAny _ B.in1 (Builtin.List.listExtendWith (.ref s.heap.objs.size) (.ref a) (.ref s.heap.objs.size)) _ _ _
  unfold Builtin.List.listExtendWith
  refine wpAny_bind (wpAny_typeOf ty ?_)
  simp only [show Builtin.List.listSameRef (.ref s.heap.objs.size) (.ref a) = false by simp [Builtin.List.listSameRef, nSa], show (Value.type "generator" == Value.type "list") = false by decide, show (Value.type "generator" == Value.type "tuple") = false by decide, Bool.or_false, Bool.false_eq_true, if_false]
  refine wpAny_bind (wpAny_pyIter_gen (s := { s with heap := h1 }) (g0.keeps k1) (wpAny_bind (wpAny_holding ?_)))
  unfold Builtin.List.listLengthHint
  refine wpAny_bind (wpAny_specialOf ty F.gen_no_len ?_)
  show wpAny _ B.in1 (specialOf (Value.ref a) (Str.ofString "__length_hint__") >>= _) _ _ _
  refine wpAny_bind (wpAny_specialOf ty F.gen_no_hint (wpAny_pure ?_))
  show wpAny _ B.in1 (rule "list.extend.makes-room" >>= fun _ => Builtin.List.listTouch (.ref s.heap.objs.size) >>= fun _ => again (.builtin "list.extend.loop" ⟨[.ref s.heap.objs.size, .ref a, .ref s.heap.objs.size], []⟩)) _ _ _
  refine wpAny_bind (wpAny_rule (wpAny_bind ?_))
  show wpAny _ B.in1 (updateSeq s.heap.objs.size (·.push .none) >>= fun _ => updateSeq s.heap.objs.size (·.pop)) _ _ _
  refine wpAny_bind (wpAny_updateSeq gS rfl ?_)
  have gS2 := Heap.get?_update_self (Obj.mapSeq (·.push Value.none)) gS rfl
  refine wpAny_updateSeq gS2 rfl ?_
  have gS3 := Heap.get?_update_self (Obj.mapSeq (·.pop)) gS2 rfl
  have oth : ∀ b u, b ≠ s.heap.objs.size → h1.get? b = some u → ((h1.update s.heap.objs.size (Obj.mapSeq (·.push Value.none))).update s.heap.objs.size (Obj.mapSeq (·.pop))).get? b = some u := fun b u nb e =>
    (Heap.get?_update_other _ _ (Ne.symm nb)).trans ((Heap.get?_update_other _ _ (Ne.symm nb)).trans e)
  have I1 := ig.add (tk := s.toks) G.1 k1 (Nat.le_refl _) gS fun u z => nomatch z
  have st1 := ig.tnk G.2.1 k1
  have I3 := ig.put (tk := s.toks) I1 oth gS3 fun u z => nomatch z
  have st3 := ig.tnp I1 st1 oth
  refine wpAny_pure ⟨plainId_quiet F.plain_extend_loop _, gx_extend ig hA hd (fun ys acc c H' s' hv fin I' => ?_) (m + 1) 0 m [] _ H _ (G.run (PX := pxL s.heap.objs.size) ⟨#[], _, rfl, .nil⟩ I3 st3)⟩
  show wpAny _ B (load s.heap.objs.size >>= _) _ _ s'
  exact wpAny_bind (wpAny_load (ig.own I') (wpAny_pure (hQ ys acc H' s' hv fin (ig.back I'))))
theorem gx_tuple {A : Around} {Q : Value → Shared → Prop} {E : Value → Shared → Prop} {m : Nat} {H : Hp} {s : Shared} (ig : IGokL X pins σ a gn tn IG) (hA : A.handled = none) (hd : A.depth < recursionLimit)
    (G : GStartL X A.in1.in1.in1 IG tn fp W (outL W) Fin gn m H s) (hz : ∀ ys H', Fin ys H' → ys.length ≤ sizeLine)
    (hQ : ∀ ys (acc : Array Value) H' s', Vals ys acc.toList → Fin ys H' → Inv X pins σ H' s' → Q (.ref s'.heap.objs.size) { s' with heap := s'.heap.push { cls := .type "tuple", data := .seq acc } }) :
    wpAny (model X.prog X.w) A (call (.type "tuple") [.ref a]) Q E s := by
  refine callType_codes (Q₁ := fun obj s1 => s1.TypeIs obj "tuple" ∧ Q obj s1) F.called_tuple (F.typeCall_tuple_1 _) F.entry_object_init (codeAny_of_tree ?_) fun obj s1 h1 =>
    ⟨h1.1, F.args_object_init_2 obj _, object_init_meets F.called_tuple.init.lookup F.called_tuple.made (by decide) X.prog X.w A.in1 _ s1 ⟨h1.1, rfl, h1.2⟩⟩
  show wpAny _ A.in1.in1 (do checkBuiltinCall "tuple.__new__" ⟨[.type "tuple", .ref a], []⟩; again (.builtin "tuple.__new__" ⟨[.type "tuple", .ref a], []⟩)) _ _ s
  refine wpAny_bind (wpAny_of_eq (F.newCall_tuple_1 _) (wpAny_pure ⟨plainId_quiet F.plain_tuple_new _, codeAny_builtin F.entry_tuple_new (Around.under_plainId (A := A.in1) F.plain_tuple_new _ ▸ ?_)⟩))
  have e1 := sub_tuple_self
  have e2 := init_tuple_lookup
  have e3 := madeHere_tuple
  have ty : s.TypeIs (.ref a) "generator" := Heap.IsGen.typeIs (ig.isgen G.1)
  wp_walk using wpAny_typeOf ty, gx_collect (B := A.in1.in1) ig hA hd G
  intro ys acc H' s' hv fin I'
  show wpAny _ _ (Builtin.Tuple.tupleExact acc.toList.toArray >>= fun v => ret v) _ _ _
  unfold Builtin.Tuple.tupleExact
  rw [show acc.toList.toArray = acc by simp]
  exact wpAny_bind (wpAny_newObj_type (wpAny_pure ⟨⟨_, Heap.get?_push_size _ rfl, rfl⟩, hQ ys acc H' s' hv fin I'⟩) (by show acc.size ≤ sizeLine; rw [vals_len hv]; exact hz ys H' fin))
end
def tTupG (T : Addr) (wi : TI) (g : TG) (tt : TT) (te : TE) (vs : List Nat) : TE := fun σ H Q => wi σ H fun J H1 => GxR.TabG H1 T ∧ ∀ H2, GxR.Tabbed T H1 H2 → ∃ W : Nat → Nat → List V → Hp → Prop, (∃ m, W 0 m [] H2) ∧
  GTurnsL J g tt te vs σ W (outL W) (fun ys H' => ys.length ≤ sizeLine ∧ ∀ p, H' p = none → Q (.ref p) (upd H' p (.tup ys)))
section
variable {X : Cx} {pins : List (Addr × Obj)} {σ : L2.St}
theorem pe_tupG {c T : Addr} {elt tg iter : Expr} {ifs : List Expr} {scope : Scope} {own : List (Str × Nat)} {gpos p pos : Pos} {wi : TI} {g : TG} {tt : TT} {te : TE} {k : Nat}
    (hr : Room (k + 1) X.A) (hgl : Gl X "tuple") (hm : X.mg "tuple" = none) (hc : X.calm = true) (hN : X.N.Nodup) (TB : GxR.TabB X.base X.mg c T) (hcode : X.env.code = .ref c) (ok : GOk X.N X.env.scope scope own) (hi : PI X tg iter wi)
    (hg : ∀ (A' : Around) (s3 : Shared) (H3 : Hp) (C : Addr) (code : Value) (fp : List Addr), PG (gxc X A' s3 H3 (genE X scope C code) fp) tg g)
    (ht : ∀ (A' : Around) (s3 : Shared) (H3 : Hp) (C : Addr) (code : Value) (fp : List Addr), Room k A' → PTs (gxc X A' s3 H3 (genE X scope C code) fp) ifs tt)
    (he : ∀ (A' : Around) (s3 : Shared) (H3 : Hp) (C : Addr) (code : Value) (fp : List Addr), Room k A' → PE (gxc X A' s3 H3 (genE X scope C code) fp) elt te)
    (hs : ∀ v, genFold iter X.env v = pure v := by intro _; rfl)
    (hst : starEach [.GeneratorExp elt [⟨tg, iter, ifs, 0⟩] scope gpos] X.env = (false, eval (.GeneratorExp elt [⟨tg, iter, ifs, 0⟩] scope gpos) X.env) :: starEach [] X.env := by rfl) :
    PE X (.Call (.Name "tuple" p) [.GeneratorExp elt [⟨tg, iter, ifs, 0⟩] scope gpos] [] pos) (tTupG T wi g tt te (own.map (·.2))) := by
  refine ⟨fun pins s σ H Q I h => wpAny_Call_Name_kw (ld_blt I hgl hm (show bootBuiltins "tuple" = some (.type "tuple") by decide +kernel) ?_)⟩
  refine PyProof.Rows.callWith_type1 ?_ hst (by rfl)
  rw [hst]
  have hA := I.ok.hd hc
  have hf := I.ok.frames
  refine Calls.spliced_cons (gx_mkL (Outf := outL) (Fin := fun ys H' => ys.length ≤ sizeLine ∧ ∀ p, H' p = none → Q (.ref p) (upd H' p (.tup ys)))
    X.A.in1.in1.in1 hA hf (Nat.le_refl _) (by show X.A.units + 1 + 1 + 1 ≤ _; omega) hr hc hN TB hcode ok hi hg ht he hs I h ?_)
  intro IG tn fp W a gn m H2 s5 ig G
  refine Calls.spliced_nil (gx_tuple ig hA (Nat.lt_of_le_of_lt (by omega : X.A.depth ≤ X.A.depth + 3 * (k + 1) + 5) hr.dp) G (fun ys H' z => z.1) fun ys acc H' s' hv fin I' => ?_)
  have nw := I'.hok.fresh (Nat.le_refl s'.heap.objs.size)
  exact ⟨.ref s'.heap.objs.size, _, I'.laid (t' := s'.toks) (o := .tup ys) (fun b u e => Heap.get?_push_of_some _ e) (Nat.le_refl _) ⟨fin.1, acc.toList, hv, ⟨_, Heap.get?_push_size _ rfl, rfl, 0, by show Data.seq acc 0 = Data.seq acc.toList.toArray 0; rw [Array.toArray_toList]⟩⟩, rfl, fin.2 _ nw⟩
end
/-! ### with_places -/
def swp (o t x : Str) : Str := if x = o then t else if x = t then o else x
theorem sw_ent {e : Ent} (h : e.word = "swap") : ∃ n m o t, e = .swap n m o t := by
  cases e with
  | come n m g p k r => exact absurd h (show ("come" : Str) ≠ "swap" by decide +kernel)
  | go n m g p k => exact absurd h (show ("go" : Str) ≠ "swap" by decide +kernel)
  | move n m g o t k => exact absurd h (show ("move" : Str) ≠ "swap" by decide +kernel)
  | some_ n m g o t => exact absurd h (show ("some" : Str) ≠ "swap" by decide +kernel)
  | swap n m o t => exact ⟨n, m, o, t, rfl⟩
  | count n m g p k hd => exact absurd h (show ("count" : Str) ≠ "swap" by decide +kernel)
  | look n m g p => exact absurd h (show ("look" : Str) ≠ "swap" by decide +kernel)
def Ent.mp (τ : Str → Str) : Ent → Ent
  | .come n m g p k r => .come n m g (τ p) k r
  | .go n m g p k => .go n m g (τ p) k
  | .move n m g o t k => .move n m g (τ o) (τ t) k
  | .some_ n m g o t => .some_ n m g (τ o) (if t = "" then "" else τ t)
  | .swap n m o t => .swap n m (τ o) (τ t)
  | .count n m g p k h => .count n m g (τ p) k h
  | .look n m g p => .look n m g (τ p)
def spWithPl : Sp := fun vs H Q _ => ∃ (a b : Addr) (e : Ent) (τ : Str → Str), vs = [.ref a, .ref b] ∧ H a = some (.tup e.vals) ∧ H b = some (.tup ((e.places.map τ).map V.str)) ∧
  (∀ y ∈ e.places, τ y ≠ "") ∧ ∀ (t : Addr) (H' : Hp), Same H H' → H' t = some (.tup (e.mp τ).vals) → Q (.ref t) H'
theorem places_leW (e : Ent) : e.places.length ≤ 2 ∧ 1 ≤ e.places.length := by
  cases e with
  | some_ n m g o t =>
    by_cases z : t = ""
    · rw [show Ent.places (.some_ n m g o t) = [o] from if_pos z]
      exact ⟨by simp, by simp⟩
    · rw [show Ent.places (.some_ n m g o t) = [o, t] from if_neg z]
      exact ⟨by simp, by simp⟩
  | _ => exact ⟨by simp [Ent.places], by simp [Ent.places]⟩
theorem mp_vals3 {τ : Str → Str} {n : Str} {m : Int} {o t : Str} : (Ent.swap n m o t).vals.take 3 ++ ((Ent.swap n m o t).places.map τ).map V.str ++ (Ent.swap n m o t).vals.drop (3 + (((Ent.swap n m o t).places.map τ).map V.str).length) = ((Ent.swap n m o t).mp τ).vals := rfl
theorem mp_vals4 {τ : Str → Str} {e : Ent} (h : e.word ≠ "swap") : e.vals.take 4 ++ (e.places.map τ).map V.str ++ e.vals.drop (4 + ((e.places.map τ).map V.str).length) = (e.mp τ).vals := by
  cases e with
  | swap n m o t => exact absurd rfl h
  | some_ n m g o t =>
    by_cases z : t = ""
    · subst z
      simp [Ent.places, Ent.mp, Ent.vals, Ent.rest]
      exact ⟨rfl, rfl, rfl⟩
    · rw [show Ent.places (.some_ n m g o t) = [o, t] from if_neg z, show Ent.mp τ (.some_ n m g o t) = .some_ n m g (τ o) (τ t) from congrArg (Ent.some_ n m g (τ o)) (if_neg z)]
      rfl
  | _ => rfl
section
variable {P : Program} {w : World} {K : PySem.W.Frag} {mg : Str → Option Value} {base : Heap}
theorem scWithPl : FnScope ["entry", "places", "start"] ["entry", "places"] (defScope sWithPlaces) := ⟨rfl, rfl, rfl, by decide +kernel, rfl, by decide +kernel, by decide +kernel⟩
theorem ok_withPl {f : Addr} {fd : FuncData} (F : Fun K "with_places" "with_places" sWithPlaces f fd) (ml : mg "len" = none) : FnOk P w K mg base CX0 1 f fd ["entry", "places"] spWithPl := by
  refine F.ok scWithPl (fun vs H Q E h => ?_) (fun cdv A outer s H vs Q E hr h => ?_)
  · obtain ⟨a, b, e, τ, rfl, _⟩ := h
    rfl
  · obtain ⟨a, b, e, τ, rfl, ha, hb, full, q⟩ := h
    have nd := scWithPl.nd
    refine ⟨_, pss_cons (ps_set (i := 2) nd rfl (Or.inl rfl) (pe_ifExp (pt_cmpR op_eq (pe_ix ix_tup (pv 0) pe_int (fun _ _ => rfl)) pe_str (nomark _)) pe_int pe_int))
      (pss_one (ps_ret (pe_op op_catS (pe_op op_catS (pe_slice sl_S (pv 0) po_none (po_some (pv 2))) (pv 1)) (pe_slice sl_S (pv 0) (po_some (pe_op op_add (pv 2) (pe_callB call_len_seq (by rfl) ml PySem.boot_len (pa_cons (pv 1) pa_nil)))) po_none)))), ?_⟩
    obtain ⟨v5, v7⟩ := vals_len_e e
    obtain ⟨p2, p1⟩ := places_leW e
    have lp : ((e.places.map τ).map V.str).length = e.places.length := by rw [List.length_map, List.length_map]
    have ne0 : ∀ {k : Nat}, 0 < k → e.vals.take k ≠ [] := fun hk z => by
      have := congrArg List.length z
      rw [List.length_take, List.length_nil] at this
      omega
    have lt0 : ∀ {k : Nat}, (e.vals.take k).length ≤ 7 := fun {k} => by
      rw [List.length_take]
      omega
    refine ⟨_, rfl, a, _, 0, _, rfl, rfl, SqT.of ha, at0 e, rfl, _, rfl, ite2 (fun z => ?_) (fun z => ?_)⟩
    · have isw : e.word = "swap" := V.str.inj (of_decide_eq_true z)
      refine ⟨_, rfl, _, rfl, 3, rfl, a, _, rfl, ha, fun p H1 s1 g1 => ?_⟩
      replace g1 : H1 p = some (.tup (e.vals.take 3)) := g1.trans (congrArg (fun z => some (HO.tup z)) (cut_head (k := 3)))
      refine ⟨_, rfl, p, b, _, _, rfl, rfl, g1, s1 _ _ hb, ne0 (by decide), small_sz (by have := @lt0 3; omega), fun t H2 s2 g2 => ?_⟩
      refine ⟨_, rfl, _, rfl, _, rfl, b, _, rfl, .inr (SqT.of (s2 _ _ (s1 _ _ hb))), 3, _, rfl, rfl, _, rfl, a, _, rfl, s2 _ _ (s1 _ _ ha), fun u H3 s3 g3 => ?_⟩
      have e0 : ((3 : Int) + (((e.places.map τ).map V.str).length : Int)) = ((3 + ((e.places.map τ).map V.str).length : Nat) : Int) := by omega
      rw [e0, cut_tail] at g3
      refine ⟨t, u, _, _, rfl, rfl, s3 _ _ g2, g3, ?_, small_sz (by rw [List.length_append, List.length_drop]; have := @lt0 3; omega), fun v H4 s4 g4 => q v H4 (s1.trans (s2.trans (s3.trans s4))) ?_⟩
      · exact fun z => ne0 (k := 3) (by decide) (List.append_eq_nil_iff.mp z).1
      · obtain ⟨nm, mo, o, tt, rfl⟩ := sw_ent isw
        rw [g4]
        exact congrArg (fun z => some (HO.tup z)) mp_vals3
    · have isw : e.word ≠ "swap" := fun y => z (decide_eq_true (congrArg V.str y))
      refine ⟨_, rfl, _, rfl, 4, rfl, a, _, rfl, ha, fun p H1 s1 g1 => ?_⟩
      replace g1 : H1 p = some (.tup (e.vals.take 4)) := g1.trans (congrArg (fun z => some (HO.tup z)) (cut_head (k := 4)))
      refine ⟨_, rfl, p, b, _, _, rfl, rfl, g1, s1 _ _ hb, ne0 (by decide), small_sz (by have := @lt0 4; omega), fun t H2 s2 g2 => ?_⟩
      refine ⟨_, rfl, _, rfl, _, rfl, b, _, rfl, .inr (SqT.of (s2 _ _ (s1 _ _ hb))), 4, _, rfl, rfl, _, rfl, a, _, rfl, s2 _ _ (s1 _ _ ha), fun u H3 s3 g3 => ?_⟩
      have e0 : ((4 : Int) + (((e.places.map τ).map V.str).length : Int)) = ((4 + ((e.places.map τ).map V.str).length : Nat) : Int) := by omega
      rw [e0, cut_tail] at g3
      refine ⟨t, u, _, _, rfl, rfl, s3 _ _ g2, g3, ?_, small_sz (by rw [List.length_append, List.length_drop]; have := @lt0 4; omega), fun v H4 s4 g4 => q v H4 (s1.trans (s2.trans (s3.trans s4))) ?_⟩
      · exact fun z => ne0 (k := 4) (by decide) (List.append_eq_nil_iff.mp z).1
      · rw [g4]
        exact congrArg (fun z => some (HO.tup z)) (mp_vals4 isw)
end
/-! ### dicts from names to names, and what becomes of an entry -/
def kvD (dk : List (Str × Str)) : List (Key × V) := dk.map fun x => ((Sum.inr x.1 : Key), V.str x.2)
def lookO : List (Str × Str) → Str → Option Str
  | [], _ => none
  | y :: r, x => if y.1 = x then some y.2 else lookO r x
def look (dk : List (Str × Str)) (x : Str) : Str := (lookO dk x).getD x
theorem valV_kvD (x : Str) : ∀ dk : List (Str × Str), valV (kvD dk) (Sum.inr x) = (lookO dk x).map V.str
  | [] => rfl
  | y :: r => by
    show valV (((Sum.inr y.1 : Key), V.str y.2) :: kvD r) (Sum.inr x) = ((if y.1 = x then some y.2 else lookO r x).map V.str)
    by_cases e : y.1 = x
    · rw [valV_pos (congrArg Sum.inr e), if_pos e]
      rfl
    · rw [valV_neg fun z => e (Sum.inr.inj z), if_neg e]
      exact valV_kvD x r
theorem look_get (dk : List (Str × Str)) (x : Str) : (valV (kvD dk) (Sum.inr x)).getD (.str x) = .str (look dk x) := by
  rw [valV_kvD]
  unfold look
  cases lookO dk x <;> rfl
theorem lookO_in {x z : Str} : ∀ {dk : List (Str × Str)}, lookO dk x = some z → (x, z) ∈ dk
  | y :: r, h => by
    by_cases e : y.1 = x
    · have h' : (if y.1 = x then some y.2 else lookO r x) = some z := h
      rw [if_pos e] at h'
      rw [← e, ← Option.some.inj h']
      exact List.mem_cons_self
    · have h' : (if y.1 = x then some y.2 else lookO r x) = some z := h
      rw [if_neg e] at h'
      exact List.mem_cons_of_mem _ (lookO_in h')
theorem lookO_no {x : Str} : ∀ {dk : List (Str × Str)}, x ∉ dk.map (·.1) → lookO dk x = none
  | [], _ => rfl
  | y :: r, h => by
    show (if y.1 = x then some y.2 else lookO r x) = none
    rw [if_neg fun e => h (by rw [← e]; exact List.mem_cons_self)]
    exact lookO_no fun z => h (List.mem_cons_of_mem _ z)
theorem lookO_nd {x z : Str} : ∀ {dk : List (Str × Str)}, (dk.map (·.1)).Nodup → (x, z) ∈ dk → lookO dk x = some z
  | y :: r, nd, h => by
    show (if y.1 = x then some y.2 else lookO r x) = some z
    obtain ⟨n1, n2⟩ := List.nodup_cons.mp (show (y.1 :: r.map (·.1)).Nodup from nd)
    rcases List.mem_cons.mp h with e | h
    · rw [← e, if_pos rfl]
    · rw [if_neg fun e => n1 (by rw [e]; exact List.mem_map.mpr ⟨_, h, rfl⟩)]
      exact lookO_nd n2 h
structure NmD (dk : List (Str × Str)) : Prop where
  nm : ∀ y ∈ dk, nameB y.1 = true ∧ nameB y.2 = true
  le : dk.length ≤ 31
theorem NmD.look {dk : List (Str × Str)} (n : NmD dk) {x : Str} (h : nameB x = true) : nameB (look dk x) = true := by
  unfold Shelf.look
  cases e : lookO dk x with
  | none => exact h
  | some z => exact (n.nm _ (lookO_in e)).2
theorem NmD.nil : NmD [] := ⟨fun _ h => (nomatch h), Nat.zero_le _⟩
theorem look_nil (x : Str) : look [] x = x := rfl
theorem nd_inj {α β : Type} {f : α → β} : ∀ {l : List α}, (l.map f).Nodup → ∀ {x y : α}, x ∈ l → y ∈ l → f x = f y → x = y
  | a :: r, nd, x, y, hx, hy, e => by
    obtain ⟨n1, n2⟩ := List.nodup_cons.mp (show (f a :: r.map f).Nodup from nd)
    rcases List.mem_cons.mp hx with ex | hx'
    · rcases List.mem_cons.mp hy with ey | hy'
      · rw [ex, ey]
      · exact absurd (List.mem_map.mpr ⟨y, hy', by rw [← e, ex]⟩) n1
    · rcases List.mem_cons.mp hy with ey | hy'
      · exact absurd (List.mem_map.mpr ⟨x, hx', by rw [e, ey]⟩) n1
      · exact nd_inj n2 hx' hy' e
namespace Ent
def setN (e : Ent) (n : Str) : Ent := match e with
  | .come _ m g p k r => .come n m g p k r
  | .go _ m g p k => .go n m g p k
  | .move _ m g o t k => .move n m g o t k
  | .some_ _ m g o t => .some_ n m g o t
  | .swap _ m o t => .swap n m o t
  | .count _ m g p k h => .count n m g p k h
  | .look _ m g p => .look n m g p
def setG (e : Ent) (g : Str) : Ent := match e with
  | .come n m _ p k r => .come n m g p k r
  | .go n m _ p k => .go n m g p k
  | .move n m _ o t k => .move n m g o t k
  | .some_ n m _ o t => .some_ n m g o t
  | .swap n m o t => .swap n m o t
  | .count n m _ p k h => .count n m g p k h
  | .look n m _ p => .look n m g p
def ren (fp fg fn : Str → Str) : Ent → Ent
  | .come n m g p k r => .come (fn n) m (fg g) (fp p) k r
  | .go n m g p k => .go (fn n) m (fg g) (fp p) k
  | .move n m g o t k => .move (fn n) m (fg g) (fp o) (fp t) k
  | .some_ n m g o t => .some_ (fn n) m (fg g) (fp o) (if t = "" then "" else fp t)
  | .swap n m o t => .swap (fn n) m (fp o) (fp t)
  | .count n m g p k h => .count (fn n) m (fg g) (fp p) k h
  | .look n m g p => .look (fn n) m (fg g) (fp p)
end Ent
theorem setN_vals (e : Ent) (n : Str) : e.vals.take 1 ++ [V.str n] ++ e.vals.drop 2 = (e.setN n).vals := by cases e <;> rfl
theorem setG_vals {e : Ent} (g : Str) (h : e.goodV ≠ .non) : e.vals.take 3 ++ [V.str g] ++ e.vals.drop 4 = (e.setG g).vals := by
  cases e with
  | swap n m o t => exact absurd rfl h
  | _ => rfl
theorem setN_places (e : Ent) (n : Str) : (e.setN n).places = e.places := by cases e <;> rfl
theorem mp_good (e : Ent) (τ : Str → Str) : (e.mp τ).goodV = e.goodV := by cases e <;> rfl
theorem setN_good (e : Ent) (n : Str) : (e.setN n).goodV = e.goodV := by cases e <;> rfl
theorem ren_no {e : Ent} {fp fg fn : Str → Str} (h : e.goodV = .non) : (e.setN (fn e.name)).mp fp = e.ren fp fg fn := by
  cases e with
  | swap n m o t => rfl
  | _ => exact V.noConfusion h
theorem ren_some {e : Ent} {fp fg fn : Str → Str} {g : Str} (h : e.goodV = .str g) : ((e.setN (fn e.name)).mp fp).setG (fg g) = e.ren fp fg fn := by
  cases e with
  | swap n m o t => exact V.noConfusion h
  | _ => rw [← V.str.inj h]; rfl
theorem ren_name (e : Ent) (fp fg fn : Str → Str) : (e.ren fp fg fn).name = fn e.name := by cases e <;> rfl
theorem ren_moment (e : Ent) (fp fg fn : Str → Str) : (e.ren fp fg fn).moment = e.moment := by cases e <;> rfl
theorem From.ren {e : Ent} {P G HL : List Str} {fp fg fn : Str → Str} (h : e.From P G HL) (ip : (P.map fp).Nodup) : (e.ren fp fg fn).From (P.map fp) (G.map fg) HL := by
  have inP : ∀ {y : Str}, y ∈ P → fp y ∈ P.map fp := fun h => List.mem_map.mpr ⟨_, h, rfl⟩
  have inG : ∀ {y : Str}, y ∈ G → fg y ∈ G.map fg := fun h => List.mem_map.mpr ⟨_, h, rfl⟩
  have ne : ∀ {o t : Str}, o ∈ P → t ∈ P → (P.Nodup → o ≠ t) → (P.map fp).Nodup → fp o ≠ fp t := fun ho ht n _ z => n (List.Pairwise.of_map fp (fun a b q z => q (congrArg fp z)) ip) (nd_inj ip ho ht z)
  cases e with
  | come n m g p k r => exact ⟨inG h.1, inP h.2.1, h.2.2⟩
  | go n m g p k => exact ⟨inG h.1, inP h.2.1, h.2.2⟩
  | move n m g o t k => exact ⟨inG h.1, inP h.2.1, inP h.2.2.1, ne h.2.1 h.2.2.1 h.2.2.2.1, h.2.2.2.2⟩
  | some_ n m g o t =>
    refine ⟨inG h.1, inP h.2.1, ?_⟩
    by_cases z : t = ""
    · exact .inl (if_pos z)
    · rw [if_neg z]
      rcases h.2.2 with q | ⟨q1, q2⟩
      · exact absurd q z
      · exact .inr ⟨inP q1, ne h.2.1 q1 q2⟩
  | swap n m o t => exact ⟨inP h.1, inP h.2.1, ne h.1 h.2.1 h.2.2⟩
  | count n m g p k hd => exact ⟨inG h.1, inP h.2.1, h.2.2⟩
  | look n m g p => exact ⟨inG h.1, inP h.2⟩
theorem From.ren_back {e : Ent} {P G HL : List Str} {fp fg fn gp gg gn : Str → Str} (h : e.From P G HL) (nm : ∀ y ∈ P, fp y ≠ "") (hp : ∀ y ∈ P, gp (fp y) = y) (hg : ∀ y ∈ G, gg (fg y) = y) (hn : gn (fn e.name) = e.name) : (e.ren fp fg fn).ren gp gg gn = e := by
  cases e with
  | come n m g p k r => exact congr (congr (congr (congr (congr (congr rfl hn) rfl) (hg _ h.1)) (hp _ h.2.1)) rfl) rfl
  | go n m g p k => exact congr (congr (congr (congr (congr rfl hn) rfl) (hg _ h.1)) (hp _ h.2.1)) rfl
  | move n m g o t k => exact congr (congr (congr (congr (congr (congr rfl hn) rfl) (hg _ h.1)) (hp _ h.2.1)) (hp _ h.2.2.1)) rfl
  | some_ n m g o t =>
    refine congr (congr (congr (congr (congr rfl hn) rfl) (hg _ h.1)) (hp _ h.2.1)) ?_
    by_cases z : t = ""
    · rw [if_pos z, if_pos rfl, z]
    · have q := (h.2.2.resolve_left z).1
      rw [if_neg z, if_neg (nm t q), hp _ q]
  | swap n m o t => exact congr (congr (congr (congr rfl hn) rfl) (hp _ h.1)) (hp _ h.2.1)
  | count n m g p k hd => exact congr (congr (congr (congr (congr (congr rfl hn) rfl) (hg _ h.1)) (hp _ h.2.1)) rfl) rfl
  | look n m g p => exact congr (congr (congr (congr rfl hn) rfl) (hg _ h.1)) (hp _ h.2)
/-! entries in their order, whatever holds them -/
def leE (a b : Ent) : Bool := PySem.W.dataLe false id (ordD a) (ordD b)
def sortN (es : List Ent) : List Ent := es.mergeSort leE
theorem sortE_n (pr : List (Addr × Ent)) : (sortE pr).map (·.2) = sortN (pr.map (·.2)) := List.map_mergeSort (f := fun x : Addr × Ent => x.2) (r := ordLe) (s := leE) (l := pr) fun a _ b _ => rfl
theorem sortN_p (es : List Ent) : (sortN es).Perm es := List.mergeSort_perm _ _
theorem sortN_perm {a b : List Ent} (p : a.Perm b) (inj : ∀ x ∈ a, ∀ y ∈ a, x.name = y.name → x = y) : sortN a = sortN b := by
  have h := sortE_perm (a := a.map fun e => ((0 : Addr), e)) (b := b.map fun e => ((0 : Addr), e)) (p.map _) (by
    intro x hx y hy e
    obtain ⟨u, hu, rfl⟩ := List.mem_map.mp hx
    obtain ⟨v, hv, rfl⟩ := List.mem_map.mp hy
    rw [inj u hu v hv e])
  have h2 := congrArg (List.map fun x : Addr × Ent => x.2) h
  rw [sortE_n, sortE_n, List.map_map, List.map_map] at h2
  have e : ((fun x : Addr × Ent => x.2) ∘ fun e => ((0 : Addr), e)) = id := rfl
  rw [e, List.map_id, List.map_id] at h2
  exact h2
theorem sortN_idem (es : List Ent) (inj : ∀ x ∈ es, ∀ y ∈ es, x.name = y.name → x = y) : sortN (sortN es) = sortN es := (sortN_perm (sortN_p es).symm inj).symm
/-! ### len(set(xs)), xs a list or a tuple of texts -/
def tLenSetT (K : PySem.W.Frag) (ta : TE) : TE := fun σ H Q => ta σ H fun x H1 => ∃ l, ∃ xs : List Str, x = .ref l ∧ (SqT K H1 l (xs.map V.str) ∨ SqL K H1 l (xs.map V.str)) ∧ xs.length ≤ 1000 ∧ Q (.int (onceR xs).length) H1
theorem pe_lenSetT {X : Cx} {a : Expr} {ta : TE} {p p2 q pos : Pos} (hc : X.calm = true) (hg : Gl X "len") (hm : X.mg "len" = none) (hg2 : Gl X "set") (hm2 : X.mg "set" = none) (ha : PE X a ta)
    (na : starEach [a] X.env = (false, eval a X.env) :: starEach [] X.env := by rfl) : PE X (.Call (.Name "len" p) [.Call (.Name "set" p2) [a] [] q] [] pos) (tLenSetT X.K ta) := by
  refine ⟨fun pins s σ H Q I h => Call_ (ld_blt I hg hm boot_len (PyProof.Rows.callWith_builtin1 (PyProof.Rows.args_cons ?_ rfl) rfl rfl))⟩
  refine Call_ (ld_blt I hg2 hm2 boot_set (PyProof.Rows.callWith_type1 (PyProof.Rows.args_cons (thn (ha.run pins s σ H _ I h) fun v s1 ⟨x, H1, I1, r1, q1⟩ => PyProof.Rows.args_nil ?_) na) na rfl))
  obtain ⟨l, xs, rfl, hq, le, q1⟩ := q1
  cases r1
  have most : (onceR xs).length ≤ xs.length := (onceR_nodup xs).length_le_of_subset fun _ h => (onceR_mem xs _).mp h
  have fin : ∀ (h' : Heap) (tk : Nat), SetTx X.prog X.w h' s1.heap.objs.size (onceR xs) → (∀ b o, b < s1.heap.objs.size → s1.heap.get? b = some o → h'.get? b = some o) →
      wpAny (model X.prog X.w) X.A (call (.builtin "len") [.ref s1.heap.objs.size]) (fun v s' => ∃ x H2, Inv X pins σ H2 s' ∧ RelV x v ∧ Q x H2) X.xe { s1 with heap := h', toks := tk } := fun h' tk hS hk => by
    have I2 : Inv X pins σ H1 { s1 with heap := h', toks := tk } := I1.kept fun b o e => hk b o (Heap.lt_size e) e
    obtain ⟨D, ho, tx, _, _⟩ := hS.ex
    exact call_len_set (es := D.1) (ep := D.2.1) (t := D.2.2) ho ⟨rfl, rfl, rfl⟩ rfl tx.fit (by rw [tx.sz]; omega) ⟨.int (onceR xs).length, H1, I2.tok _, ⟨_, by rw [tx.sz]⟩, q1⟩
  rcases hq with hq | hq
  · obtain ⟨its, r, pl, hz⟩ := I1.tuple hq
    exact setTx_of_tuple (I1.ok.hd hc) pl (by simpa using strsAre_of r) (by unfold scanBound; omega) fun h' tk hS hk => PyProof.Rows.args_nil (fin h' tk hS hk)
  · obtain ⟨its, r, pl, hz⟩ := I1.list hq
    exact setTx_of_list (I1.ok.hd hc) pl.isList (by simpa using strsAre_of r) (by unfold scanBound; omega) fun h' tk hS hk => PyProof.Rows.args_nil (fin h' tk hS hk)
theorem onceR_nd {xs : List Str} (h : xs.Nodup) : (onceR xs).length = xs.length :=
  Nat.le_antisymm ((onceR_nodup xs).length_le_of_subset fun _ h => (onceR_mem xs _).mp h) (h.length_le_of_subset fun x hx => (onceR_mem xs x).mpr hx)
/-! ### tuple(.. for x in xs), any list of what is told so far -/
theorem tup_over {J : It} {At : Hp → Prop} {T : Addr} {xs : List V} {g : TG} {tt : TT} {te : TE} {vs : List Nat} {σ : L2.St} {H : Hp} {Q : VK} (o : Over J xs At) (lx : xs.length ≤ 900) (W : Nat → List V → Hp → Prop) (tg : GxR.TabG H T) (h0 : ∀ H2, GxR.Tabbed T H H2 → W 0 [] H2) (hl : ∀ i ys H', i ≤ xs.length → W i ys H' → At H') (ln : ∀ i ys H', W i ys H' → ys.length ≤ i)
    (step : ∀ i x ys H' (Ga : V → Hp → Prop) (Gs : Hp → Prop), xs[i]? = some x → W i ys H' → (∀ y H4, W (i + 1) (ys ++ [y]) H4 → Ga y H4) → (∀ H4, W (i + 1) ys H4 → Gs H4) → g x (wipe σ vs) H' fun σ2 H2 => wipe σ2 vs = wipe σ vs ∧ tt σ2 H2 fun b H3 => if b = true then te σ2 H3 fun y H4 => Ga y H4 else Gs H3)
    (done : ∀ ys H', W xs.length ys H' → ∀ p, H' p = none → Q (.ref p) (upd H' p (.tup ys))) :
    GxR.TabG H T ∧ ∀ H2, GxR.Tabbed T H H2 → ∃ W : Nat → Nat → List V → Hp → Prop, (∃ m, W 0 m [] H2) ∧
      GTurnsL J g tt te vs σ W (outL W) (fun ys H' => ys.length ≤ sizeLine ∧ ∀ p, H' p = none → Q (.ref p) (upd H' p (.tup ys))) := by
  refine ⟨tg, fun H2 tb => ⟨fun i m ys H' => m = xs.length - i ∧ i ≤ xs.length ∧ W i ys H', ⟨_, rfl, Nat.zero_le _, h0 H2 tb⟩, ?_⟩⟩
  rintro i m ys H3 ⟨rfl, hi, w3⟩
  have l3 := ln i ys H3 w3
  by_cases lt : i < xs.length
  · refine .inr ⟨o.go i H3 xs[i] (hl i ys H3 hi w3) (List.getElem?_eq_getElem lt), fun x H' y => ?_⟩
    obtain ⟨rfl, hx⟩ := o.yld i H3 x H' (hl i ys H3 hi w3) y
    exact step i x ys _ _ _ hx w3 (fun y H4 w4 => ⟨small1000 (by omega), xs.length - (i + 1), by omega, rfl, lt, w4⟩) fun H4 w4 => ⟨xs.length - (i + 1), by omega, rfl, lt, w4⟩
  · have ei : i = xs.length := by omega
    exact .inl ⟨o.stop i H3 (hl i ys H3 hi w3) (by omega), Nat.le_of_lt (small1000 (by omega)), done ys H3 (ei ▸ w3)⟩
theorem tup_tup {K : PySem.W.Frag} {T l : Addr} {xs : List V} {g : TG} {tt : TT} {te : TE} {vs : List Nat} {σ : L2.St} {H : Hp} {Q : VK} {k : Nat} (h : SqT K H l xs) (hv : σ[k]? = some (some (.ref l))) (lx : xs.length ≤ 900) (W : Nat → List V → Hp → Prop) (tg : GxR.TabG H T) (h0 : ∀ H2, GxR.Tabbed T H H2 → W 0 [] H2) (hl : ∀ i ys H', i ≤ xs.length → W i ys H' → SqT K H' l xs) (ln : ∀ i ys H', W i ys H' → ys.length ≤ i)
    (step : ∀ i x ys H' (Ga : V → Hp → Prop) (Gs : Hp → Prop), xs[i]? = some x → W i ys H' → (∀ y H4, W (i + 1) (ys ++ [y]) H4 → Ga y H4) → (∀ H4, W (i + 1) ys H4 → Gs H4) → g x (wipe σ vs) H' fun σ2 H2 => wipe σ2 vs = wipe σ vs ∧ tt σ2 H2 fun b H3 => if b = true then te σ2 H3 fun y H4 => Ga y H4 else Gs H3)
    (done : ∀ ys H', W xs.length ys H' → ∀ p, H' p = none → Q (.ref p) (upd H' p (.tup ys))) : tTupG T (iTup K (tVar k)) g tt te vs σ H Q := ⟨_, hv, l, rfl, ⟨_, h⟩, tup_over over_t lx W tg h0 hl ln step done⟩
theorem any_tupT {K : PySem.W.Frag} {T l : Addr} {xs : List V} {g : TG} {tt : TT} {te : TE} {vs : List Nat} {σ : L2.St} {H : Hp} {Q : VK} {k : Nat} (h : SqT K H l xs) (hv : σ[k]? = some (some (.ref l))) (W : Nat → Hp → Prop) (tg : GxR.TabG H T) (h0 : ∀ H2, GxR.Tabbed T H H2 → W 0 H2) (hl : ∀ i H', i ≤ xs.length → W i H' → SqT K H' l xs)
    (step : ∀ i x H' (Go : Hp → Prop), xs[i]? = some x → W i H' → (∀ H4, W (i + 1) H4 → Go H4) → g x (wipe σ vs) H' fun σ2 H2 => wipe σ2 vs = wipe σ vs ∧ tt σ2 H2 fun b H3 => if b = true then te σ2 H3 fun y H4 => ∃ k, y = .bl k ∧ (if k = true then Q (.bl true) H4 else Go H4) else Go H3)
    (done : ∀ H', W xs.length H' → Q (.bl false) H') : tAnyG T (iTup K (tVar k)) g tt te vs σ H Q := ⟨_, hv, l, rfl, ⟨_, h⟩, any_over over_t W tg h0 hl step done⟩
/-! ### with_name, with_good, refuse_what_is_no_name, all_otherwise, entry_otherwise -/
theorem TB1.unlock {Ts : List Addr} {H H' : Hp} {d : Addr} {u : HO} {o : Obj} (e : H d = some u) (b : TB1 Ts (upd H d (.frz o u)) H') (e' : H' d = some (.frz o u)) : TB1 Ts H (upd H' d u) := by
  refine ⟨fun T hT => ?_, fun a v ev n => ?_, fun a na => ?_, fun a v ev n => ?_⟩
  · obtain ⟨ps, e1, ok⟩ := b.1 T hT
    exact ⟨ps, (upd_ne (ne_of e1 e' (by intro z; cases z))).trans e1, ok⟩
  · by_cases z : a = d
    · subst z
      rw [upd_same, ← ev, e]
    · rw [upd_ne z]
      exact b.2 a v ((upd_ne z).trans ev) n
  · by_cases z : a = d
    · subst z
      rw [upd_same] at na
      exact nomatch na
    · rw [upd_ne z] at na
      have := b.free a na
      rwa [upd_ne z] at this
  · by_cases z : a = d
    · subst z
      rw [upd_same, ← ev, e]
    · rw [upd_ne z]
      exact b.oth a v ((upd_ne z).trans ev) n
theorem tabs_lock {H : Hp} {Ts : List Addr} {d : Addr} {u : HO} {o : HO} (t : TabsG Ts H) (e : H d = some u) (n : ∀ ps, u ≠ .tbl ps) : TabsG Ts (upd H d o) := fun T hT => by
  obtain ⟨ps, e1, ok⟩ := t T hT
  exact ⟨ps, (upd_ne fun z => by rw [z, e] at e1; exact n _ (Option.some.inj e1)).trans e1, ok⟩
/-- tuple(.. for x in places_of(e)) -/
theorem tup_places {K : PySem.W.Frag} {T a : Addr} {e : Ent} {g : TG} {tt : TT} {te : TE} {vs : List Nat} {σ : L2.St} {H : Hp} {Q : VK} {k : Nat} (hv : σ[k]? = some (some (.ref a))) (ha : H a = some (.tup e.vals))
    (nx : ∀ (tp : Addr) (H2 : Hp), Same H H2 → H2 tp = some (.tup (e.places.map V.str)) → ∃ W : Nat → List V → Hp → Prop, GxR.TabG H2 T ∧ (∀ H3, GxR.Tabbed T H2 H3 → W 0 [] H3) ∧ (∀ i ys H', i ≤ (e.places.map V.str).length → W i ys H' → SqT K H' tp (e.places.map V.str)) ∧ (∀ i ys H', W i ys H' → ys.length ≤ i) ∧
      (∀ i x ys H' (Ga : V → Hp → Prop) (Gs : Hp → Prop), (e.places.map V.str)[i]? = some x → W i ys H' → (∀ y H4, W (i + 1) (ys ++ [y]) H4 → Ga y H4) → (∀ H4, W (i + 1) ys H4 → Gs H4) → g x (wipe σ vs) H' fun σ2 H2 => wipe σ2 vs = wipe σ vs ∧ tt σ2 H2 fun b H3 => if b = true then te σ2 H3 fun y H4 => Ga y H4 else Gs H3) ∧
      ∀ ys H', W (e.places.map V.str).length ys H' → ∀ p, H' p = none → Q (.ref p) (upd H' p (.tup ys))) :
    tTupG T (iTup K (tCall spPlaces [] E0 (tCons (tVar k) tNil))) g tt te vs σ H Q := by
  refine ⟨_, hv, a, e, rfl, ha, fun tp H2 s2 g2 => ⟨tp, rfl, ⟨_, SqT.of g2⟩, ?_⟩⟩
  obtain ⟨W, h1, h2, h3, h4, h5, h6⟩ := nx tp H2 s2 g2
  have lp := places_leW e
  exact tup_over over_t (by rw [List.length_map]; omega) W h1 h2 h3 h4 h5 h6
/-- all(.. for k, v in d.items()), d being locked -/
theorem all_items {T d : Addr} {kk : Nat} {od : Obj} {kvs : List (Key × V)} {g : TG} {tt : TT} {te : TE} {vs : List Nat} {σ : L2.St} {H : Hp} {Q : VK} (hd : H d = some (.frz od (.dK kvs))) (hv : σ[kk]? = some (some (.ref d))) (W : Nat → Hp → Prop) (tg : GxR.TabG H T) (h0 : ∀ H2, GxR.Tabbed T H H2 → W 0 H2) (hl : ∀ i H', i ≤ kvs.length → W i H' → H' d = some (.frz od (.dK kvs)))
    (step : ∀ i k x t H' (Go : Hp → Prop), kvs[i]? = some (k, x) → W i H' → H' t = none → (∀ H4, W (i + 1) H4 → Go H4) → g (.ref t) (wipe σ vs) (upd H' t (.tup [kV k, x])) fun σ2 H2 => wipe σ2 vs = wipe σ vs ∧ tt σ2 H2 fun b H3 => if b = true then te σ2 H3 fun y H4 => ∃ k, y = .bl k ∧ (if k = true then Go H4 else Q (.bl false) H4) else Go H3)
    (done : ∀ H', W kvs.length H' → Q (.bl true) H') : tAllG T (iItems (tVar kk)) g tt te vs σ H Q := by
  refine ⟨_, hv, d, od, kvs, rfl, hd, tg, fun H2 tb => ⟨fun i m H' => m = kvs.length - i ∧ i ≤ kvs.length ∧ W i H', ⟨_, rfl, Nat.zero_le _, h0 H2 tb⟩, ?_⟩⟩
  rintro i m H3 ⟨rfl, hi, w3⟩
  by_cases lt : i < kvs.length
  · refine .inr ⟨⟨hl i H3 hi w3, lt⟩, fun x H' y => ?_⟩
    obtain ⟨t, k, v, e1, rfl, nt, rfl⟩ := y
    exact step i k v t _ (fun H' => ∃ m', m' < kvs.length - i ∧ m' = kvs.length - (i + 1) ∧ i + 1 ≤ kvs.length ∧ W (i + 1) H') e1 w3 nt fun H4 w4 => ⟨_, by omega, rfl, lt, w4⟩
  · have ei : i = kvs.length := by omega
    exact .inl ⟨⟨hl i H3 hi w3, by omega⟩, done H3 (ei ▸ w3)⟩
def spWithNm : Sp := fun vs H Q _ => ∃ (a : Addr) (e : Ent) (n : Str), vs = [.ref a, .str n] ∧ H a = some (.tup e.vals) ∧ ∀ (t : Addr) (H' : Hp), Same H H' → H' t = some (.tup (e.setN n).vals) → Q (.ref t) H'
def spWithGd : Sp := fun vs H Q _ => ∃ (a : Addr) (e : Ent) (g : Str), vs = [.ref a, .str g] ∧ H a = some (.tup e.vals) ∧ e.goodV ≠ .non ∧ ∀ (t : Addr) (H' : Hp), Same H H' → H' t = some (.tup (e.setG g).vals) → Q (.ref t) H'
def spRefuse (Ts : List Addr) : Sp := fun vs H Q _ => ∃ (d : Addr) (dk : List (Str × Str)), vs = [.ref d] ∧ H d = some (.dK (kvD dk)) ∧ NmD dk ∧ TabsG Ts H ∧ ∀ H', TB1 Ts H H' → Q .non H'
def spAllO : Sp := fun vs H Q _ => ∃ (l d : Addr) (xs : List Str) (dk : List (Str × Str)), vs = [.ref l, .ref d] ∧ LT H l (xs.map V.str) ∧ H d = some (.dK (kvD dk)) ∧ (xs.map (look dk)).Nodup ∧ xs.length ≤ 900 ∧
  ∀ (t : Addr) (H' : Hp), Same H H' → H' t = some (.lst ((xs.map (look dk)).map V.str)) → Q (.ref t) H'
def spEntO (Ts : List Addr) : Sp := fun vs H Q _ => ∃ (a dp dg dn : Addr) (e : Ent) (Dp Dg Dn : List (Str × Str)), vs = [.ref a, .ref dp, .ref dg, .ref dn] ∧ H a = some (.tup e.vals) ∧ H dp = some (.dK (kvD Dp)) ∧ H dg = some (.dK (kvD Dg)) ∧ H dn = some (.dK (kvD Dn)) ∧ (∀ y ∈ e.places, look Dp y ≠ "") ∧ TabsG Ts H ∧
  ∀ (t : Addr) (H' : Hp), TB1 Ts H H' → H' t = some (.tup (e.ren (look Dp) (look Dg) (look Dn)).vals) → Q (.ref t) H'
section
variable {P : Program} {w : World} {K : PySem.W.Frag} {mg : Str → Option Value} {base : Heap}
abbrev sWithNmN : List Str := ["entry", "name"]
theorem sc_sWithNm : FnScope sWithNmN ["entry", "name"] (defScope sWithNm) := ⟨rfl, rfl, rfl, by decide +kernel, rfl, by decide +kernel, by decide +kernel⟩
theorem ok_withNm {f : Addr} {fd : FuncData} (F : Fun K "with_name" "with_name" sWithNm f fd) : FnOk P w K mg base CX0 1 f fd ["entry", "name"] spWithNm := by
  refine F.ok sc_sWithNm (fun vs H Q E h => ?_) (fun cdv A outer s H vs Q E hr h => ?_)
  · obtain ⟨a, e, n, rfl, _⟩ := h
    rfl
  · obtain ⟨a, e, n, rfl, ha, q⟩ := h
    have nd := sc_sWithNm.nd
    refine ⟨_, pss_one (ps_ret (pe_op op_catS (pe_op op_catS (pe_slice sl_S (pv 0) po_none (po_some pe_int)) (pe_tup (pa_cons (pv 1) pa_nil))) (pe_slice sl_S (pv 0) (po_some pe_int) po_none))), ?_⟩
    obtain ⟨v5, v7⟩ := vals_len_e e
    refine ⟨_, rfl, 1, rfl, a, _, rfl, ha, fun p H1 s1 g1 => ?_⟩
    replace g1 : H1 p = some (.tup (e.vals.take 1)) := g1.trans (congrArg (fun z => some (HO.tup z)) (cut_head (k := 1)))
    refine ⟨_, rfl, (by show 1 ≤ sizeLine; decide), fun t1 n1 => ?_⟩
    have s2 := @same_new _ _ (.tup [V.str n]) n1
    have e2 := @upd_same H1 t1 (.tup [V.str n])
    generalize upd H1 t1 (.tup [V.str n]) = H2 at s2 e2 ⊢
    refine ⟨p, t1, _, _, rfl, rfl, s2 _ _ g1, e2, fun z => ?_, small_sz (by rw [List.length_take]; show min 1 _ + 1 ≤ _; omega), fun t3 H3 s3 g3 => ?_⟩
    · have := congrArg List.length z
      rw [List.length_take, List.length_nil] at this
      omega
    refine ⟨_, rfl, 2, rfl, a, _, rfl, s3 _ _ (s2 _ _ (s1 _ _ ha)), fun t4 H4 s4 g4 => ?_⟩
    replace g4 : H4 t4 = some (.tup (e.vals.drop 2)) := g4.trans (congrArg (fun z => some (HO.tup z)) (cut_tail (k := 2)))
    refine ⟨t3, t4, _, _, rfl, rfl, s4 _ _ g3, g4, fun z => ?_, small_sz (by rw [List.length_append, List.length_take, List.length_drop]; show min 1 _ + 1 + _ ≤ _; omega), fun t5 H5 s5 g5 => q t5 H5 (s1.trans (s2.trans (s3.trans (s4.trans s5)))) ?_⟩
    · exact (List.cons_ne_nil _ _) (List.append_eq_nil_iff.mp z).2
    · rw [g5, setN_vals]
abbrev sWithGdN : List Str := ["entry", "good"]
theorem sc_sWithGd : FnScope sWithGdN ["entry", "good"] (defScope sWithGd) := ⟨rfl, rfl, rfl, by decide +kernel, rfl, by decide +kernel, by decide +kernel⟩
theorem ok_withGd {f : Addr} {fd : FuncData} (F : Fun K "with_good" "with_good" sWithGd f fd) : FnOk P w K mg base CX0 1 f fd ["entry", "good"] spWithGd := by
  refine F.ok sc_sWithGd (fun vs H Q E h => ?_) (fun cdv A outer s H vs Q E hr h => ?_)
  · obtain ⟨a, e, g, rfl, _⟩ := h
    rfl
  · obtain ⟨a, e, g, rfl, ha, gn, q⟩ := h
    have nd := sc_sWithGd.nd
    refine ⟨_, pss_one (ps_ret (pe_op op_catS (pe_op op_catS (pe_slice sl_S (pv 0) po_none (po_some pe_int)) (pe_tup (pa_cons (pv 1) pa_nil))) (pe_slice sl_S (pv 0) (po_some pe_int) po_none))), ?_⟩
    obtain ⟨v5, v7⟩ := vals_len_e e
    refine ⟨_, rfl, 3, rfl, a, _, rfl, ha, fun p H1 s1 g1 => ?_⟩
    replace g1 : H1 p = some (.tup (e.vals.take 3)) := g1.trans (congrArg (fun z => some (HO.tup z)) (cut_head (k := 3)))
    refine ⟨_, rfl, (by show 1 ≤ sizeLine; decide), fun t1 n1 => ?_⟩
    have s2 := @same_new _ _ (.tup [V.str g]) n1
    have e2 := @upd_same H1 t1 (.tup [V.str g])
    generalize upd H1 t1 (.tup [V.str g]) = H2 at s2 e2 ⊢
    refine ⟨p, t1, _, _, rfl, rfl, s2 _ _ g1, e2, fun z => ?_, small_sz (by rw [List.length_take]; show min 3 _ + 1 ≤ _; omega), fun t3 H3 s3 g3 => ?_⟩
    · have := congrArg List.length z
      rw [List.length_take, List.length_nil] at this
      omega
    refine ⟨_, rfl, 4, rfl, a, _, rfl, s3 _ _ (s2 _ _ (s1 _ _ ha)), fun t4 H4 s4 g4 => ?_⟩
    replace g4 : H4 t4 = some (.tup (e.vals.drop 4)) := g4.trans (congrArg (fun z => some (HO.tup z)) (cut_tail (k := 4)))
    refine ⟨t3, t4, _, _, rfl, rfl, s4 _ _ g3, g4, fun z => ?_, small_sz (by rw [List.length_append, List.length_take, List.length_drop]; show min 3 _ + 1 + _ ≤ _; omega), fun t5 H5 s5 g5 => q t5 H5 (s1.trans (s2.trans (s3.trans (s4.trans s5)))) ?_⟩
    · exact (List.cons_ne_nil _ _) (List.append_eq_nil_iff.mp z).2
    · rw [g5, setG_vals g gn]
abbrev sAllON : List Str := ["old", "otherwise", "new", "name"]
theorem sc_sAllO : FnScope sAllON ["old", "otherwise"] (defScope sAllO) := ⟨rfl, rfl, rfl, by decide +kernel, rfl, by decide +kernel, by decide +kernel⟩
theorem ok_allO {f : Addr} {fd : FuncData} (F : Fun K "all_otherwise" "all_otherwise" sAllO f fd) (ml : mg "len" = none) (mse : mg "set" = none) : FnOk P w K mg base CX0 1 f fd ["old", "otherwise"] spAllO := by
  refine F.ok sc_sAllO (fun vs H Q E h => ?_) (fun cdv A outer s H vs Q E hr h => ?_)
  · obtain ⟨l, d, xs, dk, rfl, _⟩ := h
    rfl
  · obtain ⟨l, d, xs, dk, rfl, hl, hd, ndx, lx, q⟩ := h
    have hu := hu_of hr
    have nd := sc_sAllO.nd
    refine ⟨_, pss_cons (ps_setLc (i := 2) (own := [("name", 3)]) (g := gName 3) (tt := tYes) (te := tDGet2 (tVar 1) (tVar 3) (tVar 3)) rfl nd rfl rfl (sw_true rfl rfl rfl (by decide +kernel)) (pi_seq (pv 0)) (blkOk_by (N := sAllON) (sc := defScope sAllO) (by decide +kernel)) (fun _ _ _ _ _ => (pg_name (i := 3) nd rfl (Or.inl rfl))) (fun _ _ _ _ _ => pts_nil) (fun _ _ _ _ _ => (pe_dget2 hu (pv 1) (pv 3) (pv 3) ⟨rfl, rfl, rfl, rfl⟩)))
      (pss_cons (ps_if (pt_cmpR op_ne (pe_lenSetT rfl (by rfl) ml (by rfl) mse (pv 2)) (pe_callB call_len_seq (by rfl) ml PySem.boot_len (pa_cons (pv 2) pa_nil)) (nomark _)) (pss_one ps_never) pss_nil)
      (pss_one (ps_ret (pv 2)))), ?_⟩
    have stp : ∀ (D : Addr) (i : Nat) (x : V) (H' : Hp), H D = none → (xs.map V.str)[i]? = some x → (Same H H' ∧ H' D = some (.lst (((xs.take i).map (look dk)).map V.str))) →
        gName 3 x (wipe (L2.start sAllON [V.ref l, V.ref d]) [3]) H' fun σ2 H2 => wipe σ2 [3] = wipe (L2.start sAllON [V.ref l, V.ref d]) [3] ∧ tYes σ2 H2 fun b H3 => if b = true then tDGet2 (tVar 1) (tVar 3) (tVar 3) σ2 H3 fun y H4 => ∃ acc, H4 D = some (.lst acc) ∧ acc.length < sizeLine ∧ (Same H (upd H4 D (.lst (acc ++ [y]))) ∧ (upd H4 D (.lst (acc ++ [y]))) D = some (.lst (((xs.take (i + 1)).map (look dk)).map V.str))) else (Same H H3 ∧ H3 D = some (.lst (((xs.take (i + 1)).map (look dk)).map V.str))) := by
      rintro D i x H' nD hx ⟨sm, hD⟩
      rw [List.getElem?_map] at hx
      obtain ⟨y, hy, rfl⟩ := Option.map_eq_some_iff.mp hx
      refine ⟨rfl, yesT ⟨_, rfl, d, rfl, .inl ⟨_, .inl (sm _ _ hd)⟩, _, rfl, _, rfl, _, DGet.k (k := Sum.inr y) (sm _ _ hd), ?_⟩⟩
      rw [look_get]
      refine ⟨_, hD, ?_, fun b o e => (upd_ne (ne_of_none e nD)).trans (sm b o e), ?_⟩
      · rw [List.length_map, List.length_map, List.length_take]
        exact small1000 (by omega)
      · rw [upd_same, take_sn hy, List.map_append, List.map_append]
        rfl
    have fin : ∀ (D : Addr) (H2 : Hp), H D = none → (Same H H2 ∧ H2 D = some (.lst (((xs.take (xs.map V.str).length).map (look dk)).map V.str))) → ∃ σ' : L2.St, σ' = [some (.ref l), some (.ref d), some (.ref D), none] ∧ tSeq (tIfS (tTest (tOp rNe (tLenSetT K (tVar 2)) (tCB (fun xs H_1 Q => ∃ p ys, xs = [V.ref p] ∧ (SqL K H_1 p ys ∨ SqT K H_1 p ys) ∧ Q (V.int ↑ys.length) H_1) (tCons (tVar 2) tNil)))) tNever tNext) (tRet (tVar 2)) { nx := fun x H' => Q V.non H', rt := Q } σ' H2 := by
      rintro D H2 nD ⟨sm, hD⟩
      refine ⟨_, rfl, ?_⟩
      rw [List.length_map, List.take_length] at hD
      have lm : (xs.map (look dk)).length = xs.length := List.length_map _
      refine ⟨_, rfl, D, xs.map (look dk), rfl, .inr (SqL.of hD), by omega, _, rfl, D, _, rfl, .inl (SqL.of hD), rfl, _, rfl, ?_⟩
      rw [onceR_nd ndx, List.length_map, List.length_map, List.length_map, decide_eq_true rfl]
      exact iteF ⟨_, rfl, q D H2 sm hD⟩
    rcases hl with hl | hl
    · refine .inl ⟨_, rfl, l, rfl, ⟨_, SqL.of hl⟩, fun D nD => ?_⟩
      refine lc_list (K := K) (a := l) (xs := xs.map V.str) (fun i H' => Same H H' ∧ H' D = some (.lst (((xs.take i).map (look dk)).map V.str))) ⟨same_new nD, upd_same⟩ (fun i H' _ h => SqL.of (h.1 _ _ hl)) (fun i x H' hx h => stp D i x H' nD hx h) fun H2 h => ?_
      obtain ⟨σ', rfl, h⟩ := fin D H2 nD h
      exact h
    · refine .inr ⟨_, rfl, l, rfl, ⟨_, SqT.of hl⟩, fun D nD => ?_⟩
      refine lc_tup (K := K) (a := l) (xs := xs.map V.str) (fun i H' => Same H H' ∧ H' D = some (.lst (((xs.take i).map (look dk)).map V.str))) ⟨same_new nD, upd_same⟩ (fun i H' _ h => SqT.of (h.1 _ _ hl)) (fun i x H' hx h => stp D i x H' nD hx h) fun H2 h => ?_
      obtain ⟨σ', rfl, h⟩ := fin D H2 nD h
      exact h
abbrev sRefuseN : List Str := ["otherwise", "old", "new"]
theorem sc_sRefuse : FnScope sRefuseN ["otherwise"] (defScope sRefuse) := ⟨rfl, rfl, rfl, by decide +kernel, rfl, by decide +kernel, by decide +kernel⟩
theorem ok_refuse {f cA T T1 fN : Addr} {Ts : List Addr} {dN : FuncData} {oc kV doc pm ct : Value} {od an : Option Addr} {osl : Array (Option Value)}
    (lk : K.lookup f = some ⟨oc, od, .func (PySem.W.fnOf "refuse_what_is_no_name" "refuse_what_is_no_name" (defArgs sRefuse) (defBody sRefuse) (defScope sRefuse) .none kV doc pm an (.ref cA) ct), osl⟩) (cd : PySem.W.codeIn K (.ref cA) "refuse_what_is_no_name" = true)
    (TB : GxR.TabB base mg cA T) (hT : T ∈ Ts) (i1 : T1 ∈ Ts) (NM : DefT P w K mg base "is_name" 1 fN dN ["thing"] (spName K T1)) (mal : mg "all" = none) :
    FnOk P w K mg base CX0 3 f (PySem.W.fnOf "refuse_what_is_no_name" "refuse_what_is_no_name" (defArgs sRefuse) (defBody sRefuse) (defScope sRefuse) .none kV doc pm an (.ref cA) ct) ["otherwise"] (spRefuse Ts) := by
  refine fn_of lk cd sc_sRefuse (fun vs H Q E h => ?_) (fun A outer s H vs Q E hr h => ?_)
  · obtain ⟨d, dk, rfl, _⟩ := h
    rfl
  · obtain ⟨d, dk, rfl, hd, nm, tg, q⟩ := h
    have nd := sc_sRefuse.nd
    refine ⟨_, pss_one (ps_if (pt_not (pt_val (pe_lock (pe_allG (T := T) (c := cA) (k := 1) (own := [("old", 1), ("new", 2)]) (g := gTup K 2 (gCons (gName 1) (gCons (gName 2) gNil))) (tt := tYes) hr (by rfl) mal rfl nd TB rfl ⟨blkOk_by (N := sRefuseN) (sc := defScope sRefuse) (by decide +kernel), rfl, by decide +kernel, rfl⟩ (pi_items (pv 0)) (fun _ _ _ _ _ _ => (pg_tup (by rfl) (pgs_cons (pg_name (i := 1) nd rfl (Or.inl rfl)) (pgs_cons (pg_name (i := 2) nd rfl (Or.inl rfl)) pgs_nil)))) (fun _ _ _ _ _ _ hr' => pts_nil) (fun _ _ _ _ _ _ hr' => (pe_and (pe_call NM.ok (hr'.mono (by decide)) (by rfl) NM.g NM.kp NM.b .nil pass0 (pa_cons (pv 1) pa_nil)) (pe_one (pe_call NM.ok (hr'.mono (by decide)) (by rfl) NM.g NM.kp NM.b .nil pass0 (pa_cons (pv 2) pa_nil))))))))) (pss_one ps_never) pss_nil), ?_⟩
    dsimp only [tNext, tSeq, tIfS, tNot, tB]
    refine ⟨d, _, hd, trivial, fun od => ?_⟩
    have b0 : TabsG Ts (upd H d (.frz od (.dK (kvD dk)))) := tabs_lock tg hd fun ps z => nomatch z
    refine all_items (d := d) upd_same rfl (fun i H' => TB1 Ts (upd H d (.frz od (.dK (kvD dk)))) H') (b0 T hT) (fun H2 tb => .tab tb b0 hT) (fun i H' _ b => b.2 _ _ upd_same fun ps z => nomatch z) ?_ ?_
    · intro i k x t H' Go hk b nt go
      unfold kvD at hk
      rw [List.getElem?_map] at hk
      obtain ⟨y, hy, e⟩ := Option.map_eq_some_iff.mp hk
      obtain ⟨rfl, rfl⟩ := Prod.mk.inj e
      have n2 := nm.nm y (List.mem_of_getElem? hy)
      have s1 := @same_new _ _ (.tup [V.str y.1, .str y.2]) nt
      have b1 : TB1 Ts (upd H d (.frz od (.dK (kvD dk)))) (upd H' t (.tup [V.str y.1, .str y.2])) := b.tr (.same b.1 s1)
      have e1 := @upd_same H' t (.tup [V.str y.1, .str y.2])
      refine ⟨t, _, rfl, SqT.of e1, rfl, _, _, rfl, _, _, rfl, rfl, ?_⟩
      refine ⟨rfl, yesT ⟨_, rfl, _, rfl, b1.1 T1 i1, .inl ⟨y.1, rfl, small_sz (by have := name_len n2.1; omega), fun H3 tb => ?_⟩⟩⟩
      rw [n2.1]
      have b3 := b1.tr (.tab tb b1.1 i1)
      refine ⟨true, rfl, iteT ⟨_, rfl, _, rfl, b3.1 T1 i1, .inl ⟨y.2, rfl, small_sz (by have := name_len n2.2; omega), fun H4 tb => ?_⟩⟩⟩
      rw [n2.2]
      exact ⟨true, rfl, iteT (go _ (b3.tr (.tab tb b3.1 i1)))⟩
    · intro H2 b2
      have e2 : H2 d = some (.frz od (.dK (kvD dk))) := b2.2 _ _ upd_same fun ps z => nomatch z
      exact ⟨e2, true, rfl, iteF (q _ (b2.unlock hd e2))⟩
abbrev sEntON : List Str := ["entry", "places", "goods", "names", "told", "place", "good"]
theorem sc_sEntO : FnScope sEntON ["entry", "places", "goods", "names"] (defScope sEntO) := ⟨rfl, rfl, rfl, by decide +kernel, rfl, by decide +kernel, by decide +kernel⟩
theorem ok_entO {f cA T fN fG fP fO fD : Addr} {Ts : List Addr} {dN dG dP dO dD : FuncData} {oc kV doc pm ct : Value} {od an : Option Addr} {osl : Array (Option Value)}
    (lk : K.lookup f = some ⟨oc, od, .func (PySem.W.fnOf "entry_otherwise" "entry_otherwise" (defArgs sEntO) (defBody sEntO) (defScope sEntO) .none kV doc pm an (.ref cA) ct), osl⟩) (cd : PySem.W.codeIn K (.ref cA) "entry_otherwise" = true)
    (TB : GxR.TabB base mg cA T) (hT : T ∈ Ts) (WN : DefT P w K mg base "with_name" 1 fN dN ["entry", "name"] spWithNm) (WG : DefT P w K mg base "with_good" 1 fG dG ["entry", "good"] spWithGd) (WP : DefT P w K mg base "with_places" 1 fP dP ["entry", "places"] spWithPl)
    (PO : DefT P w K mg base "places_of" 1 fO dO ["entry"] spPlaces) (GO : DefT P w K mg base "good_of" 1 fD dD ["entry"] spGood) (mt : mg "tuple" = none) :
    FnOk P w K mg base CX0 2 f (PySem.W.fnOf "entry_otherwise" "entry_otherwise" (defArgs sEntO) (defBody sEntO) (defScope sEntO) .none kV doc pm an (.ref cA) ct) ["entry", "places", "goods", "names"] (spEntO Ts) := by
  refine fn_of lk cd sc_sEntO (fun vs H Q E h => ?_) (fun A outer s H vs Q E hr h => ?_)
  · obtain ⟨a, dp, dg, dn, e, Dp, Dg, Dn, rfl, _⟩ := h
    rfl
  · obtain ⟨a, dp, dg, dn, e, Dp, Dg, Dn, rfl, ha, hdp, hdg, hdn, full, tg, q⟩ := h
    have hu := hu_of hr
    have nd := sc_sEntO.nd
    refine ⟨_, pss_cons (ps_set (i := 4) nd rfl (Or.inl rfl) (pe_call WN.ok hr (by rfl) WN.g WN.kp WN.b .nil pass0 (pa_cons (pv 0) (pa_cons (pe_dget2 hu (pv 3) (pe_ix ix_tup (pv 0) pe_int (fun _ _ => rfl)) (pe_ix ix_tup (pv 0) pe_int (fun _ _ => rfl)) ⟨rfl, rfl, rfl, rfl⟩) pa_nil))))
      (pss_cons (ps_set (i := 4) nd rfl (Or.inl rfl) (pe_call WP.ok hr (by rfl) WP.g WP.kp WP.b .nil pass0 (pa_cons (pv 4) (pa_cons (pe_tupG (T := T) (c := cA) (k := 0) (own := [("place", 5)]) (g := gName 5) (tt := tYes) (te := tDGet2 (tVar 1) (tVar 5) (tVar 5)) (hr.mono (by decide)) (by rfl) mt rfl nd TB rfl ⟨blkOk_by (N := sEntON) (sc := defScope sEntO) (by decide +kernel), rfl, by decide +kernel, rfl⟩ (pi_tup (pe_call PO.ok hr (by rfl) PO.g PO.kp PO.b .nil pass0 (pa_cons (pv 0) pa_nil))) (fun _ _ _ _ _ _ => (pg_name (i := 5) nd rfl (Or.inl rfl))) (fun _ _ _ _ _ _ hr' => pts_nil) (fun _ _ _ _ _ _ hr' => (pe_dget2 (hu_of hr') (pv 1) (pv 5) (pv 5) ⟨rfl, rfl, rfl, rfl⟩))) pa_nil))))
      (pss_cons (ps_set (i := 6) nd rfl (Or.inl rfl) (pe_call GO.ok hr (by rfl) GO.g GO.kp GO.b .nil pass0 (pa_cons (pv 0) pa_nil)))
      (pss_one (ps_ret (pe_ifExp (pt_cmpR op_isN (pv 6) pe_non (by rfl)) (pv 4) (pe_call WG.ok hr (by rfl) WG.g WG.kp WG.b .nil pass0 (pa_cons (pv 4) (pa_cons (pe_dget2 hu (pv 2) (pv 6) (pv 6) ⟨rfl, rfl, rfl, rfl⟩) pa_nil)))))))), ?_⟩
    refine ⟨_, rfl, _, rfl, dn, rfl, .inl ⟨_, .inl hdn⟩, _, rfl, a, _, 1, _, rfl, rfl, SqT.of ha, at1 e, _, rfl, a, _, 1, _, rfl, rfl, SqT.of ha, at1 e, _, DGet.k (k := Sum.inr e.name) hdn, ?_⟩
    rw [look_get]
    refine ⟨a, e, look Dn e.name, rfl, ha, fun t1 H1 s1 g1 => ?_⟩
    refine ⟨_, rfl, ?_⟩
    refine tup_places (e := e) rfl (s1 _ _ ha) fun tp H2 s2 g2 => ?_
    have s12 := s1.trans s2
    have tg2 := tabs_sm s12 tg
    have hdp2 := s12 _ _ hdp
    refine ⟨fun i ys H' => TB1 Ts H2 H' ∧ ys = ((e.places.take i).map (look Dp)).map V.str, tg2 T hT, fun H3 tb => ⟨.tab tb tg2 hT, rfl⟩, fun i ys H' _ h => SqT.of (h.1.tk _ _ g2), fun i ys H' h => (by
      rw [h.2, List.length_map, List.length_map, List.length_take]
      omega), ?_, ?_⟩
    · rintro i v ys H' Ga Gs hvi ⟨b, rfl⟩ ga gs
      rw [List.getElem?_map] at hvi
      obtain ⟨y, hy, rfl⟩ := Option.map_eq_some_iff.mp hvi
      refine ⟨rfl, yesT ⟨_, rfl, dp, rfl, .inl ⟨_, .inl (b.dct hdp2)⟩, _, rfl, _, rfl, _, DGet.k (k := Sum.inr y) (b.dct hdp2), ?_⟩⟩
      rw [look_get]
      refine ga _ _ ⟨b, ?_⟩
      rw [take_sn hy, List.map_append, List.map_append]
      rfl
    · rintro ys H3 ⟨b3, rfl⟩ t4 n4
      rw [List.length_map, List.take_length]
      have s4 := @same_new _ _ (.tup ((e.places.map (look Dp)).map V.str)) n4
      have e4 := @upd_same H3 t4 (.tup ((e.places.map (look Dp)).map V.str))
      generalize upd H3 t4 (.tup ((e.places.map (look Dp)).map V.str)) = H4 at s4 e4 ⊢
      have b24 : TB1 Ts H2 H4 := b3.tr (.same b3.1 s4)
      refine ⟨t1, t4, e.setN (look Dn e.name), look Dp, rfl, b24.tk _ _ (s2 _ _ g1), by rw [setN_places]; exact e4, fun y hy => full y (by rw [setN_places] at hy; exact hy), fun t5 H5 s5 g5 => ?_⟩
      have b05 : TB1 Ts H H5 := (TB1.same tg s12).tr (b24.tr (.same b24.1 s5))
      refine ⟨_, rfl, a, e, rfl, b05.tk _ _ ha, ?_⟩
      rcases goodV_cases e with hg | ⟨g, hg⟩
      · rw [ren_no hg] at g5
        rw [hg]
        refine ⟨_, rfl, rfl, _, rfl, ?_⟩
        exact iteT ⟨_, rfl, q t5 H5 b05 g5⟩
      · rw [hg]
        refine ⟨_, rfl, rfl, _, rfl, ?_⟩
        refine iteF ⟨_, rfl, _, rfl, dg, rfl, .inl ⟨_, .inl ((b05.dct hdg))⟩, _, rfl, _, rfl, _, DGet.k (k := Sum.inr g) (b05.dct hdg), ?_⟩
        rw [look_get]
        refine ⟨t5, _, look Dg g, rfl, g5, fun z => ?_, fun t6 H6 s6 g6 => q t6 H6 (b05.tr (.same b05.1 s6)) ?_⟩
        · rw [mp_good, setN_good, hg] at z
          exact nomatch z
        · rw [g6, ren_some hg]
end
/-! ### called -/
structure Ren (P G : List Str) (es : List Ent) (Dp Dg Dn : List (Str × Str)) : Prop where
  nP : NmD Dp
  nG : NmD Dg
  nN : NmD Dn
  uP : (P.map (look Dp)).Nodup
  uG : (G.map (look Dg)).Nodup
  uN : ((es.map Ent.name).map (look Dn)).Nodup
  lP : P.length ≤ 20
  lG : G.length ≤ 20
  lE : es.length ≤ 31
  full : ∀ e ∈ es, ∀ y ∈ e.places, nameB y = true
abbrev renL (es : List Ent) (Dp Dg Dn : List (Str × Str)) : List Ent := es.map (Ent.ren (look Dp) (look Dg) (look Dn))
def spCalledO (Ts : List Addr) : Sp := fun vs H Q _ => ∃ (h dp dg dn : Addr) (P G : List Str) (es : List Ent) (Dp Dg Dn : List (Str × Str)), vs = [.ref h, .ref dp, .ref dg, .ref dn] ∧ HouseAt H h P G es ∧ H dp = some (.dK (kvD Dp)) ∧ H dg = some (.dK (kvD Dg)) ∧ H dn = some (.dK (kvD Dn)) ∧ Ren P G es Dp Dg Dn ∧ TabsG Ts H ∧
  ∀ (h' : Addr) (P' G' : List Str) (H' : Hp), TB1 Ts H H' → P'.Perm (P.map (look Dp)) → sortedS P' = true → G'.Perm (G.map (look Dg)) → sortedS G' = true → HouseAt H' h' P' G' (sortN (renL es Dp Dg Dn)) → Q (.ref h') H'
theorem ents_of {H : Hp} : ∀ {as : List Addr} {es : List Ent}, EntsAt H as es → ∃ pr : List (Addr × Ent), as = pr.map (·.1) ∧ es = pr.map (·.2) ∧ ∀ x ∈ pr, H x.1 = some (.tup x.2.vals)
  | _, _, .nil => ⟨[], rfl, rfl, fun _ h => (nomatch h)⟩
  | _, _, .cons (a := a) (e := e) q r => by
    obtain ⟨pr, rfl, rfl, h⟩ := ents_of r
    refine ⟨(a, e) :: pr, rfl, rfl, fun x hx => ?_⟩
    rcases List.mem_cons.mp hx with rfl | hx
    · exact q
    · exact h x hx
theorem refs_fst (pr : List (Addr × Ent)) : (pr.map (·.1)).map V.ref = pr.map fun x => V.ref x.1 := by
  rw [List.map_map]
  rfl
section
variable {P : Program} {w : World} {K : PySem.W.Frag} {mg : Str → Option Value} {base : Heap}
abbrev sCalledON : List Str := ["house", "places", "goods", "names", "own_places", "own_goods", "entries", "otherwise", "new_places", "new_goods", "entry", "renamed"]
theorem sc_sCalledO : FnScope sCalledON ["house", "places", "goods", "names"] (defScope sCalledO) := ⟨rfl, rfl, rfl, by decide +kernel, rfl, by decide +kernel, by decide +kernel⟩
set_option maxHeartbeats 4000000 in
theorem ok_calledO {f fR fA fE fI : Addr} {fd dR dA dE dI : FuncData} {Ts : List Addr} (F : Fun K "called" "called" sCalledO f fd) (RF : DefT P w K mg base "refuse_what_is_no_name" 3 fR dR ["otherwise"] (spRefuse Ts))
    (AO : DefT P w K mg base "all_otherwise" 1 fA dA ["old", "otherwise"] spAllO) (EO : DefT P w K mg base "entry_otherwise" 2 fE dE ["entry", "places", "goods", "names"] (spEntO Ts)) (IN : DefT P w K mg base "in_order" 4 fI dI ["entries"] spInOrder)
    (mt : mg "tuple" = none) (ms : mg "sorted" = none) : FnOk P w K mg base CX0 5 f fd ["house", "places", "goods", "names"] (spCalledO Ts) := by
  refine F.ok sc_sCalledO (fun vs H Q E h => ?_) (fun cdv A outer s H vs Q E hr h => ?_)
  · obtain ⟨h, dp, dg, dn, Ps, G, es, Dp, Dg, Dn, rfl, _⟩ := h
    rfl
  · obtain ⟨h, dp, dg, dn, Ps, G, es, Dp, Dg, Dn, rfl, ho, hdp, hdg, hdn, rn, tg, q⟩ := h
    have nd := sc_sCalledO.nd
    have hr1 : Room 1 _ := hr.mono (by decide)
    have hr2 : Room 2 _ := hr.mono (by decide)
    have hr3 : Room 3 _ := hr.mono (by decide)
    refine ⟨_, pss_cons (ps_asg (pv 0) (pg_tup (by rfl) (pgs_cons (pg_name (i := 4) nd rfl (Or.inl rfl)) (pgs_cons (pg_name (i := 5) nd rfl (Or.inl rfl)) (pgs_cons (pg_name (i := 6) nd rfl (Or.inl rfl)) pgs_nil)))))
      (pss_cons (ps_for PassesOwn.never rfl (pi_tup (pe_tup (pa_cons (pv 1) (pa_cons (pv 2) (pa_cons (pv 3) pa_nil))))) (pg_name (i := 7) nd rfl (Or.inl rfl))
        (pss_one (ps_expr (pe_call RF.ok hr3 (by rfl) RF.g RF.kp RF.b .nil pass0 (pa_cons (pv 7) pa_nil)))))
      (pss_cons (ps_set (i := 8) nd rfl (Or.inl rfl) (pe_call AO.ok hr1 (by rfl) AO.g AO.kp AO.b .nil pass0 (pa_cons (pv 4) (pa_cons (pv 1) pa_nil))))
      (pss_cons (ps_set (i := 9) nd rfl (Or.inl rfl) (pe_call AO.ok hr1 (by rfl) AO.g AO.kp AO.b .nil pass0 (pa_cons (pv 5) (pa_cons (pv 2) pa_nil))))
      (pss_cons (ps_expr (pe_call AO.ok hr1 (by rfl) AO.g AO.kp AO.b .nil pass0 (pa_cons (pe_lc (own := [("entry", 10)]) (g := gName 10) (tt := tYes) (te := tOp (rIxT K) (tVar 10) (tC (V.int 1))) rfl nd (pi_tup (pv 6)) (blkOk_by (N := sCalledON) (sc := defScope sCalledO) (by decide +kernel)) (fun _ _ _ _ _ => (pg_name (i := 10) nd rfl (Or.inl rfl))) (fun _ _ _ _ _ => pts_nil) (fun _ _ _ _ _ => (pe_ix ix_tup (pv 10) pe_int (fun _ _ => rfl)))) (pa_cons (pv 3) pa_nil))))
      (pss_cons (ps_setLc (i := 11) (own := [("entry", 10)]) (g := gName 10) (tt := tYes) rfl nd rfl rfl (sw_true rfl rfl rfl (by decide +kernel)) (pi_tup (pv 6)) (blkOk_by (N := sCalledON) (sc := defScope sCalledO) (by decide +kernel)) (fun _ _ _ _ _ => (pg_name (i := 10) nd rfl (Or.inl rfl))) (fun _ _ _ _ _ => pts_nil) (fun _ _ _ _ _ => (pe_call EO.ok hr2 (by rfl) EO.g EO.kp EO.b .nil pass0 (pa_cons (pv 10) (pa_cons (pv 1) (pa_cons (pv 2) (pa_cons (pv 3) pa_nil)))))))
      (pss_one (ps_ret (pe_tup (pa_cons (pe_callTy call_tuple_of (by rfl) mt (by decide +kernel) (pa_cons (pe_callB cr_sortedS (by rfl) ms (by decide +kernel) (pa_cons (pv 8) pa_nil)) pa_nil)) (pa_cons (pe_callTy call_tuple_of (by rfl) mt (by decide +kernel) (pa_cons (pe_callB cr_sortedS (by rfl) ms (by decide +kernel) (pa_cons (pv 9) pa_nil)) pa_nil)) (pa_cons (pe_call IN.ok hr (by rfl) IN.g IN.kp IN.b .nil pass0 (pa_cons (pv 11) pa_nil)) pa_nil))))))))))), ?_⟩
    obtain ⟨hp, hg, he, tps, g1, g2, g3, g4, g5⟩ := ho.ex
    obtain ⟨pr, rfl, rfl, hE⟩ := ents_of g5
    rw [refs_fst] at g4
    have lE : pr.length ≤ 31 := by
      have := rn.lE
      rwa [List.length_map] at this
    refine ⟨_, rfl, h, _, rfl, SqT.of g1, rfl, _, _, rfl, _, _, rfl, _, _, rfl, rfl, ?_⟩
    refine ⟨_, rfl, _, rfl, _, rfl, (by show 3 ≤ sizeLine; decide), fun tq ntq => ?_⟩
    have s0 := @same_new _ _ (.tup [V.ref dp, .ref dg, .ref dn]) ntq
    have e0 := @upd_same H tq (.tup [V.ref dp, .ref dg, .ref dn])
    generalize upd H tq (.tup [V.ref dp, .ref dg, .ref dn]) = H0 at s0 e0 ⊢
    have b0 : TB1 Ts H H0 := .same tg s0
    have ds : ∀ x ∈ [V.ref dp, V.ref dg, V.ref dn], ∃ (d : Addr) (dk : List (Str × Str)), x = V.ref d ∧ H d = some (.dK (kvD dk)) ∧ NmD dk := fun x hx => by
      simp only [List.mem_cons, List.not_mem_nil, or_false] at hx
      rcases hx with rfl | rfl | rfl
      · exact ⟨_, _, rfl, hdp, rn.nP⟩
      · exact ⟨_, _, rfl, hdg, rn.nG⟩
      · exact ⟨_, _, rfl, hdn, rn.nN⟩
    refine ⟨tq, rfl, ⟨_, SqT.of e0⟩, ?_⟩
    refine for_tup (K := K) (a := tq) (xs := [V.ref dp, V.ref dg, V.ref dn]) (fun i σ H' => ∃ y7, σ = [some (.ref h), some (.ref dp), some (.ref dg), some (.ref dn), some (.ref hp), some (.ref hg), some (.ref he), y7, none, none, none, none] ∧ TB1 Ts H H' ∧ H' tq = some (.tup [V.ref dp, .ref dg, .ref dn]))
      ⟨_, rfl, b0, e0⟩ (fun i σ H' _ z => by obtain ⟨_, _, _, z⟩ := z; exact SqT.of z) ?_ ?_
    · rintro i x σ H1 hx ⟨y7, rfl, b1, e1⟩
      obtain ⟨d, dk, rfl, hd, nm⟩ := ds x (List.mem_of_getElem? hx)
      refine ⟨_, rfl, d, dk, rfl, b1.dct hd, nm, b1.1, fun H2 b2 => ?_⟩
      exact ⟨_, rfl, b1.tr b2, b2.tk _ _ e1⟩
    · rintro σ H1 ⟨y7, rfl, b1, e1⟩
      refine ⟨_, rfl, _, rfl, hp, dp, Ps, Dp, rfl, .inr (b1.tk _ _ g2), b1.dct hdp, rn.uP, (by have := rn.lP; omega), fun l1 H2 s2 e2 => ?_⟩
      have b2 := b1.tr (.same b1.1 s2)
      refine ⟨_, rfl, _, rfl, hg, dg, G, Dg, rfl, .inr (b2.tk _ _ g3), b2.dct hdg, rn.uG, (by have := rn.lG; omega), fun l2 H3 s3 e3 => ?_⟩
      have b3 := b2.tr (.same b2.1 s3)
      refine ⟨_, rfl, he, rfl, ⟨_, SqT.of (b3.tk _ _ g4)⟩, fun D nD => ?_⟩
      refine lc_tup (K := K) (a := he) (xs := pr.map fun x => V.ref x.1) (fun i H' => Same H3 H' ∧ H' D = some (.lst (((pr.take i).map fun x => x.2.name).map V.str))) ⟨same_new nD, upd_same⟩ (fun i H' _ h => SqT.of (h.1 _ _ (b3.tk _ _ g4))) ?_ ?_
      · rintro i v H' hx ⟨sm, hD⟩
        rw [List.getElem?_map] at hx
        obtain ⟨y, hy, rfl⟩ := Option.map_eq_some_iff.mp hx
        refine ⟨rfl, yesT ⟨_, rfl, y.1, _, 1, _, rfl, rfl, SqT.of (sm _ _ (b3.tk _ _ (hE y (List.mem_of_getElem? hy)))), at1 y.2, _, hD, ?_, fun b o e => (upd_ne (ne_of_none e nD)).trans (sm b o e), ?_⟩⟩
        · rw [List.length_map, List.length_map, List.length_take]
          exact small1000 (by omega)
        · rw [upd_same, take_sn hy, List.map_append, List.map_append]
          rfl
      rintro H4 ⟨s4, hD⟩
      rw [List.length_map, List.take_length] at hD
      have b4 := b3.tr (.same b3.1 s4)
      have nms : (pr.map fun x => x.2.name) = (pr.map (·.2)).map Ent.name := by
        rw [List.map_map]
        rfl
      refine ⟨_, rfl, D, dn, _, Dn, rfl, .inl hD, b4.dct hdn, (by rw [nms]; exact rn.uN), (by rw [List.length_map]; omega), fun l3 H5 s5 e5 => ?_⟩
      have b5 := b4.tr (.same b4.1 s5)
      refine ⟨_, rfl, he, rfl, ⟨_, SqT.of (b5.tk _ _ g4)⟩, fun R nR => ?_⟩
      have e2' := s5 _ _ (s4 _ _ (s3 _ _ e2))
      have e3' := s5 _ _ (s4 _ _ e3)
      refine lc_tup (K := K) (a := he) (xs := pr.map fun x => V.ref x.1) (fun i H' => TB1 Ts H5 H' ∧ ∃ qr : List (Addr × Ent), H' R = some (.lst (qr.map fun x => V.ref x.1)) ∧ qr.map (·.2) = ((pr.take i).map (·.2)).map (Ent.ren (look Dp) (look Dg) (look Dn)) ∧ ∀ x ∈ qr, H' x.1 = some (.tup x.2.vals))
        ⟨.same b5.1 (same_new nR), [], upd_same, rfl, fun x hx => (nomatch hx)⟩ (fun i H' _ h => SqT.of (h.1.tk _ _ (b5.tk _ _ g4))) ?_ ?_
      · rintro i v H' hx ⟨bb, qr, hR, eq, hq⟩
        rw [List.getElem?_map] at hx
        obtain ⟨y, hy, rfl⟩ := Option.map_eq_some_iff.mp hx
        have my := List.mem_of_getElem? hy
        have bH := b5.tr bb
        refine ⟨rfl, yesT ⟨_, rfl, _, rfl, _, rfl, _, rfl, y.1, dp, dg, dn, y.2, Dp, Dg, Dn, rfl, bH.tk _ _ (hE y my), bH.dct hdp, bH.dct hdg, bH.dct hdn, fun z hz e => ?_, bH.1, fun t H6 b6 e6 => ?_⟩⟩
        · have := rn.nP.look (rn.full y.2 (List.mem_map.mpr ⟨y, my, rfl⟩) z hz)
          rw [e] at this
          exact absurd this (by decide +kernel)
        · have lq : qr.length ≤ 31 := by
            have := congrArg List.length eq
            rw [List.length_map, List.length_map, List.length_map, List.length_take] at this
            omega
          have hR6 := b6.lst hR
          have bp := (bb.tr b6).put (o := .lst ((qr.map fun x => V.ref x.1) ++ [V.ref t])) nR hR6
          refine ⟨_, hR6, ?_, bp, qr ++ [(t, y.2.ren (look Dp) (look Dg) (look Dn))], ?_, ?_, fun x hx => ?_⟩
          · rw [List.length_map]
            exact small1000 (by omega)
          · rw [upd_same, List.map_append]
            rfl
          · rw [take_sn hy, List.map_append, eq, List.map_append, List.map_append]
            rfl
          · have ev : ∀ {a : Addr} {xs : List V}, H6 a = some (.tup xs) → (upd H6 R (.lst ((qr.map fun x => V.ref x.1) ++ [V.ref t]))) a = some (.tup xs) := fun {a xs} e => (upd_ne (ne_of e hR6 (by intro z; cases z))).trans e
            rcases List.mem_append.mp hx with hx | hx
            · exact ev (b6.tk _ _ (hq x hx))
            · rw [List.mem_singleton.mp hx]
              exact ev e6
      rintro H6 ⟨b6, qr, hR, eq, hq⟩
      rw [List.length_map, List.take_length] at eq
      have e2a := b6.lst e2'
      have e3a := b6.lst e3'
      have b06 := b5.tr b6
      refine ⟨_, rfl, l1, _, rfl, SqL.of e2a, (by rw [List.length_map]; have := rn.lP; omega), fun P1 d1 pm1 so1 nd1 => ⟨d1, _, rfl, .inl ⟨SqL.of upd_same, fun t1 nt1 => ?_⟩⟩⟩
      have s7 := (@same_new _ _ (.lst (P1.map V.str)) nd1).trans (@same_new _ _ (.tup (P1.map V.str)) nt1)
      have e7 : (upd (upd H6 d1 (.lst (P1.map V.str))) t1 (.tup (P1.map V.str))) t1 = some (.tup (P1.map V.str)) := upd_same
      generalize upd (upd H6 d1 (.lst (P1.map V.str))) t1 (.tup (P1.map V.str)) = H7 at s7 e7
      refine ⟨_, rfl, l2, _, rfl, SqL.of (s7 _ _ e3a), (by rw [List.length_map]; have := rn.lG; omega), fun G1 d2 pm2 so2 nd2 => ⟨d2, _, rfl, .inl ⟨SqL.of upd_same, fun t2 nt2 => ?_⟩⟩⟩
      have s8 := (@same_new _ _ (.lst (G1.map V.str)) nd2).trans (@same_new _ _ (.tup (G1.map V.str)) nt2)
      have e8 : (upd (upd H7 d2 (.lst (G1.map V.str))) t2 (.tup (G1.map V.str))) t2 = some (.tup (G1.map V.str)) := upd_same
      generalize upd (upd H7 d2 (.lst (G1.map V.str))) t2 (.tup (G1.map V.str)) = H8 at s8 e8
      have s68 := s7.trans s8
      refine ⟨_, rfl, R, qr, rfl, s68 _ _ hR, fun x hx => s68 _ _ (hq x hx), fun t3 H9 nt3 s9 e9 => ?_⟩
      refine ⟨(by show 3 ≤ sizeLine; decide), fun h' nh' => ?_⟩
      have s10 := @same_new _ _ (.tup [V.ref t1, .ref t2, .ref t3]) nh'
      have e10 := @upd_same H9 h' (.tup [V.ref t1, .ref t2, .ref t3])
      have s6 := s68.trans (s9.trans s10)
      refine q h' P1 G1 _ (b06.tr (.same b06.1 s6)) pm1 so1 pm2 so2 ⟨t1, t2, t3, (sortE qr).map (·.1), e10, s10 _ _ (s9 _ _ (s8 _ _ e7)), s10 _ _ (s9 _ _ e8), ?_, ?_⟩
      · rw [refs_fst]
        exact s10 _ _ e9
      · have hs : ∀ x ∈ sortE qr, (upd H9 h' (.tup [V.ref t1, .ref t2, .ref t3])) x.1 = some (.tup x.2.vals) := fun x hx => s6 _ _ (hq x ((sortE_p qr).mem_iff.mp hx))
        have := ents_pairs hs
        rw [sortE_n, eq] at this
        exact this
end
/-! ### the law's own renaming -/
theorem ren_nsw {e : Ent} {fp fg fn : Str → Str} (h : e.word ≠ "swap") (f0 : fp "" = "") : ∃ g p : Str, atI e.vals (3 : Int) = some (.str g) ∧ atI e.vals (4 : Int) = some (.str p) ∧
    (inV (.str e.word) [V.str "move", V.str "some"] = true → ∃ t : Str, atI e.vals (5 : Int) = some (.str t) ∧ [V.str e.word, .str (fn e.name), .int e.moment, .str (fg g), .str (fp p), .str (fp t)] ++ e.vals.drop 6 = (e.ren fp fg fn).vals) ∧
    (inV (.str e.word) [V.str "move", V.str "some"] = false → [V.str e.word, .str (fn e.name), .int e.moment, .str (fg g), .str (fp p)] ++ e.vals.drop 5 = (e.ren fp fg fn).vals) := by
  have i1 : inV (V.str "come") [V.str "move", V.str "some"] = false := by decide +kernel
  have i2 : inV (V.str "go") [V.str "move", V.str "some"] = false := by decide +kernel
  have i3 : inV (V.str "move") [V.str "move", V.str "some"] = true := by decide +kernel
  have i4 : inV (V.str "some") [V.str "move", V.str "some"] = true := by decide +kernel
  have i5 : inV (V.str "count") [V.str "move", V.str "some"] = false := by decide +kernel
  have i6 : inV (V.str "look") [V.str "move", V.str "some"] = false := by decide +kernel
  cases e with
  | come n m g p k r => exact ⟨g, p, rfl, rfl, fun z => absurd (i1.symm.trans z) (by decide), fun _ => rfl⟩
  | go n m g p k => exact ⟨g, p, rfl, rfl, fun z => absurd (i2.symm.trans z) (by decide), fun _ => rfl⟩
  | move n m g o t k => exact ⟨g, o, rfl, rfl, fun _ => ⟨t, rfl, rfl⟩, fun z => absurd (i3.symm.trans z) (by decide)⟩
  | some_ n m g o t =>
    refine ⟨g, o, rfl, rfl, fun _ => ⟨t, rfl, ?_⟩, fun z => absurd (i4.symm.trans z) (by decide)⟩
    by_cases z : t = ""
    · rw [z, f0]
      rfl
    · rw [show Ent.ren fp fg fn (.some_ n m g o t) = .some_ (fn n) m (fg g) (fp o) (fp t) from congrArg (Ent.some_ (fn n) m (fg g) (fp o)) (if_neg z)]
      rfl
  | swap n m o t => exact absurd rfl h
  | count n m g p k hd => exact ⟨g, p, rfl, rfl, fun z => absurd (i5.symm.trans z) (by decide), fun _ => rfl⟩
  | look n m g p => exact ⟨g, p, rfl, rfl, fun z => absurd (i6.symm.trans z) (by decide), fun _ => rfl⟩
theorem NmD.no {dk : List (Str × Str)} (n : NmD dk) : Shelf.look dk "" = "" := by
  unfold Shelf.look
  rw [lookO_no fun h => ?_]
  · rfl
  · obtain ⟨y, hy, e⟩ := List.mem_map.mp h
    have := (n.nm y hy).1
    rw [e] at this
    exact absurd this (by decide +kernel)
def spEntSo : Sp := fun vs H Q _ => ∃ (a dp dg dn : Addr) (e : Ent) (Dp Dg Dn : List (Str × Str)), vs = [.ref a, .ref dp, .ref dg, .ref dn] ∧ H a = some (.tup e.vals) ∧ H dp = some (.dK (kvD Dp)) ∧ H dg = some (.dK (kvD Dg)) ∧ H dn = some (.dK (kvD Dn)) ∧ NmD Dp ∧
  ∀ (t : Addr) (H' : Hp), Same H H' → H' t = some (.tup (e.ren (look Dp) (look Dg) (look Dn)).vals) → Q (.ref t) H'
section
variable {P : Program} {w : World} {K : PySem.W.Frag} {mg : Str → Option Value} {base : Heap}
abbrev sEntSoN : List Str := ["_law_entry_here", "_law_places", "_law_goods", "_law_names", "_law_found", "_law_place"]
theorem sc_sEntSo : FnScope sEntSoN ["_law_entry_here", "_law_places", "_law_goods", "_law_names"] (defScope sEntSo) := ⟨rfl, rfl, rfl, by decide +kernel, rfl, by decide +kernel, by decide +kernel⟩
set_option maxHeartbeats 4000000 in
theorem ok_entSo {f : Addr} {fd : FuncData} (F : Fun K "_law_entry_so" "_law_entry_so" sEntSo f fd) (mt : mg "tuple" = none) (mli : mg "list" = none) (ml : mg "len" = none) : FnOk P w K mg base CX0 1 f fd ["_law_entry_here", "_law_places", "_law_goods", "_law_names"] spEntSo := by
  refine F.ok sc_sEntSo (fun vs H Q E h => ?_) (fun cdv A outer s H vs Q E hr h => ?_)
  · obtain ⟨a, dp, dg, dn, e, Dp, Dg, Dn, rfl, _⟩ := h
    rfl
  · obtain ⟨a, dp, dg, dn, e, Dp, Dg, Dn, rfl, ha, hdp, hdg, hdn, nP, q⟩ := h
    have hu := hu_of hr
    have nd := sc_sEntSo.nd
    refine ⟨_, pss_cons (ps_set (i := 4) nd rfl (Or.inl rfl) (pe_lst (pa_cons (pe_ix ix_tup (pv 0) pe_int (fun _ _ => rfl)) (pa_cons (pe_dget2 hu (pv 3) (pe_ix ix_tup (pv 0) pe_int (fun _ _ => rfl)) (pe_ix ix_tup (pv 0) pe_int (fun _ _ => rfl)) ⟨rfl, rfl, rfl, rfl⟩) (pa_cons (pe_ix ix_tup (pv 0) pe_int (fun _ _ => rfl)) pa_nil)))))
      (pss_cons (ps_if (pt_cmpR op_eq (pe_ix ix_tup (pv 0) pe_int (fun _ _ => rfl)) pe_str (nomark _)) (pss_one (ps_ret (pe_callTy call_tuple_of (by rfl) mt (by decide +kernel) (pa_cons (pe_op op_cat (pv 4) (pe_lc (own := [("_law_place", 5)]) (g := gName 5) (tt := tYes) (te := tDGet2 (tVar 1) (tVar 5) (tVar 5)) rfl nd (pi_tup (pe_slice sl_S (pv 0) (po_some pe_int) po_none)) (blkOk_by (N := sEntSoN) (sc := defScope sEntSo) (by decide +kernel)) (fun _ _ _ _ _ => (pg_name (i := 5) nd rfl (Or.inl rfl))) (fun _ _ _ _ _ => pts_nil) (fun _ _ _ _ _ => (pe_dget2 hu (pv 1) (pv 5) (pv 5) ⟨rfl, rfl, rfl, rfl⟩)))) pa_nil)))) pss_nil)
      (pss_cons (ps_expr (pe_bm PySem.F.plainAttrs_list PySem.F.slot_list_append PySem.F.type_list_append mt_append (pv 4) (pa_cons (pe_dget2 hu (pv 2) (pe_ix ix_tup (pv 0) pe_int (fun _ _ => rfl)) (pe_ix ix_tup (pv 0) pe_int (fun _ _ => rfl)) ⟨rfl, rfl, rfl, rfl⟩) pa_nil)))
      (pss_cons (ps_expr (pe_bm PySem.F.plainAttrs_list PySem.F.slot_list_append PySem.F.type_list_append mt_append (pv 4) (pa_cons (pe_dget2 hu (pv 1) (pe_ix ix_tup (pv 0) pe_int (fun _ _ => rfl)) (pe_ix ix_tup (pv 0) pe_int (fun _ _ => rfl)) ⟨rfl, rfl, rfl, rfl⟩) pa_nil)))
      (pss_cons (ps_if (pt_cmpR op_in_seq (pe_ix ix_tup (pv 0) pe_int (fun _ _ => rfl)) (pe_tup (pa_cons pe_str (pa_cons pe_str pa_nil))) (by rfl)) (pss_one (ps_expr (pe_bm PySem.F.plainAttrs_list PySem.F.slot_list_append PySem.F.type_list_append mt_append (pv 4) (pa_cons (pe_dget2 hu (pv 1) (pe_ix ix_tup (pv 0) pe_int (fun _ _ => rfl)) (pe_ix ix_tup (pv 0) pe_int (fun _ _ => rfl)) ⟨rfl, rfl, rfl, rfl⟩) pa_nil)))) pss_nil)
      (pss_one (ps_ret (pe_callTy call_tuple_of (by rfl) mt (by decide +kernel) (pa_cons (pe_op op_cat (pv 4) (pe_callTy call_list_of (by rfl) mli (by decide +kernel) (pa_cons (pe_slice sl_S (pv 0) (po_some (pe_callB call_len_seq (by rfl) ml PySem.boot_len (pa_cons (pv 4) pa_nil))) po_none) pa_nil))) pa_nil)))))))), ?_⟩
    refine ⟨_, rfl, a, _, 0, _, rfl, rfl, SqT.of ha, at0 e, _, rfl, dn, rfl, .inl ⟨_, .inl hdn⟩, _, rfl, a, _, 1, _, rfl, rfl, SqT.of ha, at1 e, _, rfl, a, _, 1, _, rfl, rfl, SqT.of ha, at1 e, _, DGet.k (k := Sum.inr e.name) hdn, ?_⟩
    rw [look_get]
    refine ⟨_, rfl, a, _, 2, _, rfl, rfl, SqT.of ha, at2 e, (by show 3 ≤ sizeLine; decide), fun D nD => ?_⟩
    have s1 := @same_new _ _ (.lst [V.str e.word, .str (look Dn e.name), .int e.moment]) nD
    have e1 := @upd_same H D (.lst [V.str e.word, .str (look Dn e.name), .int e.moment])
    generalize upd H D (.lst [V.str e.word, .str (look Dn e.name), .int e.moment]) = H1 at s1 e1 ⊢
    have keep : ∀ {H1 : Hp} {o : HO}, Same H H1 → Same H (upd H1 D o) := fun s b o e => (upd_ne (ne_of_none e nD)).trans (s b o e)
    have v57 := vals_len_e e
    refine ⟨_, rfl, a, _, 0, _, rfl, rfl, SqT.of (s1 _ _ ha), at0 e, rfl, _, rfl, ite2 (fun z => ?_) (fun z => ?_)⟩
    · obtain ⟨n, m, o, t, rfl⟩ := sw_ent (V.str.inj (of_decide_eq_true z))
      refine ⟨_, rfl, _, rfl, 3, rfl, a, _, rfl, s1 _ _ ha, fun tp H2 s2 e2 => ⟨tp, rfl, ⟨_, SqT.of e2⟩, fun L nL => ?_⟩⟩
      replace e2 : H2 tp = some (.tup ([o, t].map V.str)) := e2
      have s12 := s1.trans s2
      refine lc_tup (K := K) (a := tp) (xs := [o, t].map V.str) (fun i H' => Same H2 H' ∧ H' L = some (.lst ((([o, t].take i).map (look Dp)).map V.str))) ⟨same_new nL, upd_same⟩ (fun i H' _ h => SqT.of (h.1 _ _ e2)) ?_ ?_
      · rintro i v H' hx ⟨sm, hL⟩
        rw [List.getElem?_map] at hx
        obtain ⟨y, hy, rfl⟩ := Option.map_eq_some_iff.mp hx
        have hdp' := sm _ _ (s12 _ _ hdp)
        refine ⟨rfl, yesT ⟨_, rfl, dp, rfl, .inl ⟨_, .inl hdp'⟩, _, rfl, _, rfl, _, DGet.k (k := Sum.inr y) hdp', ?_⟩⟩
        rw [look_get]
        refine ⟨_, hL, ?_, fun b o e => (upd_ne (ne_of_none e nL)).trans (sm b o e), ?_⟩
        · rw [List.length_map, List.length_map, List.length_take]
          exact small1000 (by show min i 2 ≤ 1000; omega)
        · rw [upd_same, take_sn hy, List.map_append, List.map_append]
          rfl
      · rintro H3 ⟨s3, hL⟩
        have s13 := s12.trans s3
        have e13 := s3 _ _ (s2 _ _ e1)
        refine ⟨D, L, _, _, rfl, rfl, e13, hL, (by show 3 + 2 ≤ sizeLine; decide), fun M nM => ?_⟩
        refine ⟨M, _, rfl, .inl ⟨SqL.of upd_same, fun t9 nt9 => ?_⟩⟩
        exact q t9 _ (s13.trans ((same_new nM).trans (same_new nt9))) upd_same
    · have nsw : e.word ≠ "swap" := fun y => z (decide_eq_true (congrArg V.str y))
      obtain ⟨g, p, a3, a4, yes, no⟩ := ren_nsw (fp := look Dp) (fg := look Dg) (fn := look Dn) nsw nP.no
      refine ⟨_, rfl, .inl ⟨rfl, _, SqL.of e1⟩, _, rfl, dg, rfl, .inl ⟨_, .inl (s1 _ _ hdg)⟩, _, rfl, a, _, 3, _, rfl, rfl, SqT.of (s1 _ _ ha), a3, _, rfl, a, _, 3, _, rfl, rfl, SqT.of (s1 _ _ ha), a3, _, DGet.k (k := Sum.inr g) (s1 _ _ hdg), ?_⟩
      rw [look_get]
      refine ⟨D, _, _, rfl, rfl, e1, (by show 3 < sizeLine; decide), ?_⟩
      have s2 := @keep _ (.lst ([V.str e.word, .str (look Dn e.name), .int e.moment] ++ [.str (look Dg g)])) s1
      have e2 := @upd_same H1 D (.lst ([V.str e.word, .str (look Dn e.name), .int e.moment] ++ [.str (look Dg g)]))
      generalize upd H1 D (.lst ([V.str e.word, .str (look Dn e.name), .int e.moment] ++ [.str (look Dg g)])) = H2 at s2 e2 ⊢
      refine ⟨_, rfl, .inl ⟨rfl, _, SqL.of e2⟩, _, rfl, dp, rfl, .inl ⟨_, .inl (s2 _ _ hdp)⟩, _, rfl, a, _, 4, _, rfl, rfl, SqT.of (s2 _ _ ha), a4, _, rfl, a, _, 4, _, rfl, rfl, SqT.of (s2 _ _ ha), a4, _, DGet.k (k := Sum.inr p) (s2 _ _ hdp), ?_⟩
      rw [look_get]
      refine ⟨D, _, _, rfl, rfl, e2, (by show 4 < sizeLine; decide), ?_⟩
      have s3 := @keep _ (.lst ([V.str e.word, .str (look Dn e.name), .int e.moment] ++ [.str (look Dg g)] ++ [.str (look Dp p)])) s2
      have e3 := @upd_same H2 D (.lst ([V.str e.word, .str (look Dn e.name), .int e.moment] ++ [.str (look Dg g)] ++ [.str (look Dp p)]))
      generalize upd H2 D (.lst ([V.str e.word, .str (look Dn e.name), .int e.moment] ++ [.str (look Dg g)] ++ [.str (look Dp p)])) = H3 at s3 e3 ⊢
      refine ⟨_, rfl, a, _, 0, _, rfl, rfl, SqT.of (s3 _ _ ha), at0 e, (by show 2 ≤ sizeLine; decide), fun tq ntq => ?_⟩
      have s4 := @same_new _ _ (.tup [V.str "move", .str "some"]) ntq
      have e4 := @upd_same H3 tq (.tup [V.str "move", .str "some"])
      generalize upd H3 tq (.tup [V.str "move", .str "some"]) = H4 at s4 e4 ⊢
      have s04 := s3.trans s4
      have f4 := s4 _ _ e3
      refine ⟨tq, _, rfl, .inr (SqT.of e4), rfl, rfl, _, rfl, ite2 (fun y => ?_) (fun y => ?_)⟩
      · obtain ⟨t, a5, ev⟩ := yes (by simpa using y)
        refine ⟨_, rfl, .inl ⟨rfl, _, SqL.of f4⟩, _, rfl, dp, rfl, .inl ⟨_, .inl (s04 _ _ hdp)⟩, _, rfl, a, _, 5, _, rfl, rfl, SqT.of (s04 _ _ ha), a5, _, rfl, a, _, 5, _, rfl, rfl, SqT.of (s04 _ _ ha), a5, _, DGet.k (k := Sum.inr t) (s04 _ _ hdp), ?_⟩
        rw [look_get]
        refine ⟨D, _, _, rfl, rfl, f4, (by show 5 < sizeLine; decide), ?_⟩
        have s5 := @keep _ (.lst ([V.str e.word, .str (look Dn e.name), .int e.moment] ++ [.str (look Dg g)] ++ [.str (look Dp p)] ++ [.str (look Dp t)])) s04
        have e5 := @upd_same H4 D (.lst ([V.str e.word, .str (look Dn e.name), .int e.moment] ++ [.str (look Dg g)] ++ [.str (look Dp p)] ++ [.str (look Dp t)]))
        generalize upd H4 D (.lst ([V.str e.word, .str (look Dn e.name), .int e.moment] ++ [.str (look Dg g)] ++ [.str (look Dp p)] ++ [.str (look Dp t)])) = H5 at s5 e5 ⊢
        refine ⟨_, rfl, _, rfl, _, rfl, D, _, rfl, .inl (SqL.of e5), 6, rfl, a, _, rfl, s5 _ _ ha, fun u H6 s6 e6 => ?_⟩
        replace e6 : H6 u = some (.tup (e.vals.drop 6)) := e6.trans (congrArg (fun z => some (HO.tup z)) (cut_tail (k := 6)))
        refine ⟨u, _, rfl, .inr (SqT.of e6), fun L nL => ?_⟩
        have s7 := @same_new _ _ (.lst (e.vals.drop 6)) nL
        refine ⟨D, L, _, _, rfl, rfl, s7 _ _ (s6 _ _ e5), upd_same, (by rw [List.length_drop]; show 6 + _ ≤ _; exact small_sz (by omega)), fun M nM => ?_⟩
        refine ⟨M, _, rfl, .inl ⟨SqL.of upd_same, fun t9 nt9 => ?_⟩⟩
        refine q t9 _ (s5.trans (s6.trans (s7.trans ((same_new nM).trans (same_new nt9))))) ?_
        rw [upd_same]
        exact congrArg (fun z => some (HO.tup z)) ev
      · have ev := no (by simpa using y)
        refine ⟨_, rfl, _, rfl, _, rfl, D, _, rfl, .inl (SqL.of f4), 5, rfl, a, _, rfl, s04 _ _ ha, fun u H6 s6 e6 => ?_⟩
        replace e6 : H6 u = some (.tup (e.vals.drop 5)) := e6.trans (congrArg (fun z => some (HO.tup z)) (cut_tail (k := 5)))
        refine ⟨u, _, rfl, .inr (SqT.of e6), fun L nL => ?_⟩
        have s7 := @same_new _ _ (.lst (e.vals.drop 5)) nL
        refine ⟨D, L, _, _, rfl, rfl, s7 _ _ (s6 _ _ f4), upd_same, (by rw [List.length_drop]; show 5 + _ ≤ _; exact small_sz (by omega)), fun M nM => ?_⟩
        refine ⟨M, _, rfl, .inl ⟨SqL.of upd_same, fun t9 nt9 => ?_⟩⟩
        refine q t9 _ (s04.trans (s6.trans (s7.trans ((same_new nM).trans (same_new nt9))))) ?_
        rw [upd_same]
        exact congrArg (fun z => some (HO.tup z)) ev
end
/-! ### what is due, by the law -/
def spLDue : Sp := fun vs H Q _ => ∃ (h dp dg dn : Addr) (P G : List Str) (es : List Ent) (Dp Dg Dn : List (Str × Str)), vs = [.ref h, .ref dp, .ref dg, .ref dn] ∧ HouseAt H h P G es ∧ H dp = some (.dK (kvD Dp)) ∧ H dg = some (.dK (kvD Dg)) ∧ H dn = some (.dK (kvD Dn)) ∧ Ren P G es Dp Dg Dn ∧
  ∀ (h' : Addr) (P' G' : List Str) (H' : Hp), Same H H' → P'.Perm (P.map (look Dp)) → sortedS P' = true → G'.Perm (G.map (look Dg)) → sortedS G' = true → HouseAt H' h' P' G' (sortN (renL es Dp Dg Dn)) → Q (.ref h') H'
section
variable {P : Program} {w : World} {K : PySem.W.Frag} {mg : Str → Option Value} {base : Heap}
abbrev sLDueN : List Str := ["_law_house", "_law_places", "_law_goods", "_law_names", "_law_entries", "_law_entry_here", "_law_some", "_law_place", "_law_kinds", "_law_good"]
theorem sc_sLDue : FnScope sLDueN ["_law_house", "_law_places", "_law_goods", "_law_names"] (defScope sLDue) := ⟨rfl, rfl, rfl, by decide +kernel, rfl, by decide +kernel, by decide +kernel⟩
set_option maxHeartbeats 4000000 in
theorem ok_lDue {f fE fO : Addr} {fd dE dO : FuncData} (F : Fun K "_law_due" "_law_due" sLDue f fd) (ES : DefT P w K mg base "_law_entry_so" 1 fE dE ["_law_entry_here", "_law_places", "_law_goods", "_law_names"] spEntSo) (LO : DefT P w K mg base "_law_order" 1 fO dO ["_law_entry_here"] spOrd)
    (mt : mg "tuple" = none) (ms : mg "sorted" = none) : FnOk P w K mg base CX0 4 f fd ["_law_house", "_law_places", "_law_goods", "_law_names"] spLDue := by
  refine F.ok sc_sLDue (fun vs H Q E h => ?_) (fun cdv A outer s H vs Q E hr h => ?_)
  · obtain ⟨h, dp, dg, dn, Ps, G, es, Dp, Dg, Dn, rfl, _⟩ := h
    rfl
  · obtain ⟨h, dp, dg, dn, Ps, G, es, Dp, Dg, Dn, rfl, ho, hdp, hdg, hdn, rn, q⟩ := h
    have hu := hu_of hr
    have hr1 : Room 1 _ := hr.mono (by decide)
    have nd := sc_sLDue.nd
    have hr3 : Room 3 _ := hr.mono (by decide)
    refine ⟨_, pss_cons (ps_setLc (i := 4) (own := [("_law_entry_here", 5)]) (g := gName 5) (tt := tYes) rfl nd rfl rfl (sw_true rfl rfl rfl (by decide +kernel)) (pi_tup (pe_ix ix_tup (pv 0) pe_int (fun _ _ => rfl))) (blkOk_by (N := sLDueN) (sc := defScope sLDue) (by decide +kernel)) (fun _ _ _ _ _ => (pg_name (i := 5) nd rfl (Or.inl rfl))) (fun _ _ _ _ _ => pts_nil) (fun _ _ _ _ _ => (pe_call ES.ok hr1 (by rfl) ES.g ES.kp ES.b .nil pass0 (pa_cons (pv 5) (pa_cons (pv 1) (pa_cons (pv 2) (pa_cons (pv 3) pa_nil)))))))
      (pss_cons (ps_set (i := 6) nd rfl (Or.inl rfl) (pe_callTy call_tuple_of (by rfl) mt (by decide +kernel) (pa_cons (pe_callB cr_sortedS (by rfl) ms (by decide +kernel) (pa_cons (pe_lc (own := [("_law_place", 7)]) (g := gName 7) (tt := tYes) (te := tDGet2 (tVar 1) (tVar 7) (tVar 7)) rfl nd (pi_tup (pe_ix ix_tup (pv 0) pe_int (fun _ _ => rfl))) (blkOk_by (N := sLDueN) (sc := defScope sLDue) (by decide +kernel)) (fun _ _ _ _ _ => (pg_name (i := 7) nd rfl (Or.inl rfl))) (fun _ _ _ _ _ => pts_nil) (fun _ _ _ _ _ => (pe_dget2 hu (pv 1) (pv 7) (pv 7) ⟨rfl, rfl, rfl, rfl⟩))) pa_nil)) pa_nil)))
      (pss_cons (ps_set (i := 8) nd rfl (Or.inl rfl) (pe_callTy call_tuple_of (by rfl) mt (by decide +kernel) (pa_cons (pe_callB cr_sortedS (by rfl) ms (by decide +kernel) (pa_cons (pe_lc (own := [("_law_good", 9)]) (g := gName 9) (tt := tYes) (te := tDGet2 (tVar 2) (tVar 9) (tVar 9)) rfl nd (pi_tup (pe_ix ix_tup (pv 0) pe_int (fun _ _ => rfl))) (blkOk_by (N := sLDueN) (sc := defScope sLDue) (by decide +kernel)) (fun _ _ _ _ _ => (pg_name (i := 9) nd rfl (Or.inl rfl))) (fun _ _ _ _ _ => pts_nil) (fun _ _ _ _ _ => (pe_dget2 hu (pv 2) (pv 9) (pv 9) ⟨rfl, rfl, rfl, rfl⟩))) pa_nil)) pa_nil)))
      (pss_one (ps_ret (pe_tup (pa_cons (pv 6) (pa_cons (pv 8) (pa_cons (pe_callTy call_tuple_of (by rfl) mt (by decide +kernel) (pa_cons (pe_callBK (cr_sortK LO.ok hr3 LO.b) (by rfl) ms (by decide +kernel) (pa_cons (pv 4) pa_nil) (pk_cons (pe_glob (v := .ref fO) (by rfl) LO.g rfl) pk_nil)) pa_nil)) pa_nil)))))))), ?_⟩
    obtain ⟨hp, hg, he, tps, g1, g2, g3, g4, g5⟩ := ho.ex
    obtain ⟨pr, rfl, rfl, hE⟩ := ents_of g5
    rw [refs_fst] at g4
    have lE : pr.length ≤ 31 := by
      have := rn.lE
      rwa [List.length_map] at this
    have lP := rn.lP
    have lG := rn.lG
    refine ⟨_, rfl, h, _, 2, _, rfl, rfl, SqT.of g1, atI_nat (j := 2) rfl, he, rfl, ⟨_, SqT.of g4⟩, fun R nR => ?_⟩
    refine lc_tup (K := K) (a := he) (xs := pr.map fun x => V.ref x.1) (fun i H' => Same H H' ∧ ∃ qr : List (Addr × Ent), H' R = some (.lst (qr.map fun x => V.ref x.1)) ∧ qr.map (·.2) = ((pr.take i).map (·.2)).map (Ent.ren (look Dp) (look Dg) (look Dn)) ∧ ∀ x ∈ qr, H' x.1 = some (.tup x.2.vals))
      ⟨same_new nR, [], upd_same, rfl, fun x hx => (nomatch hx)⟩ (fun i H' _ h => SqT.of (h.1 _ _ g4)) ?_ ?_
    · rintro i v H' hx ⟨sm, qr, hR, eq, hq⟩
      rw [List.getElem?_map] at hx
      obtain ⟨y, hy, rfl⟩ := Option.map_eq_some_iff.mp hx
      have my := List.mem_of_getElem? hy
      refine ⟨rfl, yesT ⟨_, rfl, _, rfl, _, rfl, _, rfl, y.1, dp, dg, dn, y.2, Dp, Dg, Dn, rfl, sm _ _ (hE y my), sm _ _ hdp, sm _ _ hdg, sm _ _ hdn, rn.nP, fun t H6 s6 e6 => ?_⟩⟩
      have lq : qr.length ≤ 31 := by
        have := congrArg List.length eq
        rw [List.length_map, List.length_map, List.length_map, List.length_take] at this
        omega
      have hR6 := s6 _ _ hR
      refine ⟨_, hR6, ?_, fun b o e => (upd_ne (ne_of_none e nR)).trans (s6 b o (sm b o e)), qr ++ [(t, y.2.ren (look Dp) (look Dg) (look Dn))], ?_, ?_, fun x hx => ?_⟩
      · rw [List.length_map]
        exact small1000 (by omega)
      · rw [upd_same, List.map_append]
        rfl
      · rw [take_sn hy, List.map_append, eq, List.map_append, List.map_append]
        rfl
      · have ev : ∀ {a : Addr} {xs : List V}, H6 a = some (.tup xs) → (upd H6 R (.lst ((qr.map fun x => V.ref x.1) ++ [V.ref t]))) a = some (.tup xs) := fun {a xs} e => (upd_ne (ne_of e hR6 (by intro z; cases z))).trans e
        rcases List.mem_append.mp hx with hx | hx
        · exact ev (s6 _ _ (hq x hx))
        · rw [List.mem_singleton.mp hx]
          exact ev e6
    rintro H1 ⟨s1, qr, hR, eq, hq⟩
    rw [List.length_map, List.take_length] at eq
    -- the places
    refine ⟨_, rfl, h, _, 0, _, rfl, rfl, SqT.of (s1 _ _ g1), atI_nat (j := 0) rfl, hp, rfl, ⟨_, SqT.of (s1 _ _ g2)⟩, fun L1 nL1 => ?_⟩
    refine lc_tup (K := K) (a := hp) (xs := Ps.map V.str) (fun i H' => Same H1 H' ∧ H' L1 = some (.lst (((Ps.take i).map (look Dp)).map V.str))) ⟨same_new nL1, upd_same⟩ (fun i H' _ h => SqT.of (h.1 _ _ (s1 _ _ g2))) ?_ ?_
    · rintro i v H' hx ⟨sm, hL⟩
      rw [List.getElem?_map] at hx
      obtain ⟨y, hy, rfl⟩ := Option.map_eq_some_iff.mp hx
      have hdp' := sm _ _ (s1 _ _ hdp)
      refine ⟨rfl, yesT ⟨_, rfl, dp, rfl, .inl ⟨_, .inl hdp'⟩, _, rfl, _, rfl, _, DGet.k (k := Sum.inr y) hdp', ?_⟩⟩
      rw [look_get]
      refine ⟨_, hL, ?_, fun b o e => (upd_ne (ne_of_none e nL1)).trans (sm b o e), ?_⟩
      · rw [List.length_map, List.length_map, List.length_take]
        exact small1000 (by omega)
      · rw [upd_same, take_sn hy, List.map_append, List.map_append]
        rfl
    rintro H2 ⟨s2, hL1⟩
    rw [List.length_map, List.take_length] at hL1
    refine ⟨L1, _, rfl, SqL.of hL1, (by rw [List.length_map]; omega), fun P1 d1 pm1 so1 nd1 => ⟨d1, _, rfl, .inl ⟨SqL.of upd_same, fun t1 nt1 => ?_⟩⟩⟩
    have s3 := (@same_new _ _ (.lst (P1.map V.str)) nd1).trans (@same_new _ _ (.tup (P1.map V.str)) nt1)
    have e3 : (upd (upd H2 d1 (.lst (P1.map V.str))) t1 (.tup (P1.map V.str))) t1 = some (.tup (P1.map V.str)) := upd_same
    generalize upd (upd H2 d1 (.lst (P1.map V.str))) t1 (.tup (P1.map V.str)) = H3 at s3 e3
    have s13 := s1.trans (s2.trans s3)
    -- the goods
    refine ⟨_, rfl, h, _, 1, _, rfl, rfl, SqT.of (s13 _ _ g1), atI_nat (j := 1) rfl, hg, rfl, ⟨_, SqT.of (s13 _ _ g3)⟩, fun L2 nL2 => ?_⟩
    refine lc_tup (K := K) (a := hg) (xs := G.map V.str) (fun i H' => Same H3 H' ∧ H' L2 = some (.lst (((G.take i).map (look Dg)).map V.str))) ⟨same_new nL2, upd_same⟩ (fun i H' _ h => SqT.of (h.1 _ _ (s13 _ _ g3))) ?_ ?_
    · rintro i v H' hx ⟨sm, hL⟩
      rw [List.getElem?_map] at hx
      obtain ⟨y, hy, rfl⟩ := Option.map_eq_some_iff.mp hx
      have hdg' := sm _ _ (s13 _ _ hdg)
      refine ⟨rfl, yesT ⟨_, rfl, dg, rfl, .inl ⟨_, .inl hdg'⟩, _, rfl, _, rfl, _, DGet.k (k := Sum.inr y) hdg', ?_⟩⟩
      rw [look_get]
      refine ⟨_, hL, ?_, fun b o e => (upd_ne (ne_of_none e nL2)).trans (sm b o e), ?_⟩
      · rw [List.length_map, List.length_map, List.length_take]
        exact small1000 (by omega)
      · rw [upd_same, take_sn hy, List.map_append, List.map_append]
        rfl
    rintro H4 ⟨s4, hL2⟩
    rw [List.length_map, List.take_length] at hL2
    refine ⟨L2, _, rfl, SqL.of hL2, (by rw [List.length_map]; omega), fun G1 d2 pm2 so2 nd2 => ⟨d2, _, rfl, .inl ⟨SqL.of upd_same, fun t2 nt2 => ?_⟩⟩⟩
    have s5 := (@same_new _ _ (.lst (G1.map V.str)) nd2).trans (@same_new _ _ (.tup (G1.map V.str)) nt2)
    have e5 : (upd (upd H4 d2 (.lst (G1.map V.str))) t2 (.tup (G1.map V.str))) t2 = some (.tup (G1.map V.str)) := upd_same
    generalize upd (upd H4 d2 (.lst (G1.map V.str))) t2 (.tup (G1.map V.str)) = H5 at s5 e5
    have s25 := s2.trans (s3.trans (s4.trans s5))
    have hR5 := s25 _ _ hR
    have hq5 : ∀ x ∈ qr, H5 x.1 = some (.tup x.2.vals) := fun x hx => s25 _ _ (hq x hx)
    refine ⟨_, rfl, _, rfl, _, rfl, R, qr.map prV, rfl, rfl, SqL.of (by rw [hR5, List.map_map]; rfl), ?_, .inl ?_, ?_, ?_, fun a3 H10 na3 s6 h6 => ⟨a3, _, rfl, .inl ⟨SqL.of h6, fun t3 nt3 => ?_⟩⟩⟩
    · intro d hd d' hd'
      rw [List.map_map] at hd hd'
      obtain ⟨x, _, rfl⟩ := List.mem_map.mp hd
      obtain ⟨y, _, rfl⟩ := List.mem_map.mp hd'
      exact ord_alike x.2 y.2
    · intro d hd
      rw [List.map_map] at hd
      obtain ⟨x, _, rfl⟩ := List.mem_map.mp hd
      exact ⟨_, _, rfl⟩
    · intro e he
      obtain ⟨x, _, rfl⟩ := List.mem_map.mp he
      show 1 ≤ 60
      decide
    · intro e he H1 sm Q1 hq'
      obtain ⟨x, hx, rfl⟩ := List.mem_map.mp he
      exact ⟨x.1, x.2, rfl, sm _ _ (hq5 x hx), fun tp H2 sm2 h2 => hq' _ _ sm2 (ord_dp h2)⟩
    · refine ⟨(by show 3 ≤ sizeLine; decide), fun h' nh' => ?_⟩
      have ek : (keyed (qr.map prV)).map (fun x => x.1) = (sortE qr).map fun x => V.ref x.1 := by
        rw [keyed_prV, List.map_map]
        rfl
      have s7 := @same_new _ _ (.tup ((keyed (qr.map prV)).map fun x => x.1)) nt3
      have e7 : (upd H10 t3 (.tup ((keyed (qr.map prV)).map fun x => x.1))) t3 = some (.tup ((sortE qr).map fun x => V.ref x.1)) := by rw [upd_same, ek]
      generalize upd H10 t3 (.tup ((keyed (qr.map prV)).map fun x => x.1)) = H11 at s7 e7 nh' ⊢
      have s8 := @same_new _ _ (.tup [V.ref t1, .ref t2, .ref t3]) nh'
      have s58 := s6.trans (s7.trans s8)
      refine q h' P1 G1 _ (s1.trans (s25.trans s58)) pm1 so1 pm2 so2 ⟨t1, t2, t3, (sortE qr).map (·.1), upd_same, s58 _ _ (s5 _ _ (s4 _ _ e3)), s58 _ _ e5, ?_, ?_⟩
      · rw [refs_fst]
        exact s8 _ _ e7
      · have hs : ∀ x ∈ sortE qr, (upd H11 h' (.tup [V.ref t1, .ref t2, .ref t3])) x.1 = some (.tup x.2.vals) := fun x hx => s58 _ _ (hq5 x ((sortE_p qr).mem_iff.mp hx))
        have := ents_pairs hs
        rw [sortE_n, eq] at this
        exact this
end
def Prk (H : Hp) : List Addr → List (Key × V) → Prop := Paired fun a kv => H a = some (.tup [kV kv.1, kv.2])
theorem Prk.on {H H' : Hp} (k : TK H H') {as : List Addr} {ys : List (Key × V)} (h : Prk H as ys) : Prk H' as ys := Paired.mapP h fun a y e => k _ _ e
theorem Prk.kv {K : PySem.W.Frag} {H : Hp} {as : List Addr} {ys : List (Key × V)} (h : Prk H as ys) : Paired (fun p (kv : Key × V) => SqT K H p [kV kv.1, kv.2]) as ys := Paired.mapP h fun a y e => SqT.of e
theorem get_of_at {α : Type} {xs : List α} {j : Nat} (h : j < xs.length) : ∃ x, xs[j]? = some x ∧ x ∈ xs := ⟨xs[j], List.getElem?_eq_getElem h, List.getElem_mem h⟩
/-- one more at the end of a list that is made -/
theorem lc_put {H H' : Hp} {D t : Addr} {as : List Addr} {kvs : List (Key × V)} {x y : V} (sm : Same H H') (nD : H D = none) (hD : H' D = some (.lst (as.map V.ref))) (pr : Prk H' as kvs) (nt : H' t = none) (k : Key) (e : [kV k, y] = [x, y]) :
    Same H (upd (upd H' t (.tup [x, y])) D (.lst (as.map V.ref ++ [V.ref t]))) ∧ ∃ as' : List Addr, (upd (upd H' t (.tup [x, y])) D (.lst (as.map V.ref ++ [V.ref t]))) D = some (.lst (as'.map V.ref)) ∧ Prk (upd (upd H' t (.tup [x, y])) D (.lst (as.map V.ref ++ [V.ref t]))) as' (kvs ++ [(k, y)]) := by
  refine ⟨fun b o e => (upd_ne (ne_of_none e nD)).trans ((same_new nt) b o (sm b o e)), as ++ [t], ?_, ?_⟩
  · rw [upd_same, List.map_append]
    rfl
  · have ntD : t ≠ D := fun z => by rw [z, hD] at nt; cases nt
    refine Paired.snoc (pr.on fun b xs e => ?_) ((upd_ne ntD).trans ?_)
    · rw [upd_ne (ne_of e hD (by intro z; cases z))]
      exact same_new nt _ _ e
    · rw [upd_same, e]
/-! ### the names taken back -/
def backD (dk : List (Str × Str)) (ns : List Str) : List (Str × Str) := ns.filterMap fun n => (lookO dk n).map fun z => (z, n)
def spBack : Sp := fun vs H Q _ => ∃ (d l : Addr) (dk : List (Str × Str)) (ns : List Str), vs = [.ref d, .ref l] ∧ H d = some (.dK (kvD dk)) ∧ LT H l (ns.map V.str) ∧ ((backD dk ns).map (·.1)).Nodup ∧ ns.length ≤ 900 ∧
  ∀ (p : Addr) (H' : Hp), Same H H' → H' p = some (.dK (kvD (backD dk ns))) → Q (.ref p) H'
theorem merge_nd : ∀ {more acc : List (Key × V)}, ((acc ++ more).map (·.1)).Nodup → mergeK acc more = acc ++ more
  | [], acc, _ => by
    rw [List.append_nil]
    rfl
  | kv :: r, acc, h => by
    have nk : valV acc kv.1 = none := by
      cases e : valV acc kv.1 with
      | none => rfl
      | some v =>
        have := valV_in e
        rw [List.map_append, List.nodup_append] at h
        exact absurd rfl (h.2.2 _ this kv.1 List.mem_cons_self)
    show mergeK (putK acc kv.1 kv.2) r = _
    rw [putK_new _ nk, merge_nd (by rw [List.append_assoc]; exact h), List.append_assoc]
    rfl
theorem kvD_merge {dk : List (Str × Str)} (nd : (dk.map (·.1)).Nodup) : mergeK [] (kvD dk) = kvD dk := by
  refine merge_nd (acc := []) ?_
  rw [List.nil_append]
  have e : (kvD dk).map (·.1) = (dk.map (·.1)).map fun n => (Sum.inr n : Key) := by
    unfold kvD
    rw [List.map_map, List.map_map]
    rfl
  rw [e]
  exact List.Pairwise.map (R := fun a b => a ≠ b) _ (fun a b z q => z (Sum.inr.inj q)) nd
theorem backD_snoc (dk : List (Str × Str)) (ns : List Str) (n : Str) : backD dk (ns ++ [n]) = backD dk ns ++ (match lookO dk n with | some z => [(z, n)] | none => []) := by
  unfold backD
  rw [List.filterMap_append]
  congr 1
  cases e : lookO dk n <;> simp [e]
section
variable {P : Program} {w : World} {K : PySem.W.Frag} {mg : Str → Option Value} {base : Heap}
abbrev sBackN : List Str := ["_law_wanted", "_law_names", "_law_name_here"]
theorem sc_sBack : FnScope sBackN ["_law_wanted", "_law_names"] (defScope sBack) := ⟨rfl, rfl, rfl, by decide +kernel, rfl, by decide +kernel, by decide +kernel⟩
theorem ok_back {f : Addr} {fd : FuncData} (F : Fun K "_law_back" "_law_back" sBack f fd) (md : mg "dict" = none) : FnOk P w K mg base CX0 1 f fd ["_law_wanted", "_law_names"] spBack := by
  refine F.ok sc_sBack (fun vs H Q E h => ?_) (fun cdv A outer s H vs Q E hr h => ?_)
  · obtain ⟨d, l, dk, ns, rfl, _⟩ := h
    rfl
  · obtain ⟨d, l, dk, ns, rfl, hd, hl, nd0, ln, q⟩ := h
    have hu := hu_of hr
    have nd := sc_sBack.nd
    refine ⟨_, pss_one (ps_ret (pe_callTy (call_dictP rfl) (by rfl) md (by decide +kernel) (pa_cons (pe_lc (own := [("_law_name_here", 2)]) (g := gName 2) (tt := tB (tDIn (tVar 2) (tVar 0))) (te := tTup (tCons (tDGet (tVar 0) (tVar 2)) (tCons (tVar 2) tNil))) rfl nd (pi_seq (pv 1)) (blkOk_by (N := sBackN) (sc := defScope sBack) (by decide +kernel)) (fun _ _ _ _ _ => (pg_name (i := 2) nd rfl (Or.inl rfl))) (fun _ _ _ _ _ => (pts_one (pt_cmp (pc_din hu (pv 2) (pv 0))))) (fun _ _ _ _ _ => (pe_tup (pa_cons (pe_dget hu (pv 0) (pv 2) (fun _ _ => rfl)) (pa_cons (pv 2) pa_nil))))) pa_nil))), ?_⟩
    have stp : ∀ (D : Addr) (i : Nat) (x : V) (H' : Hp), H D = none → (ns.map V.str)[i]? = some x → (Same H H' ∧ ∃ as : List Addr, H' D = some (.lst (as.map V.ref)) ∧ Prk H' as (kvD (backD dk (ns.take i)))) →
        gName 2 x (wipe (L2.start sBackN [V.ref d, V.ref l]) [2]) H' fun σ2 H2 => wipe σ2 [2] = wipe (L2.start sBackN [V.ref d, V.ref l]) [2] ∧ tB (tDIn (tVar 2) (tVar 0)) σ2 H2 fun b H3 => if b = true then tTup (tCons (tDGet (tVar 0) (tVar 2)) (tCons (tVar 2) tNil)) σ2 H3 fun y H4 => ∃ acc, H4 D = some (.lst acc) ∧ acc.length < sizeLine ∧ (Same H (upd H4 D (.lst (acc ++ [y]))) ∧ ∃ as : List Addr, (upd H4 D (.lst (acc ++ [y]))) D = some (.lst (as.map V.ref)) ∧ Prk (upd H4 D (.lst (acc ++ [y]))) as (kvD (backD dk (ns.take (i + 1))))) else (Same H H3 ∧ ∃ as : List Addr, H3 D = some (.lst (as.map V.ref)) ∧ Prk H3 as (kvD (backD dk (ns.take (i + 1))))) := by
      rintro D i x H' nD hx ⟨sm, as, hD, pk⟩
      rw [List.getElem?_map] at hx
      obtain ⟨y, hy, rfl⟩ := Option.map_eq_some_iff.mp hx
      have hd' := sm _ _ hd
      have g := DGet.k (k := Sum.inr y) hd'
      rw [valV_kvD] at g
      have il := (List.getElem?_eq_some_iff.mp hy).1
      have la : as.length ≤ i := by
        have := pk.length
        unfold kvD at this
        rw [List.length_map] at this
        rw [this]
        exact Nat.le_trans (List.length_filterMap_le _ _) (by rw [List.length_take]; omega)
      refine ⟨rfl, _, rfl, _, rfl, d, _, rfl, g, ?_⟩
      rw [take_sn hy, backD_snoc]
      cases e : lookO dk y with
      | none =>
        refine ⟨_, rfl, iteF ⟨sm, as, hD, ?_⟩⟩
        rw [List.append_nil]
        exact pk
      | some z =>
        rw [e] at g
        refine ⟨_, rfl, iteT ⟨_, rfl, _, rfl, d, _, rfl, g, _, rfl, (by show 2 ≤ sizeLine; decide), fun t nt => ?_⟩⟩
        have sn := @same_new _ _ (.tup [V.str z, .str y]) nt
        have ntD : t ≠ D := fun q => by rw [q, hD] at nt; cases nt
        refine ⟨_, sn _ _ hD, ?_, fun b o e => (upd_ne (ne_of_none e nD)).trans (sn _ _ (sm b o e)), as ++ [t], ?_, ?_⟩
        · rw [List.length_map]
          exact small1000 (by omega)
        · rw [upd_same, List.map_append]
          rfl
        · unfold kvD at pk ⊢
          rw [List.map_append]
          refine Paired.snoc (pk.on fun b xs e => ?_) ((upd_ne ntD).trans upd_same)
          rw [upd_ne (ne_of e hD (by intro z; cases z))]
          exact sn _ _ e
    have fin : ∀ (D : Addr) (H2 : Hp), (Same H H2 ∧ ∃ as : List Addr, H2 D = some (.lst (as.map V.ref)) ∧ Prk H2 as (kvD (backD dk (ns.take (ns.map V.str).length)))) → ∃ a ps kvs, V.ref D = V.ref a ∧ SqL K H2 a (List.map V.ref ps) ∧ Paired (fun p (kv : Key × V) => SqT K H2 p [kV kv.1, kv.2]) ps kvs ∧ ∀ p, H2 p = none → Q (.ref p) (upd H2 p (.dK (mergeK [] kvs))) := by
      rintro D H2 ⟨sm, as, hD, pk⟩
      rw [List.length_map, List.take_length] at pk
      refine ⟨D, as, _, rfl, SqL.of hD, pk.kv, fun p np => ?_⟩
      rw [kvD_merge nd0]
      exact q p _ (sm.trans (same_new np)) upd_same
    rcases hl with hl | hl
    · refine .inl ⟨_, rfl, l, rfl, ⟨_, SqL.of hl⟩, fun D nD => ?_⟩
      refine lc_list (K := K) (a := l) (xs := ns.map V.str) (fun i H' => Same H H' ∧ ∃ as : List Addr, H' D = some (.lst (as.map V.ref)) ∧ Prk H' as (kvD (backD dk (ns.take i)))) ⟨same_new nD, [], upd_same, .nil⟩ (fun i H' _ h => SqL.of (h.1 _ _ hl)) (fun i x H' hx h => stp D i x H' nD hx h) fun H2 h => ?_
      obtain ⟨a, ps, kvs, e, r⟩ := fin D H2 h
      exact ⟨a, ps, kvs, congrArg (fun z => [z]) e, r⟩
    · refine .inr ⟨_, rfl, l, rfl, ⟨_, SqT.of hl⟩, fun D nD => ?_⟩
      refine lc_tup (K := K) (a := l) (xs := ns.map V.str) (fun i H' => Same H H' ∧ ∃ as : List Addr, H' D = some (.lst (as.map V.ref)) ∧ Prk H' as (kvD (backD dk (ns.take i)))) ⟨same_new nD, [], upd_same, .nil⟩ (fun i H' _ h => SqT.of (h.1 _ _ hl)) (fun i x H' hx h => stp D i x H' nD hx h) fun H2 h => ?_
      obtain ⟨a, ps, kvs, e, r⟩ := fin D H2 h
      exact ⟨a, ps, kvs, congrArg (fun z => [z]) e, r⟩
end
/-! ### list(zip(xs, ys)), two lists of one length -/
namespace LzR
open PySem PySem.Spec PyProof.Rows L2 PySem.W
theorem zip_nolen : typeLookup (.type "zip") "__len__" = pure none := am_miss_of_fast (by decide +kernel)
theorem zip_nohint : typeLookup (.type "zip") "__length_hint__" = pure none := am_miss_of_fast (by decide +kernel)
/-- how the zip stands before turn i -/
structure ZSt (h : Heap) (z TI TO i1 i2 l1 l2 S : Addr) (xs ys : Array Value) (i : Nat) : Prop where
  ti : IsPair h TI (.ref i1) (.ref i2)
  h1 : h.IsListIter i1 l1 i
  h2 : h.IsListIter i2 l2 i
  g1 : h.IsList l1 xs
  g2 : h.IsList l2 ys
  out : (IsZip h z TI TO .none ∧ ∃ a b, IsPair h TO a b) ∨ ∃ T f oT, IsZipHeld h z TI TO T f ∧ h.get? T = some oT ∧ T ≠ z ∧ T ≠ i1 ∧ T ≠ i2 ∧ T ≠ S
structure Off (S z TI TO i1 i2 l1 l2 : Addr) : Prop where
  z : z ≠ S
  ti : TI ≠ S
  to : TO ≠ S
  i1 : i1 ≠ S
  i2 : i2 ≠ S
  l1 : l1 ≠ S
  l2 : l2 ≠ S
section
variable {z TI TO i1 i2 l1 l2 S : Addr} {xs ys : Array Value} {i : Nat} {h h' : Heap}
theorem ZSt.keep (x : ZSt h z TI TO i1 i2 l1 l2 S xs ys i) (o : Off S z TI TO i1 i2 l1 l2) (k : ∀ b u, b ≠ S → h.get? b = some u → h'.get? b = some u) : ZSt h' z TI TO i1 i2 l1 l2 S xs ys i := by
  refine ⟨k _ _ o.ti x.ti, x.h1.at fun u e => k _ u o.i1 e, x.h2.at fun u e => k _ u o.i2 e, x.g1.at fun u e => k _ u o.l1 e, x.g2.at fun u e => k _ u o.l2 e, ?_⟩
  rcases x.out with ⟨hz, a, b, e⟩ | ⟨T, f, oT, hz, hT, r1, r2, r3, r4⟩
  · exact .inl ⟨k _ _ o.z hz, a, b, k _ _ o.to e⟩
  · exact .inr ⟨T, f, oT, k _ _ o.z hz, k _ _ r4 hT, r1, r2, r3, r4⟩
theorem ZSt.ty {s : Shared} (x : ZSt s.heap z TI TO i1 i2 l1 l2 S xs ys i) : s.TypeIs (.ref z) "zip" := by
  rcases x.out with ⟨hz, _⟩ | ⟨T, f, oT, hz, _⟩
  · exact ⟨_, hz, rfl⟩
  · exact ⟨_, hz, rfl⟩
variable {prog : Program} {w : World} {A : Around} {E : Value → Shared → Prop} {s : Shared} {Q : Option Value → Shared → Prop}
theorem z_item (D : ZipApart z TI TO i1 i2 l1 l2) (x : ZSt s.heap z TI TO i1 i2 l1 l2 S xs ys i) (hS : S < s.heap.objs.size) {a b : Value} (ha : xs[i]? = some a) (hb : ys[i]? = some b)
    (hQ : ∀ h', ZSt h' z TI TO i1 i2 l1 l2 S xs ys (i + 1) → IsPair h' s.heap.objs.size a b → (∀ c u, c ≠ z → c ≠ TO → c ≠ i1 → c ≠ i2 → s.heap.get? c = some u → h'.get? c = some u) → Q (some (.ref s.heap.objs.size)) { s with heap := h' }) :
    wpAny (model prog w) A (pyNext (.ref z)) Q E s := by
  have nw : ∀ {c u}, s.heap.get? c = some u → s.heap.objs.size ≠ c := fun e => Nat.ne_of_gt (Heap.lt_size e)
  have n1 : s.heap.objs.size ≠ i1 := let ⟨_, e, _⟩ := x.h1; nw e
  have n2 : s.heap.objs.size ≠ i2 := let ⟨_, e, _⟩ := x.h2; nw e
  rcases x.out with ⟨hz, c1, c2, hTO⟩ | ⟨T, f, oT, hz, hT, r1, r2, r3, r4⟩
  · exact wpAny_pyNext_zip_item D hz x.ti hTO x.h1 x.h2 x.g1 x.g2 ha hb fun h' a1 a2 a3 a4 a5 a6 k => hQ h' ⟨k _ _ D.TIz D.TITO D.TIi1 D.TIi2 x.ti, a3, a4, x.g1.at fun u e => k _ u D.l1z D.l1TO D.l1i1 D.l1i2 e, x.g2.at fun u e => k _ u D.l2z D.l2TO D.l2i1 D.l2i2 e,
      .inr ⟨s.heap.objs.size, false, _, a1, a5, nw hz, n1, n2, Nat.ne_of_gt hS⟩⟩ a5 k
  · exact wpAny_pyNext_zip_item_held D hz hT x.ti x.h1 x.h2 x.g1 x.g2 ha hb fun h' a1 a3 a4 a5 a6 k => hQ h' ⟨k _ _ D.TIz D.TIi1 D.TIi2 x.ti, a3, a4, x.g1.at fun u e => k _ u D.l1z D.l1i1 D.l1i2 e, x.g2.at fun u e => k _ u D.l2z D.l2i1 D.l2i2 e,
      .inr ⟨T, true, oT, a1, k _ _ r1 r2 r3 hT, r1, r2, r3, r4⟩⟩ a5 fun c u m1 _ m3 m4 e => k c u m1 m3 m4 e
theorem z_done (hh : A.handled = none) (D : ZipApart z TI TO i1 i2 l1 l2) (x : ZSt s.heap z TI TO i1 i2 l1 l2 S xs ys i) (he : xs[i]? = none ∨ ys[i]? = none)
    (hQ : ∀ h', (∀ c u, c ≠ z → c ≠ TO → c ≠ i1 → c ≠ i2 → s.heap.get? c = some u → h'.get? c = some u) → Q none { s with heap := h' }) : wpAny (model prog w) A (pyNext (.ref z)) Q E s := by
  rcases x.out with ⟨hz, c1, c2, hTO⟩ | ⟨T, f, oT, hz, hT, r1, r2, r3, r4⟩
  · exact wpAny_pyNext_zip_end hh D hz x.ti hTO x.h1 x.h2 x.g1 x.g2 he hQ
  · exact wpAny_pyNext_zip_end_held hh D hz hT x.ti x.h1 x.h2 x.g1 x.g2 he fun h' k => hQ h' fun c u m1 _ m3 m4 e => k c u m1 m3 m4 e
end
abbrev lsZ (acc : Array Value) (c : Nat) : Obj := { cls := .type "list", dict := none, data := .seq acc c, slots := #[] }
section
variable {z TI TO i1 i2 l1 l2 S lw : Addr} {xs ys : Array Value} {K : Type} [DecidableEq K] {prog : Program} {w : World} {knd : KeyKind prog w K} {A : Around} {kvs : List (K × Value)}
/-- what the turns lay -/
theorem z_loop {R : Result → Shared → Prop} (hh : A.handled = none) (D : ZipApart z TI TO i1 i2 l1 l2) (o : Off S z TI TO i1 i2 l1 l2) (hv : ∀ (j : Nat) k v, kvs[j]? = some (k, v) → ∃ key, xs[j]? = some key ∧ knd.is k key = true ∧ ys[j]? = some v) (hx : xs.size = kvs.length) (big : kvs.length ≤ 1000) (low : ∀ c, c = z ∨ c = TO ∨ c = i1 ∨ c = i2 → c ≤ lw) (res : Value) {h0 : Heap} {s : Shared}
    (hR : ∀ h' tk acc c as, (∀ b u, b ≠ S → b ≠ z → b ≠ TO → b ≠ i1 → b ≠ i2 → h0.get? b = some u → h'.get? b = some u) → h'.get? S = some (lsZ acc c) → as.length = kvs.length → KdxG knd kvs lw h' as → acc.toList = as.map Value.ref → R (.ok (.ret res)) { s with heap := h', toks := tk }) :
    ∀ (k i : Nat) (h : Heap) (tk c : Nat) (acc : Array Value) (as : List Addr), kvs.length - i = k → i ≤ kvs.length → ZSt h z TI TO i1 i2 l1 l2 S xs ys i → (∀ b u, b ≠ S → b ≠ z → b ≠ TO → b ≠ i1 → b ≠ i2 → h0.get? b = some u → h.get? b = some u) →
      h.get? S = some (lsZ acc c) → acc.toList = as.map Value.ref → as.length = i → KdxG knd kvs lw h as → S ≤ lw → lw < h.objs.size → codeAny (model prog w) A (.builtin "list.extend.loop" ⟨[.ref S, .ref z, res], []⟩) R { s with heap := h, toks := tk } := by
  intro k
  induction k with
  | zero =>
    intro i h tk c acc as hk hi st kp hS hacc hal hG hSl hlo
    refine codeAny_builtin PySem.F.entry_extend_loop (Around.under_plainId (A := A) PySem.F.plain_extend_loop _ ▸ ?_)
    show wpAny _ A.in1 (pyNext (.ref z) >>= _) _ _ _
    refine wpAny_bind (z_done (s := { s with heap := h, toks := tk }) (A := A.in1) hh D st (.inl (Array.getElem?_eq_none (by omega))) fun h' he => wpAny_pure (hR h' tk acc c as (fun b u m1 m2 m3 m4 m5 e => he b u m2 m3 m4 m5 (kp b u m1 m2 m3 m4 m5 e)) (he S _ (Ne.symm o.z) (Ne.symm o.to) (Ne.symm o.i1) (Ne.symm o.i2) hS) (by omega) ⟨hG.rise, hG.above, fun j a hj => ?_⟩ hacc))
    obtain ⟨key, kk, x, e1, e2, e3⟩ := hG.pairs j a hj
    have ab := hG.above a (List.mem_of_getElem? hj)
    have off : ∀ c, c = z ∨ c = TO ∨ c = i1 ∨ c = i2 → a ≠ c := fun c hc => Nat.ne_of_gt (Nat.lt_of_le_of_lt (low c hc) ab)
    exact ⟨key, kk, x, e1, e2, he a _ (off z (.inl rfl)) (off TO (.inr (.inl rfl))) (off i1 (.inr (.inr (.inl rfl)))) (off i2 (.inr (.inr (.inr rfl)))) e3⟩
  | succ k ih =>
    intro i h tk c acc as hk hi st kp hS hacc hal hG hSl hlo
    have hlt : i < kvs.length := by omega
    obtain ⟨⟨kk, x⟩, hix⟩ : ∃ p, kvs[i]? = some p := ⟨kvs[i], List.getElem?_eq_getElem hlt⟩
    obtain ⟨key, k1, k2, k3⟩ := hv i kk x hix
    have sz : acc.size = i := by rw [← Array.length_toList, hacc, List.length_map, hal]
    have hSs : S < h.objs.size := Heap.lt_size hS
    refine codeAny_builtin PySem.F.entry_extend_loop (Around.under_plainId (A := A) PySem.F.plain_extend_loop _ ▸ ?_)
    show wpAny _ A.in1 (pyNext (.ref z) >>= _) _ _ _
    refine wpAny_bind (z_item (s := { s with heap := h, toks := tk }) D st hSs k1 k3 fun h' st' hp he => ?_)
    have hS' := he S _ (Ne.symm o.z) (Ne.symm o.to) (Ne.symm o.i1) (Ne.symm o.i2) hS
    have up : ∀ b u, b ≠ S → h'.get? b = some u → (h'.update S (Obj.mapSeq (·.push (Value.ref h.objs.size)))).get? b = some u := fun b u nb e => (Heap.get?_update_other _ _ (Ne.symm nb)).trans e
    have hp2 : (h'.update S (Obj.mapSeq (·.push (Value.ref h.objs.size)))).get? h.objs.size = some { cls := .type "tuple", data := .seq #[key, x] } := up _ _ (Nat.ne_of_gt hSs) hp
    show wpAny _ A.in1 (updateSeq S (·.push (Value.ref h.objs.size)) >>= _) _ _ _
    refine wpAny_bind (wpAny_updateSeq hS' rfl (wpAny_pure ⟨plainId_quiet PySem.F.plain_extend_loop _, ih (i + 1) _ tk _ (acc.push (Value.ref h.objs.size)) (as ++ [h.objs.size]) (by omega) hlt (st'.keep o up) (fun b u m1 m2 m3 m4 m5 e => up b u m1 (he b u m2 m3 m4 m5 (kp b u m1 m2 m3 m4 m5 e))) (Heap.get?_update_self _ hS' rfl)
      (by rw [Array.toList_push, hacc, List.map_append]; rfl) (by rw [List.length_append, hal]; rfl) ⟨?_, ?_, ?_⟩ hSl (Nat.lt_trans hlo (Heap.lt_size hp2))⟩) (by rw [sz]; exact Nat.le_of_lt (small1000 (by omega))) (by show (acc.push (Value.ref h.objs.size)).size ≤ sizeLine + 1; rw [Array.size_push, sz]; have := small1000 (n := i) (by omega); omega))
    · refine List.pairwise_append.mpr ⟨hG.rise, List.pairwise_singleton _ _, fun a ha b hb => ?_⟩
      rw [List.mem_singleton.mp hb]
      exact hG.there ha
    · intro a ha
      rcases List.mem_append.mp ha with ha | ha
      · exact hG.above a ha
      · rw [List.mem_singleton.mp ha]
        exact hlo
    · intro j b hj
      by_cases h1 : j < as.length
      · rw [List.getElem?_append_left h1] at hj
        obtain ⟨key', k', x', e1, e2, e3⟩ := hG.pairs j b hj
        have ab := hG.above b (List.mem_of_getElem? hj)
        have off : ∀ c, c = z ∨ c = TO ∨ c = i1 ∨ c = i2 → b ≠ c := fun c hc => Nat.ne_of_gt (Nat.lt_of_le_of_lt (low c hc) ab)
        exact ⟨key', k', x', e1, e2, up b _ (Nat.ne_of_gt (Nat.lt_of_le_of_lt hSl ab)) (he b _ (off z (.inl rfl)) (off TO (.inr (.inl rfl))) (off i1 (.inr (.inr (.inl rfl)))) (off i2 (.inr (.inr (.inr rfl)))) e3)⟩
      · by_cases h2 : j = as.length
        · rw [h2, List.getElem?_append_right (Nat.le_refl _), Nat.sub_self] at hj
          have eb : h.objs.size = b := Option.some.inj hj
          rw [← eb]
          exact ⟨key, kk, x, by rw [h2, hal]; exact hix, k2, hp2⟩
        · rw [List.getElem?_eq_none (by rw [List.length_append, List.length_singleton]; omega)] at hj
          cases hj
/-- list(z) -/
theorem call_list_zip {E : Value → Shared → Prop} {s : Shared} {Q : Value → Shared → Prop} (hh : A.handled = none) (D : ZipApart z TI TO i1 i2 l1 l2) (o : Off s.heap.objs.size z TI TO i1 i2 l1 l2) (hz : IsZip s.heap z TI TO .none) (st : ZSt s.heap z TI TO i1 i2 l1 l2 s.heap.objs.size xs ys 0) (hv : ∀ (j : Nat) k v, kvs[j]? = some (k, v) → ∃ key, xs[j]? = some key ∧ knd.is k key = true ∧ ys[j]? = some v) (hx : xs.size = kvs.length) (big : kvs.length ≤ 1000)
    (low : ∀ c, c = z ∨ c = TO ∨ c = i1 ∨ c = i2 → c ≤ s.heap.objs.size)
    (hQ : ∀ h' tk acc c as, (∀ b u, b ≠ z → b ≠ TO → b ≠ i1 → b ≠ i2 → s.heap.get? b = some u → h'.get? b = some u) → h'.get? s.heap.objs.size = some (lsZ acc c) → as.length = kvs.length → KdxG knd kvs s.heap.objs.size h' as → acc.toList = as.map Value.ref → Q (.ref s.heap.objs.size) { s with heap := h', toks := tk }) :
    wpAny (model prog w) A (call (.type "list") [.ref z]) Q E s := by
  refine callType_codes (Q₁ := fun obj s₁ => obj = .ref s.heap.objs.size ∧ s₁ = { s with heap := s.heap.push { cls := .type "list", data := .seq #[] } }) PySem.F.called_list (PySem.F.typeCall_list_1 _) PySem.F.entry_list_init (code_list_new _ ⟨rfl, rfl⟩) fun obj s₁ h₁ => ?_
  obtain ⟨rfl, rfl⟩ := h₁
  have hS : (s.heap.push { cls := .type "list", data := .seq #[] }).get? s.heap.objs.size = some { cls := .type "list", data := .seq #[] } := Heap.get?_push_size _ rfl
  have st1 : ZSt (s.heap.push { cls := .type "list", data := .seq #[] }) z TI TO i1 i2 l1 l2 s.heap.objs.size xs ys 0 := st.keep o fun b u _ e => Heap.get?_push_of_some _ e
  have k1 : ∀ b u, s.heap.get? b = some u → (s.heap.push { cls := .type "list", data := .seq #[] }).get? b = some u := fun b u e => Heap.get?_push_of_some _ e
  refine ⟨⟨_, hS, rfl⟩, PySem.F.args_list_init_2 _ _, ?_⟩
  generalize s.heap.push { cls := .type "list", data := .seq #[] } = h1 at hS st1 k1 ⊢
  show wpAny _ _ (do let old ← Builtin.List.listItems (.ref s.heap.objs.size); Builtin.List.listUpdate (.ref s.heap.objs.size) (fun _ => #[]); letGo old.toList.reverse; Builtin.List.listExtendWith (.ref s.heap.objs.size) (.ref z) .none) _ _ _
  refine wpAny_bind ?_
  unfold Builtin.List.listItems
  refine wpAny_bind (wpAny_seqItems hS rfl (wpAny_pure ?_))
  show wpAny _ _ (updateSeq s.heap.objs.size (fun _ => #[]) >>= fun _ => letGo (#[] : Array Value).toList.reverse >>= fun _ => Builtin.List.listExtendWith (.ref s.heap.objs.size) (.ref z) .none) _ _ _
  refine wpAny_bind (wpAny_updateSeq hS rfl ?_)
  have hS2 := Heap.get?_update_self (Obj.mapSeq (fun _ => (#[] : Array Value))) hS rfl
  have k2 : ∀ b u, b ≠ s.heap.objs.size → h1.get? b = some u → (h1.update s.heap.objs.size (Obj.mapSeq (fun _ => (#[] : Array Value)))).get? b = some u := fun b u nb e => (Heap.get?_update_other _ _ (Ne.symm nb)).trans e
  have st2 := st1.keep o k2
  refine wpAny_bind (wpAny_letGo ?_)
  generalize h1.update s.heap.objs.size (Obj.mapSeq (fun _ => (#[] : Array Value))) = h2 at hS2 k2 st2 ⊢
  unfold Builtin.List.listExtendWith
  refine wpAny_bind (wpAny_typeOf (T := "zip") st2.ty ?_)
  simp only [show Builtin.List.listSameRef (.ref s.heap.objs.size) (.ref z) = false by simp [Builtin.List.listSameRef, Ne.symm o.z], show (Value.type "zip" == Value.type "list") = false by decide, show (Value.type "zip" == Value.type "tuple") = false by decide, Bool.or_false, Bool.false_eq_true, if_false]
  refine wpAny_bind (wpAny_pyIter_zip (k2 _ _ o.z (k1 _ _ hz)) ?_)
  refine wpAny_bind (wpAny_holding ?_)
  unfold Builtin.List.listLengthHint
  refine wpAny_bind (wpAny_specialOf (T := "zip") st2.ty zip_nolen ?_)
  show wpAny _ _ (specialOf (Value.ref z) (Str.ofString "__length_hint__") >>= _) _ _ _
  refine wpAny_bind (wpAny_specialOf (T := "zip") st2.ty zip_nohint (wpAny_pure ?_))
  show wpAny _ _ (rule "list.extend.makes-room" >>= fun _ => Builtin.List.listTouch (.ref s.heap.objs.size) >>= fun _ => again (.builtin "list.extend.loop" ⟨[.ref s.heap.objs.size, .ref z, .none], []⟩)) _ _ _
  refine wpAny_bind (wpAny_rule (wpAny_bind ?_))
  show wpAny _ _ (updateSeq s.heap.objs.size (·.push .none) >>= fun _ => updateSeq s.heap.objs.size (·.pop)) _ _ _
  refine wpAny_bind (wpAny_updateSeq hS2 rfl ?_)
  have hS3 := Heap.get?_update_self (Obj.mapSeq (·.push Value.none)) hS2 rfl
  have k3 : ∀ b u, b ≠ s.heap.objs.size → h2.get? b = some u → (h2.update s.heap.objs.size (Obj.mapSeq (·.push Value.none))).get? b = some u := fun b u nb e => (Heap.get?_update_other _ _ (Ne.symm nb)).trans e
  have st3 := st2.keep o k3
  generalize h2.update s.heap.objs.size (Obj.mapSeq (·.push Value.none)) = h3 at hS3 k3 st3 ⊢
  refine wpAny_updateSeq (hz := by seq_fits) hS3 rfl ?_
  have hS4 := Heap.get?_update_self (Obj.mapSeq (·.pop)) hS3 rfl
  have k4 : ∀ b u, b ≠ s.heap.objs.size → h3.get? b = some u → (h3.update s.heap.objs.size (Obj.mapSeq (·.pop))).get? b = some u := fun b u nb e => (Heap.get?_update_other _ _ (Ne.symm nb)).trans e
  have st4 := st3.keep o k4
  have z4 : z < (h3.update s.heap.objs.size (Obj.mapSeq (·.pop))).objs.size := Heap.lt_size (k4 _ _ o.z (k3 _ _ o.z (k2 _ _ o.z (k1 _ _ hz))))
  have lS : s.heap.objs.size < (h3.update s.heap.objs.size (Obj.mapSeq (·.pop))).objs.size := Heap.lt_size hS4
  generalize h3.update s.heap.objs.size (Obj.mapSeq (·.pop)) = h4 at hS4 k4 st4 lS ⊢
  refine wpAny_pure ⟨plainId_quiet PySem.F.plain_extend_loop _, z_loop (A := A.in1) (s := s) (lw := s.heap.objs.size) (h0 := s.heap) (show A.in1.handled = none from hh) D o hv hx big low .none (fun h' tk acc c as kp hS' hl hG hacc => ⟨rfl, hQ h' tk acc c as (fun b u m2 m3 m4 m5 e => kp b u (Nat.ne_of_lt (Heap.lt_size e)) m2 m3 m4 m5 e) hS' hl hG hacc⟩)
    kvs.length 0 h4 _ _ #[] [] rfl (Nat.zero_le _) st4 (fun b u nb _ _ _ _ e => k4 b u nb (k3 b u nb (k2 b u nb (k1 b u e)))) hS4 rfl rfl ⟨List.Pairwise.nil, fun _ ha => (nomatch ha), fun j a hj => (by simp at hj)⟩ (Nat.le_refl _) lS⟩
end
section
variable {X : Cx} {pins : List (Addr × Obj)} {σ : L2.St} {H : Hp} {s : Shared} {h' : Heap} {tk : Nat} {kvs : List (Key × V)} {vs : List (Key × Value)} {acc : Array Value} {c S : Nat} {as : List Addr}
theorem zip_laid (I : Inv X pins σ H s) (le : s.heap.objs.size ≤ S) (hz : kvs.length ≤ sizeLine) (kv : KV kvs vs) (hk : ∀ b u, s.heap.get? b = some u → h'.get? b = some u) (hS : h'.get? S = some (lsZ acc c)) (hl : as.length = vs.length) (hG : KdxG (mixKind X.prog X.w) vs S h' as) (hacc : acc.toList = as.map Value.ref) :
    ∃ H' : Hp, (∀ b u, H b = some u → H' b = some u) ∧ H' S = some (.lst (as.map V.ref)) ∧ Paired (fun (t : Addr) (p : Key × V) => H' t = some (.tup [kV p.1, p.2])) as kvs ∧ Inv X pins σ H' { s with heap := h', toks := tk } := by
  have lk : kvs.length = vs.length := Paired.length kv
  have notS : S ∉ as := fun m => Nat.lt_irrefl _ (hG.above _ m)
  have nd : as.Nodup := hG.rise.imp fun {a b} (q : a < b) => Nat.ne_of_lt q
  have freeS : H S = none := I.hok.fresh le
  have free : ∀ t ∈ as, H t = none := fun t m => I.hok.fresh (Nat.le_trans le (Nat.le_of_lt (hG.above t m)))
  generalize eH : upd H S (.lst (as.map V.ref)) = H1
  have e1 : H1 S = some (.lst (as.map V.ref)) := by rw [← eH, upd_same]
  have o1 : ∀ b, b ≠ S → H1 b = H b := fun b nb => by rw [← eH, upd_ne nb]
  have laid := LiI.putT_at as kvs H1 (by omega) nd
  have out : ∀ b, b ∉ as → b ≠ S → LiI.putT H1 as kvs b = H b := fun b m nb => (LiI.putT_off as kvs _ m).trans (o1 b nb)
  have eS : LiI.putT H1 as kvs S = some (.lst (as.map V.ref)) := (LiI.putT_off as kvs _ notS).trans e1
  have kp : ∀ b u, H b = some u → LiI.putT H1 as kvs b = some u := fun b u e => (out b (fun m => by rw [free b m] at e; cases e) (fun y => by rw [y, freeS] at e; cases e)).trans e
  refine ⟨LiI.putT H1 as kvs, kp, eS, laid, I.call' (ch := []) rfl ⟨fun b u q _ _ _ => hk b u q, fun b u q _ _ _ => ⟨u.slots, hk b u q⟩, fun b u q n _ => ?_, fun b u q _ => ⟨u, hk b u q⟩, fun b xs q => kp b _ q, fun b u v q => kp b _ q, fun b ps q => ⟨#[], by rw [kp b _ q]; simp⟩⟩ (fun b u q => ?_) I.bare fun b y => by simp at y⟩
  · have lb := Heap.lt_size q
    rw [out b (fun m => Nat.lt_irrefl _ (Nat.lt_trans (Nat.lt_of_lt_of_le lb le) (hG.above b m))) (fun y => Nat.lt_irrefl _ (Nat.lt_of_lt_of_le (y ▸ lb) le))]
    exact n
  · by_cases m : b ∈ as
    · obtain ⟨j, pk, f1, f2, f3⟩ := LiI.paired_ix laid m
      rw [f3] at q
      cases q
      obtain ⟨key, k, x, g1, g2, g3⟩ := hG.pairs j b f1
      obtain ⟨qv, r1, r2, r3⟩ := LiI.paired_get kv f2
      rw [g1] at r1
      cases r1
      refine ⟨(by show 2 ≤ sizeLine; decide), [key, x], .cons ?_ (.cons r3 .nil), ⟨_, g3, rfl, _, rfl⟩⟩
      rw [r2]
      exact relV_key (show keyIs k key = true from g2)
    · by_cases y : b = S
      · rw [y, eS] at q
        cases q
        rw [y]
        refine ⟨by rw [List.length_map]; omega, acc.toList, c, by rw [hacc]; exact LiI.vals_refs as, ?_⟩
        rw [Array.toArray_toList]
        exact hS
      · rw [out b m y] at q
        exact (I.hok b u q).stay (fun d v _ w => hk d v w) (fun d w => kp d _ w) fun d xs w => kp d _ w
end
def kvZ (ns : List Str) (ys : List V) : List (Key × V) := (ns.zip ys).map fun p => ((Sum.inr p.1 : Key), p.2)
def tListZip (K : PySem.W.Frag) (ta : TA) : TE := fun σ H Q => ta σ H fun vs H1 => ∃ (a b : Addr) (ns : List Str) (ys : List V), vs = [.ref a, .ref b] ∧ SqL K H1 a (ns.map V.str) ∧ SqL K H1 b ys ∧ ns.length = ys.length ∧ ns.length ≤ 1000 ∧
  ∀ (H' : Hp) (p : Addr) (as : List Addr), (∀ c u, H1 c = some u → H' c = some u) → H' p = some (.lst (as.map V.ref)) → Paired (fun (t : Addr) (q : Key × V) => H' t = some (.tup [kV q.1, q.2])) as (kvZ ns ys) → Q (.ref p) H'
theorem kv_zip : ∀ {ns : List Str} {us : List Value} {ys : List V} {ws : List Value}, Vals (ns.map V.str) us → Vals ys ws → KV (kvZ ns ys) ((ns.zip ws).map fun p => ((Sum.inr p.1 : Key), p.2))
  | [], _, _, _, _, _ => .nil
  | n :: ns, _, [], _, _, r => by cases r; exact .nil
  | n :: ns, _, y :: ys, _, l, r => by
    cases l with
    | cons h t =>
      cases r with
      | cons h2 t2 => exact .cons ⟨rfl, h2⟩ (kv_zip t t2)
theorem pe_listZip {X : Cx} {e e2 : Expr} {ta : TA} {p p2 pos q : Pos} (hc : X.calm = true) (hl : Gl X "list") (ml : X.mg "list" = none) (hg : Gl X "zip") (hm : X.mg "zip" = none) (ha : PA X [e, e2] ta)
    (hs : starEach [e, e2] X.env = (false, eval e X.env) :: starEach [e2] X.env := by rfl) (hpl : (backTo q (starEach [e2] X.env)).any (·.1) = false := by rfl)
    (hst : starEach [.Call (.Name "zip" p2) [e, e2] [] q] X.env = (false, eval (.Call (.Name "zip" p2) [e, e2] [] q) X.env) :: starEach [] X.env := by rfl) :
    PE X (.Call (.Name "list" p) [.Call (.Name "zip" p2) [e, e2] [] q] [] pos) (tListZip X.K ta) := by
  refine ⟨fun pins s σ H Q I h => Call_ (ld_blt I hl ml PyProof.Rows.boot_list (PyProof.Rows.callWith_type1 (PyProof.Rows.args_cons ?_ hst) hst rfl))⟩
  refine Call_ (ld_blt I hg hm PyProof.Rows.boot_zip (PyProof.Rows.callWith_type1 (thn (ha.run q pins s σ H _ I h) fun us s1 ⟨vs, H1, I1, r1, a, b, ns, ys, ex, hqx, hqy, len, big, q1⟩ => ?_) hs hpl))
  subst ex
  cases r1 with
  | cons r rr =>
    cases rr with
    | cons r' rr =>
      cases rr
      cases r
      cases r'
      obtain ⟨its, rv, p1, hz1⟩ := I1.list hqx
      obtain ⟨its2, rv2, p3, hz2⟩ := I1.list hqy
      refine call_zip_2 p1.isList p3.isList fun h' hz hTI hTO h1 h2 hsz hk => PyProof.Rows.args_nil ?_
      have la := p1.lt
      have lb := p3.lt
      have l1 := rv.length
      have l2 := rv2.length
      rw [List.length_map] at l1
      have lv : ((ns.zip its2).map fun p => ((Sum.inr p.1 : Key), p.2)).length = ns.length := by
        rw [List.length_map, List.length_zip, ← l2, len, Nat.min_self]
      refine call_list_zip (s := { s1 with heap := h' }) (knd := mixKind X.prog X.w) (kvs := (ns.zip its2).map fun p => ((Sum.inr p.1 : Key), p.2)) (xs := its.toArray) (ys := its2.toArray) (l1 := a) (l2 := b) (I1.ok.hd hc) (PySem.W.ktu_apart s1.heap.objs.size a b la lb) ?_ hz ?_ ?_ ?_ ?_ ?_ fun h'' tk acc c as k2 hS' hl' hG hacc => ?_
      · have n4 : s1.heap.objs.size + 4 < h'.objs.size := by omega
        have n3 : s1.heap.objs.size + 3 < h'.objs.size := by omega
        have n2 : s1.heap.objs.size + 2 < h'.objs.size := by omega
        have n1 : s1.heap.objs.size + 1 < h'.objs.size := by omega
        have n0 : s1.heap.objs.size < h'.objs.size := by omega
        exact ⟨Nat.ne_of_lt n4, Nat.ne_of_lt n2, Nat.ne_of_lt n3, Nat.ne_of_lt n0, Nat.ne_of_lt n1, Nat.ne_of_lt (Nat.lt_trans la n0), Nat.ne_of_lt (Nat.lt_trans lb n0)⟩
      · exact ⟨hTI, h1, h2, p1.isList.at fun u e => hk _ u e, p3.isList.at fun u e => hk _ u e, .inl ⟨hz, _, _, hTO⟩⟩
      · intro j k v hj
        rw [List.getElem?_map] at hj
        obtain ⟨⟨n, u⟩, hj, e⟩ := Option.map_eq_some_iff.mp hj
        obtain ⟨e1, e2⟩ := List.getElem?_zip_eq_some.mp hj
        cases e
        obtain ⟨key, ek, rk⟩ := rv.get (i := j) (x := .str n) (by rw [List.getElem?_map, e1]; rfl)
        refine ⟨key, by simpa using ek, ?_, by simpa using e2⟩
        obtain ⟨t, rfl⟩ := rk
        exact PySem.Froz.is_str (P := X.prog) (w := X.w) n t
      · rw [lv, List.size_toArray]
        omega
      · omega
      · intro c hc
        have n4 : s1.heap.objs.size + 4 < h'.objs.size := by omega
        have n3 : s1.heap.objs.size + 3 < h'.objs.size := by omega
        have n1 : s1.heap.objs.size + 1 < h'.objs.size := by omega
        have n0 : s1.heap.objs.size < h'.objs.size := by omega
        show c ≤ h'.objs.size
        rcases hc with rfl | rfl | rfl | rfl
        · exact Nat.le_of_lt n4
        · exact Nat.le_of_lt n3
        · exact Nat.le_of_lt n0
        · exact Nat.le_of_lt n1
      · have lz : (kvZ ns ys).length ≤ sizeLine := by
          unfold kvZ
          rw [List.length_map, List.length_zip]
          exact Nat.le_of_lt (small1000 (by omega))
        obtain ⟨H', k3, k4, k5, J⟩ := zip_laid (tk := tk) (h' := h'') (S := h'.objs.size) I1 (by omega) lz (kv_zip rv rv2) (fun c u e => by
          have lc := Heap.lt_size e
          exact k2 c u (Nat.ne_of_lt (Nat.lt_of_lt_of_le lc (Nat.le_add_right _ 4))) (Nat.ne_of_lt (Nat.lt_of_lt_of_le lc (Nat.le_add_right _ 3))) (Nat.ne_of_lt lc) (Nat.ne_of_lt (Nat.lt_of_lt_of_le lc (Nat.le_add_right _ 1))) (hk c u e)) hS' hl' hG hacc
        exact ⟨.ref _, H', J, rfl, q1 H' _ as k3 k4 k5⟩
end LzR
/-! ### other names, drawn -/
structure RenOk (dk : List (Str × Str)) (ns : List Str) : Prop where
  nm : NmD dk
  u : (ns.map (look dk)).Nodup
  k : (dk.map (·.1)).Nodup
theorem map_nd {ns : List Str} {f : Str → Str} (nd : ns.Nodup) (inj : ∀ x ∈ ns, ∀ y ∈ ns, f x = f y → x = y) : (ns.map f).Nodup := by
  refine List.pairwise_map.mpr ?_
  exact List.Pairwise.imp_of_mem (fun {a b} ha hb n e => n (inj a ha b hb e)) nd
theorem LowN.nm {B : List Nat} {sp t : Nat} {ns : List Str} (h : LowN B sp t ns) (ok : WdOk B sp t) : ∀ n ∈ ns, nameB n = true := fun n hn => by
  obtain ⟨k, hk, rfl⟩ := h n hn
  exact nmC_name ok (by omega)
theorem LowN.ne {B : List Nat} {sp t : Nat} {ns : List Str} (h : LowN B sp t ns) (ok : WdOk B sp t) {m : Nat} (h1 : 26 ≤ m) (h2 : m < 676) : sc (nmC B sp t m) ∉ ns := fun hn => by
  obtain ⟨k, hk, e⟩ := h _ hn
  have := nmC_inj ok h2 (by omega) (sc_inj e)
  omega
theorem ren_way0 {B : List Nat} {sp t b : Nat} {ns : List Str} (ok : WdOk B sp t) (nd : ns.Nodup) (low : LowN B sp t ns) (hb : b ≤ 40) : RenOk [(sc (nmC B sp t (b + 90)), sc (nmC B sp t (b + 91)))] ns := by
  refine ⟨⟨fun y hy => ?_, by show 1 ≤ 31; decide⟩, ?_, List.nodup_cons.mpr ⟨fun z => (nomatch z), .nil⟩⟩
  · rw [List.mem_singleton.mp hy]
    exact ⟨nmC_name ok (by omega), nmC_name ok (by omega)⟩
  · have e : ns.map (look [(sc (nmC B sp t (b + 90)), sc (nmC B sp t (b + 91)))]) = ns := by
      conv => rhs; rw [← List.map_id ns]
      refine List.map_congr_left fun x hx => ?_
      show (lookO _ x).getD x = x
      rw [lookO_no fun z => ?_]
      · rfl
      · rw [List.mem_singleton.mp z] at hx
        exact low.ne ok (by omega) (by omega) hx
    rw [e]
    exact nd
theorem zip_fst {α β : Type} : ∀ {l : List α} {r : List β}, l.length = r.length → (l.zip r).map (·.1) = l
  | [], _, _ => rfl
  | a :: l, b :: r, h => congrArg (a :: ·) (zip_fst (Nat.succ.inj h))
theorem zip_look : ∀ {l r : List Str}, l.length = r.length → l.Nodup → l.map (look (l.zip r)) = r := by
  intro l r h nd
  refine List.ext_getElem? fun i => ?_
  rw [List.getElem?_map]
  cases e : l[i]? with
  | none =>
    have := List.getElem?_eq_none_iff.mp e
    rw [List.getElem?_eq_none (by omega)]
    rfl
  | some x =>
    have il := (List.getElem?_eq_some_iff.mp e).1
    have er : r[i]? = some r[i] := List.getElem?_eq_getElem (by omega)
    rw [er]
    show some ((lookO (l.zip r) x).getD x) = _
    rw [lookO_nd (by rw [zip_fst h]; exact nd) (List.mem_of_getElem? (List.getElem?_zip_eq_some.mpr ⟨e, er⟩))]
    rfl
theorem rot_perm {ns : List Str} (r : Nat) : (ns.drop r ++ ns.take r).Perm ns := by
  refine List.perm_append_comm.trans ?_
  rw [List.take_append_drop]
theorem ren_way1 {B : List Nat} {sp t : Nat} {ns : List Str} (r : Nat) (ok : WdOk B sp t) (nd : ns.Nodup) (low : LowN B sp t ns) (le : ns.length ≤ 31) : RenOk (ns.zip (ns.drop r ++ ns.take r)) ns := by
  have pm := rot_perm (ns := ns) r
  have len : ns.length = (ns.drop r ++ ns.take r).length := pm.length_eq.symm
  refine ⟨⟨fun y hy => ?_, by rw [List.length_zip]; omega⟩, ?_, ?_⟩
  · obtain ⟨h1, h2⟩ := List.of_mem_zip hy
    exact ⟨low.nm ok _ h1, low.nm ok _ (pm.mem_iff.mp h2)⟩
  · rw [zip_look len nd]
    exact pm.nodup_iff.mpr nd
  · rw [zip_fst len]
    exact nd
/-- some of the first i names, called anew -/
structure ChD (B : List Nat) (sp t b : Nat) (ns : List Str) (i : Nat) (dk : List (Str × Str)) : Prop where
  ks : ∀ y ∈ dk, ∃ j, j < i ∧ ns[j]? = some y.1 ∧ y.2 = sc (nmC B sp t (b + 60 + j))
  nd : (dk.map (·.1)).Nodup
  le : dk.length ≤ i
theorem nd_ix {α : Type} : ∀ {l : List α}, l.Nodup → ∀ {i j : Nat} {x : α}, l[i]? = some x → l[j]? = some x → i = j
  | _ :: _, _, 0, 0, _, _, _ => rfl
  | a :: r, nd, 0, j + 1, x, h1, h2 => by
    have e : a = x := Option.some.inj h1
    exact absurd (e ▸ List.mem_of_getElem? (show r[j]? = some x from h2)) (List.nodup_cons.mp nd).1
  | a :: r, nd, i + 1, 0, x, h1, h2 => by
    have e : a = x := Option.some.inj h2
    exact absurd (e ▸ List.mem_of_getElem? (show r[i]? = some x from h1)) (List.nodup_cons.mp nd).1
  | a :: r, nd, i + 1, j + 1, x, h1, h2 => congrArg (· + 1) (nd_ix (List.nodup_cons.mp nd).2 (show r[i]? = some x from h1) h2)
theorem ChD.put {B : List Nat} {sp t b i : Nat} {ns : List Str} {dk : List (Str × Str)} (h : ChD B sp t b ns i dk) (nd : ns.Nodup) {n : Str} (hn : ns[i]? = some n) : ChD B sp t b ns (i + 1) (dk ++ [(n, sc (nmC B sp t (b + 60 + i)))]) ∧ n ∉ dk.map (·.1) := by
  have no : n ∉ dk.map (·.1) := fun z => by
    obtain ⟨y, hy, e⟩ := List.mem_map.mp z
    obtain ⟨j, hj, e1, _⟩ := h.ks y hy
    have := nd_ix nd hn (by rw [e1]; exact congrArg some e)
    omega
  refine ⟨⟨fun y hy => ?_, ?_, ?_⟩, no⟩
  · rcases List.mem_append.mp hy with hy | hy
    · obtain ⟨j, hj, e⟩ := h.ks y hy
      exact ⟨j, by omega, e⟩
    · rw [List.mem_singleton.mp hy]
      exact ⟨i, by omega, hn, rfl⟩
  · rw [List.map_append]
    refine List.nodup_append.mpr ⟨h.nd, List.nodup_cons.mpr ⟨fun z => (nomatch z), .nil⟩, fun a ha c hc e => ?_⟩
    rw [List.mem_singleton.mp hc] at e
    exact no (by
      have e' : a = n := e
      rw [← e']
      exact ha)
  · rw [List.length_append]
    have := h.le
    exact Nat.succ_le_succ this
theorem ren_way2 {B : List Nat} {sp t b i : Nat} {ns : List Str} {dk : List (Str × Str)} (ok : WdOk B sp t) (nd : ns.Nodup) (low : LowN B sp t ns) (hb : b ≤ 40) (hi : i ≤ 31) (h : ChD B sp t b ns i dk) : RenOk dk ns := by
  have wh : ∀ x ∈ ns, ∃ j, ns[j]? = some x ∧ (look dk x = x ∨ (j < i ∧ look dk x = sc (nmC B sp t (b + 60 + j)))) := fun x hx => by
    obtain ⟨j, hj⟩ := List.mem_iff_getElem?.mp hx
    refine ⟨j, hj, ?_⟩
    unfold look
    cases e : lookO dk x with
    | none => exact .inl rfl
    | some z =>
      obtain ⟨j', l, e1, e2⟩ := h.ks _ (lookO_in e)
      have := nd_ix nd hj e1
      subst this
      exact .inr ⟨l, e2⟩
  have le := h.le
  refine ⟨⟨fun y hy => ?_, by omega⟩, map_nd nd fun x hx y hy e => ?_, h.nd⟩
  · obtain ⟨j, hj, e1, e2⟩ := h.ks y hy
    exact ⟨low.nm ok _ (List.mem_of_getElem? e1), by rw [e2]; exact nmC_name ok (by omega)⟩
  · obtain ⟨j1, a1, c1⟩ := wh x hx
    obtain ⟨j2, a2, c2⟩ := wh y hy
    rcases c1 with c1 | ⟨l1, c1⟩
    · rcases c2 with c2 | ⟨l2, c2⟩
      · rw [← c1, e, c2]
      · rw [c1, c2] at e
        exact absurd (e ▸ hx) (low.ne ok (by omega) (by omega))
    · rcases c2 with c2 | ⟨l2, c2⟩
      · rw [c1, c2] at e
        exact absurd (e ▸ hy) (low.ne ok (by omega) (by omega))
      · rw [c1, c2] at e
        have := nmC_inj ok (by omega) (by omega) (sc_inj e)
        have ej : j1 = j2 := by omega
        rw [ej, a2] at a1
        exact (Option.some.inj a1).symm
theorem kvD_put {dk : List (Str × Str)} {n z : Str} (h : n ∉ dk.map (·.1)) : putK (kvD dk) (Sum.inr n) (V.str z) = kvD (dk ++ [(n, z)]) := by
  rw [putK_new _ (by rw [valV_kvD, lookO_no h]; rfl)]
  unfold kvD
  rw [List.map_append]
  rfl
theorem kvZ_D : ∀ (ns rs : List Str), LzR.kvZ ns (rs.map V.str) = kvD (ns.zip rs)
  | [], _ => rfl
  | _ :: _, [] => rfl
  | n :: ns, r :: rs => congrArg (((Sum.inr n : Key), V.str r) :: ·) (kvZ_D ns rs)
theorem merge_D {dk : List (Str × Str)} (nd : (dk.map (·.1)).Nodup) : mergeK [] (kvD dk) = kvD dk := kvD_merge nd
def spCalledBy : Sp := fun vs H Q _ => ∃ (p c : Addr) (n : Nat) (w : Addr) (B : List Nat) (sp t : Nat) (l : Addr) (b : Nat) (ns : List Str), vs = [.ref p, .ref w, .ref l, .int (b : Int)] ∧ PenAt H p c n ∧ n ≤ 80000 ∧ WdAt H w B sp t ∧ H l = some (.lst (ns.map V.str)) ∧ l ≠ p ∧ ns.Nodup ∧ LowN B sp t ns ∧ ns.length ≤ 30 ∧ b ≤ 40 ∧
  ∀ (d : Addr) (dk : List (Str × Str)) (H' : Hp), H d = none → H' d = some (.dK (kvD dk)) → RenOk dk ns → PenAt H' p c (n + 40) → But p H H' → Q (.ref d) H'
section
variable {P : Program} {w : World} {K : PySem.W.Frag} {mg : Str → Option Value} {base : Heap}
abbrev sCalledByN : List Str := ["_law_pen_here", "_law_words_here", "_law_names", "_law_base", "_law_way", "_law_turn", "_law_found", "_law_k", "_law_name_here"]
theorem sc_sCalledBy : FnScope sCalledByN ["_law_pen_here", "_law_words_here", "_law_names", "_law_base"] (defScope sCalledBy) := ⟨rfl, rfl, rfl, by decide +kernel, rfl, by decide +kernel, by decide +kernel⟩
set_option maxHeartbeats 4000000 in
theorem ok_calledBy {f fT fN : Addr} {fd dT dN : FuncData} (F : Fun K "_law_called_by" "_law_called_by" sCalledBy f fd) (T : DefT P w K mg base "_law_draw" 1 fT dT ["_law_pen_here", "_law_many_here"] spDraw) (NM : DefT P w K mg base "_law_name" 1 fN dN ["_law_words_here", "_law_number"] spLName)
    (mx : mg "max" = none) (ml : mg "len" = none) (md : mg "dict" = none) (mli : mg "list" = none) (mz : mg "zip" = none) (me : mg "enumerate" = none) : FnOk P w K mg base CX0 2 f fd ["_law_pen_here", "_law_words_here", "_law_names", "_law_base"] spCalledBy := by
  refine F.ok sc_sCalledBy (fun vs H Q E h => ?_) (fun cdv A outer s H vs Q E hr h => ?_)
  · obtain ⟨p, c, n, wd, B, sp, t, l, b, ns, rfl, _⟩ := h
    rfl
  · obtain ⟨p, c, n, wd, B, sp, t, l, b, ns, rfl, pen, hn, hw, hl, nlp, nd0, low, ln, hb, q⟩ := h
    have hu := hu_of hr
    have nd := sc_sCalledBy.nd
    refine ⟨_, pss_cons (ps_set (i := 4) nd rfl (Or.inl rfl) (pe_call T.ok hr (by rfl) T.g T.kp T.b .nil pass0 (pa_cons (pv 0) (pa_cons pe_int pa_nil))))
      (pss_cons (ps_set (i := 5) nd rfl (Or.inl rfl) (pe_call T.ok hr (by rfl) T.g T.kp T.b .nil pass0 (pa_cons (pv 0) (pa_cons (pe_callB (call_max2 rfl) (by rfl) mx (by decide +kernel) (pa_cons pe_int (pa_cons (pe_callB call_len_seq (by rfl) ml PySem.boot_len (pa_cons (pv 2) pa_nil)) pa_nil))) pa_nil))))
      (pss_cons (ps_if (pt_cmpR op_eq (pv 4) pe_int (nomark _)) (pss_one (ps_ret (pe_disp (pps_cons (pe_call NM.ok hr (by rfl) NM.g NM.kp NM.b .nil pass0 (pa_cons (pv 1) (pa_cons (pe_op op_add (pv 3) pe_int) pa_nil))) (pe_call NM.ok hr (by rfl) NM.g NM.kp NM.b .nil pass0 (pa_cons (pv 1) (pa_cons (pe_op op_add (pv 3) pe_int) pa_nil))) pps_nil) (by rfl) (by rfl) (fun z => by cases z) (by decide)))) pss_nil)
      (pss_cons (ps_if (pt_cmpR op_eq (pv 4) pe_int (nomark _)) (pss_one (ps_ret (pe_callTy (call_dictP rfl) (by rfl) md (by decide +kernel) (pa_cons (LzR.pe_listZip rfl (by rfl) mli (by rfl) mz (pa_cons (pv 2) (pa_cons (pe_op op_cat (pe_slice sl_list (pv 2) (po_some (pv 5)) po_none) (pe_slice sl_list (pv 2) po_none (po_some (pv 5)))) pa_nil))) pa_nil)))) pss_nil)
      (pss_cons (ps_set (i := 6) nd rfl (Or.inl rfl) pe_dnewK)
      (pss_cons (ps_for PassesOwn.never rfl (pi_enum (by rfl) me (pa_cons (pv 2) pa_nil)) (pg_tup (by rfl) (pgs_cons (pg_name (i := 7) nd rfl (Or.inl rfl)) (pgs_cons (pg_name (i := 8) nd rfl (Or.inl rfl)) pgs_nil)))
        (pss_one (ps_if (pt_cmpR op_eq (pe_call T.ok hr (by rfl) T.g T.kp T.b .nil pass0 (pa_cons (pv 0) (pa_cons (pv 4) pa_nil))) pe_int (nomark _)) (pss_one (ps_dput hu (pv 6) (pv 8) (pe_call NM.ok hr (by rfl) NM.g NM.kp NM.b .nil pass0 (pa_cons (pv 1) (pa_cons (pe_op op_add (pe_op op_add (pv 3) pe_int) (pv 7)) pa_nil))) rfl)) pss_nil)))
      (pss_one (ps_ret (pv 6)))))))), ?_⟩
    have ok := hw.ok
    refine ⟨_, rfl, p, c, n, 5, rfl, pen, by omega, by decide, by decide, fun r1 H1 a1 b1 pen1 bt1 => ?_⟩
    have hw1 := hw.on (TK.pen pen bt1)
    have hl1 := bt1 l _ hl nlp
    have lm : (ns.map V.str).length = ns.length := List.length_map _
    refine ⟨_, rfl, _, rfl, l, _, rfl, .inl (SqL.of hl1), 1, _, rfl, p, c, _, _, rfl, pen1, by omega, by split <;> omega, by split <;> omega, fun r2 H2 a2 b2 pen2 bt2 => ?_⟩
    have hw2 := hw1.on (TK.pen pen1 bt2)
    have hl2 := bt2 l _ hl1 nlp
    have bt02 := bt1.tr bt2
    have freeH : ∀ {d : Addr} {H' : Hp}, But p H H' → d ≠ p → H' d = none → H d = none := fun {d H'} bt ne nd' => by
      cases e : H d with
      | none => rfl
      | some o => exact absurd ((bt d o e ne).symm.trans nd') (by intro z; cases z)
    have npD : ∀ {d : Addr} {H' : Hp} {m : Nat}, PenAt H' p c m → H' d = none → d ≠ p := fun {d H' m} pn nd' z => pn.there (z ▸ nd')
    have ej : ∀ j : Nat, ((b : Int) + (j : Int)) = ((b + j : Nat) : Int) := fun j => by omega
    refine ⟨_, rfl, rfl, _, rfl, ite2 (fun z => ?_) (fun z0 => ?_)⟩
    · intro D nD
      have nDp := npD pen2 nD
      have sD := @same_new _ _ (.dK []) nD
      have eD := @upd_same H2 D (.dK [])
      generalize upd H2 D (.dK []) = H3 at sD eD ⊢
      have hw3 := hw2.on (TK.of sD)
      refine ⟨_, rfl, _, rfl, b, 90, rfl, rfl, ?_⟩
      refine ⟨wd, B, sp, t, b + 90, (by show [V.ref wd, V.int ((b : Int) + ((90 : Nat) : Int))] = _; rw [ej]), hw3, by omega, ?_⟩
      refine ⟨_, rfl, _, rfl, b, 91, rfl, rfl, ?_⟩
      refine ⟨wd, B, sp, t, b + 91, (by show [V.ref wd, V.int ((b : Int) + ((91 : Nat) : Int))] = _; rw [ej]), hw3, by omega, ?_⟩
      refine ⟨eD, kvD [(sc (nmC B sp t (b + 90)), sc (nmC B sp t (b + 91)))], rfl, (by show 1 ≤ 15; decide), ?_⟩
      have fin : ∀ o : HO, Same H2 (upd H3 D o) := fun o a u e => (upd_ne (ne_of_none e nD)).trans (sD a u e)
      refine q D _ _ (freeH bt02 nDp nD) upd_same (ren_way0 ok nd0 low hb) ((pen2.same (fin _)).mono (by omega)) (bt02.tr (.of (fin _)))
    refine ⟨_, rfl, rfl, _, rfl, ite2 (fun z1 => ?_) (fun z1 => ?_)⟩
    · have er : r2 = (r2.toNat : Int) := by omega
      refine ⟨_, rfl, _, rfl, _, rfl, r2, rfl, l, _, rfl, SqL.of hl2, fun u1 nu1 => ?_⟩
      have s3 := @same_new _ _ (.lst (cutV (ns.map V.str) (some r2) none)) nu1
      have e3 : (upd H2 u1 (.lst (cutV (ns.map V.str) (some r2) none))) u1 = some (.lst ((ns.drop r2.toNat).map V.str)) := by
        rw [upd_same, er, cut_tail, List.map_drop]
        rfl
      generalize upd H2 u1 (.lst (cutV (ns.map V.str) (some r2) none)) = H3 at s3 e3 ⊢
      refine ⟨_, rfl, _, rfl, r2, rfl, l, _, rfl, SqL.of (s3 _ _ hl2), fun u2 nu2 => ?_⟩
      have s4 := @same_new _ _ (.lst (cutV (ns.map V.str) none (some r2))) nu2
      have e4 : (upd H3 u2 (.lst (cutV (ns.map V.str) none (some r2)))) u2 = some (.lst ((ns.take r2.toNat).map V.str)) := by
        rw [upd_same, er, cut_head, List.map_take]
        rfl
      generalize upd H3 u2 (.lst (cutV (ns.map V.str) none (some r2))) = H4 at s4 e4 ⊢
      refine ⟨u1, u2, _, _, rfl, rfl, s4 _ _ e3, e4, (by rw [List.length_map, List.length_map, List.length_drop, List.length_take]; exact small_sz (by omega)), fun M nM => ?_⟩
      rw [← List.map_append]
      have s5 := @same_new _ _ (.lst ((ns.drop r2.toNat ++ ns.take r2.toNat).map V.str)) nM
      have e5 := @upd_same H4 M (.lst ((ns.drop r2.toNat ++ ns.take r2.toNat).map V.str))
      generalize upd H4 M (.lst ((ns.drop r2.toNat ++ ns.take r2.toNat).map V.str)) = H5 at s5 e5 ⊢
      have s25 := s3.trans (s4.trans s5)
      have rw1 := ren_way1 (ns := ns) r2.toNat ok nd0 low (by omega)
      refine ⟨l, M, ns, _, rfl, SqL.of (s25 _ _ hl2), SqL.of e5, ?_, by omega, fun H6 pz as k3 k4 k5 => ⟨pz, as, _, rfl, SqL.of k4, Paired.mapP k5 fun a y e => SqT.of e, fun D nD => ?_⟩⟩
      · rw [List.length_map]
        exact (rot_perm r2.toNat).length_eq.symm
      · rw [kvZ_D, merge_D rw1.k]
        have s26 : Same H2 H6 := s25.trans k3
        have pen6 := pen2.same s26
        have nDp := npD pen6 nD
        have sD := @same_new _ _ (.dK (kvD (ns.zip (ns.drop r2.toNat ++ ns.take r2.toNat)))) nD
        exact q D _ _ (freeH (bt02.tr (.of s26)) nDp nD) upd_same rw1 ((pen6.same sD).mono (by omega)) ((bt02.tr (.of s26)).tr (.of sD))
    · intro D nD
      have nDp := npD pen2 nD
      have nDH := freeH bt02 nDp nD
      have nDc : D ≠ c := fun z => pen2.cells (z ▸ nD)
      have sD := @same_new _ _ (.dK []) nD
      have eD := @upd_same H2 D (.dK [])
      generalize upd H2 D (.dK []) = H3 at sD eD ⊢
      have bt03 := bt02.tr (.of sD)
      have hwAt : ∀ {H' : Hp}, But p H H' → WdAt H' wd B sp t := fun bt => hw.on (TK.pen pen bt)
      have r10 : r1 ≠ 0 := fun e => z0 (by rw [e]; exact decide_eq_true rfl)
      refine ⟨_, rfl, l, _, rfl, SqL.of (bt03 l _ hl nlp), ?_⟩
      refine for_it (walk_enum (K := K) (a := l) (xs := ns.map V.str)) (fun i σ H' => ∃ y7 y8, ∃ (dk : List (Str × Str)) (m : Nat), σ = [some (.ref p), some (.ref wd), some (.ref l), some (.int (b : Int)), some (.int r1), some (.int r2), some (.ref D), y7, y8] ∧ PenAt H' p c m ∧ m ≤ n + 2 + i ∧ But p H H' ∧ H' D = some (.dK (kvD dk)) ∧ ChD B sp t b ns i dk)
        ⟨_, _, [], _, rfl, pen2.same sD, by omega, bt03, eD, ⟨fun _ h => (nomatch h), .nil, Nat.le_refl _⟩⟩ (fun i σ H' _ z => by obtain ⟨_, _, _, _, _, _, _, z, _⟩ := z; exact SqL.of (z l _ hl nlp)) ?_ ?_
      · rintro i v σ H4 H5 hi ⟨y7, y8, dk, m, rfl, pen4, lm4, bt4, hD4, ch4⟩ ⟨T', x, y, rfl, nT, rfl, hx, hy⟩
        obtain rfl := Option.some.inj hx
        replace hy : (ns.map V.str)[i]? = some y := hy
        rw [List.getElem?_map] at hy
        obtain ⟨nme, hn', rfl⟩ := Option.map_eq_some_iff.mp hy
        rw [List.length_map] at hi
        have s5 := @same_new _ _ (.tup [V.int (i : Nat), .str nme]) nT
        have hT : (upd H4 T' (.tup [V.int (i : Nat), .str nme])) T' = some (.tup [V.int (i : Nat), .str nme]) := upd_same
        generalize upd H4 T' (.tup [V.int (i : Nat), .str nme]) = H5 at s5 hT ⊢
        have pen5 := pen4.same s5
        have bt5 := bt4.tr (.of s5)
        refine ⟨T', _, rfl, SqT.of hT, rfl, _, _, rfl, _, _, rfl, rfl, ?_⟩
        refine ⟨_, rfl, _, rfl, p, c, m, r1, rfl, pen5, by omega, by omega, by omega, fun r3 H6 a3 b3 pen6 bt6 => ?_⟩
        have bt06 := bt5.tr bt6
        have hD6 := bt6 D _ (s5 _ _ hD4) nDp
        have el := ch4.le
        refine ⟨rfl, _, rfl, ite2 (fun z => ?_) (fun z => ?_)⟩
        · obtain ⟨ch6, no⟩ := ch4.put nd0 hn'
          refine ⟨_, rfl, _, rfl, b, 60, rfl, rfl, _, rfl, (b : Int) + 60, (i : Int), rfl, rfl, ?_⟩
          refine ⟨wd, B, sp, t, b + 60 + i, (by show [V.ref wd, V.int ((b : Int) + ((60 : Nat) : Int) + (i : Int))] = _; rw [ej, ← Int.natCast_add]), hwAt bt06, by omega, ?_⟩
          refine ⟨_, rfl, _, rfl, D, _, rfl, DPut.k (k := Sum.inr nme) hD6 (small1000 (by unfold kvD; rw [List.length_map]; omega)), ?_⟩
          rw [kvD_put no]
          have bq : But p H (upd H6 D (.dK (kvD (dk ++ [(nme, sc (nmC B sp t (b + 60 + i)))])))) := fun a o e n => (upd_ne (ne_of_none e nDH)).trans (bt06 a o e n)
          exact ⟨_, _, _, m + 1, rfl, pen6.upd nDp nDc, by omega, bq, upd_same, ch6⟩
        · refine ⟨_, _, dk, m + 1, rfl, pen6, by omega, bt06, hD6, ⟨fun y hy => ?_, ch4.nd, by omega⟩⟩
          obtain ⟨j, hj, e⟩ := ch4.ks y hy
          exact ⟨j, by omega, e⟩
      · rintro σ H4 ⟨y7, y8, dk, m, rfl, pen4, lm4, bt4, hD4, ch4⟩
        rw [List.length_map] at lm4 ch4
        exact ⟨_, rfl, q D dk H4 nDH hD4 (ren_way2 ok nd0 low hb (by omega) ch4) (pen4.mono (by omega)) bt4⟩
end
/-! ### there and back -/
theorem back_mem {dk : List (Str × Str)} {ns : List Str} {y : Str × Str} (h : y ∈ backD dk ns) : y.2 ∈ ns ∧ lookO dk y.2 = some y.1 := by
  unfold backD at h
  obtain ⟨n, hn, e⟩ := List.mem_filterMap.mp h
  obtain ⟨z, hz, rfl⟩ := Option.map_eq_some_iff.mp e
  exact ⟨hn, hz⟩
theorem back_in {dk : List (Str × Str)} {ns : List Str} {n z : Str} (h : n ∈ ns) (e : lookO dk n = some z) : (z, n) ∈ backD dk ns := by
  unfold backD
  exact List.mem_filterMap.mpr ⟨n, h, by rw [e]; rfl⟩
theorem look_some {dk : List (Str × Str)} {x z : Str} (e : lookO dk x = some z) : look dk x = z := by
  unfold look
  rw [e]
  rfl
theorem look_none {dk : List (Str × Str)} {x : Str} (e : lookO dk x = none) : look dk x = x := by
  unfold look
  rw [e]
  rfl
theorem back_nd {dk : List (Str × Str)} {ns : List Str} (u : (ns.map (look dk)).Nodup) : ((backD dk ns).map (·.1)).Nodup := by
  unfold backD
  refine List.pairwise_map.mpr (List.pairwise_filterMap.mpr ((List.pairwise_map.mp u).imp fun {a b} ne x hx y hy e => ne ?_))
  obtain ⟨z, hz, rfl⟩ := Option.map_eq_some_iff.mp hx
  obtain ⟨v, hv, rfl⟩ := Option.map_eq_some_iff.mp hy
  rw [look_some hz, look_some hv]
  exact e
theorem back_look {dk : List (Str × Str)} {ns : List Str} (u : (ns.map (look dk)).Nodup) {x : Str} (hx : x ∈ ns) : look (backD dk ns) (look dk x) = x := by
  cases e : lookO dk x with
  | some z =>
    rw [look_some e]
    exact look_some (lookO_nd (back_nd u) (back_in hx e))
  | none =>
    rw [look_none e]
    cases e2 : lookO (backD dk ns) x with
    | none => exact look_none e2
    | some n =>
      obtain ⟨h1, h2⟩ := back_mem (lookO_in e2)
      have := nd_inj u h1 hx (by rw [look_some h2, look_none e])
      rw [this, e] at h2
      exact nomatch h2
theorem back_map {dk : List (Str × Str)} {ns : List Str} (u : (ns.map (look dk)).Nodup) : (ns.map (look dk)).map (look (backD dk ns)) = ns := by
  rw [List.map_map]
  conv => rhs; rw [← List.map_id ns]
  exact List.map_congr_left fun x hx => back_look u hx
theorem back_nm {dk : List (Str × Str)} {ns : List Str} (n : NmD dk) (names : ∀ x ∈ ns, nameB x = true) (le : ns.length ≤ 31) : NmD (backD dk ns) := by
  refine ⟨fun y hy => ?_, Nat.le_trans (List.length_filterMap_le _ _) le⟩
  obtain ⟨h1, h2⟩ := back_mem hy
  exact ⟨(n.nm _ (lookO_in h2)).2, names _ h1⟩
/-- what holds of the law's house -/
structure Hs70 (P G : List Str) (es : List Ent) : Prop where
  gd : Good P G es es.length
  le : es.length ≤ 30
  nd : (es.map Ent.name).Nodup
  so : sortN es = es
  ps : sortedS P = true
  gs : sortedS G = true
theorem Hs70.inj {P G : List Str} {es : List Ent} (h : Hs70 P G es) : ∀ x ∈ es, ∀ y ∈ es, x.name = y.name → x = y := fun x hx y hy e => nd_inj h.nd hx hy e
theorem From.pl {e : Ent} {P G HL : List Str} (h : e.From P G HL) : ∀ y ∈ e.places, y ∈ P := by
  intro y hy
  cases e with
  | come n m g p k r => rw [List.mem_singleton.mp hy]; exact h.2.1
  | go n m g p k => rw [List.mem_singleton.mp hy]; exact h.2.1
  | move n m g o t k =>
    have hy' : y ∈ [o, t] := hy
    simp only [List.mem_cons, List.not_mem_nil, or_false] at hy'
    rcases hy' with rfl | rfl
    · exact h.2.1
    · exact h.2.2.1
  | some_ n m g o t =>
    have hy' : y ∈ (if t = "" then [o] else [o, t]) := hy
    by_cases z : t = ""
    · rw [if_pos z] at hy'
      rw [List.mem_singleton.mp hy']
      exact h.2.1
    · rw [if_neg z] at hy'
      simp only [List.mem_cons, List.not_mem_nil, or_false] at hy'
      rcases hy' with rfl | rfl
      · exact h.2.1
      · exact (h.2.2.resolve_left z).1
  | swap n m o t =>
    have hy' : y ∈ [o, t] := hy
    simp only [List.mem_cons, List.not_mem_nil, or_false] at hy'
    rcases hy' with rfl | rfl
    · exact h.1
    · exact h.2.1
  | count n m g p k hd => rw [List.mem_singleton.mp hy]; exact h.2.1
  | look n m g p => rw [List.mem_singleton.mp hy]; exact h.2
theorem Good.full {P G : List Str} {es : List Ent} {m : Nat} (g : Good P G es m) : ∀ e ∈ es, ∀ y ∈ e.places, nameB y = true := fun e he y hy => by
  obtain ⟨_, _, _, HL, _, fr⟩ := g.ents e he
  exact g.nm y (From.pl fr y hy)
theorem Hs70.ren {P G : List Str} {es : List Ent} {Dp Dg Dn : List (Str × Str)} (h : Hs70 P G es) (rp : RenOk Dp P) (rg : RenOk Dg G) (rn : RenOk Dn (es.map Ent.name)) : Ren P G es Dp Dg Dn :=
  ⟨rp.nm, rg.nm, rn.nm, rp.u, rg.u, rn.u, by have := h.gd.le; omega, by have := h.gd.gl; omega, by have := h.le; omega, h.gd.full⟩
theorem ren_len (es : List Ent) (Dp Dg Dn : List (Str × Str)) : (sortN (renL es Dp Dg Dn)).length = es.length := by
  rw [(sortN_p _).length_eq, List.length_map]
/-- the house called otherwise is a house -/
theorem Hs70.good {P G : List Str} {es : List Ent} {Dp Dg Dn : List (Str × Str)} (h : Hs70 P G es) (rn : Ren P G es Dp Dg Dn) {P' G' : List Str} (pp : P'.Perm (P.map (look Dp))) (pg : G'.Perm (G.map (look Dg))) : Good P' G' (sortN (renL es Dp Dg Dn)) es.length := by
  have g := h.gd
  refine ⟨pp.nodup_iff.mpr rn.uP, fun z => ?_, by rw [pp.length_eq, List.length_map]; exact g.le, fun y hy => ?_, fun z => ?_, by rw [pg.length_eq, List.length_map]; exact g.gl, fun y hy => ?_, pg.nodup_iff.mpr rn.uG, ren_len _ _ _ _, fun e he => ?_⟩
  · have := pp.length_eq
    rw [z, List.length_map] at this
    exact g.ne (List.eq_nil_of_length_eq_zero this.symm)
  · obtain ⟨x, hx, rfl⟩ := List.mem_map.mp (pp.mem_iff.mp hy)
    exact rn.nP.look (g.nm x hx)
  · have := pg.length_eq
    rw [z, List.length_map] at this
    exact g.ge (List.eq_nil_of_length_eq_zero this.symm)
  · obtain ⟨x, hx, rfl⟩ := List.mem_map.mp (pg.mem_iff.mp hy)
    exact rn.nG.look (g.gn x hx)
  · obtain ⟨x, hx, rfl⟩ := List.mem_map.mp ((sortN_p _).mem_iff.mp he)
    obtain ⟨n, m0, m1, HL, hh, fr⟩ := g.ents x hx
    rw [ren_name, ren_moment]
    exact ⟨rn.nN.look n, m0, m1, HL, hh, From.perm (From.ren fr rn.uP) pp pg⟩
/-- and back again -/
theorem Hs70.back {P G : List Str} {es : List Ent} {Dp Dg Dn : List (Str × Str)} (h : Hs70 P G es) (rn : Ren P G es Dp Dg Dn) {P' G' : List Str} (pp : P'.Perm (P.map (look Dp))) (pg : G'.Perm (G.map (look Dg))) :
    Ren P' G' (sortN (renL es Dp Dg Dn)) (backD Dp P) (backD Dg G) (backD Dn (es.map Ent.name)) ∧ (P'.map (look (backD Dp P))).Perm P ∧ (G'.map (look (backD Dg G))).Perm G ∧ sortN (renL (sortN (renL es Dp Dg Dn)) (backD Dp P) (backD Dg G) (backD Dn (es.map Ent.name))) = es := by
  have g := h.gd
  have g' := h.good rn pp pg
  have q1 : (P'.map (look (backD Dp P))).Perm P := by
    have := pp.map (look (backD Dp P))
    rwa [back_map rn.uP] at this
  have q2 : (G'.map (look (backD Dg G))).Perm G := by
    have := pg.map (look (backD Dg G))
    rwa [back_map rn.uG] at this
  have q3 : (renL (sortN (renL es Dp Dg Dn)) (backD Dp P) (backD Dg G) (backD Dn (es.map Ent.name))).Perm es := by
    have := (sortN_p (renL es Dp Dg Dn)).map (Ent.ren (look (backD Dp P)) (look (backD Dg G)) (look (backD Dn (es.map Ent.name))))
    have e : (renL es Dp Dg Dn).map (Ent.ren (look (backD Dp P)) (look (backD Dg G)) (look (backD Dn (es.map Ent.name)))) = es := by
      rw [List.map_map]
      conv => rhs; rw [← List.map_id es]
      refine List.map_congr_left fun x hx => ?_
      obtain ⟨n, m0, m1, HL, hh, fr⟩ := g.ents x hx
      exact From.ren_back fr (fun y hy z => by
        have := rn.nP.look (g.nm y hy)
        rw [z] at this
        exact absurd this (by decide +kernel)) (fun y hy => back_look rn.uP hy) (fun y hy => back_look rn.uG hy) (back_look rn.uN (List.mem_map.mpr ⟨x, hx, rfl⟩))
    rwa [e] at this
  have nn : ∀ x ∈ es.map Ent.name, nameB x = true := fun x hx => by
    obtain ⟨e, he, rfl⟩ := List.mem_map.mp hx
    exact (g.ents e he).1
  have q4 : (((sortN (renL es Dp Dg Dn)).map Ent.name).map (look (backD Dn (es.map Ent.name)))).Perm (es.map Ent.name) := by
    have e1 := ((sortN_p (renL es Dp Dg Dn)).map Ent.name).map (look (backD Dn (es.map Ent.name)))
    have e2 : ((renL es Dp Dg Dn).map Ent.name).map (look (backD Dn (es.map Ent.name))) = es.map Ent.name := by
      have e3 : (renL es Dp Dg Dn).map Ent.name = (es.map Ent.name).map (look Dn) := by
        rw [List.map_map, List.map_map]
        exact List.map_congr_left fun x hx => ren_name x _ _ _
      rw [e3, back_map rn.uN]
    rwa [e2] at e1
  refine ⟨⟨back_nm rn.nP g.nm (by have := g.le; omega), back_nm rn.nG g.gn (by have := g.gl; omega), back_nm rn.nN nn (by rw [List.length_map]; have := h.le; omega), q1.nodup_iff.mpr g.nd, q2.nodup_iff.mpr g.gd, q4.nodup_iff.mpr h.nd, by have := g'.le; omega, by have := g'.gl; omega, by rw [ren_len]; have := h.le; omega, g'.full⟩, q1, q2, ?_⟩
  rw [sortN_perm q3.symm h.inj |>.symm, h.so]
theorem ren_id (e : Ent) : e.ren (look []) (look []) (look []) = e := by
  cases e with
  | some_ n m g o t =>
    show Ent.some_ n m g o (if t = "" then "" else t) = _
    by_cases z : t = ""
    · rw [if_pos z, z]
    · rw [if_neg z]
  | _ => rfl
theorem map_look_nil (ns : List Str) : ns.map (look []) = ns := by
  conv => rhs; rw [← List.map_id ns]
  exact List.map_congr_left fun x _ => rfl
theorem Hs70.none {P G : List Str} {es : List Ent} (h : Hs70 P G es) : Ren P G es [] [] [] ∧ sortN (renL es [] [] []) = es := by
  have g := h.gd
  refine ⟨⟨.nil, .nil, .nil, by rw [map_look_nil]; exact g.nd, by rw [map_look_nil]; exact g.gd, by rw [map_look_nil]; exact h.nd, by have := g.le; omega, by have := g.gl; omega, by have := h.le; omega, g.full⟩, ?_⟩
  have e : renL es [] [] [] = es := by
    conv => rhs; rw [← List.map_id es]
    exact List.map_congr_left fun x _ => ren_id x
  rw [e, h.so]
/-! ### the parts told, the law -/
theorem name_ok {y : Str} (h : nameB y = true) : PyData.strOk y = true := by
  have all : y.cps.toList.all signB = true := by
    unfold nameB at h
    rw [Bool.and_eq_true] at h
    exact h.2
  have low : ∀ c ∈ abc.cps.toList, c < 0x110000 := by decide +kernel
  unfold PyData.strOk
  rw [← Array.all_toList, List.all_eq_true]
  intro c hc
  exact decide_eq_true (low c (of_decide_eq_true (List.all_eq_true.mp all c hc)))
theorem lay_strs : ∀ {ys : List Str}, (∀ y ∈ ys, nameB y = true) → PyData.canLayAll0 (ys.map PyData.str) = true
  | [], _ => rfl
  | y :: r, h => by
    rw [List.map_cons, PyData.canLayAll0, PyData.canLay0, name_ok (h y List.mem_cons_self), lay_strs fun z hz => h z (List.mem_cons_of_mem _ hz)]
    rfl
theorem deep_strs : ∀ ys : List Str, PyData.depthAll (ys.map PyData.str) = 0
  | [] => rfl
  | _ :: r => by simp [PyData.depthAll, PyData.depth, deep_strs r]
theorem shaped_strs {ys : List Str} (h : ∀ y ∈ ys, nameB y = true) : SeqAt.shaped (.tuple (ys.map PyData.str)) = true := by
  simp [SeqAt.shaped, PyData.canLay0, PyData.depth, lay_strs h, deep_strs]
/-! ### entries as data, compared -/
theorem word_ok (e : Ent) : PyData.strOk e.word = true := by
  have h : ∀ x ∈ words7, PyData.strOk x = true := by decide +kernel
  exact h _ e.word_in
theorem entD_cons (e : Ent) : entD e = .tuple (.str e.word :: .str e.name :: .int e.moment :: e.rest.map dV) := rfl
theorem rest_lay {e : Ent} {P G HL : List Str} (hP : ∀ y ∈ P, nameB y = true) (hG : ∀ y ∈ G, nameB y = true) (hH : ∀ y ∈ HL, nameB y = true) (h : e.From P G HL) : PyData.canLayAll0 (e.rest.map dV) = true := by
  have e0 : PyData.strOk "" = true := by decide +kernel
  cases e with
  | come n m g p k r => simp [Ent.rest, dV, PyData.canLayAll0, PyData.canLay0, name_ok (hG _ h.1), name_ok (hP _ h.2.1)]
  | go n m g p k => simp [Ent.rest, dV, PyData.canLayAll0, PyData.canLay0, name_ok (hG _ h.1), name_ok (hP _ h.2.1)]
  | move n m g o t k => simp [Ent.rest, dV, PyData.canLayAll0, PyData.canLay0, name_ok (hG _ h.1), name_ok (hP _ h.2.1), name_ok (hP _ h.2.2.1)]
  | some_ n m g o t =>
    have ot : PyData.strOk t = true := by
      rcases h.2.2 with z | z
      · rw [z]; exact e0
      · exact name_ok (hP _ z.1)
    simp [Ent.rest, dV, PyData.canLayAll0, PyData.canLay0, name_ok (hG _ h.1), name_ok (hP _ h.2.1), ot]
  | swap n m o t => simp [Ent.rest, dV, PyData.canLayAll0, PyData.canLay0, name_ok (hP _ h.1), name_ok (hP _ h.2.1)]
  | count n m g p k hd => simp [Ent.rest, dV, PyData.canLayAll0, PyData.canLay0, name_ok (hG _ h.1), name_ok (hP _ h.2.1), name_ok (hH _ h.2.2.2.2)]
  | look n m g p => simp [Ent.rest, dV, PyData.canLayAll0, PyData.canLay0, name_ok (hG _ h.1), name_ok (hP _ h.2)]
theorem dV_depth : ∀ vs : List V, PyData.depthAll (vs.map dV) = 0
  | [] => rfl
  | v :: r => by
    rw [List.map_cons]
    cases v <;> simp [dV, PyData.depthAll, PyData.depth, dV_depth r]
theorem entD_depth (e : Ent) : (entD e).depth = 1 := by
  unfold entD
  rw [PyData.depth, dV_depth]
theorem shaped_entF {e : Ent} {P G HL : List Str} (n1 : nameB e.name = true) (hP : ∀ y ∈ P, nameB y = true) (hG : ∀ y ∈ G, nameB y = true) (hH : ∀ y ∈ HL, nameB y = true) (h : e.From P G HL) : SeqAt.shaped (entD e) = true := by
  unfold SeqAt.shaped
  rw [entD_depth, entD_cons, PyData.canLay0]
  simp only [PyData.canLayAll0, PyData.canLay0, word_ok, name_ok n1, rest_lay hP hG hH h, Bool.and_self]
  decide
/-! ### repr of any data, with lists, tuples and dicts one within the other -/
def keyD : Key → PyData
  | .inl i => .int i
  | .inr x => .str x
mutual
inductive Dq (K : PySem.W.Frag) (H : Hp) : V → PyData → Prop where
  | non : Dq K H .non .none
  | bl (b : Bool) : Dq K H (.bl b) (.bool b)
  | int (i : Int) : Dq K H (.int i) (.int i)
  | str (x : Str) : Dq K H (.str x) (.str x)
  | lst {a : Addr} {xs : List V} {ds : List PyData} (h : SqL K H a xs) (t : DqAll K H xs ds) : Dq K H (.ref a) (.list ds)
  | tup {a : Addr} {xs : List V} {ds : List PyData} (h : SqT K H a xs) (t : DqAll K H xs ds) : Dq K H (.ref a) (.tuple ds)
  | dct {a : Addr} {kvs : List (Key × V)} {D : List (PyData × PyData)} (h : H a = some (.dK kvs)) (t : DqAll K H (kvs.map (·.2)) (D.map (·.2))) (ke : D.map (·.1) = kvs.map fun p => keyD p.1) : Dq K H (.ref a) (.dict D)
  | dtt {a : Addr} {kvs : List (List Key × V)} {D : List (PyData × PyData)} (h : H a = some (.dT kvs)) (t : DqAll K H (kvs.map (·.2)) (D.map (·.2))) (ke : D.map (·.1) = kvs.map fun p => .tuple (p.1.map keyD)) : Dq K H (.ref a) (.dict D)
inductive DqAll (K : PySem.W.Frag) (H : Hp) : List V → List PyData → Prop where
  | nil : DqAll K H [] []
  | cons {v : V} {vs : List V} {d : PyData} {ds : List PyData} (h : Dq K H v d) (t : DqAll K H vs ds) : DqAll K H (v :: vs) (d :: ds)
end
section
variable {P : Program} {w : World}
theorem key_reads {h : Heap} {k : Key} {u : Value} (e : keyIs k u = true) : Reads h u (keyD k) [] := by
  rcases keyIs_shape e with ⟨i, t, rfl, rfl⟩ | ⟨x, t, rfl, rfl⟩
  · exact .int i t
  · exact .str x t
theorem rel_reads {h : Heap} {k : Key} {u : Value} (e : RelV (kV k) u) : Reads h u (keyD k) [] := by
  cases k with
  | inl i =>
    obtain ⟨t, rfl⟩ := e
    exact .int i t
  | inr x =>
    obtain ⟨t, rfl⟩ := e
    exact .str x t
theorem kv_reads {h : Heap} : ∀ {kvs : List (Key × V)} {vs : List (Key × Value)} {es : List DictEntry}, KV kvs vs → Pairs (mixKind P w) es vs → ReadsAll h (es.map (·.key)) (kvs.map fun p => keyD p.1) [] ∧ Vals (kvs.map (·.2)) (es.map (·.val))
  | _, _, _, .nil, p => by
    cases p
    exact ⟨.nil, .nil⟩
  | _, _, _, .cons ⟨e1, e2⟩ t, p => by
    cases p with
    | cons k v r =>
      obtain ⟨i1, i2⟩ := kv_reads t r
      refine ⟨?_, ?_⟩
      · refine ReadsAll.cons (as := []) (bs := []) (key_reads ?_) i1
        rw [e1]
        exact k
      · refine .cons ?_ i2
        show RelV _ (DictEntry.val _)
        rw [v]
        exact e2
theorem tup_reads {h : Heap} : ∀ {ks : List Key} {us : List Value}, Vals (ks.map kV) us → ReadsAll h us (ks.map keyD) []
  | [], _, r => by
    cases r
    exact .nil
  | k :: ks, _, r => by
    cases r with
    | cons r1 r2 => exact ReadsAll.cons (as := []) (bs := []) (rel_reads r1) (tup_reads r2)
theorem kt_reads {H : Hp} {h : Heap} (hok : HOk P w H h) : ∀ {kvs : List (List Key × V)} {xs : List (List Key × Addr × Value)},
    Paired (fun (p : List Key × V) (q : List Key × Addr × Value) => p.1 = q.1 ∧ H q.2.1 = some (.tup (p.1.map kV)) ∧ RelV p.2 q.2.2) kvs xs →
    ReadsAll h ((xs.map (entryOfKey (tupleKind (mixKind P w)))).map (·.key)) (kvs.map fun p => .tuple (p.1.map keyD)) [] ∧ Vals (kvs.map (·.2)) ((xs.map (entryOfKey (tupleKind (mixKind P w)))).map (·.val))
  | _, _, .nil => ⟨.nil, .nil⟩
  | _, _, .cons ⟨e1, e2, e3⟩ t => by
    obtain ⟨i1, i2⟩ := kt_reads hok t
    refine ⟨?_, .cons e3 i2⟩
    obtain ⟨_, its, rv, o, ho, hc, n, hd⟩ := (show ObjOk P w H h _ (.tup _) from hok _ _ e2)
    exact ReadsAll.cons (as := []) (bs := []) (.tuple ho hc hd (tup_reads rv)) i1
end
section
variable {X : Cx} {pins : List (Addr × Obj)} {σ : L2.St} {H : Hp} {s : Shared}
/-- what a dict's object holds -/
theorem dk_obj (I : Inv X pins σ H s) {a : Addr} {kvs : List (Key × V)} (h : H a = some (.dK kvs)) : ∃ o es ep, s.heap.get? a = some o ∧ o.cls = .type "dict" ∧ o.data = .dict es ep ∧ (a == sysModules) = false ∧
    ReadsAll s.heap (es.toList.map (·.key)) (kvs.map fun p => keyD p.1) [] ∧ Vals (kvs.map (·.2)) (es.toList.map (·.val)) := by
  obtain ⟨_, ns, vs, kv, o, es, ep, h1, h2, h3, h4⟩ := dk_of I.hok h
  obtain ⟨r1, r2⟩ := kv_reads (h := s.heap) kv h4.2.1
  exact ⟨o, es, ep, h1, h2.1, h3, ns, r1, r2⟩
theorem dt_obj (I : Inv X pins σ H s) {a : Addr} {kvs : List (List Key × V)} (h : H a = some (.dT kvs)) : ∃ o es ep, s.heap.get? a = some o ∧ o.cls = .type "dict" ∧ o.data = .dict es ep ∧ (a == sysModules) = false ∧
    ReadsAll s.heap (es.toList.map (·.key)) (kvs.map fun p => PyData.tuple (p.1.map keyD)) [] ∧ Vals (kvs.map (·.2)) (es.toList.map (·.val)) := by
  obtain ⟨_, ns, xs, pr, o, es, ep, h1, h2, h3, h4, _⟩ := (show ObjOk X.prog X.w H s.heap a (.dT kvs) from I.hok a _ h)
  obtain ⟨r1, r2⟩ := kt_reads I.hok pr
  rw [← h4] at r1 r2
  exact ⟨o, es, ep, h1, h2.1, h3, ns, r1, r2⟩
mutual
theorem Dq.reads (I : Inv X pins σ H s) : ∀ {v : V} {d : PyData}, Dq X.K H v d → ∀ u, RelV v u → ∃ as, Reads s.heap u d as
  | _, _, .non, _, r => by
    cases r
    exact ⟨_, .none⟩
  | _, _, .bl b, _, r => by
    cases r
    exact ⟨_, .bool b⟩
  | _, _, .int i, _, r => by
    obtain ⟨t, rfl⟩ := r
    exact ⟨_, .int i t⟩
  | _, _, .str x, _, r => by
    obtain ⟨t, rfl⟩ := r
    exact ⟨_, .str x t⟩
  | _, _, .lst h t, _, r => by
    cases r
    obtain ⟨its, rv, ⟨o, n, ho, hc, _, hd⟩, _⟩ := I.list h
    obtain ⟨as, q⟩ := DqAll.reads I t its rv
    exact ⟨_, .list ho hc hd q⟩
  | _, _, .tup h t, _, r => by
    cases r
    obtain ⟨its, rv, ⟨o, ho, hc, n, hd⟩, _⟩ := I.tuple h
    obtain ⟨as, q⟩ := DqAll.reads I t its rv
    exact ⟨_, .tuple ho hc hd q⟩
  | _, _, .dct h t ke, _, r => by
    cases r
    obtain ⟨o, es, ep, h1, h2, h3, _, r1, r2⟩ := dk_obj I h
    obtain ⟨as, q⟩ := DqAll.reads I t _ r2
    rw [← ke] at r1
    exact ⟨_, .dict h1 h2 h3 r1 q⟩
  | _, _, .dtt h t ke, _, r => by
    cases r
    obtain ⟨o, es, ep, h1, h2, h3, _, r1, r2⟩ := dt_obj I h
    obtain ⟨as, q⟩ := DqAll.reads I t _ r2
    rw [← ke] at r1
    exact ⟨_, .dict h1 h2 h3 r1 q⟩
theorem DqAll.reads (I : Inv X pins σ H s) : ∀ {vs : List V} {ds : List PyData}, DqAll X.K H vs ds → ∀ us, Vals vs us → ∃ as, ReadsAll s.heap us ds as
  | _, _, .nil, _, r => by
    cases r
    exact ⟨_, .nil⟩
  | _, _, .cons h t, _, r => by
    cases r with
    | cons r1 r2 =>
      obtain ⟨as, q1⟩ := Dq.reads I h _ r1
      obtain ⟨bs, q2⟩ := DqAll.reads I t _ r2
      exact ⟨_, .cons q1 q2⟩
end
mutual
theorem Dq.rep (I : Inv X pins σ H s) : ∀ {v : V} {d : PyData}, Dq X.K H v d → ∀ u, RelV v u → d.showable = true → d.shown.length ≤ sizeLine → ∃ bs, ReadAtMost s.heap d.depth bs ∧ ReprK X.prog X.w bs s.heap d.depth u d.shown
  | _, _, .non, _, r, _, _ => by
    cases r
    exact ⟨[], (fun _ h => nomatch h), by simp only [PyData.shown]; exact .of_is ReprIs.none _ _ _⟩
  | _, _, .bl b, _, r, _, _ => by
    cases r
    exact ⟨[], (fun _ h => nomatch h), by simp only [PyData.shown]; exact .of_is (ReprIs.bool b) _ _ _⟩
  | _, _, .int i, _, r, hs, _ => by
    obtain ⟨t, rfl⟩ := r
    exact ⟨[], (fun _ h => nomatch h), by simp only [PyData.shown]; exact .of_is (ReprIs.int t (by simpa [PyData.showable] using hs)) _ _ _⟩
  | _, _, .str x, _, r, _, hz => by
    obtain ⟨t, rfl⟩ := r
    exact ⟨[], (fun _ h => nomatch h), by simp only [PyData.shown]; exact .of_is (ReprIs.str x t (by simpa only [PyData.shown] using hz)) _ _ _⟩
  | _, _, .lst (ds := ds) h t, _, r, hs, hz => by
    cases r
    obtain ⟨its, rv, ⟨o, n, ho, hc, _, hd⟩, _⟩ := I.list h
    have hz' : (listText (PyData.shownAll ds)).length ≤ sizeLine := by simpa only [PyData.shown] using hz
    obtain ⟨as, q⟩ := DqAll.reads I t its rv
    obtain ⟨bs, hb, hk⟩ := DqAll.rep I t its rv (by simpa [PyData.showable] using hs) fun t ht => Nat.le_trans (listText_mem_le ht) hz'
    have r := Reads.list ho hc hd q
    have hna := not_mem_of_deeper r (by simp only [PyData.depth]; omega) hb
    refine ⟨_ :: bs, ReadAtMost.cons r (by simp only [PyData.depth]; omega) hb, ?_⟩
    simp only [PyData.depth, PyData.shown]
    cases its with
    | nil =>
      cases rv
      cases t
      simp only [PyData.shownAll, listText_nil]
      exact ReprK.listEmpty ho hc hd
    | cons x l => exact ReprK.list ho hc hd hna (by simpa using hk.length_eq) (fun i y e => hk.item i y (by simpa using e))
  | _, _, .tup (ds := ds) h t, _, r, hs, hz => by
    cases r
    obtain ⟨its, rv, ⟨o, ho, hc, n, hd⟩, _⟩ := I.tuple h
    have hz' : (tupleText (PyData.shownAll ds)).length ≤ sizeLine := by simpa only [PyData.shown] using hz
    obtain ⟨as, q⟩ := DqAll.reads I t its rv
    obtain ⟨bs, hb, hk⟩ := DqAll.rep I t its rv (by simpa [PyData.showable] using hs) fun t ht => Nat.le_trans (tupleText_mem_le ht) hz'
    have r := Reads.tuple ho hc hd q
    have hna := not_mem_of_deeper r (by simp only [PyData.depth]; omega) hb
    refine ⟨_ :: bs, ReadAtMost.cons r (by simp only [PyData.depth]; omega) hb, ?_⟩
    simp only [PyData.depth, PyData.shown]
    exact ReprK.tuple ho hc hd hna hk
  | _, _, .dct (D := D) h t ke, _, r, hs, hz => by
    cases r
    obtain ⟨o, es, ep, h1, h2, h3, ns, r1, r2⟩ := dk_obj I h
    rw [← ke] at r1
    have hz' : (dictText (PyData.shownKv D)).length ≤ sizeLine := by simpa only [PyData.shown] using hz
    obtain ⟨as, q⟩ := DqAll.reads I t _ r2
    obtain ⟨hs1, hs2⟩ := PyData.showableKv_split D (by simpa [PyData.showable] using hs)
    obtain ⟨b1, hb1, k1⟩ := ReprAllK.of_readsAll (prog := X.prog) (w := X.w) r1 hs1 (fun _ hm => nomatch hm) fun t ht => let ⟨p, hp, hl⟩ := PyData.shownKv_key_le D t ht; Nat.le_trans hl (Nat.le_trans (dictText_mem_le hp) hz')
    obtain ⟨b2, hb2, k2⟩ := DqAll.rep I t _ r2 hs2 fun t ht => let ⟨p, hp, hl⟩ := PyData.shownKv_val_le D t ht; Nat.le_trans hl (Nat.le_trans (dictText_mem_le hp) hz')
    have r := Reads.dict h1 h2 h3 r1 q
    have hb : ReadAtMost s.heap (PyData.depthKv D) (b1 ++ b2) := (hb1.mono (PyData.depthAll_keys_le D)).append (hb2.mono (PyData.depthAll_vals_le D))
    have hna := not_mem_of_deeper r (by simp only [PyData.depth]; omega) hb
    refine ⟨_ :: (b1 ++ b2), ReadAtMost.cons r (by simp only [PyData.depth]; omega) hb, ?_⟩
    simp only [PyData.depth, PyData.shown, PyData.shownKv_eq]
    exact ReprK.dict h1 h2 h3 ns hna (ReprEntriesK.of_two es.toList _ _
      (k1.more_le (fun b hb => List.mem_append_left _ hb) (PyData.depthAll_keys_le D)) (k2.more_le (fun b hb => List.mem_append_right _ hb) (PyData.depthAll_vals_le D)))
  | _, _, .dtt (D := D) h t ke, _, r, hs, hz => by
    cases r
    obtain ⟨o, es, ep, h1, h2, h3, ns, r1, r2⟩ := dt_obj I h
    rw [← ke] at r1
    have hz' : (dictText (PyData.shownKv D)).length ≤ sizeLine := by simpa only [PyData.shown] using hz
    obtain ⟨as, q⟩ := DqAll.reads I t _ r2
    obtain ⟨hs1, hs2⟩ := PyData.showableKv_split D (by simpa [PyData.showable] using hs)
    obtain ⟨b1, hb1, k1⟩ := ReprAllK.of_readsAll (prog := X.prog) (w := X.w) r1 hs1 (fun _ hm => nomatch hm) fun t ht => let ⟨p, hp, hl⟩ := PyData.shownKv_key_le D t ht; Nat.le_trans hl (Nat.le_trans (dictText_mem_le hp) hz')
    obtain ⟨b2, hb2, k2⟩ := DqAll.rep I t _ r2 hs2 fun t ht => let ⟨p, hp, hl⟩ := PyData.shownKv_val_le D t ht; Nat.le_trans hl (Nat.le_trans (dictText_mem_le hp) hz')
    have r := Reads.dict h1 h2 h3 r1 q
    have hb : ReadAtMost s.heap (PyData.depthKv D) (b1 ++ b2) := (hb1.mono (PyData.depthAll_keys_le D)).append (hb2.mono (PyData.depthAll_vals_le D))
    have hna := not_mem_of_deeper r (by simp only [PyData.depth]; omega) hb
    refine ⟨_ :: (b1 ++ b2), ReadAtMost.cons r (by simp only [PyData.depth]; omega) hb, ?_⟩
    simp only [PyData.depth, PyData.shown, PyData.shownKv_eq]
    exact ReprK.dict h1 h2 h3 ns hna (ReprEntriesK.of_two es.toList _ _
      (k1.more_le (fun b hb => List.mem_append_left _ hb) (PyData.depthAll_keys_le D)) (k2.more_le (fun b hb => List.mem_append_right _ hb) (PyData.depthAll_vals_le D)))
theorem DqAll.rep (I : Inv X pins σ H s) : ∀ {vs : List V} {ds : List PyData}, DqAll X.K H vs ds → ∀ us, Vals vs us → PyData.showableAll ds = true → (∀ t ∈ PyData.shownAll ds, t.length ≤ sizeLine) →
    ∃ bs, ReadAtMost s.heap (PyData.depthAll ds) bs ∧ ReprAllK X.prog X.w bs s.heap (PyData.depthAll ds) us (PyData.shownAll ds)
  | _, _, .nil, _, r, _, _ => by
    cases r
    exact ⟨[], (fun _ h => nomatch h), by simp only [PyData.shownAll]; exact .nil⟩
  | _, _, .cons (d := d) (ds := ds) h t, _, r, hs, hz => by
    cases r with
    | cons r1 r2 =>
      have hs' : d.showable = true ∧ PyData.showableAll ds = true := by simpa [PyData.showableAll] using hs
      obtain ⟨b1, hb1, k1⟩ := Dq.rep I h _ r1 hs'.1 (hz _ (by simp only [PyData.shownAll]; exact List.mem_cons_self ..))
      obtain ⟨b2, hb2, k2⟩ := DqAll.rep I t _ r2 hs'.2 fun t ht => hz t (by simp only [PyData.shownAll]; exact List.mem_cons_of_mem _ ht)
      refine ⟨b1 ++ b2, ?_, ?_⟩
      · intro b hm
        simp only [PyData.depthAll]
        rcases List.mem_append.mp hm with hm | hm
        · obtain ⟨d', as', r', hd'⟩ := hb1 b hm
          exact ⟨d', as', r', Nat.le_trans hd' (Nat.le_max_left _ _)⟩
        · obtain ⟨d', as', r', hd'⟩ := hb2 b hm
          exact ⟨d', as', r', Nat.le_trans hd' (Nat.le_max_right _ _)⟩
      · simp only [PyData.depthAll, PyData.shownAll]
        exact .cons ((k1.more fun b hb => List.mem_append_left _ hb).level_le (Nat.le_max_left _ _)) (k2.more_le (fun b hb => List.mem_append_right _ hb) (Nat.le_max_right _ _))
end
end
def rShowQ (K : PySem.W.Frag) : List V → Hp → VK → Prop := fun vs H Q => ∃ (a : Addr) (d : PyData), vs = [.ref a] ∧ Dq K H (.ref a) d ∧ d.showable = true ∧ d.depth ≤ 60 ∧ d.shown.length ≤ sizeLine ∧ Q (.str d.shown) H
theorem cr_reprQ {X : Cx} (hG : X.A.guards = some []) (hu : X.A.units + 64 < cLine) : CallR X (.builtin "repr") (rShowQ X.K) := by
  rintro pins s σ H vs us Q I r ⟨a, d, rfl, dq, sh, dp, sz, q⟩
  rw [Vals.ref1 r]
  have hQ : ∀ (h' : Heap) (u : Tok) (tk : _), (∀ b o, s.heap.get? b = some o → h'.get? b = some o) → EP X pins σ Q (.str d.shown u) { s with heap := h', toks := tk } := fun h' u tk hk => ⟨.str d.shown, H, I.kept hk, ⟨_, rfl⟩, q⟩
  cases dq with
  | @lst _ xs ds h t =>
    obtain ⟨its, rv, ⟨o, n, ho, hc, _, hd⟩, _⟩ := I.list h
    have hz' : (listText (PyData.shownAll ds)).length ≤ sizeLine := by simpa only [PyData.shown] using sz
    obtain ⟨as, q1⟩ := DqAll.reads I t its rv
    obtain ⟨bs, hb, hk⟩ := DqAll.rep I t its rv (by simpa [PyData.showable] using sh) fun t ht => Nat.le_trans (listText_mem_le ht) hz'
    have r := Reads.list ho hc hd q1
    have hna := not_mem_of_deeper r (by simp only [PyData.depth]; omega) hb
    simp only [PyData.depth] at dp
    simp only [PyData.shown] at hQ
    refine call_repr_slot (by omega) ⟨o, ho, hc⟩ F.slot_list_repr.toG ?_
    cases its with
    | nil =>
      cases rv
      cases t
      simp only [PyData.shownAll, listText_nil] at hQ
      exact call_list_repr_empty ⟨o, ho, hc⟩ ho hd ⟨_, _, rfl, hQ s.heap _ _ fun _ _ e => e⟩
    | cons x l => exact call_list_reprK ho hc hd hna (by simpa using hk.length_eq) (fun i y e => hk.item i y (by simpa using e)) hG (fun b _ => Clear.nil b) (by show X.A.units + 1 + _ < cLine; omega) (fun _ _ e => e) (fun h' u tk hk => ⟨_, _, rfl, hQ h' u tk hk⟩) hz'
  | @tup _ xs ds h t =>
    obtain ⟨its, rv, ⟨o, ho, hc, n, hd⟩, _⟩ := I.tuple h
    have hz' : (tupleText (PyData.shownAll ds)).length ≤ sizeLine := by simpa only [PyData.shown] using sz
    obtain ⟨as, q1⟩ := DqAll.reads I t its rv
    obtain ⟨bs, hb, hk⟩ := DqAll.rep I t its rv (by simpa [PyData.showable] using sh) fun t ht => Nat.le_trans (tupleText_mem_le ht) hz'
    have r := Reads.tuple ho hc hd q1
    have hna := not_mem_of_deeper r (by simp only [PyData.depth]; omega) hb
    simp only [PyData.depth] at dp
    simp only [PyData.shown] at hQ
    refine call_repr_slot (by omega) ⟨o, ho, hc⟩ F.slot_tuple_repr ?_
    exact call_tuple_reprK ho hc hd hna hk hG (fun b _ => Clear.nil b) (by show X.A.units + 1 + _ < cLine; omega) (fun _ _ e => e) (fun h' u tk hk => ⟨_, _, rfl, hQ h' u tk hk⟩) hz'
  | @dct _ kvs D h t ke =>
    obtain ⟨o, es, ep, h1, h2, h3, ns, r1, r2⟩ := dk_obj I h
    rw [← ke] at r1
    have hz' : (dictText (PyData.shownKv D)).length ≤ sizeLine := by simpa only [PyData.shown] using sz
    obtain ⟨as, q1⟩ := DqAll.reads I t _ r2
    obtain ⟨hs1, hs2⟩ := PyData.showableKv_split D (by simpa [PyData.showable] using sh)
    obtain ⟨b1, hb1, k1⟩ := ReprAllK.of_readsAll (prog := X.prog) (w := X.w) r1 hs1 (fun _ hm => nomatch hm) fun t ht => let ⟨p, hp, hl⟩ := PyData.shownKv_key_le D t ht; Nat.le_trans hl (Nat.le_trans (dictText_mem_le hp) hz')
    obtain ⟨b2, hb2, k2⟩ := DqAll.rep I t _ r2 hs2 fun t ht => let ⟨p, hp, hl⟩ := PyData.shownKv_val_le D t ht; Nat.le_trans hl (Nat.le_trans (dictText_mem_le hp) hz')
    have r := Reads.dict h1 h2 h3 r1 q1
    have hb : ReadAtMost s.heap (PyData.depthKv D) (b1 ++ b2) := (hb1.mono (PyData.depthAll_keys_le D)).append (hb2.mono (PyData.depthAll_vals_le D))
    have hna := not_mem_of_deeper r (by simp only [PyData.depth]; omega) hb
    simp only [PyData.depth] at dp
    simp only [PyData.shown, PyData.shownKv_eq] at hQ
    refine call_repr_slot (by omega) ⟨o, h1, h2⟩ F.slot_dict_repr ?_
    exact call_dict_reprK h1 h2 h3 ns hna (ReprEntriesK.of_two es.toList _ _
      (k1.more_le (fun b hb => List.mem_append_left _ hb) (PyData.depthAll_keys_le D)) (k2.more_le (fun b hb => List.mem_append_right _ hb) (PyData.depthAll_vals_le D))) hG (fun b _ => Clear.nil b) (by show X.A.units + 1 + _ < cLine; omega) (fun _ _ e => e) (fun h' u tk hk => ⟨_, _, rfl, hQ h' u tk hk⟩) (by rw [← PyData.shownKv_eq]; exact hz')
  | @dtt _ kvs D h t ke =>
    obtain ⟨o, es, ep, h1, h2, h3, ns, r1, r2⟩ := dt_obj I h
    rw [← ke] at r1
    have hz' : (dictText (PyData.shownKv D)).length ≤ sizeLine := by simpa only [PyData.shown] using sz
    obtain ⟨as, q1⟩ := DqAll.reads I t _ r2
    obtain ⟨hs1, hs2⟩ := PyData.showableKv_split D (by simpa [PyData.showable] using sh)
    obtain ⟨b1, hb1, k1⟩ := ReprAllK.of_readsAll (prog := X.prog) (w := X.w) r1 hs1 (fun _ hm => nomatch hm) fun t ht => let ⟨p, hp, hl⟩ := PyData.shownKv_key_le D t ht; Nat.le_trans hl (Nat.le_trans (dictText_mem_le hp) hz')
    obtain ⟨b2, hb2, k2⟩ := DqAll.rep I t _ r2 hs2 fun t ht => let ⟨p, hp, hl⟩ := PyData.shownKv_val_le D t ht; Nat.le_trans hl (Nat.le_trans (dictText_mem_le hp) hz')
    have r := Reads.dict h1 h2 h3 r1 q1
    have hb : ReadAtMost s.heap (PyData.depthKv D) (b1 ++ b2) := (hb1.mono (PyData.depthAll_keys_le D)).append (hb2.mono (PyData.depthAll_vals_le D))
    have hna := not_mem_of_deeper r (by simp only [PyData.depth]; omega) hb
    simp only [PyData.depth] at dp
    simp only [PyData.shown, PyData.shownKv_eq] at hQ
    refine call_repr_slot (by omega) ⟨o, h1, h2⟩ F.slot_dict_repr ?_
    exact call_dict_reprK h1 h2 h3 ns hna (ReprEntriesK.of_two es.toList _ _
      (k1.more_le (fun b hb => List.mem_append_left _ hb) (PyData.depthAll_keys_le D)) (k2.more_le (fun b hb => List.mem_append_right _ hb) (PyData.depthAll_vals_le D))) hG (fun b _ => Clear.nil b) (by show X.A.units + 1 + _ < cLine; omega) (fun _ _ e => e) (fun h' u tk hk => ⟨_, _, rfl, hQ h' u tk hk⟩) (by rw [← PyData.shownKv_eq]; exact hz')
/-! ### shown data, as the heap grows; how long they are -/
theorem SqL.keep {K : PySem.W.Frag} {H H' : Hp} {a : Addr} {xs : List V} (k : ∀ a o, H a = some o → (∀ ps, o ≠ .tbl ps) → H' a = some o) (h : SqL K H a xs) : SqL K H' a xs := by
  rcases h with (h | ⟨o, h⟩) | h
  · exact .inl (.inl (k _ _ h fun ps z => nomatch z))
  · exact .inl (.inr ⟨o, k _ _ h fun ps z => nomatch z⟩)
  · exact .inr h
theorem SqT.keep {K : PySem.W.Frag} {H H' : Hp} {a : Addr} {xs : List V} (k : ∀ a o, H a = some o → (∀ ps, o ≠ .tbl ps) → H' a = some o) (h : SqT K H a xs) : SqT K H' a xs := by
  rcases h with (h | ⟨o, h⟩) | h
  · exact .inl (.inl (k _ _ h fun ps z => nomatch z))
  · exact .inl (.inr ⟨o, k _ _ h fun ps z => nomatch z⟩)
  · exact .inr h
section
variable {K : PySem.W.Frag} {H H' : Hp}
mutual
theorem Dq.on (k : ∀ a o, H a = some o → (∀ ps, o ≠ .tbl ps) → H' a = some o) : ∀ {v : V} {d : PyData}, Dq K H v d → Dq K H' v d
  | _, _, .non => .non
  | _, _, .bl b => .bl b
  | _, _, .int i => .int i
  | _, _, .str x => .str x
  | _, _, .lst h t => .lst (SqL.keep k h) (DqAll.on k t)
  | _, _, .tup h t => .tup (SqT.keep k h) (DqAll.on k t)
  | _, _, .dct h t ke => .dct (k _ _ h fun ps z => nomatch z) (DqAll.on k t) ke
  | _, _, .dtt h t ke => .dtt (k _ _ h fun ps z => nomatch z) (DqAll.on k t) ke
theorem DqAll.on (k : ∀ a o, H a = some o → (∀ ps, o ≠ .tbl ps) → H' a = some o) : ∀ {vs : List V} {ds : List PyData}, DqAll K H vs ds → DqAll K H' vs ds
  | _, _, .nil => .nil
  | _, _, .cons h t => .cons (Dq.on k h) (DqAll.on k t)
end
end
theorem toString_neg5 (i : Int) (h : i < 0) : (toString i).length ≤ (toString (-i)).length + 1 := by
  obtain ⟨n, rfl⟩ : ∃ n : Nat, i = -((n + 1 : Nat) : Int) := ⟨(-i).toNat - 1, by omega⟩
  rw [Int.neg_neg]
  show ("-" ++ toString (n + 1)).length ≤ (toString (n + 1)).length + 1
  rw [String.length_append]
  have : ("-" : String).length = 1 := rfl
  omega
theorem int_shown5 {i : Int} (h : i.natAbs < 10 ^ 60) : (PyData.shown (.int i)).length ≤ 70 ∧ i.natAbs.log2 < 1920 := by
  have hb : ((i.natAbs : Nat) : Int) < 10 ^ 60 := by
    have e : (((10 : Nat) ^ 60 : Nat) : Int) = (10 : Int) ^ 60 := by decide +kernel
    rw [← e]
    exact Int.ofNat_lt.mpr h
  refine ⟨?_, ?_⟩
  · by_cases z : 0 ≤ i
    · exact Nat.le_trans (toString_length_le z (k := 60) (by decide) (by rw [← Int.natAbs_of_nonneg z]; exact hb)) (by decide)
    · show (Str.ofString (toString i)).length ≤ 70
      have n1 : ((i.natAbs : Nat) : Int) = -i := by omega
      have h := toString_length_le (v := -i) (by omega) (k := 60) (by decide) (by rw [← n1]; exact hb)
      rw [PySem.ofString_length] at h ⊢
      have := toString_neg5 i (by omega)
      omega
  · by_cases z : i.natAbs = 0
    · rw [z]
      decide
    · exact Nat.lt_trans ((Nat.log2_lt z).mpr (Nat.lt_trans h (show (10 : Nat) ^ 60 < 2 ^ 200 by decide +kernel))) (by decide)
/-- a thing whose text isn't long: at most n, k deep -/
def ShQ (K : PySem.W.Frag) (H : Hp) (v : V) (n k : Nat) : Prop := ∃ d, Dq K H v d ∧ d.showable = true ∧ d.leavesShort 70 = true ∧ d.bulk ≤ n ∧ d.depth ≤ k
def ShQs (K : PySem.W.Frag) (H : Hp) (vs : List V) (n k : Nat) : Prop := ∃ ds, DqAll K H vs ds ∧ PyData.showableAll ds = true ∧ PyData.leavesShortAll 70 ds = true ∧ PyData.bulkAll ds ≤ vs.length * (n + 1) ∧ PyData.depthAll ds ≤ k
section
variable {K : PySem.W.Frag} {H H' : Hp} {n k : Nat}
theorem ShQ.on {v : V} (kp : ∀ a o, H a = some o → (∀ ps, o ≠ .tbl ps) → H' a = some o) (h : ShQ K H v n k) : ShQ K H' v n k := by
  obtain ⟨d, q, r⟩ := h
  exact ⟨d, q.on kp, r⟩
theorem ShQ.mono {v : V} {n' k' : Nat} (h : ShQ K H v n k) (hn : n ≤ n') (hk : k ≤ k') : ShQ K H v n' k' := by
  obtain ⟨d, q, a, b, c, e⟩ := h
  exact ⟨d, q, a, b, Nat.le_trans c hn, Nat.le_trans e hk⟩
theorem shq_non : ShQ K H .non n k := ⟨_, .non, rfl, rfl, Nat.zero_le _, Nat.zero_le _⟩
theorem shq_bl (b : Bool) : ShQ K H (.bl b) n k := ⟨_, .bl b, rfl, rfl, Nat.zero_le _, Nat.zero_le _⟩
theorem shq_int {i : Int} (h : i.natAbs < 10 ^ 60) : ShQ K H (.int i) n k := ⟨_, .int i, decide_eq_true (int_shown5 h).2, decide_eq_true (int_shown5 h).1, Nat.zero_le _, Nat.zero_le _⟩
theorem shq_str {z : Str} (h : z.length ≤ n) (ok : PyData.strOk z = true) : ShQ K H (.str z) n k := by
  refine ⟨_, .str z, rfl, ?_, h, Nat.zero_le _⟩
  have ok' : z.cps.all (fun c => decide (c < 0x110000)) = true := ok
  rw [← Array.all_toList, List.all_eq_true] at ok'
  simp only [PyData.leavesShort, List.all_eq_true, decide_eq_true_eq]
  intro c hc
  have := of_decide_eq_true (ok' c hc)
  have e : (16 : Nat) ^ 8 = 4294967296 := by decide
  omega
theorem shqs_of : ∀ {vs : List V}, (∀ v ∈ vs, ShQ K H v n k) → ShQs K H vs n k
  | [], _ => ⟨[], .nil, rfl, rfl, by simp [PyData.bulkAll], Nat.zero_le _⟩
  | v :: vs, h => by
    obtain ⟨d, q, a, b, c, e⟩ := h v List.mem_cons_self
    obtain ⟨ds, q2, a2, b2, c2, e2⟩ := shqs_of fun x hx => h x (List.mem_cons_of_mem _ hx)
    refine ⟨d :: ds, .cons q q2, by simp [PyData.showableAll, a, a2], by simp [PyData.leavesShortAll, b, b2], ?_, ?_⟩
    · simp only [PyData.bulkAll, List.length_cons, Nat.succ_mul]
      omega
    · simp only [PyData.depthAll]
      exact Nat.max_le.mpr ⟨e, e2⟩
theorem shq_lst {a : Addr} {xs : List V} {m : Nat} (h : SqL K H a xs) (t : ∀ v ∈ xs, ShQ K H v n k) (l : xs.length * (n + 1) ≤ m) : ShQ K H (.ref a) m (k + 1) := by
  obtain ⟨ds, q, a1, b, c, e⟩ := shqs_of t
  exact ⟨_, .lst h q, by simpa only [PyData.showable] using a1, by simpa only [PyData.leavesShort] using b, by simp only [PyData.bulk]; omega, by simp only [PyData.depth]; omega⟩
theorem shq_tup {a : Addr} {xs : List V} {m : Nat} (h : SqT K H a xs) (t : ∀ v ∈ xs, ShQ K H v n k) (l : xs.length * (n + 1) ≤ m) : ShQ K H (.ref a) m (k + 1) := by
  obtain ⟨ds, q, a1, b, c, e⟩ := shqs_of t
  exact ⟨_, .tup h q, by simpa only [PyData.showable] using a1, by simpa only [PyData.leavesShort] using b, by simp only [PyData.bulk]; omega, by simp only [PyData.depth]; omega⟩
theorem shq_d0 {a : Addr} (h : H a = some (.dK [])) : ShQ K H (.ref a) n (k + 1) := ⟨_, .dct (D := []) h .nil rfl, rfl, rfl, Nat.zero_le _, by simp [PyData.depth, PyData.depthKv]⟩
theorem shq_d1 {a : Addr} {x : Str} {i : Int} (h : H a = some (.dK [(Sum.inr x, .int i)])) (hx : x.length ≤ 60) (ok : PyData.strOk x = true) (hi : i.natAbs < 10 ^ 60) (hn : 70 ≤ n) : ShQ K H (.ref a) n (k + 1) := by
  obtain ⟨d, q, a1, b, c, e⟩ := shq_str (K := K) (H := H) (n := 60) (k := 0) hx ok
  cases q
  have i1 := int_shown5 hi
  refine ⟨_, .dct (D := [(.str x, .int i)]) h (.cons (.int i) .nil) rfl, ?_, ?_, ?_, ?_⟩
  · simp [PyData.showable, PyData.showableKv, i1.2]
  · simp only [PyData.leavesShort, PyData.leavesShortKv, Bool.and_true] at b ⊢
    rw [Bool.and_eq_true]
    exact ⟨b, decide_eq_true i1.1⟩
  · simp only [PyData.bulk, PyData.bulkKv] at c ⊢
    omega
  · simp [PyData.depth, PyData.depthKv]
theorem ShQ.facts {v : V} (h : ShQ K H v n k) (hn : n ≤ 230000) : ∃ d, Dq K H v d ∧ d.showable = true ∧ d.depth ≤ k ∧ d.shown.length ≤ sizeLine := by
  obtain ⟨d, q, a, b, c, e⟩ := h
  refine ⟨d, q, a, e, ?_⟩
  have s := PyData.shown_le_bulk 70 (by decide) d b
  rw [sizeLine_eq]
  omega
end
/-! ### a house and dicts of names, shown -/
mutual
theorem dq_of {K : PySem.W.Frag} {H : Hp} : ∀ {v : V} {d : PyData}, Dp K H v d → Dq K H v d
  | _, _, .non => .non
  | _, _, .bl b => .bl b
  | _, _, .int i => .int i
  | _, _, .str x => .str x
  | _, _, .lst h t => .lst h (dqs_of t)
  | _, _, .tup h t => .tup h (dqs_of t)
theorem dqs_of {K : PySem.W.Frag} {H : Hp} : ∀ {vs : List V} {ds : List PyData}, DpAll K H vs ds → DqAll K H vs ds
  | _, _, .nil => .nil
  | _, _, .cons h t => .cons (dq_of h) (dqs_of t)
end
structure ShD (d : PyData) : Prop where
  sh : d.showable = true
  ls : d.leavesShort 13 = true
  bk : d.bulk ≤ 20000
  dp : d.depth ≤ 5
theorem Short.shd {d : PyData} {n k : Nat} (s : Short d n k) (hn : n ≤ 20000) (hk : k ≤ 5) : ShD d := ⟨s.sh, s.ls, Nat.le_trans s.bk hn, Nat.le_trans s.dp hk⟩
def dicD (dk : List (Str × Str)) : PyData := .dict (dk.map fun y => (PyData.str y.1, PyData.str y.2))
theorem dq_kvD {K : PySem.W.Frag} {H : Hp} {a : Addr} {dk : List (Str × Str)} (h : H a = some (.dK (kvD dk))) : Dq K H (.ref a) (dicD dk) := by
  refine .dct h ?_ ?_
  · unfold kvD
    rw [List.map_map, List.map_map]
    have go : ∀ dk : List (Str × Str), DqAll K H (dk.map ((·.2) ∘ fun x => ((Sum.inr x.1 : Key), V.str x.2))) (dk.map ((·.2) ∘ fun y => (PyData.str y.1, PyData.str y.2))) := fun dk => by
      induction dk with
      | nil => exact .nil
      | cons y r ih => exact .cons (.str _) ih
    exact go dk
  · unfold kvD
    rw [List.map_map, List.map_map]
    rfl
theorem shd_kvD {dk : List (Str × Str)} (n : NmD dk) : ShD (dicD dk) := by
  have go : ∀ dk : List (Str × Str), (∀ y ∈ dk, nameB y.1 = true ∧ nameB y.2 = true) → PyData.showableKv (dk.map fun y => (PyData.str y.1, PyData.str y.2)) = true ∧ PyData.leavesShortKv 13 (dk.map fun y => (PyData.str y.1, PyData.str y.2)) = true ∧ PyData.bulkKv (dk.map fun y => (PyData.str y.1, PyData.str y.2)) ≤ dk.length * 30 ∧ PyData.depthKv (dk.map fun y => (PyData.str y.1, PyData.str y.2)) ≤ 0 := fun dk => by
    induction dk with
    | nil => exact fun _ => ⟨rfl, rfl, Nat.zero_le _, Nat.le_refl _⟩
    | cons y r ih =>
      intro h
      obtain ⟨h3, h4, h5, h6⟩ := ih fun z hz => h z (List.mem_cons_of_mem _ hz)
      have n2 := h y List.mem_cons_self
      have s1 := short_str (y := y.1) (.inl n2.1)
      have s2 := short_str (y := y.2) (.inl n2.2)
      have a1 := s1.sh
      have a2 := s2.sh
      have b1 := s1.ls
      have b2 := s2.ls
      have c1 := s1.bk
      have c2 := s2.bk
      have d1 := s1.dp
      have d2 := s2.dp
      refine ⟨?_, ?_, ?_, ?_⟩
      · simp [PyData.showableKv, a1, a2, h3]
      · simp [PyData.leavesShortKv, b1, b2, h4]
      · simp only [List.map_cons, PyData.bulkKv, List.length_cons] at *
        omega
      · simp only [List.map_cons, PyData.depthKv] at *
        omega
  obtain ⟨h3, h4, h5, h6⟩ := go dk n.nm
  have le := n.le
  refine ⟨?_, ?_, ?_, ?_⟩
  · simpa [dicD, PyData.showable] using h3
  · simpa [dicD, PyData.leavesShort] using h4
  · simp only [dicD, PyData.bulk]
    omega
  · simp only [dicD, PyData.depth]
    omega
theorem show4 {K : PySem.W.Frag} {H : Hp} {u : Addr} {h a b c : Addr} {P G : List Str} {es : List Ent} {Dp' Dg Dn : List (Str × Str)} (hu : H u = some (.lst [.ref h, .ref a, .ref b, .ref c])) (ho : HouseAt H h P G es) (g : Good P G es es.length) (le : es.length ≤ 31) (ha : H a = some (.dK (kvD Dp'))) (hb : H b = some (.dK (kvD Dg))) (hc : H c = some (.dK (kvD Dn)))
    (n1 : NmD Dp') (n2 : NmD Dg) (n3 : NmD Dn) : Dq K H (.ref u) (.list [houseD P G es, dicD Dp', dicD Dg, dicD Dn]) ∧ (PyData.list [houseD P G es, dicD Dp', dicD Dg, dicD Dn]).showable = true ∧ (PyData.list [houseD P G es, dicD Dp', dicD Dg, dicD Dn]).depth ≤ 60 ∧ (PyData.list [houseD P G es, dicD Dp', dicD Dg, dicD Dn]).shown.length ≤ sizeLine := by
  have s0 := (g.short le).shd (by decide) (by decide)
  have s1 := shd_kvD n1
  have s2 := shd_kvD n2
  have s3 := shd_kvD n3
  refine ⟨.lst (SqL.of hu) (.cons (dq_of ho.dp) (.cons (dq_kvD ha) (.cons (dq_kvD hb) (.cons (dq_kvD hc) .nil)))), ?_, ?_, ?_⟩
  · simp [PyData.showable, PyData.showableAll, s0.sh, s1.sh, s2.sh, s3.sh]
  · have x0 := s0.dp
    have x1 := s1.dp
    have x2 := s2.dp
    have x3 := s3.dp
    simp only [PyData.depth, PyData.depthAll]
    omega
  · have ls : (PyData.list [houseD P G es, dicD Dp', dicD Dg, dicD Dn]).leavesShort 13 = true := by simp [PyData.leavesShort, PyData.leavesShortAll, s0.ls, s1.ls, s2.ls, s3.ls]
    have s := PyData.shown_le_bulk 13 (by decide) _ ls
    have x0 := s0.bk
    have x1 := s1.bk
    have x2 := s2.bk
    have x3 := s3.bk
    simp only [PyData.bulk, PyData.bulkAll] at s
    rw [sizeLine_eq]
    omega
/-! ### the law -/
theorem tabs_but {H H' : Hp} {Ts : List Addr} {p c : Addr} {n : Nat} (t : TabsG Ts H) (pen : PenAt H p c n) (b : But p H H') : TabsG Ts H' := fun T hT => by
  obtain ⟨ps, e, ok⟩ := t T hT
  obtain ⟨ns, a, x, g1, _⟩ := pen.ex
  exact ⟨ps, b T _ e (ne_of e g1 (by intro z; cases z)), ok⟩
theorem PenAt.tb {Ts : List Addr} {H H' : Hp} {p c : Addr} {n : Nat} (pen : PenAt H p c n) (b : TB1 Ts H H') : PenAt H' p c n := by
  obtain ⟨ns, a, x, g1, g2, g3⟩ := pen.ex
  exact ⟨ns, a, x, b.2 _ _ g1 fun _ z => (nomatch z), b.2 _ _ g2 fun _ z => (nomatch z), g3⟩
theorem onceR_perm {xs PL : List Str} (nd : PL.Nodup) (h1 : ∀ x ∈ xs, x ∈ PL) (h2 : ∀ x ∈ PL, x ∈ xs) : (onceR xs).Perm PL :=
  perm_of_in (onceR_nodup xs) nd fun y => ⟨fun h => h1 y ((onceR_mem xs y).mp h), fun h => (onceR_mem xs y).mpr (h2 y h)⟩
theorem of_from {e : Ent} {P G HL : List Str} (h : e.From P G HL) : ofB e P G = true := by
  unfold ofB goodOk
  cases e with
  | come n m g p k r => simp [Ent.goodV, Ent.places, h.1, h.2.1]
  | go n m g p k => simp [Ent.goodV, Ent.places, h.1, h.2.1]
  | move n m g o t k => simp [Ent.goodV, Ent.places, h.1, h.2.1, h.2.2.1]
  | some_ n m g o t =>
    by_cases z : t = ""
    · simp [Ent.goodV, Ent.places, h.1, h.2.1, z]
    · simp [Ent.goodV, Ent.places, h.1, h.2.1, z, ((h.2.2).resolve_left z).1]
  | swap n m o t => simp [Ent.goodV, Ent.places, h.1, h.2.1]
  | count n m g p k hd => simp [Ent.goodV, Ent.places, h.1, h.2.1]
  | look n m g p => simp [Ent.goodV, Ent.places, h.1, h.2]
/-- an entry as the law makes it -/
structure EW (P G : List Str) (HL : List Str) (e : Ent) : Prop where
  m0 : 0 ≤ e.moment
  m1 : e.moment ≤ 9999
  fr : e.From P G HL
def spLaw (K : PySem.W.Frag) (Ts : List Addr) : Sp := fun vs H Q _ => ∃ (a : Addr) (ns : List Int), vs = [.ref a] ∧ SqL K H a (ns.map V.int) ∧ TabsG Ts H ∧ ∀ H', Q (.bl true) H'
theorem hs_of {P G : List Str} {pr : List (Addr × Ent)} {HL : List Str} (so : StOk P G) (hH : ∀ y ∈ HL, nameB y = true) (nn : ∀ x ∈ pr, nameB x.2.name = true) (nd : (pr.map fun x => x.2.name).Nodup) (le : pr.length ≤ 30) (ew : ∀ x ∈ pr, EW P G HL x.2) : Hs70 P G ((sortE (onceN pr)).map (·.2)) := by
  have pm : (onceN pr).Perm pr := onceN_perm nd (fun x h => h) fun x h => h
  have ps : (sortE (onceN pr)).Perm pr := (sortE_p _).trans pm
  have es : ((sortE (onceN pr)).map (·.2)).length ≤ 30 := by rw [List.length_map, ps.length_eq]; exact le
  have nd2 : (((sortE (onceN pr)).map (·.2)).map Ent.name).Nodup := by
    rw [List.map_map]
    exact (ps.map _).nodup_iff.mpr nd
  refine ⟨⟨so.pd, fun z => ?_, so.pl.2, so.pn, fun z => ?_, so.gl.2, so.gn, so.gd, rfl, fun e he => ?_⟩, es, nd2, ?_, so.ps, so.gs⟩
  · have := so.pl.1
    rw [z] at this
    exact absurd this (by decide)
  · have := so.gl.1
    rw [z] at this
    exact absurd this (by decide)
  · obtain ⟨x, hx, rfl⟩ := List.mem_map.mp he
    have mx := ps.mem_iff.mp hx
    have w := ew x mx
    exact ⟨nn x mx, w.m0, w.m1, HL, hH, w.fr⟩
  · rw [sortE_n]
    refine sortN_idem _ fun x hx y hy e => ?_
    have hx' : x ∈ (sortE (onceN pr)).map (·.2) := by
      rw [sortE_n]
      exact (sortN_p _).mem_iff.mpr hx
    have hy' : y ∈ (sortE (onceN pr)).map (·.2) := by
      rw [sortE_n]
      exact (sortN_p _).mem_iff.mpr hy
    exact nd_inj nd2 hx' hy' e
section
variable {P : Program} {w : World} {K : PySem.W.Frag} {mg : Str → Option Value} {base : Heap}
abbrev sLawN : List Str := ["_law_script", "_law_pen_here", "_law_many_here", "_law_words_here", "_law_stand_here", "_law_entries", "_law_k", "_law_house", "_law_names", "_law_entry_here", "_law_places", "_law_goods", "_law_others", "_law_kept", "_law_due_here", "_law_found", "_law_back_here"]
theorem sc_sLaw : FnScope sLawN ["_law_script"] (defScope sLaw) := ⟨rfl, rfl, rfl, by decide +kernel, rfl, by decide +kernel, by decide +kernel⟩
set_option maxHeartbeats 8000000 in
theorem ok_law {f : Addr} {fd : FuncData} (F : Fun K "law" "law" sLaw f fd) {Ts : List Addr}
    {fP fT fW fL fE fH fC fD fO fM fB : Addr} {dP dT dW dL dE dH dC dD dO dM dB : FuncData}
    (GP : DefT P w K mg base "_law_pen" 1 fP dP ["_law_script"] (spPen K)) (T : DefT P w K mg base "_law_draw" 1 fT dT ["_law_pen_here", "_law_many_here"] spDraw)
    (W : DefT P w K mg base "_law_words" 2 fW dW ["_law_pen_here"] spWords) (LS : DefT P w K mg base "_law_stand" 2 fL dL ["_law_pen_here", "_law_words_here"] spLStand)
    (EN : DefT P w K mg base "_law_entry" 3 fE dE ["_law_pen_here", "_law_words_here", "_law_stand_here", "_law_number"] spEntry) (HO : DefT P w K mg base "house_of" 7 fH dH ["places", "goods", "entries"] (spHouseOf Ts))
    (CB : DefT P w K mg base "_law_called_by" 2 fC dC ["_law_pen_here", "_law_words_here", "_law_names", "_law_base"] spCalledBy) (LD : DefT P w K mg base "_law_due" 4 fD dD ["_law_house", "_law_places", "_law_goods", "_law_names"] spLDue)
    (CO : DefT P w K mg base "called" 5 fO dO ["house", "places", "goods", "names"] (spCalledO Ts)) (SM : DefT P w K mg base "_law_same" 5 fM dM ["_law_found", "_law_due_here"] (spSame K 4)) (BK : DefT P w K mg base "_law_back" 1 fB dB ["_law_wanted", "_law_names"] spBack)
    (mr : mg "range" = none) (mli : mg "list" = none) (mp : mg "repr" = none) : FnG P w K mg base 8 f fd ["_law_script"] (spLaw K Ts) := by
  refine Fun.okG F sc_sLaw (fun vs H Q E h => ?_) (fun cdv A outer s H vs Q E hG hr h => ?_)
  · obtain ⟨a, ns, rfl, _⟩ := h
    rfl
  · obtain ⟨a, ns, rfl, hS, tg0, q⟩ := h
    have nd := sc_sLaw.nd
    have hr1 : Room 1 _ := hr.mono (by decide)
    have hr2 : Room 2 _ := hr.mono (by decide)
    have hr3 : Room 3 _ := hr.mono (by decide)
    have hr4 : Room 4 _ := hr.mono (by decide)
    have hr5 : Room 5 _ := hr.mono (by decide)
    refine ⟨_, pss_cons (ps_set (i := 1) nd rfl (Or.inr rfl) (pe_call GP.ok hr1 (by rfl) GP.g GP.kp GP.b .nil pass0 (pa_cons (pv 0) pa_nil)))
      (pss_cons (ps_set (i := 2) nd rfl (Or.inl rfl) (pe_call T.ok hr1 (by rfl) T.g T.kp T.b .nil pass0 (pa_cons (pv 1) (pa_cons pe_int pa_nil))))
      (pss_cons (ps_set (i := 3) nd rfl (Or.inr rfl) (pe_call W.ok hr2 (by rfl) W.g W.kp W.b .nil pass0 (pa_cons (pv 1) pa_nil)))
      (pss_cons (ps_set (i := 4) nd rfl (Or.inr rfl) (pe_call LS.ok hr2 (by rfl) LS.g LS.kp LS.b .nil pass0 (pa_cons (pv 1) (pa_cons (pv 3) pa_nil))))
      (pss_cons (ps_setLc (i := 5) (own := [("_law_k", 6)]) (g := gName 6) (tt := tYes) rfl nd rfl rfl (sw_true rfl rfl rfl (by decide +kernel)) (pi_range1 rfl mr (pa_cons (pv 2) pa_nil)) (blkOk_by (N := sLawN) (sc := defScope sLaw) (by decide +kernel)) (fun _ _ _ _ _ => (pg_name (i := 6) nd rfl (Or.inl rfl))) (fun _ _ _ _ _ => pts_nil) (fun _ _ _ _ _ => (pe_call EN.ok hr3 (by rfl) EN.g EN.kp EN.b .nil pass0 (pa_cons (pv 1) (pa_cons (pv 3) (pa_cons (pv 4) (pa_cons (pv 6) pa_nil)))))))
      (pss_cons (ps_set (i := 7) nd rfl (Or.inl rfl) (pe_call HO.ok hr (by rfl) HO.g HO.kp HO.b .nil pass0 (pa_cons (pe_ix ix_tup (pv 4) pe_int (fun _ _ => rfl)) (pa_cons (pe_ix ix_tup (pv 4) pe_int (fun _ _ => rfl)) (pa_cons (pv 5) pa_nil)))))
      (pss_cons (ps_setLc (i := 8) (own := [("_law_entry_here", 9)]) (g := gName 9) (tt := tYes) (te := tOp (rIxT K) (tVar 9) (tC (V.int 1))) rfl nd rfl rfl (sw_true rfl rfl rfl (by decide +kernel)) (pi_tup (pe_ix ix_tup (pv 7) pe_int (fun _ _ => rfl))) (blkOk_by (N := sLawN) (sc := defScope sLaw) (by decide +kernel)) (fun _ _ _ _ _ => (pg_name (i := 9) nd rfl (Or.inl rfl))) (fun _ _ _ _ _ => pts_nil) (fun _ _ _ _ _ => (pe_ix ix_tup (pv 9) pe_int (fun _ _ => rfl))))
      (pss_cons (ps_set (i := 10) nd rfl (Or.inl rfl) (pe_call CB.ok hr2 (by rfl) CB.g CB.kp CB.b .nil pass0 (pa_cons (pv 1) (pa_cons (pv 3) (pa_cons (pe_callTy call_list_of (by rfl) mli (by decide +kernel) (pa_cons (pe_ix ix_tup (pv 4) pe_int (fun _ _ => rfl)) pa_nil)) (pa_cons pe_int pa_nil))))))
      (pss_cons (ps_set (i := 11) nd rfl (Or.inl rfl) (pe_call CB.ok hr2 (by rfl) CB.g CB.kp CB.b .nil pass0 (pa_cons (pv 1) (pa_cons (pv 3) (pa_cons (pe_callTy call_list_of (by rfl) mli (by decide +kernel) (pa_cons (pe_ix ix_tup (pv 4) pe_int (fun _ _ => rfl)) pa_nil)) (pa_cons pe_int pa_nil))))))
      (pss_cons (ps_set (i := 12) nd rfl (Or.inl rfl) (pe_call CB.ok hr2 (by rfl) CB.g CB.kp CB.b .nil pass0 (pa_cons (pv 1) (pa_cons (pv 3) (pa_cons (pv 8) (pa_cons pe_int pa_nil))))))
      (pss_cons (ps_set (i := 13) nd rfl (Or.inl rfl) (pe_callB (cr_reprQ hG hr.units) (by rfl) mp (by decide +kernel) (pa_cons (pe_lst (pa_cons (pv 7) (pa_cons (pv 10) (pa_cons (pv 11) (pa_cons (pv 12) pa_nil))))) pa_nil)))
      (pss_cons (ps_set (i := 14) nd rfl (Or.inl rfl) (pe_call LD.ok hr4 (by rfl) LD.g LD.kp LD.b .nil pass0 (pa_cons (pv 7) (pa_cons (pv 10) (pa_cons (pv 11) (pa_cons (pv 12) pa_nil))))))
      (pss_cons (ps_set (i := 15) nd rfl (Or.inl rfl) (pe_call CO.ok hr5 (by rfl) CO.g CO.kp CO.b .nil pass0 (pa_cons (pv 7) (pa_cons (pv 10) (pa_cons (pv 11) (pa_cons (pv 12) pa_nil))))))
      (pss_cons (ps_if (PW.pt (pw_or (pt_not (pt_val (pe_call SM.ok hr5 (by rfl) SM.g SM.kp SM.b .nil pass0 (pa_cons (pv 15) (pa_cons (pv 14) pa_nil))))) (pw_or1 (pt_not (pt_val (pe_call SM.ok hr5 (by rfl) SM.g SM.kp SM.b .nil pass0 (pa_cons (pe_call CO.ok hr5 (by rfl) CO.g CO.kp CO.b .nil pass0 (pa_cons (pv 7) (pa_cons (pv 10) (pa_cons (pv 11) (pa_cons (pv 12) pa_nil))))) (pa_cons (pv 14) pa_nil)))))))) (pss_one (ps_ret pe_bl)) pss_nil)
      (pss_cons (ps_if (PW.pt (pw_or (pt_cmpR op_ne (pe_callB (cr_reprQ hG hr.units) (by rfl) mp (by decide +kernel) (pa_cons (pe_lst (pa_cons (pv 7) (pa_cons (pv 10) (pa_cons (pv 11) (pa_cons (pv 12) pa_nil))))) pa_nil)) (pv 13) (nomark _)) (pw_or1 (pt_not (pt_val (pe_call SM.ok hr5 (by rfl) SM.g SM.kp SM.b .nil pass0 (pa_cons (pe_call CO.ok hr5 (by rfl) CO.g CO.kp CO.b .nil pass0 (pa_cons (pv 7) (pa_cons pe_dnewK (pa_cons pe_dnewK (pa_cons pe_dnewK pa_nil))))) (pa_cons (pv 7) pa_nil)))))))) (pss_one (ps_ret pe_bl)) pss_nil)
      (pss_cons (ps_set (i := 16) nd rfl (Or.inl rfl) (pe_lst (pa_cons (pe_call BK.ok hr1 (by rfl) BK.g BK.kp BK.b .nil pass0 (pa_cons (pv 10) (pa_cons (pe_ix ix_tup (pv 7) pe_int (fun _ _ => rfl)) pa_nil))) (pa_cons (pe_call BK.ok hr1 (by rfl) BK.g BK.kp BK.b .nil pass0 (pa_cons (pv 11) (pa_cons (pe_ix ix_tup (pv 7) pe_int (fun _ _ => rfl)) pa_nil))) (pa_cons (pe_call BK.ok hr1 (by rfl) BK.g BK.kp BK.b .nil pass0 (pa_cons (pv 12) (pa_cons (pv 8) pa_nil))) pa_nil)))))
      (pss_one (ps_ret (pe_call SM.ok hr5 (by rfl) SM.g SM.kp SM.b .nil pass0 (pa_cons (pe_call CO.ok hr5 (by rfl) CO.g CO.kp CO.b .nil pass0 (pa_cons (pv 15) (pa_cons (pe_ix ix_list (pv 16) pe_int (fun _ _ => rfl)) (pa_cons (pe_ix ix_list (pv 16) pe_int (fun _ _ => rfl)) (pa_cons (pe_ix ix_list (pv 16) pe_int (fun _ _ => rfl)) pa_nil))))) (pa_cons (pv 7) pa_nil)))))))))))))))))))), ?_⟩
    refine ⟨_, rfl, a, ns, rfl, hS, fun p c H1 np nc pen1 sm1 => ?_⟩
    refine ⟨_, rfl, p, c, _, 15, rfl, pen1, by omega, by decide, by decide, fun r1 H2 a1 b1 pen2 bt2 => ?_⟩
    refine ⟨_, rfl, p, c, _, rfl, pen2, by omega, fun wd B sp t H3 nwd hw pen3 bt3 => ?_⟩
    refine ⟨_, rfl, _, rfl, p, c, _, wd, B, sp, t, rfl, pen3, by omega, hw, fun st a1' a2' Ps G H4 nst hs so lowP lowG pen4 bt4 => ?_⟩
    have hw4 := hw.on (TK.pen pen3 bt4)
    have tg4 : TabsG Ts H4 := tabs_but (tabs_but (tabs_but (tabs_sm sm1 tg0) pen1 bt2) pen2 bt3) pen3 bt4
    have ok := hw.ok
    have hH : ∀ y ∈ nmsC B sp t 0 3, nameB y = true := nmsC_names ok (by omega)
    generalize eN : 0 + 1 + 9 + 3 = n4 at pen4
    have ln4 : n4 ≤ 20 := by omega
    -- the entries
    refine ⟨_, rfl, r1, rfl, by omega, by omega, fun D nD => ?_⟩
    have nDp : D ≠ p := fun z => pen4.there (z ▸ nD)
    have nDc : D ≠ c := fun z => pen4.cells (z ▸ nD)
    refine lc_range (lo := 0) (n := r1.toNat) (fun j H' => ∃ (pr : List (Addr × Ent)) (m : Nat), PenAt H' p c m ∧ m ≤ n4 + 12 * j ∧ But p H4 H' ∧ H' D = some (.lst (pr.map fun x => V.ref x.1)) ∧ (pr.map fun x => x.2.name) = nmsC B sp t 0 j ∧ ∀ x ∈ pr, H' x.1 = some (.tup x.2.vals) ∧ EW Ps G (nmsC B sp t 0 3) x.2)
      ⟨[], n4, pen4.same (same_new nD), by omega, .of (same_new nD), upd_same, rfl, fun x hx => (nomatch hx)⟩ ?_ ?_
    · rintro j H' hj ⟨pr, m, pen', lm, bt', hD', nms, hE⟩
      have tk' := TK.pen pen4 bt'
      refine ⟨rfl, yesT ⟨_, rfl, _, rfl, _, rfl, _, rfl, p, c, m, wd, B, sp, t, st, a1', a2', Ps, G, j, ?_, pen', by omega, hw4.on tk', hs.on tk', so, by omega, fun tp e H'' ntp he en m0 m1 fr pen'' bt'' => ?_⟩⟩
      · rw [Int.zero_add]
        rfl
      · have hD'' := bt'' D _ hD' nDp
        have lp : pr.length = j := by
          have := congrArg List.length nms
          unfold nmsC at this
          rwa [List.length_map, List.length_map, List.length_range] at this
        have ev : ∀ {a : Addr} {xs : List V}, H'' a = some (.tup xs) → (upd H'' D (.lst ((pr.map fun x => V.ref x.1) ++ [V.ref tp]))) a = some (.tup xs) := fun {a xs} e => (upd_ne (ne_of e hD'' (by intro z; cases z))).trans e
        refine ⟨_, hD'', (by rw [List.length_map]; exact small1000 (by omega)), pr ++ [(tp, e)], m + 12, pen''.upd nDp nDc, by omega, fun b o e n => (upd_ne (ne_of_none e nD)).trans ((bt'.tr bt'') b o e n), ?_, ?_, fun x hx => ?_⟩
        · rw [upd_same, List.map_append]
          rfl
        · rw [List.map_append, nms]
          unfold nmsC
          rw [List.range_succ, List.map_append]
          show _ ++ [e.name] = _ ++ [sc (nmC B sp t (0 + j))]
          rw [en, Nat.zero_add]
        · rcases List.mem_append.mp hx with hx | hx
          · exact ⟨ev (TK.pen pen' bt'' _ _ (hE x hx).1), (hE x hx).2⟩
          · rw [List.mem_singleton.mp hx]
            exact ⟨ev he, m0, m1, fr⟩
    rintro H5 ⟨pr, m5, pen5, lm5, bt5, hD5, nms, hE⟩
    have tk5 := TK.pen pen4 bt5
    have hs5 := hs.on tk5
    have hw5 := hw4.on tk5
    have tg5 := tabs_but tg4 pen4 bt5
    have lr : r1.toNat ≤ 14 := by omega
    have lpr : pr.length = r1.toNat := by
      have := congrArg List.length nms
      unfold nmsC at this
      rwa [List.length_map, List.length_map, List.length_range] at this
    have nnd : (pr.map fun x => x.2.name).Nodup := by
      rw [nms]
      exact nmsC_nodup ok (by omega)
    have nnm : ∀ x ∈ pr, nameB x.2.name = true := fun x hx => nmsC_names (lo := 0) (m := r1.toNat) ok (by omega) _ (by rw [← nms]; exact List.mem_map.mpr ⟨x, hx, rfl⟩)
    have uniq : ∀ x ∈ pr, ∀ y ∈ pr, x.2.name = y.2.name → x = y := fun x hx y hy e => nd_inj (f := fun x : Addr × Ent => x.2.name) nnd hx hy e
    have ox : (onceR Ps).Perm Ps := onceR_perm so.pd (fun x h => h) fun x h => h
    have oy : (onceR G).Perm G := onceR_perm so.gd (fun x h => h) fun x h => h
    have lp := so.pl
    have lg := so.gl
    have oN : (onceN pr).Perm pr := onceN_perm nnd (fun x h => h) fun x h => h
    have hh := hs_of so hH nnm nnd (by omega) fun x hx => (hE x hx).2
    -- the house
    refine ⟨_, rfl, st, _, 0, _, rfl, rfl, SqT.of hs5.at_, atI_nat (j := 0) rfl, _, rfl, st, _, 1, _, rfl, rfl, SqT.of hs5.at_, atI_nat (j := 1) rfl, _, rfl, a1', a2', D, Ps, G, pr, rfl, .inr hs5.p, .inr hs5.g, .inl hD5, so.pn, by omega, by rw [ox.length_eq]; omega, by rw [ox.length_eq]; omega, so.gn, by omega, by rw [oy.length_eq]; omega, by rw [oy.length_eq]; omega,
      fun x hx => ⟨(hE x hx).1, (fine_of (hE x hx).2.fr so.pd so.pn so.gn hH (nnm x hx) (hE x hx).2.m0 (hE x hx).2.m1).1, shaped_entF (nnm x hx) so.pn so.gn hH (hE x hx).2.fr, of_from (hE x hx).2.fr⟩, uniq, by omega, by rw [oN.length_eq]; omega, tg5, fun h P1 G1 H6 pm1 so1 pm2 so2 tb6 hx => ?_⟩
    obtain rfl : P1 = Ps := sorted_one (pm1.trans ox) so1 so.ps
    obtain rfl : G1 = G := sorted_one (pm2.trans oy) so2 so.gs
    obtain ⟨hp, hg, he, g1, g2, g3, g4⟩ := hx
    have pen6 := pen5.tb tb6
    have hs6 := hs5.on tb6.tk
    have hw6 := hw5.on tb6.tk
    generalize eq : sortE (onceN pr) = qr at g4 hh
    have pq : qr.Perm pr := by
      rw [← eq]
      exact (sortE_p _).trans oN
    have hq6 : ∀ x ∈ qr, H6 x.1 = some (.tup x.2.vals) := fun x hx => tb6.tk _ _ (hE x (pq.mem_iff.mp hx)).1
    have ho6 : HouseAt H6 h P1 G1 (qr.map (·.2)) := ⟨hp, hg, he, qr.map (·.1), g1, g2, g3, by rw [refs_fst]; exact g4, ents_pairs hq6⟩
    have lq : qr.length = r1.toNat := by rw [pq.length_eq, lpr]
    -- the names
    refine ⟨_, rfl, h, _, 2, _, rfl, rfl, SqT.of g1, atI_nat (j := 2) rfl, he, rfl, ⟨_, SqT.of g4⟩, fun N nN => ?_⟩
    refine lc_tup (K := K) (a := he) (xs := qr.map fun x => V.ref x.1) (fun i H' => Same H6 H' ∧ H' N = some (.lst (((qr.take i).map fun x => x.2.name).map V.str))) ⟨same_new nN, upd_same⟩ (fun i H' _ h => SqT.of (h.1 _ _ g4)) ?_ ?_
    · rintro i v H' hx ⟨sm, hN⟩
      rw [List.getElem?_map] at hx
      obtain ⟨y, hy, rfl⟩ := Option.map_eq_some_iff.mp hx
      refine ⟨rfl, yesT ⟨_, rfl, y.1, _, 1, _, rfl, rfl, SqT.of (sm _ _ (hq6 y (List.mem_of_getElem? hy))), at1 y.2, _, hN, ?_, fun b o e => (upd_ne (ne_of_none e nN)).trans (sm b o e), ?_⟩⟩
      · rw [List.length_map, List.length_map, List.length_take]
        exact small1000 (by omega)
      · rw [upd_same, take_sn hy, List.map_append, List.map_append]
        rfl
    rintro H7 ⟨s7, hN⟩
    rw [List.length_map, List.take_length] at hN
    have nmq : (qr.map fun x => x.2.name) = (qr.map (·.2)).map Ent.name := by
      rw [List.map_map]
      rfl
    rw [nmq] at hN
    have pen7 := pen6.same s7
    have ho7 := ho6.on (TK.of s7)
    have hs7 := hs6.on (TK.of s7)
    have hw7 := hw6.on (TK.of s7)
    have tg7 := tabs_sm s7 tb6.1
    have lowN : LowN B sp t ((qr.map (·.2)).map Ent.name) := fun n hn => by
      rw [← nmq] at hn
      have hn2 : n ∈ nmsC B sp t 0 r1.toNat := by
        rw [← nms]
        exact (pq.map fun x => x.2.name).mem_iff.mp hn
      obtain ⟨k, hk, rfl⟩ := List.mem_map.mp hn2
      have := List.mem_range.mp hk
      exact ⟨0 + k, by omega, rfl⟩
    generalize ees : qr.map (·.2) = es at hh ho7 hN lowN
    have les : es.length ≤ 14 := by rw [← ees, List.length_map]; omega
    generalize en5 : m5 = n5 at pen7
    have ln5 : n5 ≤ 300 := by omega
    have nNp : N ≠ p := fun z => pen6.there (z ▸ nN)
    clear hE hq6 ho6 hs6 hw6 hs5 hw5 hw4 hw pen1 pen2 pen3 pen4 pen5 pen6 bt2 bt3 bt4 bt5 nms nnd nnm uniq oN pq tg4 tg5 tb6 g1 g2 g3 g4 hD5 ox oy
    show gName 8 (V.ref N) [some (.ref a), some (.ref p), some (.int r1), some (.ref wd), some (.ref st), some (.ref D), none, some (.ref h), none, none, none, none, none, none, none, none, none] H7 _
    -- the other names
    refine ⟨_, rfl, _, rfl, _, rfl, st, _, 0, _, rfl, rfl, SqT.of hs7.at_, atI_nat (j := 0) rfl, a1', _, rfl, .inr (SqT.of hs7.p), fun l1 nl1 => ?_⟩
    have nl1p : l1 ≠ p := fun z => pen7.there (z ▸ nl1)
    have s8 := @same_new _ _ (.lst (P1.map V.str)) nl1
    have e8 := @upd_same H7 l1 (.lst (P1.map V.str))
    generalize upd H7 l1 (.lst (P1.map V.str)) = H8 at s8 e8 ⊢
    have pen8 := pen7.same s8
    refine ⟨p, c, n5, wd, B, sp, t, l1, 0, P1, rfl, pen8, by omega, hw7.on (TK.of s8), e8, nl1p, so.pd, lowP, by omega, by omega, fun dP DP H9 ndP eP okP pen9 bt9 => ?_⟩
    have dPp : dP ≠ p := fun z => pen8.there (z ▸ ndP)
    have b79 : But p H7 H9 := (But.of s8).tr bt9
    have k79 := TK.pen pen7 b79
    have hs9 := hs7.on k79
    have hw9 := hw7.on k79
    refine ⟨_, rfl, _, rfl, _, rfl, st, _, 1, _, rfl, rfl, SqT.of hs9.at_, atI_nat (j := 1) rfl, a2', _, rfl, .inr (SqT.of hs9.g), fun l2 nl2 => ?_⟩
    have nl2p : l2 ≠ p := fun z => pen9.there (z ▸ nl2)
    have s10 := @same_new _ _ (.lst (G1.map V.str)) nl2
    have e10 := @upd_same H9 l2 (.lst (G1.map V.str))
    generalize upd H9 l2 (.lst (G1.map V.str)) = H10 at s10 e10 ⊢
    have pen10 := pen9.same s10
    refine ⟨p, c, _, wd, B, sp, t, l2, 20, G1, rfl, pen10, by omega, hw9.on (TK.of s10), e10, nl2p, so.gd, lowG, by omega, by omega, fun dG DG H11 ndG eG okG pen11 bt11 => ?_⟩
    have dGp : dG ≠ p := fun z => pen10.there (z ▸ ndG)
    have b911 : But p H9 H11 := (But.of s10).tr bt11
    have b711 := b79.tr b911
    have hw11 := hw7.on (TK.pen pen7 b711)
    have eP11 := b911 dP _ eP dPp
    have hN11 := b711 N _ hN nNp
    refine ⟨_, rfl, _, rfl, _, rfl, p, c, _, wd, B, sp, t, N, 40, es.map Ent.name, rfl, pen11, by omega, hw11, hN11, nNp, hh.nd, lowN, by rw [List.length_map]; omega, by omega, fun dN DN H12 ndN eN12 okN pen12 bt12 => ?_⟩
    have dNp : dN ≠ p := fun z => pen11.there (z ▸ ndN)
    have b712 := b711.tr bt12
    have eP12 := bt12 dP _ eP11 dPp
    have eG12 := bt12 dG _ eG dGp
    have hN12 := bt12 N _ hN11 nNp
    have ho12 := ho7.on (TK.pen pen7 b712)
    have tg12 := tabs_but tg7 pen7 b712
    have rn := hh.ren okP okG okN
    clear pen7 pen8 pen9 pen10 pen11 bt9 bt11 bt12 b79 b911 b711 b712 hs7 hs9 hw7 hw9 hw11 eP eG eP11 hN hN11 s8 s10 e8 e10 ho7 k79 tg7
    show gName 12 (V.ref dN) [some (.ref a), some (.ref p), some (.int r1), some (.ref wd), some (.ref st), some (.ref D), none, some (.ref h), some (.ref N), none, some (.ref dP), some (.ref dG), none, none, none, none, none] H12 _
    -- as they stand
    refine ⟨_, rfl, _, rfl, _, rfl, _, rfl, (by show 4 ≤ sizeLine; decide), fun U nU => ?_⟩
    have sU := @same_new _ _ (.lst [V.ref h, .ref dP, .ref dG, .ref dN]) nU
    have eU := @upd_same H12 U (.lst [V.ref h, .ref dP, .ref dG, .ref dN])
    generalize upd H12 U (.lst [V.ref h, .ref dP, .ref dG, .ref dN]) = H13 at sU eU ⊢
    have ho13 := ho12.on (TK.of sU)
    obtain ⟨dq1, dq2, dq3, dq4⟩ := show4 (K := K) eU ho13 hh.gd (by omega) (sU _ _ eP12) (sU _ _ eG12) (sU _ _ eN12) rn.nP rn.nG rn.nN
    refine ⟨U, _, rfl, dq1, dq2, dq3, dq4, ?_⟩
    clear dq1
    -- what is due
    refine ⟨_, rfl, _, rfl, _, rfl, _, rfl, h, dP, dG, dN, P1, G1, es, DP, DG, DN, rfl, ho13, sU _ _ eP12, sU _ _ eG12, sU _ _ eN12, rn, fun h2 P2 G2 H14 s14 pp2 sp2 pg2 sg2 ho2 => ?_⟩
    have s24 := sU.trans s14
    have tg14 := tabs_sm s24 tg12
    have b0 : TB1 Ts H14 H14 := .same tg14 fun _ _ e => e
    refine ⟨_, rfl, _, rfl, _, rfl, _, rfl, h, dP, dG, dN, P1, G1, es, DP, DG, DN, rfl, ho12.on (TK.of s24), s24 _ _ eP12, s24 _ _ eG12, s24 _ _ eN12, rn, tg14, fun h3 P3 G3 H15 tb15 pp3 sp3 pg3 sg3 ho3 => ?_⟩
    obtain rfl : P3 = P2 := sorted_one (pp3.trans pp2.symm) sp3 sp2
    obtain rfl : G3 = G2 := sorted_one (pg3.trans pg2.symm) sg3 sg2
    have ho2' := ho2.on tb15.tk
    have g2 := hh.good rn pp2 pg2
    have sh2 : Short (houseD P3 G3 (sortN (renL es DP DG DN))) 10000 3 := Good.short (m := es.length) g2 (by omega)
    have sh1 : Short (houseD P1 G1 es) 10000 3 := hh.gd.short (by omega)
    refine ⟨_, rfl, _, rfl, .ref h3, .ref h2, _, rfl, ho3.dp, ho2'.dp, Nat.le_trans sh2.dp (by decide), Nat.le_trans sh2.bk (by decide), fun H16 s16 => ?_⟩
    have k12 : ∀ a o, H12 a = some o → (∀ ps, o ≠ .tbl ps) → H16 a = some o := fun a o e n => s16 _ _ (tb15.2 _ _ (s24 _ _ e) n)
    have tk12 : TK H12 H16 := fun a xs e => k12 a _ e fun ps z => nomatch z
    have tg16 := tabs_sm s16 tb15.1
    have f2 := (ho2.on tb15.tk).on (TK.of s16)
    have f3 := ho3.on (TK.of s16)
    refine ⟨true, rfl, iteF ?_⟩
    refine ⟨_, rfl, _, rfl, _, rfl, _, rfl, h, dP, dG, dN, P1, G1, es, DP, DG, DN, rfl, ho12.on tk12, k12 _ _ eP12 (fun ps z => nomatch z), k12 _ _ eG12 (fun ps z => nomatch z), k12 _ _ eN12 (fun ps z => nomatch z), rn, tg16, fun h4 P4 G4 H17 tb17 pp4 sp4 pg4 sg4 ho4 => ?_⟩
    obtain rfl : P4 = P3 := sorted_one (pp4.trans pp2.symm) sp4 sp2
    obtain rfl : G4 = G3 := sorted_one (pg4.trans pg2.symm) sg4 sg2
    refine ⟨_, rfl, .ref h4, .ref h2, _, rfl, ho4.dp, (f2.on tb17.tk).dp, Nat.le_trans sh2.dp (by decide), Nat.le_trans sh2.bk (by decide), fun H18 s18 => ⟨true, rfl, iteF ?_⟩⟩
    have k18 : ∀ a o, H12 a = some o → (∀ ps, o ≠ .tbl ps) → H18 a = some o := fun a o e n => s18 _ _ (tb17.2 _ _ (k12 _ _ e n) n)
    have tk18 : TK H12 H18 := fun a xs e => k18 a _ e fun ps z => nomatch z
    have tg18 := tabs_sm s18 tb17.1
    have f18 := (f3.on tb17.tk).on (TK.of s18)
    have ho18 := ho12.on tk18
    clear f2 f3 tk12 k12 tg16 s16 s24 tb15 tb17 ho2 ho2' ho3 ho4 tg14 b0 s14 sU eU ho13
    -- nothing has changed
    refine ⟨_, rfl, _, rfl, _, rfl, _, rfl, (by show 4 ≤ sizeLine; decide), fun U2 nU2 => ?_⟩
    have s19 := @same_new _ _ (.lst [V.ref h, .ref dP, .ref dG, .ref dN]) nU2
    have e19 := @upd_same H18 U2 (.lst [V.ref h, .ref dP, .ref dG, .ref dN])
    generalize upd H18 U2 (.lst [V.ref h, .ref dP, .ref dG, .ref dN]) = H19 at s19 e19 ⊢
    have k19 : ∀ a o, H12 a = some o → (∀ ps, o ≠ .tbl ps) → H19 a = some o := fun a o e n => s19 _ _ (k18 _ _ e n)
    have ho19 := ho18.on (TK.of s19)
    obtain ⟨dq5, _, _, _⟩ := show4 (K := K) e19 ho19 hh.gd (by omega) (k19 _ _ eP12 (fun ps z => nomatch z)) (k19 _ _ eG12 (fun ps z => nomatch z)) (k19 _ _ eN12 (fun ps z => nomatch z)) rn.nP rn.nG rn.nN
    refine ⟨U2, _, rfl, dq5, dq2, dq3, dq4, ?_⟩
    refine ⟨_, rfl, rfl, _, rfl, ?_⟩
    rw [decide_eq_true rfl]
    refine iteF ?_
    refine ⟨_, rfl, fun z1 nz1 => ?_⟩
    have t1 := @same_new _ _ (.dK []) nz1
    have u1 := @upd_same H19 z1 (.dK [])
    generalize upd H19 z1 (.dK []) = H20 at t1 u1 ⊢
    intro z2 nz2
    have t2 := @same_new _ _ (.dK []) nz2
    have u2 := @upd_same H20 z2 (.dK [])
    generalize upd H20 z2 (.dK []) = H21 at t2 u2 ⊢
    intro z3 nz3
    have t3 := @same_new _ _ (.dK []) nz3
    have u3 := @upd_same H21 z3 (.dK [])
    generalize upd H21 z3 (.dK []) = H22 at t3 u3 ⊢
    have t22 := s19.trans (t1.trans (t2.trans t3))
    obtain ⟨rn0, so0⟩ := hh.none
    refine ⟨h, z1, z2, z3, P1, G1, es, [], [], [], rfl, ho18.on (TK.of t22), t3 _ _ (t2 _ _ u1), t3 _ _ u2, u3, rn0, tabs_sm t22 tg18, fun h5 P5 G5 H23 tb23 pp5 sp5 pg5 sg5 ho5 => ?_⟩
    rw [map_look_nil] at pp5 pg5
    obtain rfl : P5 = P1 := sorted_one pp5 sp5 so.ps
    obtain rfl : G5 = G1 := sorted_one pg5 sg5 so.gs
    rw [so0] at ho5
    have k23 : ∀ a o, H12 a = some o → (∀ ps, o ≠ .tbl ps) → H23 a = some o := fun a o e n => tb23.2 _ _ (t22 _ _ (k18 _ _ e n)) n
    have ho23 : HouseAt H23 h P5 G5 es := (ho18.on (TK.of t22)).on tb23.tk
    refine ⟨_, rfl, .ref h5, .ref h, _, rfl, ho5.dp, ho23.dp, Nat.le_trans sh1.dp (by decide), Nat.le_trans sh1.bk (by decide), fun H24 s24 => ⟨true, rfl, iteF ?_⟩⟩
    have k24 : ∀ a o, H12 a = some o → (∀ ps, o ≠ .tbl ps) → H24 a = some o := fun a o e n => s24 _ _ (k23 _ _ e n)
    have tg24 := tabs_sm s24 tb23.1
    have ho24 := ho23.on (TK.of s24)
    have f24 := ((f18.on (TK.of t22)).on tb23.tk).on (TK.of s24)
    clear f18 ho18 ho19 ho23 ho5 k18 k19 k23 tk18 tg18 t1 t2 t3 t22 u1 u2 u3 s18 s19 e19 tb23 s24 dq5 dq2 dq3 dq4
    -- the names taken back
    obtain ⟨hp, hg, he, tps, g1, g2', g3, g4, g5⟩ := ho24.ex
    have nil_not : ∀ {kvs : List (Key × V)}, ∀ ps, L2.HO.dK kvs ≠ L2.HO.tbl ps := fun ps z => nomatch z
    refine ⟨_, rfl, _, rfl, h, _, 0, _, rfl, rfl, SqT.of g1, atI_nat (j := 0) rfl, dP, hp, DP, P5, rfl, k24 _ _ eP12 nil_not, .inr g2', back_nd rn.uP, by omega, fun bP H25 s25 e25 => ?_⟩
    refine ⟨_, rfl, _, rfl, h, _, 1, _, rfl, rfl, SqT.of (s25 _ _ g1), atI_nat (j := 1) rfl, dG, hg, DG, G5, rfl, s25 _ _ (k24 _ _ eG12 nil_not), .inr (s25 _ _ g3), back_nd rn.uG, by omega, fun bG H26 s26 e26 => ?_⟩
    refine ⟨_, rfl, _, rfl, dN, N, DN, es.map Ent.name, rfl, s26 _ _ (s25 _ _ (k24 _ _ eN12 nil_not)), .inl (s26 _ _ (s25 _ _ (k24 _ _ hN12 fun ps z => nomatch z))), back_nd rn.uN, by rw [List.length_map]; omega, fun bN H27 s27 e27 => ?_⟩
    refine ⟨(by show 3 ≤ sizeLine; decide), fun L nL => ?_⟩
    have s28 := @same_new _ _ (.lst [V.ref bP, .ref bG, .ref bN]) nL
    have e28 := @upd_same H27 L (.lst [V.ref bP, .ref bG, .ref bN])
    generalize upd H27 L (.lst [V.ref bP, .ref bG, .ref bN]) = H28 at s28 e28 ⊢
    have t28 := s25.trans (s26.trans (s27.trans s28))
    obtain ⟨rb, q1, q2, q3⟩ := hh.back rn pp2 pg2
    refine ⟨_, rfl, _, rfl, L, _, 0, _, rfl, rfl, SqL.of e28, atI_nat (j := 0) rfl, _, rfl, L, _, 1, _, rfl, rfl, SqL.of e28, atI_nat (j := 1) rfl, _, rfl, L, _, 2, _, rfl, rfl, SqL.of e28, atI_nat (j := 2) rfl, h3, bP, bG, bN, P4, G4, _, _, _, _, rfl, f24.on (TK.of t28), s28 _ _ (s27 _ _ (s26 _ _ e25)), s28 _ _ (s27 _ _ e26), s28 _ _ e27, rb, tabs_sm t28 tg24, fun h6 P6 G6 H29 tb29 pp6 sp6 pg6 sg6 ho6 => ?_⟩
    obtain rfl : P6 = P5 := sorted_one (pp6.trans q1) sp6 so.ps
    obtain rfl : G6 = G5 := sorted_one (pg6.trans q2) sg6 so.gs
    rw [q3] at ho6
    exact ⟨_, rfl, .ref h6, .ref h, _, rfl, ho6.dp, ((ho24.on (TK.of t28)).on tb29.tk).dp, Nat.le_trans sh1.dp (by decide), Nat.le_trans sh1.bk (by decide), fun H30 s30 => q H30⟩
end
theorem tab_is {K : PySem.W.Frag} {x : Str} {f c T : Addr} {oc occ : Value} {od odc : Option Addr} {sl slc : Array (Option Value)} {fd : FuncData} {vs : Array Value}
    (a : PySem.W.nsIn K mainGlobals x = some (some (.ref f))) (l : K.lookup f = some ⟨oc, od, .func fd, sl⟩) (hc : fd.code = .ref c) (lc : K.lookup c = some ⟨occ, odc, .fields vs, slc⟩) (hv : (vs[11]? : Option Value) = some (.ref T)) :
    PySem.W.tabIn K x = some (c, T) := by
  unfold PySem.W.tabIn
  simp only [a, l, hc, lc, hv]
set_option maxHeartbeats 4000000 in
theorem all_mk {l : PySem.W.OpenLaw} {q : Program} {loose : List Str} {XP : (Str → Option Value) → Heap → Prop} {w : World} {s0 : Shared} {K : PySem.W.Frag} {h : Heap} {mg mb : Str → Option Value} {fa f1 f2 f3 f4 f5 f6 f7 f8 f9 f10 f11 f12 f13 f14 f15 f16 f17 f18 f19 f20 f21 f22 f23 f24 f25 f26 f27 f28 f29 f30 f31 f32 f33 f34 c1 T1 c3 T3 c5 T5 c13 T13 c17 T17 c19 T19 aFo aBo aRa aFo1 aFo2 aFo3 aFo4 aFo5 aFo6 aFo7 aBo1 aBo2 aBo3 aBo4 : Addr} {dr1 : PySem.DefRec} {dr3 : PySem.DefRec} {dr5 : PySem.DefRec} {dr13 : PySem.DefRec} {dr17 : PySem.DefRec} {dr19 : PySem.DefRec}
    (G : PySem.W.Ground q loose [] XP w s0 mg mb h) (X : K.In h) (hfa : mg "law" = some (.ref fa))
    {od1 an1 odc1 od2 an2 od3 an3 odc3 od4 an4 od5 an5 odc5 od6 an6 od7 an7 od8 an8 od9 an9 od10 an10 od11 an11 od12 an12 od13 an13 odc13 od14 an14 od15 an15 od16 an16 od17 an17 odc17 od18 an18 od19 an19 odc19 od20 an20 od21 an21 od22 an22 od23 an23 od24 an24 od25 an25 od26 an26 od27 an27 od28 an28 od29 an29 od30 an30 od31 an31 od32 an32 od33 an33 od34 an34 odFo1 odFo2 odFo3 odFo4 odFo5 odFo6 odFo7 odBo1 odBo2 odBo3 odBo4 : Option Addr} {sl1 slc1 sl2 sl3 slc3 sl4 sl5 slc5 sl6 sl7 sl8 sl9 sl10 sl11 sl12 sl13 slc13 sl14 sl15 sl16 sl17 slc17 sl18 sl19 slc19 sl20 sl21 sl22 sl23 sl24 sl25 sl26 sl27 sl28 sl29 sl30 sl31 sl32 sl33 sl34 slFo1 slFo2 slFo3 slFo4 slFo5 slFo6 slFo7 slBo1 slBo2 slBo3 slBo4 : Array (Option Value)} {oc1 kV1 dc1 pm1 ct1 occ1 oc2 kV2 dc2 pm2 ct2 cd2 oc3 kV3 dc3 pm3 ct3 occ3 oc4 kV4 dc4 pm4 ct4 cd4 oc5 kV5 dc5 pm5 ct5 occ5 oc6 kV6 dc6 pm6 ct6 cd6 oc7 kV7 dc7 pm7 ct7 cd7 oc8 kV8 dc8 pm8 ct8 cd8 oc9 kV9 dc9 pm9 ct9 cd9 oc10 kV10 dc10 pm10 ct10 cd10 oc11 kV11 dc11 pm11 ct11 cd11 oc12 kV12 dc12 pm12 ct12 cd12 oc13 kV13 dc13 pm13 ct13 occ13 oc14 kV14 dc14 pm14 ct14 cd14 oc15 kV15 dc15 pm15 ct15 cd15 oc16 kV16 dc16 pm16 ct16 cd16 oc17 kV17 dc17 pm17 ct17 occ17 oc18 kV18 dc18 pm18 ct18 cd18 oc19 kV19 dc19 pm19 ct19 occ19 oc20 kV20 dc20 pm20 ct20 cd20 oc21 kV21 dc21 pm21 ct21 cd21 oc22 kV22 dc22 pm22 ct22 cd22 oc23 kV23 dc23 pm23 ct23 cd23 oc24 kV24 dc24 pm24 ct24 cd24 oc25 kV25 dc25 pm25 ct25 cd25 oc26 kV26 dc26 pm26 ct26 cd26 oc27 kV27 dc27 pm27 ct27 cd27 oc28 kV28 dc28 pm28 ct28 cd28 oc29 kV29 dc29 pm29 ct29 cd29 oc30 kV30 dc30 pm30 ct30 cd30 oc31 kV31 dc31 pm31 ct31 cd31 oc32 kV32 dc32 pm32 ct32 cd32 oc33 kV33 dc33 pm33 ct33 cd33 oc34 kV34 dc34 pm34 ct34 cd34 : Value}
    {nFo nFo1 nFo2 nFo3 nFo4 nFo5 nFo6 nFo7 nBo nBo1 nBo2 nBo3 nBo4 nRa : Nat}
    {itFo1 itFo2 itFo3 itFo4 itFo5 itFo6 itFo7 itBo1 itBo2 itBo3 itBo4 vsc1 vsc3 vsc5 vsc13 vsc17 vsc19 : Array Value}
    {esFo esBo esRa : Array DictEntry}
    {tRa1 tRa2 tRa3 tRa4 tRa5 tRa6 tRa7 tL tN tMP tMG tME : Tok}
    (a1 : PySem.W.nsIn K mainGlobals "is_name" = some (some (.ref f1)))
    (l1 : K.lookup f1 = some ⟨oc1, od1, .func (PySem.W.fnOf "is_name" "is_name" (defArgs sName) (defBody sName) (defScope sName) .none kV1 dc1 pm1 an1 (.ref c1) ct1), sl1⟩)
    (c_1 : PySem.W.codeIn K (.ref c1) "is_name" = true)
    (k1 : PySem.W.keepIn K (.ref f1) = true)
    (lc1 : K.lookup c1 = some ⟨occ1, odc1, .fields vsc1, slc1⟩)
    (hv1 : (vsc1[11]? : Option Value) = some (.ref T1))
    (nT1 : K.lookup T1 = none)
    (r1 : (PyProof.Rows.recsOf q).find? (fun e => e.name == ("is_name" : Str)) = some dr1)
    (a2 : PySem.W.nsIn K mainGlobals "is_whole" = some (some (.ref f2)))
    (l2 : K.lookup f2 = some ⟨oc2, od2, .func (PySem.W.fnOf "is_whole" "is_whole" (defArgs sWhole) (defBody sWhole) (defScope sWhole) .none kV2 dc2 pm2 an2 cd2 ct2), sl2⟩)
    (c_2 : PySem.W.codeIn K cd2 "is_whole" = true)
    (k2 : PySem.W.keepIn K (.ref f2) = true)
    (a3 : PySem.W.nsIn K mainGlobals "is_entry" = some (some (.ref f3)))
    (l3 : K.lookup f3 = some ⟨oc3, od3, .func (PySem.W.fnOf "is_entry" "is_entry" (defArgs sIsEntry) (defBody sIsEntry) (defScope sIsEntry) .none kV3 dc3 pm3 an3 (.ref c3) ct3), sl3⟩)
    (c_3 : PySem.W.codeIn K (.ref c3) "is_entry" = true)
    (k3 : PySem.W.keepIn K (.ref f3) = true)
    (lc3 : K.lookup c3 = some ⟨occ3, odc3, .fields vsc3, slc3⟩)
    (hv3 : (vsc3[11]? : Option Value) = some (.ref T3))
    (nT3 : K.lookup T3 = none)
    (r3 : (PyProof.Rows.recsOf q).find? (fun e => e.name == ("is_entry" : Str)) = some dr3)
    (a4 : PySem.W.nsIn K mainGlobals "fits" = some (some (.ref f4)))
    (l4 : K.lookup f4 = some ⟨oc4, od4, .func (PySem.W.fnOf "fits" "fits" (defArgs sFits) (defBody sFits) (defScope sFits) .none kV4 dc4 pm4 an4 cd4 ct4), sl4⟩)
    (c_4 : PySem.W.codeIn K cd4 "fits" = true)
    (k4 : PySem.W.keepIn K (.ref f4) = true)
    (a5 : PySem.W.nsIn K mainGlobals "is_entry_of" = some (some (.ref f5)))
    (l5 : K.lookup f5 = some ⟨oc5, od5, .func (PySem.W.fnOf "is_entry_of" "is_entry_of" (defArgs sIsEntryOf) (defBody sIsEntryOf) (defScope sIsEntryOf) .none kV5 dc5 pm5 an5 (.ref c5) ct5), sl5⟩)
    (c_5 : PySem.W.codeIn K (.ref c5) "is_entry_of" = true)
    (k5 : PySem.W.keepIn K (.ref f5) = true)
    (lc5 : K.lookup c5 = some ⟨occ5, odc5, .fields vsc5, slc5⟩)
    (hv5 : (vsc5[11]? : Option Value) = some (.ref T5))
    (nT5 : K.lookup T5 = none)
    (r5 : (PyProof.Rows.recsOf q).find? (fun e => e.name == ("is_entry_of" : Str)) = some dr5)
    (a6 : PySem.W.nsIn K mainGlobals "good_of" = some (some (.ref f6)))
    (l6 : K.lookup f6 = some ⟨oc6, od6, .func (PySem.W.fnOf "good_of" "good_of" (defArgs sGood) (defBody sGood) (defScope sGood) .none kV6 dc6 pm6 an6 cd6 ct6), sl6⟩)
    (c_6 : PySem.W.codeIn K cd6 "good_of" = true)
    (k6 : PySem.W.keepIn K (.ref f6) = true)
    (a7 : PySem.W.nsIn K mainGlobals "places_of" = some (some (.ref f7)))
    (l7 : K.lookup f7 = some ⟨oc7, od7, .func (PySem.W.fnOf "places_of" "places_of" (defArgs sPlacesOf) (defBody sPlacesOf) (defScope sPlacesOf) .none kV7 dc7 pm7 an7 cd7 ct7), sl7⟩)
    (c_7 : PySem.W.codeIn K cd7 "places_of" = true)
    (k7 : PySem.W.keepIn K (.ref f7) = true)
    (a8 : PySem.W.nsIn K mainGlobals "order_of" = some (some (.ref f8)))
    (l8 : K.lookup f8 = some ⟨oc8, od8, .func (PySem.W.fnOf "order_of" "order_of" (defArgs sOrd) (defBody sOrd) (defScope sOrd) .none kV8 dc8 pm8 an8 cd8 ct8), sl8⟩)
    (c_8 : PySem.W.codeIn K cd8 "order_of" = true)
    (k8 : PySem.W.keepIn K (.ref f8) = true)
    (a9 : PySem.W.nsIn K mainGlobals "with_name" = some (some (.ref f9)))
    (l9 : K.lookup f9 = some ⟨oc9, od9, .func (PySem.W.fnOf "with_name" "with_name" (defArgs sWithNm) (defBody sWithNm) (defScope sWithNm) .none kV9 dc9 pm9 an9 cd9 ct9), sl9⟩)
    (c_9 : PySem.W.codeIn K cd9 "with_name" = true)
    (k9 : PySem.W.keepIn K (.ref f9) = true)
    (a10 : PySem.W.nsIn K mainGlobals "with_good" = some (some (.ref f10)))
    (l10 : K.lookup f10 = some ⟨oc10, od10, .func (PySem.W.fnOf "with_good" "with_good" (defArgs sWithGd) (defBody sWithGd) (defScope sWithGd) .none kV10 dc10 pm10 an10 cd10 ct10), sl10⟩)
    (c_10 : PySem.W.codeIn K cd10 "with_good" = true)
    (k10 : PySem.W.keepIn K (.ref f10) = true)
    (a11 : PySem.W.nsIn K mainGlobals "with_places" = some (some (.ref f11)))
    (l11 : K.lookup f11 = some ⟨oc11, od11, .func (PySem.W.fnOf "with_places" "with_places" (defArgs sWithPlaces) (defBody sWithPlaces) (defScope sWithPlaces) .none kV11 dc11 pm11 an11 cd11 ct11), sl11⟩)
    (c_11 : PySem.W.codeIn K cd11 "with_places" = true)
    (k11 : PySem.W.keepIn K (.ref f11) = true)
    (a12 : PySem.W.nsIn K mainGlobals "house_of" = some (some (.ref f12)))
    (l12 : K.lookup f12 = some ⟨oc12, od12, .func (PySem.W.fnOf "house_of" "house_of" (defArgs sHouseOf) (defBody sHouseOf) (defScope sHouseOf) .none kV12 dc12 pm12 an12 cd12 ct12), sl12⟩)
    (c_12 : PySem.W.codeIn K cd12 "house_of" = true)
    (k12 : PySem.W.keepIn K (.ref f12) = true)
    (a13 : PySem.W.nsIn K mainGlobals "rising_names" = some (some (.ref f13)))
    (l13 : K.lookup f13 = some ⟨oc13, od13, .func (PySem.W.fnOf "rising_names" "rising_names" (defArgs sRising) (defBody sRising) (defScope sRising) .none kV13 dc13 pm13 an13 (.ref c13) ct13), sl13⟩)
    (c_13 : PySem.W.codeIn K (.ref c13) "rising_names" = true)
    (k13 : PySem.W.keepIn K (.ref f13) = true)
    (lc13 : K.lookup c13 = some ⟨occ13, odc13, .fields vsc13, slc13⟩)
    (hv13 : (vsc13[11]? : Option Value) = some (.ref T13))
    (nT13 : K.lookup T13 = none)
    (r13 : (PyProof.Rows.recsOf q).find? (fun e => e.name == ("rising_names" : Str)) = some dr13)
    (a14 : PySem.W.nsIn K mainGlobals "own_entries" = some (some (.ref f14)))
    (l14 : K.lookup f14 = some ⟨oc14, od14, .func (PySem.W.fnOf "own_entries" "own_entries" (defArgs sOwnEnts) (defBody sOwnEnts) (defScope sOwnEnts) .none kV14 dc14 pm14 an14 cd14 ct14), sl14⟩)
    (c_14 : PySem.W.codeIn K cd14 "own_entries" = true)
    (k14 : PySem.W.keepIn K (.ref f14) = true)
    (a15 : PySem.W.nsIn K mainGlobals "in_order" = some (some (.ref f15)))
    (l15 : K.lookup f15 = some ⟨oc15, od15, .func (PySem.W.fnOf "in_order" "in_order" (defArgs sInOrder) (defBody sInOrder) (defScope sInOrder) .none kV15 dc15 pm15 an15 cd15 ct15), sl15⟩)
    (c_15 : PySem.W.codeIn K cd15 "in_order" = true)
    (k15 : PySem.W.keepIn K (.ref f15) = true)
    (a16 : PySem.W.nsIn K mainGlobals "called" = some (some (.ref f16)))
    (l16 : K.lookup f16 = some ⟨oc16, od16, .func (PySem.W.fnOf "called" "called" (defArgs sCalledO) (defBody sCalledO) (defScope sCalledO) .none kV16 dc16 pm16 an16 cd16 ct16), sl16⟩)
    (c_16 : PySem.W.codeIn K cd16 "called" = true)
    (k16 : PySem.W.keepIn K (.ref f16) = true)
    (a17 : PySem.W.nsIn K mainGlobals "refuse_what_is_no_name" = some (some (.ref f17)))
    (l17 : K.lookup f17 = some ⟨oc17, od17, .func (PySem.W.fnOf "refuse_what_is_no_name" "refuse_what_is_no_name" (defArgs sRefuse) (defBody sRefuse) (defScope sRefuse) .none kV17 dc17 pm17 an17 (.ref c17) ct17), sl17⟩)
    (c_17 : PySem.W.codeIn K (.ref c17) "refuse_what_is_no_name" = true)
    (k17 : PySem.W.keepIn K (.ref f17) = true)
    (lc17 : K.lookup c17 = some ⟨occ17, odc17, .fields vsc17, slc17⟩)
    (hv17 : (vsc17[11]? : Option Value) = some (.ref T17))
    (nT17 : K.lookup T17 = none)
    (r17 : (PyProof.Rows.recsOf q).find? (fun e => e.name == ("refuse_what_is_no_name" : Str)) = some dr17)
    (a18 : PySem.W.nsIn K mainGlobals "all_otherwise" = some (some (.ref f18)))
    (l18 : K.lookup f18 = some ⟨oc18, od18, .func (PySem.W.fnOf "all_otherwise" "all_otherwise" (defArgs sAllO) (defBody sAllO) (defScope sAllO) .none kV18 dc18 pm18 an18 cd18 ct18), sl18⟩)
    (c_18 : PySem.W.codeIn K cd18 "all_otherwise" = true)
    (k18 : PySem.W.keepIn K (.ref f18) = true)
    (a19 : PySem.W.nsIn K mainGlobals "entry_otherwise" = some (some (.ref f19)))
    (l19 : K.lookup f19 = some ⟨oc19, od19, .func (PySem.W.fnOf "entry_otherwise" "entry_otherwise" (defArgs sEntO) (defBody sEntO) (defScope sEntO) .none kV19 dc19 pm19 an19 (.ref c19) ct19), sl19⟩)
    (c_19 : PySem.W.codeIn K (.ref c19) "entry_otherwise" = true)
    (k19 : PySem.W.keepIn K (.ref f19) = true)
    (lc19 : K.lookup c19 = some ⟨occ19, odc19, .fields vsc19, slc19⟩)
    (hv19 : (vsc19[11]? : Option Value) = some (.ref T19))
    (nT19 : K.lookup T19 = none)
    (r19 : (PyProof.Rows.recsOf q).find? (fun e => e.name == ("entry_otherwise" : Str)) = some dr19)
    (a20 : PySem.W.nsIn K mainGlobals "_law_pen" = some (some (.ref f20)))
    (l20 : K.lookup f20 = some ⟨oc20, od20, .func (PySem.W.fnOf "_law_pen" "_law_pen" (defArgs sPen) (defBody sPen) (defScope sPen) .none kV20 dc20 pm20 an20 cd20 ct20), sl20⟩)
    (c_20 : PySem.W.codeIn K cd20 "_law_pen" = true)
    (k20 : PySem.W.keepIn K (.ref f20) = true)
    (a21 : PySem.W.nsIn K mainGlobals "_law_draw" = some (some (.ref f21)))
    (l21 : K.lookup f21 = some ⟨oc21, od21, .func (PySem.W.fnOf "_law_draw" "_law_draw" (defArgs sDraw) (defBody sDraw) (defScope sDraw) .none kV21 dc21 pm21 an21 cd21 ct21), sl21⟩)
    (c_21 : PySem.W.codeIn K cd21 "_law_draw" = true)
    (k21 : PySem.W.keepIn K (.ref f21) = true)
    (a22 : PySem.W.nsIn K mainGlobals "_law_words" = some (some (.ref f22)))
    (l22 : K.lookup f22 = some ⟨oc22, od22, .func (PySem.W.fnOf "_law_words" "_law_words" (defArgs sWords) (defBody sWords) (defScope sWords) .none kV22 dc22 pm22 an22 cd22 ct22), sl22⟩)
    (c_22 : PySem.W.codeIn K cd22 "_law_words" = true)
    (k22 : PySem.W.keepIn K (.ref f22) = true)
    (a23 : PySem.W.nsIn K mainGlobals "_law_name" = some (some (.ref f23)))
    (l23 : K.lookup f23 = some ⟨oc23, od23, .func (PySem.W.fnOf "_law_name" "_law_name" (defArgs sLName) (defBody sLName) (defScope sLName) .none kV23 dc23 pm23 an23 cd23 ct23), sl23⟩)
    (c_23 : PySem.W.codeIn K cd23 "_law_name" = true)
    (k23 : PySem.W.keepIn K (.ref f23) = true)
    (a24 : PySem.W.nsIn K mainGlobals "_law_stand" = some (some (.ref f24)))
    (l24 : K.lookup f24 = some ⟨oc24, od24, .func (PySem.W.fnOf "_law_stand" "_law_stand" (defArgs sLStand) (defBody sLStand) (defScope sLStand) .none kV24 dc24 pm24 an24 cd24 ct24), sl24⟩)
    (c_24 : PySem.W.codeIn K cd24 "_law_stand" = true)
    (k24 : PySem.W.keepIn K (.ref f24) = true)
    (a25 : PySem.W.nsIn K mainGlobals "_law_moment" = some (some (.ref f25)))
    (l25 : K.lookup f25 = some ⟨oc25, od25, .func (PySem.W.fnOf "_law_moment" "_law_moment" (defArgs sMoment) (defBody sMoment) (defScope sMoment) .none kV25 dc25 pm25 an25 cd25 ct25), sl25⟩)
    (c_25 : PySem.W.codeIn K cd25 "_law_moment" = true)
    (k25 : PySem.W.keepIn K (.ref f25) = true)
    (a26 : PySem.W.nsIn K mainGlobals "_law_many" = some (some (.ref f26)))
    (l26 : K.lookup f26 = some ⟨oc26, od26, .func (PySem.W.fnOf "_law_many" "_law_many" (defArgs sMany) (defBody sMany) (defScope sMany) .none kV26 dc26 pm26 an26 cd26 ct26), sl26⟩)
    (c_26 : PySem.W.codeIn K cd26 "_law_many" = true)
    (k26 : PySem.W.keepIn K (.ref f26) = true)
    (a27 : PySem.W.nsIn K mainGlobals "_law_entry" = some (some (.ref f27)))
    (l27 : K.lookup f27 = some ⟨oc27, od27, .func (PySem.W.fnOf "_law_entry" "_law_entry" (defArgs sEntry) (defBody sEntry) (defScope sEntry) .none kV27 dc27 pm27 an27 cd27 ct27), sl27⟩)
    (c_27 : PySem.W.codeIn K cd27 "_law_entry" = true)
    (k27 : PySem.W.keepIn K (.ref f27) = true)
    (a28 : PySem.W.nsIn K mainGlobals "_law_same" = some (some (.ref f28)))
    (l28 : K.lookup f28 = some ⟨oc28, od28, .func (PySem.W.fnOf "_law_same" "_law_same" (defArgs sSame) (defBody sSame) (defScope sSame) .none kV28 dc28 pm28 an28 cd28 ct28), sl28⟩)
    (c_28 : PySem.W.codeIn K cd28 "_law_same" = true)
    (k28 : PySem.W.keepIn K (.ref f28) = true)
    (a29 : PySem.W.nsIn K mainGlobals "_law_order" = some (some (.ref f29)))
    (l29 : K.lookup f29 = some ⟨oc29, od29, .func (PySem.W.fnOf "_law_order" "_law_order" (defArgs sOwn) (defBody sOwn) (defScope sOwn) .none kV29 dc29 pm29 an29 cd29 ct29), sl29⟩)
    (c_29 : PySem.W.codeIn K cd29 "_law_order" = true)
    (k29 : PySem.W.keepIn K (.ref f29) = true)
    (a30 : PySem.W.nsIn K mainGlobals "_law_called_by" = some (some (.ref f30)))
    (l30 : K.lookup f30 = some ⟨oc30, od30, .func (PySem.W.fnOf "_law_called_by" "_law_called_by" (defArgs sCalledBy) (defBody sCalledBy) (defScope sCalledBy) .none kV30 dc30 pm30 an30 cd30 ct30), sl30⟩)
    (c_30 : PySem.W.codeIn K cd30 "_law_called_by" = true)
    (k30 : PySem.W.keepIn K (.ref f30) = true)
    (a31 : PySem.W.nsIn K mainGlobals "_law_entry_so" = some (some (.ref f31)))
    (l31 : K.lookup f31 = some ⟨oc31, od31, .func (PySem.W.fnOf "_law_entry_so" "_law_entry_so" (defArgs sEntSo) (defBody sEntSo) (defScope sEntSo) .none kV31 dc31 pm31 an31 cd31 ct31), sl31⟩)
    (c_31 : PySem.W.codeIn K cd31 "_law_entry_so" = true)
    (k31 : PySem.W.keepIn K (.ref f31) = true)
    (a32 : PySem.W.nsIn K mainGlobals "_law_due" = some (some (.ref f32)))
    (l32 : K.lookup f32 = some ⟨oc32, od32, .func (PySem.W.fnOf "_law_due" "_law_due" (defArgs sLDue) (defBody sLDue) (defScope sLDue) .none kV32 dc32 pm32 an32 cd32 ct32), sl32⟩)
    (c_32 : PySem.W.codeIn K cd32 "_law_due" = true)
    (k32 : PySem.W.keepIn K (.ref f32) = true)
    (a33 : PySem.W.nsIn K mainGlobals "_law_back" = some (some (.ref f33)))
    (l33 : K.lookup f33 = some ⟨oc33, od33, .func (PySem.W.fnOf "_law_back" "_law_back" (defArgs sBack) (defBody sBack) (defScope sBack) .none kV33 dc33 pm33 an33 cd33 ct33), sl33⟩)
    (c_33 : PySem.W.codeIn K cd33 "_law_back" = true)
    (k33 : PySem.W.keepIn K (.ref f33) = true)
    (a34 : PySem.W.nsIn K mainGlobals "law" = some (some (.ref f34)))
    (l34 : K.lookup f34 = some ⟨oc34, od34, .func (PySem.W.fnOf "law" "law" (defArgs sLaw) (defBody sLaw) (defScope sLaw) .none kV34 dc34 pm34 an34 cd34 ct34), sl34⟩)
    (c_34 : PySem.W.codeIn K cd34 "law" = true)
    (k34 : PySem.W.keepIn K (.ref f34) = true)
    (ne13 : T1 ≠ T3)
    (ne15 : T1 ≠ T5)
    (ne35 : T3 ≠ T5)
    (ne113 : T1 ≠ T13)
    (ne313 : T3 ≠ T13)
    (ne513 : T5 ≠ T13)
    (ne117 : T1 ≠ T17)
    (ne317 : T3 ≠ T17)
    (ne517 : T5 ≠ T17)
    (ne1317 : T13 ≠ T17)
    (ne119 : T1 ≠ T19)
    (ne319 : T3 ≠ T19)
    (ne519 : T5 ≠ T19)
    (ne1319 : T13 ≠ T19)
    (ne1719 : T17 ≠ T19)
    (AFo : PySem.W.nsIn K mainGlobals "FORMS" = some (some (.ref aFo)))
    (LFo : K.lookup aFo = some ⟨.type "dict", none, .dict esFo nFo, #[]⟩)
    (litFo : PySem.W.KeysLit w.params esFo.toList)
    (lowFo : (aFo == sysModules) = false)
    (gFo1 : PySem.W.nsIn K aFo "come" = some (some (.ref aFo1)))
    (LFo1 : K.lookup aFo1 = some ⟨.type "tuple", odFo1, .seq itFo1 nFo1, slFo1⟩)
    (zFo1 : itFo1.size ≤ sizeLine)
    (vFo1 : Vals ([.str "name", .str "moment", .str "name", .str "name", .str "many", .str "price"] : List V) itFo1.toList)
    (gFo2 : PySem.W.nsIn K aFo "go" = some (some (.ref aFo2)))
    (LFo2 : K.lookup aFo2 = some ⟨.type "tuple", odFo2, .seq itFo2 nFo2, slFo2⟩)
    (zFo2 : itFo2.size ≤ sizeLine)
    (vFo2 : Vals ([.str "name", .str "moment", .str "name", .str "name", .str "many"] : List V) itFo2.toList)
    (gFo3 : PySem.W.nsIn K aFo "move" = some (some (.ref aFo3)))
    (LFo3 : K.lookup aFo3 = some ⟨.type "tuple", odFo3, .seq itFo3 nFo3, slFo3⟩)
    (zFo3 : itFo3.size ≤ sizeLine)
    (vFo3 : Vals ([.str "name", .str "moment", .str "name", .str "name", .str "name", .str "many"] : List V) itFo3.toList)
    (gFo4 : PySem.W.nsIn K aFo "some" = some (some (.ref aFo4)))
    (LFo4 : K.lookup aFo4 = some ⟨.type "tuple", odFo4, .seq itFo4 nFo4, slFo4⟩)
    (zFo4 : itFo4.size ≤ sizeLine)
    (vFo4 : Vals ([.str "name", .str "moment", .str "name", .str "name", .str "end"] : List V) itFo4.toList)
    (gFo5 : PySem.W.nsIn K aFo "swap" = some (some (.ref aFo5)))
    (LFo5 : K.lookup aFo5 = some ⟨.type "tuple", odFo5, .seq itFo5 nFo5, slFo5⟩)
    (zFo5 : itFo5.size ≤ sizeLine)
    (vFo5 : Vals ([.str "name", .str "moment", .str "name", .str "name"] : List V) itFo5.toList)
    (gFo6 : PySem.W.nsIn K aFo "count" = some (some (.ref aFo6)))
    (LFo6 : K.lookup aFo6 = some ⟨.type "tuple", odFo6, .seq itFo6 nFo6, slFo6⟩)
    (zFo6 : itFo6.size ≤ sizeLine)
    (vFo6 : Vals ([.str "name", .str "moment", .str "name", .str "name", .str "counted", .str "name"] : List V) itFo6.toList)
    (gFo7 : PySem.W.nsIn K aFo "look" = some (some (.ref aFo7)))
    (LFo7 : K.lookup aFo7 = some ⟨.type "tuple", odFo7, .seq itFo7 nFo7, slFo7⟩)
    (zFo7 : itFo7.size ≤ sizeLine)
    (vFo7 : Vals ([.str "name", .str "moment", .str "name", .str "name"] : List V) itFo7.toList)
    (ABo : PySem.W.nsIn K mainGlobals "BOUNDS" = some (some (.ref aBo)))
    (LBo : K.lookup aBo = some ⟨.type "dict", none, .dict esBo nBo, #[]⟩)
    (litBo : PySem.W.KeysLit w.params esBo.toList)
    (lowBo : (aBo == sysModules) = false)
    (gBo1 : PySem.W.nsIn K aBo "moment" = some (some (.ref aBo1)))
    (LBo1 : K.lookup aBo1 = some ⟨.type "tuple", odBo1, .seq itBo1 nBo1, slBo1⟩)
    (zBo1 : itBo1.size ≤ sizeLine)
    (vBo1 : Vals ([.int 0, .int 9999] : List V) itBo1.toList)
    (gBo2 : PySem.W.nsIn K aBo "many" = some (some (.ref aBo2)))
    (LBo2 : K.lookup aBo2 = some ⟨.type "tuple", odBo2, .seq itBo2 nBo2, slBo2⟩)
    (zBo2 : itBo2.size ≤ sizeLine)
    (vBo2 : Vals ([.int 1, .int 1000000000] : List V) itBo2.toList)
    (gBo3 : PySem.W.nsIn K aBo "counted" = some (some (.ref aBo3)))
    (LBo3 : K.lookup aBo3 = some ⟨.type "tuple", odBo3, .seq itBo3 nBo3, slBo3⟩)
    (zBo3 : itBo3.size ≤ sizeLine)
    (vBo3 : Vals ([.int 0, .int 1000000000] : List V) itBo3.toList)
    (gBo4 : PySem.W.nsIn K aBo "price" = some (some (.ref aBo4)))
    (LBo4 : K.lookup aBo4 = some ⟨.type "tuple", odBo4, .seq itBo4 nBo4, slBo4⟩)
    (zBo4 : itBo4.size ≤ sizeLine)
    (vBo4 : Vals ([.int 0, .int 1000000000] : List V) itBo4.toList)
    (ARa : PySem.W.nsIn K mainGlobals "RANKS" = some (some (.ref aRa)))
    (LRa : K.lookup aRa = some ⟨.type "dict", none, .dict esRa nRa, #[]⟩)
    (litRa : PySem.W.KeysLit w.params esRa.toList)
    (lowRa : (aRa == sysModules) = false)
    (gRa1 : PySem.W.nsIn K aRa "come" = some (some (.int 1 tRa1)))
    (gRa2 : PySem.W.nsIn K aRa "go" = some (some (.int 1 tRa2)))
    (gRa3 : PySem.W.nsIn K aRa "move" = some (some (.int 1 tRa3)))
    (gRa4 : PySem.W.nsIn K aRa "some" = some (some (.int 1 tRa4)))
    (gRa5 : PySem.W.nsIn K aRa "swap" = some (some (.int 0 tRa5)))
    (gRa6 : PySem.W.nsIn K aRa "count" = some (some (.int 2 tRa6)))
    (gRa7 : PySem.W.nsIn K aRa "look" = some (some (.int 2 tRa7)))
    (zL : PySem.W.nsIn K mainGlobals "LETTERS" = some (some (.str abc tL)))
    (zN : PySem.W.nsIn K mainGlobals "LONGEST_NAME" = some (some (.int 8 tN)))
    (zMP : PySem.W.nsIn K mainGlobals "MOST_PLACES" = some (some (.int 6 tMP)))
    (zMG : PySem.W.nsIn K mainGlobals "MOST_GOODS" = some (some (.int 3 tMG)))
    (zME : PySem.W.nsIn K mainGlobals "MOST_ENTRIES" = some (some (.int 30 tME)))
    (y_abs : PySem.W.nsIn K mainGlobals "abs" = some none)
    (y_all : PySem.W.nsIn K mainGlobals "all" = some none)
    (y_bool : PySem.W.nsIn K mainGlobals "bool" = some none)
    (y_dict : PySem.W.nsIn K mainGlobals "dict" = some none)
    (y_enumerate : PySem.W.nsIn K mainGlobals "enumerate" = some none)
    (y_int : PySem.W.nsIn K mainGlobals "int" = some none)
    (y_isinstance : PySem.W.nsIn K mainGlobals "isinstance" = some none)
    (y_len : PySem.W.nsIn K mainGlobals "len" = some none)
    (y_list : PySem.W.nsIn K mainGlobals "list" = some none)
    (y_max : PySem.W.nsIn K mainGlobals "max" = some none)
    (y_range : PySem.W.nsIn K mainGlobals "range" = some none)
    (y_repr : PySem.W.nsIn K mainGlobals "repr" = some none)
    (y_set : PySem.W.nsIn K mainGlobals "set" = some none)
    (y_sorted : PySem.W.nsIn K mainGlobals "sorted" = some none)
    (y_str : PySem.W.nsIn K mainGlobals "str" = some none)
    (y_tuple : PySem.W.nsIn K mainGlobals "tuple" = some none)
    (y_zip : PySem.W.nsIn K mainGlobals "zip" = some none) :
    LawG l w K 8 63 "_law_script" mg fa h := by
  have Gg := G.T.g
  have e := hfa.symm.trans (PySem.W.mg_of X Gg a34)
  cases e
  have n_abs := PySem.W.mg_none_of X Gg y_abs
  have n_all := PySem.W.mg_none_of X Gg y_all
  have n_bool := PySem.W.mg_none_of X Gg y_bool
  have n_dict := PySem.W.mg_none_of X Gg y_dict
  have n_enumerate := PySem.W.mg_none_of X Gg y_enumerate
  have n_int := PySem.W.mg_none_of X Gg y_int
  have n_isinstance := PySem.W.mg_none_of X Gg y_isinstance
  have n_len := PySem.W.mg_none_of X Gg y_len
  have n_list := PySem.W.mg_none_of X Gg y_list
  have n_max := PySem.W.mg_none_of X Gg y_max
  have n_range := PySem.W.mg_none_of X Gg y_range
  have n_repr := PySem.W.mg_none_of X Gg y_repr
  have n_set := PySem.W.mg_none_of X Gg y_set
  have n_sorted := PySem.W.mg_none_of X Gg y_sorted
  have n_str := PySem.W.mg_none_of X Gg y_str
  have n_tuple := PySem.W.mg_none_of X Gg y_tuple
  have n_zip := PySem.W.mg_none_of X Gg y_zip
  have m_L := PySem.W.mg_of X Gg zL
  have m_N := PySem.W.mg_of X Gg zN
  have m_MP := PySem.W.mg_of X Gg zMP
  have m_MG := PySem.W.mg_of X Gg zMG
  have m_ME := PySem.W.mg_of X Gg zME
  have m_Fo := PySem.W.mg_of X Gg AFo
  have m_Bo := PySem.W.mg_of X Gg ABo
  have m_Ra := PySem.W.mg_of X Gg ARa
  have F1 := fun_mk (st := sName) l1 c_1 k1
  have b1 := F1.binds (ps := ["thing"]) fun _ _ _ _ _ _ us hl => match us, hl with | [_], _ => rfl
  have g1 := PySem.W.mg_of X Gg a1
  have F2 := fun_mk (st := sWhole) l2 c_2 k2
  have b2 := F2.binds (ps := ["thing"]) fun _ _ _ _ _ _ us hl => match us, hl with | [_], _ => rfl
  have g2 := PySem.W.mg_of X Gg a2
  have F3 := fun_mk (st := sIsEntry) l3 c_3 k3
  have b3 := F3.binds (ps := ["thing"]) fun _ _ _ _ _ _ us hl => match us, hl with | [_], _ => rfl
  have g3 := PySem.W.mg_of X Gg a3
  have F4 := fun_mk (st := sFits) l4 c_4 k4
  have b4 := F4.binds (ps := ["part", "sort"]) fun _ _ _ _ _ _ us hl => match us, hl with | [_, _], _ => rfl
  have g4 := PySem.W.mg_of X Gg a4
  have F5 := fun_mk (st := sIsEntryOf) l5 c_5 k5
  have b5 := F5.binds (ps := ["thing", "places", "goods"]) fun _ _ _ _ _ _ us hl => match us, hl with | [_, _, _], _ => rfl
  have g5 := PySem.W.mg_of X Gg a5
  have F6 := fun_mk (st := sGood) l6 c_6 k6
  have b6 := F6.binds (ps := ["entry"]) fun _ _ _ _ _ _ us hl => match us, hl with | [_], _ => rfl
  have g6 := PySem.W.mg_of X Gg a6
  have F7 := fun_mk (st := sPlacesOf) l7 c_7 k7
  have b7 := F7.binds (ps := ["entry"]) fun _ _ _ _ _ _ us hl => match us, hl with | [_], _ => rfl
  have g7 := PySem.W.mg_of X Gg a7
  have F8 := fun_mk (st := sOrd) l8 c_8 k8
  have b8 := F8.binds (ps := ["entry"]) fun _ _ _ _ _ _ us hl => match us, hl with | [_], _ => rfl
  have g8 := PySem.W.mg_of X Gg a8
  have F9 := fun_mk (st := sWithNm) l9 c_9 k9
  have b9 := F9.binds (ps := ["entry", "name"]) fun _ _ _ _ _ _ us hl => match us, hl with | [_, _], _ => rfl
  have g9 := PySem.W.mg_of X Gg a9
  have F10 := fun_mk (st := sWithGd) l10 c_10 k10
  have b10 := F10.binds (ps := ["entry", "good"]) fun _ _ _ _ _ _ us hl => match us, hl with | [_, _], _ => rfl
  have g10 := PySem.W.mg_of X Gg a10
  have F11 := fun_mk (st := sWithPlaces) l11 c_11 k11
  have b11 := F11.binds (ps := ["entry", "places"]) fun _ _ _ _ _ _ us hl => match us, hl with | [_, _], _ => rfl
  have g11 := PySem.W.mg_of X Gg a11
  have F12 := fun_mk (st := sHouseOf) l12 c_12 k12
  have b12 := F12.binds (ps := ["places", "goods", "entries"]) fun _ _ _ _ _ _ us hl => match us, hl with | [_, _, _], _ => rfl
  have g12 := PySem.W.mg_of X Gg a12
  have F13 := fun_mk (st := sRising) l13 c_13 k13
  have b13 := F13.binds (ps := ["things", "most"]) fun _ _ _ _ _ _ us hl => match us, hl with | [_, _], _ => rfl
  have g13 := PySem.W.mg_of X Gg a13
  have F14 := fun_mk (st := sOwnEnts) l14 c_14 k14
  have b14 := F14.binds (ps := ["things", "places", "goods"]) fun _ _ _ _ _ _ us hl => match us, hl with | [_, _, _], _ => rfl
  have g14 := PySem.W.mg_of X Gg a14
  have F15 := fun_mk (st := sInOrder) l15 c_15 k15
  have b15 := F15.binds (ps := ["entries"]) fun _ _ _ _ _ _ us hl => match us, hl with | [_], _ => rfl
  have g15 := PySem.W.mg_of X Gg a15
  have F16 := fun_mk (st := sCalledO) l16 c_16 k16
  have b16 := F16.binds (ps := ["house", "places", "goods", "names"]) fun _ _ _ _ _ _ us hl => match us, hl with | [_, _, _, _], _ => rfl
  have g16 := PySem.W.mg_of X Gg a16
  have F17 := fun_mk (st := sRefuse) l17 c_17 k17
  have b17 := F17.binds (ps := ["otherwise"]) fun _ _ _ _ _ _ us hl => match us, hl with | [_], _ => rfl
  have g17 := PySem.W.mg_of X Gg a17
  have F18 := fun_mk (st := sAllO) l18 c_18 k18
  have b18 := F18.binds (ps := ["old", "otherwise"]) fun _ _ _ _ _ _ us hl => match us, hl with | [_, _], _ => rfl
  have g18 := PySem.W.mg_of X Gg a18
  have F19 := fun_mk (st := sEntO) l19 c_19 k19
  have b19 := F19.binds (ps := ["entry", "places", "goods", "names"]) fun _ _ _ _ _ _ us hl => match us, hl with | [_, _, _, _], _ => rfl
  have g19 := PySem.W.mg_of X Gg a19
  have F20 := fun_mk (st := sPen) l20 c_20 k20
  have b20 := F20.binds (ps := ["_law_script"]) fun _ _ _ _ _ _ us hl => match us, hl with | [_], _ => rfl
  have g20 := PySem.W.mg_of X Gg a20
  have F21 := fun_mk (st := sDraw) l21 c_21 k21
  have b21 := F21.binds (ps := ["_law_pen_here", "_law_many_here"]) fun _ _ _ _ _ _ us hl => match us, hl with | [_, _], _ => rfl
  have g21 := PySem.W.mg_of X Gg a21
  have F22 := fun_mk (st := sWords) l22 c_22 k22
  have b22 := F22.binds (ps := ["_law_pen_here"]) fun _ _ _ _ _ _ us hl => match us, hl with | [_], _ => rfl
  have g22 := PySem.W.mg_of X Gg a22
  have F23 := fun_mk (st := sLName) l23 c_23 k23
  have b23 := F23.binds (ps := ["_law_words_here", "_law_number"]) fun _ _ _ _ _ _ us hl => match us, hl with | [_, _], _ => rfl
  have g23 := PySem.W.mg_of X Gg a23
  have F24 := fun_mk (st := sLStand) l24 c_24 k24
  have b24 := F24.binds (ps := ["_law_pen_here", "_law_words_here"]) fun _ _ _ _ _ _ us hl => match us, hl with | [_, _], _ => rfl
  have g24 := PySem.W.mg_of X Gg a24
  have F25 := fun_mk (st := sMoment) l25 c_25 k25
  have b25 := F25.binds (ps := ["_law_pen_here"]) fun _ _ _ _ _ _ us hl => match us, hl with | [_], _ => rfl
  have g25 := PySem.W.mg_of X Gg a25
  have F26 := fun_mk (st := sMany) l26 c_26 k26
  have b26 := F26.binds (ps := ["_law_pen_here"]) fun _ _ _ _ _ _ us hl => match us, hl with | [_], _ => rfl
  have g26 := PySem.W.mg_of X Gg a26
  have F27 := fun_mk (st := sEntry) l27 c_27 k27
  have b27 := F27.binds (ps := ["_law_pen_here", "_law_words_here", "_law_stand_here", "_law_number"]) fun _ _ _ _ _ _ us hl => match us, hl with | [_, _, _, _], _ => rfl
  have g27 := PySem.W.mg_of X Gg a27
  have F28 := fun_mk (st := sSame) l28 c_28 k28
  have b28 := F28.binds (ps := ["_law_found", "_law_due_here"]) fun _ _ _ _ _ _ us hl => match us, hl with | [_, _], _ => rfl
  have g28 := PySem.W.mg_of X Gg a28
  have F29 := fun_mk (st := sOwn) l29 c_29 k29
  have b29 := F29.binds (ps := ["_law_entry_here"]) fun _ _ _ _ _ _ us hl => match us, hl with | [_], _ => rfl
  have g29 := PySem.W.mg_of X Gg a29
  have F30 := fun_mk (st := sCalledBy) l30 c_30 k30
  have b30 := F30.binds (ps := ["_law_pen_here", "_law_words_here", "_law_names", "_law_base"]) fun _ _ _ _ _ _ us hl => match us, hl with | [_, _, _, _], _ => rfl
  have g30 := PySem.W.mg_of X Gg a30
  have F31 := fun_mk (st := sEntSo) l31 c_31 k31
  have b31 := F31.binds (ps := ["_law_entry_here", "_law_places", "_law_goods", "_law_names"]) fun _ _ _ _ _ _ us hl => match us, hl with | [_, _, _, _], _ => rfl
  have g31 := PySem.W.mg_of X Gg a31
  have F32 := fun_mk (st := sLDue) l32 c_32 k32
  have b32 := F32.binds (ps := ["_law_house", "_law_places", "_law_goods", "_law_names"]) fun _ _ _ _ _ _ us hl => match us, hl with | [_, _, _, _], _ => rfl
  have g32 := PySem.W.mg_of X Gg a32
  have F33 := fun_mk (st := sBack) l33 c_33 k33
  have b33 := F33.binds (ps := ["_law_wanted", "_law_names"]) fun _ _ _ _ _ _ us hl => match us, hl with | [_, _], _ => rfl
  have g33 := PySem.W.mg_of X Gg a33
  have F34 := fun_mk (st := sLaw) l34 c_34 k34
  have t1 := tab_is a1 l1 rfl lc1 hv1
  obtain ⟨hd1, tb1⟩ := PySem.W.tab_of G.T X r1 t1
  have t3 := tab_is a3 l3 rfl lc3 hv3
  obtain ⟨hd3, tb3⟩ := PySem.W.tab_of G.T X r3 t3
  have t5 := tab_is a5 l5 rfl lc5 hv5
  obtain ⟨hd5, tb5⟩ := PySem.W.tab_of G.T X r5 t5
  have t13 := tab_is a13 l13 rfl lc13 hv13
  obtain ⟨hd13, tb13⟩ := PySem.W.tab_of G.T X r13 t13
  have t17 := tab_is a17 l17 rfl lc17 hv17
  obtain ⟨hd17, tb17⟩ := PySem.W.tab_of G.T X r17 t17
  have t19 := tab_is a19 l19 rfl lc19 hv19
  obtain ⟨hd19, tb19⟩ := PySem.W.tab_of G.T X r19 t19
  have DF : KDict K w aFo esFo nFo := ⟨LFo, litFo, lowFo⟩
  have hF : ∀ e : Ent, ∃ aS, KDct K w aFo e.word (.ref aS) ∧ ∀ H, SqT K H aS (e.sorts.map V.str) := fun e => by
    cases e
    · exact ⟨_, ⟨esFo, nFo, _, LFo, litFo, gFo1, rfl⟩, fun H => .inr ⟨_, _, _, LFo1, rfl, rfl, zFo1, vFo1⟩⟩
    · exact ⟨_, ⟨esFo, nFo, _, LFo, litFo, gFo2, rfl⟩, fun H => .inr ⟨_, _, _, LFo2, rfl, rfl, zFo2, vFo2⟩⟩
    · exact ⟨_, ⟨esFo, nFo, _, LFo, litFo, gFo3, rfl⟩, fun H => .inr ⟨_, _, _, LFo3, rfl, rfl, zFo3, vFo3⟩⟩
    · exact ⟨_, ⟨esFo, nFo, _, LFo, litFo, gFo4, rfl⟩, fun H => .inr ⟨_, _, _, LFo4, rfl, rfl, zFo4, vFo4⟩⟩
    · exact ⟨_, ⟨esFo, nFo, _, LFo, litFo, gFo5, rfl⟩, fun H => .inr ⟨_, _, _, LFo5, rfl, rfl, zFo5, vFo5⟩⟩
    · exact ⟨_, ⟨esFo, nFo, _, LFo, litFo, gFo6, rfl⟩, fun H => .inr ⟨_, _, _, LFo6, rfl, rfl, zFo6, vFo6⟩⟩
    · exact ⟨_, ⟨esFo, nFo, _, LFo, litFo, gFo7, rfl⟩, fun H => .inr ⟨_, _, _, LFo7, rfl, rfl, zFo7, vFo7⟩⟩
  have hB : ∀ x ∈ sorts4, ∃ aT, KDct K w aBo x (.ref aT) ∧ ∀ H, SqT K H aT [.int (bnd x).1, .int (bnd x).2] := fun x hx => by
    simp only [sorts4, List.mem_cons, List.not_mem_nil, or_false] at hx
    rcases hx with rfl | rfl | rfl | rfl
    · exact ⟨_, ⟨esBo, nBo, _, LBo, litBo, gBo1, rfl⟩, fun H => .inr ⟨_, _, _, LBo1, rfl, rfl, zBo1, vBo1⟩⟩
    · exact ⟨_, ⟨esBo, nBo, _, LBo, litBo, gBo2, rfl⟩, fun H => .inr ⟨_, _, _, LBo2, rfl, rfl, zBo2, vBo2⟩⟩
    · exact ⟨_, ⟨esBo, nBo, _, LBo, litBo, gBo3, rfl⟩, fun H => .inr ⟨_, _, _, LBo3, rfl, rfl, zBo3, vBo3⟩⟩
    · exact ⟨_, ⟨esBo, nBo, _, LBo, litBo, gBo4, rfl⟩, fun H => .inr ⟨_, _, _, LBo4, rfl, rfl, zBo4, vBo4⟩⟩
  have hR : ∀ e : Ent, KDct K w aRa e.word (.int e.rank) := fun e => by
    cases e
    · exact ⟨esRa, nRa, _, LRa, litRa, gRa1, ⟨_, rfl⟩⟩
    · exact ⟨esRa, nRa, _, LRa, litRa, gRa2, ⟨_, rfl⟩⟩
    · exact ⟨esRa, nRa, _, LRa, litRa, gRa3, ⟨_, rfl⟩⟩
    · exact ⟨esRa, nRa, _, LRa, litRa, gRa4, ⟨_, rfl⟩⟩
    · exact ⟨esRa, nRa, _, LRa, litRa, gRa5, ⟨_, rfl⟩⟩
    · exact ⟨esRa, nRa, _, LRa, litRa, gRa6, ⟨_, rfl⟩⟩
    · exact ⟨esRa, nRa, _, LRa, litRa, gRa7, ⟨_, rfl⟩⟩
  refine ⟨PySem.W.fnOf "law" "law" (defArgs sLaw) (defBody sLaw) (defScope sLaw) .none kV34 dc34 pm34 an34 cd34 ct34, [(c1, T1), (c3, T3), (c5, T5), (c13, T13), (c17, T17), (c19, T19)], spLaw K [T1, T3, T5, T13, T17, T19], ⟨fun p hp => ?_, fun p hp => ?_, fun p hp => ?_⟩, fun s v => .of_eq rfl, fun H a ns hlen hT hS => ?_, fun base _ _ TB => ?_⟩
  · simp only [List.mem_cons, List.not_mem_nil, or_false] at hp
    rcases hp with rfl | rfl | rfl | rfl | rfl | rfl
    · exact tb1
    · exact tb3
    · exact tb5
    · exact tb13
    · exact tb17
    · exact tb19
  · simp only [List.mem_cons, List.not_mem_nil, or_false] at hp
    rcases hp with rfl | rfl | rfl | rfl | rfl | rfl
    · exact nT1
    · exact nT3
    · exact nT5
    · exact nT13
    · exact nT17
    · exact nT19
  · simp only [List.mem_cons, List.not_mem_nil, or_false] at hp
    rcases hp with rfl | rfl | rfl | rfl | rfl | rfl
    · exact hd1
    · exact hd3
    · exact hd5
    · exact hd13
    · exact hd17
    · exact hd19
  · refine ⟨a, ns, rfl, hS, fun T hT' => ?_, fun _ => rfl⟩
    simp only [List.mem_cons, List.not_mem_nil, or_false] at hT'
    rcases hT' with rfl | rfl | rfl | rfl | rfl | rfl
    · exact ⟨#[], hT (c1, _) (by simp), trivial⟩
    · exact ⟨#[], hT (c3, _) (by simp), trivial⟩
    · exact ⟨#[], hT (c5, _) (by simp), trivial⟩
    · exact ⟨#[], hT (c13, _) (by simp), trivial⟩
    · exact ⟨#[], hT (c17, _) (by simp), trivial⟩
    · exact ⟨#[], hT (c19, _) (by simp), trivial⟩
  · have B1 := TB (c1, T1) (by simp)
    have B3 := TB (c3, T3) (by simp)
    have B5 := TB (c5, T5) (by simp)
    have B13 := TB (c13, T13) (by simp)
    have B17 := TB (c17, T17) (by simp)
    have B19 := TB (c19, T19) (by simp)
    have NM : DefT l.prog w K mg base "is_name" 1 f1 _ _ (spName K T1) := ⟨ok_name l1 c_1 ⟨B1.code, B1.bm, B1.gP⟩ n_isinstance n_str n_len n_all ⟨_, m_L⟩ ⟨_, m_N⟩, g1, k1, b1⟩
    have WH : DefT l.prog w K mg base "is_whole" 1 f2 _ _ (spWhole) := ⟨ok_whole F2 n_isinstance n_int n_bool, g2, k2, b2⟩
    have FI : DefT l.prog w K mg base "fits" 2 f4 _ _ (spFits T1) := ⟨ok_fits F4 NM WH m_Bo hB, g4, k4, b4⟩
    have PO : DefT l.prog w K mg base "places_of" 1 f7 _ _ (spPlaces) := ⟨ok_placesOf F7, g7, k7, b7⟩
    have GO : DefT l.prog w K mg base "good_of" 1 f6 _ _ (spGood) := ⟨ok_good F6, g6, k6, b6⟩
    have IE : DefT l.prog w K mg base "is_entry" 4 f3 _ _ (spIsEntry T1 T3) := ⟨ok_isEntry l3 c_3 ⟨B3.code, B3.bm, B3.gP⟩ ne13 FI PO n_isinstance n_tuple n_len n_str n_all n_zip n_set m_Fo DF hF, g3, k3, b3⟩
    have IO : DefT l.prog w K mg base "is_entry_of" 5 f5 _ _ (spIsEntryOf [T1, T3, T5, T13, T17, T19]) := ⟨ok_isEntryOf l5 c_5 ⟨B5.code, B5.bm, B5.gP⟩ (by simp) (by simp) (by simp) IE GO PO n_all, g5, k5, b5⟩
    have RN : DefT l.prog w K mg base "rising_names" 3 f13 _ _ (spRising [T1, T3, T5, T13, T17, T19]) := ⟨ok_rising l13 c_13 ⟨B13.code, B13.bm, B13.gP⟩ (by simp) (by simp) NM n_isinstance n_list n_tuple n_len n_all n_sorted n_set, g13, k13, b13⟩
    have OR : DefT l.prog w K mg base "order_of" 1 f8 _ _ (spOrd) := ⟨ok_ord F8 m_Ra hR, g8, k8, b8⟩
    have IN : DefT l.prog w K mg base "in_order" 4 f15 _ _ (spInOrder) := ⟨ok_inOrder F15 OR n_sorted n_tuple, g15, k15, b15⟩
    have OE : DefT l.prog w K mg base "own_entries" 6 f14 _ _ (spOwnEnts [T1, T3, T5, T13, T17, T19]) := ⟨ok_ownEnts F14 IO IN n_isinstance n_list n_tuple n_len ⟨_, m_ME⟩, g14, k14, b14⟩
    have HO : DefT l.prog w K mg base "house_of" 7 f12 _ _ (spHouseOf [T1, T3, T5, T13, T17, T19]) := ⟨ok_houseOf F12 RN OE ⟨_, m_MP⟩ ⟨_, m_MG⟩, g12, k12, b12⟩
    have WN : DefT l.prog w K mg base "with_name" 1 f9 _ _ (spWithNm) := ⟨ok_withNm F9, g9, k9, b9⟩
    have WG : DefT l.prog w K mg base "with_good" 1 f10 _ _ (spWithGd) := ⟨ok_withGd F10, g10, k10, b10⟩
    have WP : DefT l.prog w K mg base "with_places" 1 f11 _ _ (spWithPl) := ⟨ok_withPl F11 n_len, g11, k11, b11⟩
    have RF : DefT l.prog w K mg base "refuse_what_is_no_name" 3 f17 _ _ (spRefuse [T1, T3, T5, T13, T17, T19]) := ⟨ok_refuse l17 c_17 ⟨B17.code, B17.bm, B17.gP⟩ (by simp) (by simp) NM n_all, g17, k17, b17⟩
    have AO : DefT l.prog w K mg base "all_otherwise" 1 f18 _ _ (spAllO) := ⟨ok_allO F18 n_len n_set, g18, k18, b18⟩
    have EO : DefT l.prog w K mg base "entry_otherwise" 2 f19 _ _ (spEntO [T1, T3, T5, T13, T17, T19]) := ⟨ok_entO l19 c_19 ⟨B19.code, B19.bm, B19.gP⟩ (by simp) WN WG WP PO GO n_tuple, g19, k19, b19⟩
    have CO : DefT l.prog w K mg base "called" 5 f16 _ _ (spCalledO [T1, T3, T5, T13, T17, T19]) := ⟨ok_calledO F16 RF AO EO IN n_tuple n_sorted, g16, k16, b16⟩
    have GP : DefT l.prog w K mg base "_law_pen" 1 f20 _ _ (spPen K) := ⟨ok_pen F20 n_list, g20, k20, b20⟩
    have TT : DefT l.prog w K mg base "_law_draw" 1 f21 _ _ (spDraw) := ⟨ok_draw F21 n_len n_abs, g21, k21, b21⟩
    have W : DefT l.prog w K mg base "_law_words" 2 f22 _ _ (spWords) := ⟨ok_words F22 TT n_range, g22, k22, b22⟩
    have LN : DefT l.prog w K mg base "_law_name" 1 f23 _ _ (spLName) := ⟨ok_lname F23, g23, k23, b23⟩
    have LS : DefT l.prog w K mg base "_law_stand" 2 f24 _ _ (spLStand) := ⟨ok_lstand F24 TT LN n_range n_sorted n_tuple, g24, k24, b24⟩
    have MO : DefT l.prog w K mg base "_law_moment" 2 f25 _ _ (spMoment) := ⟨ok_moment F25 TT, g25, k25, b25⟩
    have MY : DefT l.prog w K mg base "_law_many" 2 f26 _ _ (spMany) := ⟨ok_many F26 TT, g26, k26, b26⟩
    have EE : DefT l.prog w K mg base "_law_entry" 3 f27 _ _ (spEntry) := ⟨ok_entry F27 TT LN MO MY n_len n_int n_max, g27, k27, b27⟩
    have SM : DefT l.prog w K mg base "_law_same" 5 f28 _ _ (spSame K 4) := ⟨ok_same F28 g28 k28 b28 n_isinstance n_list n_tuple n_bool n_len n_all n_zip 4, g28, k28, b28⟩
    have OD : DefT l.prog w K mg base "_law_order" 1 f29 _ _ (spOrd) := ⟨ok_own F29 n_int, g29, k29, b29⟩
    have ES : DefT l.prog w K mg base "_law_entry_so" 1 f31 _ _ (spEntSo) := ⟨ok_entSo F31 n_tuple n_list n_len, g31, k31, b31⟩
    have LD : DefT l.prog w K mg base "_law_due" 4 f32 _ _ (spLDue) := ⟨ok_lDue F32 ES OD n_tuple n_sorted, g32, k32, b32⟩
    have BK : DefT l.prog w K mg base "_law_back" 1 f33 _ _ (spBack) := ⟨ok_back F33 n_dict, g33, k33, b33⟩
    have CB : DefT l.prog w K mg base "_law_called_by" 2 f30 _ _ (spCalledBy) := ⟨ok_calledBy F30 TT LN n_max n_len n_dict n_list n_zip n_enumerate, g30, k30, b30⟩
    exact ok_law F34 GP TT W LS EE HO CB LD CO SM BK n_range n_list n_repr
end Shelf
open PySem PySem.W PyProof.Rows
set_option maxHeartbeats 0 in
theorem PySem.Challenge.cw_shelfcounts_k70_called_otherwise_holds : PySem.Challenge.rw_shelfcounts_k70_called_otherwise.Holds := by
  w_on; o_law; k_head; (case hw => w_witness2)
  k_fill
  refine Shelf.end_G (l := PySem.Challenge.rw_shelfcounts_k70_called_otherwise) (n := 63) (k := 8) (x := "_law_script") rfl (by decide) rfl ⟨rfl, by decide, by decide⟩ (fun w h Y => PySem.W.kIn_of Y) ?F
  case F =>
    intro w s0 mg mb fa h G KX hmg
    refine' Shelf.all_mk G KX hmg ?a1 ?l1 ?c_1 ?k1 ?lc1 ?hv1 ?nT1 ?r1 ?a2 ?l2 ?c_2 ?k2 ?a3 ?l3 ?c_3 ?k3 ?lc3 ?hv3 ?nT3 ?r3 ?a4 ?l4 ?c_4 ?k4 ?a5 ?l5 ?c_5 ?k5 ?lc5 ?hv5 ?nT5 ?r5 ?a6 ?l6 ?c_6 ?k6 ?a7 ?l7 ?c_7 ?k7 ?a8 ?l8 ?c_8 ?k8 ?a9 ?l9 ?c_9 ?k9 ?a10 ?l10 ?c_10 ?k10 ?a11 ?l11 ?c_11 ?k11 ?a12 ?l12 ?c_12 ?k12 ?a13 ?l13 ?c_13 ?k13 ?lc13 ?hv13 ?nT13 ?r13 ?a14 ?l14 ?c_14 ?k14 ?a15 ?l15 ?c_15 ?k15 ?a16 ?l16 ?c_16 ?k16 ?a17 ?l17 ?c_17 ?k17 ?lc17 ?hv17 ?nT17 ?r17 ?a18 ?l18 ?c_18 ?k18 ?a19 ?l19 ?c_19 ?k19 ?lc19 ?hv19 ?nT19 ?r19 ?a20 ?l20 ?c_20 ?k20 ?a21 ?l21 ?c_21 ?k21 ?a22 ?l22 ?c_22 ?k22 ?a23 ?l23 ?c_23 ?k23 ?a24 ?l24 ?c_24 ?k24 ?a25 ?l25 ?c_25 ?k25 ?a26 ?l26 ?c_26 ?k26 ?a27 ?l27 ?c_27 ?k27 ?a28 ?l28 ?c_28 ?k28 ?a29 ?l29 ?c_29 ?k29 ?a30 ?l30 ?c_30 ?k30 ?a31 ?l31 ?c_31 ?k31 ?a32 ?l32 ?c_32 ?k32 ?a33 ?l33 ?c_33 ?k33 ?a34 ?l34 ?c_34 ?k34 ?ne13 ?ne15 ?ne35 ?ne113 ?ne313 ?ne513 ?ne117 ?ne317 ?ne517 ?ne1317 ?ne119 ?ne319 ?ne519 ?ne1319 ?ne1719 ?AFo ?LFo ?litFo ?lowFo ?gFo1 ?LFo1 ?zFo1 ?vFo1 ?gFo2 ?LFo2 ?zFo2 ?vFo2 ?gFo3 ?LFo3 ?zFo3 ?vFo3 ?gFo4 ?LFo4 ?zFo4 ?vFo4 ?gFo5 ?LFo5 ?zFo5 ?vFo5 ?gFo6 ?LFo6 ?zFo6 ?vFo6 ?gFo7 ?LFo7 ?zFo7 ?vFo7 ?ABo ?LBo ?litBo ?lowBo ?gBo1 ?LBo1 ?zBo1 ?vBo1 ?gBo2 ?LBo2 ?zBo2 ?vBo2 ?gBo3 ?LBo3 ?zBo3 ?vBo3 ?gBo4 ?LBo4 ?zBo4 ?vBo4 ?ARa ?LRa ?litRa ?lowRa ?gRa1 ?gRa2 ?gRa3 ?gRa4 ?gRa5 ?gRa6 ?gRa7 ?zL ?zN ?zMP ?zMG ?zME ?y_abs ?y_all ?y_bool ?y_dict ?y_enumerate ?y_int ?y_isinstance ?y_len ?y_list ?y_max ?y_range ?y_repr ?y_set ?y_sorted ?y_str ?y_tuple ?y_zip
    (case a1 => k_is); (case l1 => k_is); (case c_1 => k_is); (case k1 => k_is); (case lc1 => k_is); (case hv1 => rfl)
    (case nT1 => kernel_rfl); (case r1 => rfl); (case a2 => k_is); (case l2 => k_is); (case c_2 => k_is); (case k2 => k_is)
    (case a3 => k_is); (case l3 => k_is); (case c_3 => k_is); (case k3 => k_is); (case lc3 => k_is); (case hv3 => rfl)
    (case nT3 => kernel_rfl); (case r3 => rfl); (case a4 => k_is); (case l4 => k_is); (case c_4 => k_is); (case k4 => k_is)
    (case a5 => k_is); (case l5 => k_is); (case c_5 => k_is); (case k5 => k_is); (case lc5 => k_is); (case hv5 => rfl)
    (case nT5 => kernel_rfl); (case r5 => rfl); (case a6 => k_is); (case l6 => k_is); (case c_6 => k_is); (case k6 => k_is)
    (case a7 => k_is); (case l7 => k_is); (case c_7 => k_is); (case k7 => k_is); (case a8 => k_is); (case l8 => k_is)
    (case c_8 => k_is); (case k8 => k_is); (case a9 => k_is); (case l9 => k_is); (case c_9 => k_is); (case k9 => k_is)
    (case a10 => k_is); (case l10 => k_is); (case c_10 => k_is); (case k10 => k_is); (case a11 => k_is); (case l11 => k_is)
    (case c_11 => k_is); (case k11 => k_is); (case a12 => k_is); (case l12 => k_is); (case c_12 => k_is); (case k12 => k_is)
    (case a13 => k_is); (case l13 => k_is); (case c_13 => k_is); (case k13 => k_is); (case lc13 => k_is); (case hv13 => rfl)
    (case nT13 => kernel_rfl); (case r13 => rfl); (case a14 => k_is); (case l14 => k_is); (case c_14 => k_is); (case k14 => k_is)
    (case a15 => k_is); (case l15 => k_is); (case c_15 => k_is); (case k15 => k_is); (case a16 => k_is); (case l16 => k_is)
    (case c_16 => k_is); (case k16 => k_is); (case a17 => k_is); (case l17 => k_is); (case c_17 => k_is); (case k17 => k_is)
    (case lc17 => k_is); (case hv17 => rfl); (case nT17 => kernel_rfl); (case r17 => rfl); (case a18 => k_is); (case l18 => k_is)
    (case c_18 => k_is); (case k18 => k_is); (case a19 => k_is); (case l19 => k_is); (case c_19 => k_is); (case k19 => k_is)
    (case lc19 => k_is); (case hv19 => rfl); (case nT19 => kernel_rfl); (case r19 => rfl); (case a20 => k_is); (case l20 => k_is)
    (case c_20 => k_is); (case k20 => k_is); (case a21 => k_is); (case l21 => k_is); (case c_21 => k_is); (case k21 => k_is)
    (case a22 => k_is); (case l22 => k_is); (case c_22 => k_is); (case k22 => k_is); (case a23 => k_is); (case l23 => k_is)
    (case c_23 => k_is); (case k23 => k_is); (case a24 => k_is); (case l24 => k_is); (case c_24 => k_is); (case k24 => k_is)
    (case a25 => k_is); (case l25 => k_is); (case c_25 => k_is); (case k25 => k_is); (case a26 => k_is); (case l26 => k_is)
    (case c_26 => k_is); (case k26 => k_is); (case a27 => k_is); (case l27 => k_is); (case c_27 => k_is); (case k27 => k_is)
    (case a28 => k_is); (case l28 => k_is); (case c_28 => k_is); (case k28 => k_is); (case a29 => k_is); (case l29 => k_is)
    (case c_29 => k_is); (case k29 => k_is); (case a30 => k_is); (case l30 => k_is); (case c_30 => k_is); (case k30 => k_is)
    (case a31 => k_is); (case l31 => k_is); (case c_31 => k_is); (case k31 => k_is); (case a32 => k_is); (case l32 => k_is)
    (case c_32 => k_is); (case k32 => k_is); (case a33 => k_is); (case l33 => k_is); (case c_33 => k_is); (case k33 => k_is)
    (case a34 => k_is); (case l34 => k_is); (case c_34 => k_is); (case k34 => k_is); (case ne13 => decide); (case ne15 => decide)
    (case ne35 => decide); (case ne113 => decide); (case ne313 => decide); (case ne513 => decide); (case ne117 => decide); (case ne317 => decide)
    (case ne517 => decide); (case ne1317 => decide); (case ne119 => decide); (case ne319 => decide); (case ne519 => decide); (case ne1319 => decide)
    (case ne1719 => decide); (case AFo => k_is); (case LFo => k_is); (case litFo => repeat' (first | exact True.intro | refine ⟨⟨_, _, rfl, rfl⟩, ?_⟩)); (case lowFo => rfl); (case gFo1 => k_is)
    (case LFo1 => k_is); (case zFo1 => decide); (case vFo1 => repeat' (first | exact .nil | refine .cons ⟨_, rfl⟩ ?_)); (case gFo2 => k_is); (case LFo2 => k_is); (case zFo2 => decide)
    (case vFo2 => repeat' (first | exact .nil | refine .cons ⟨_, rfl⟩ ?_)); (case gFo3 => k_is); (case LFo3 => k_is); (case zFo3 => decide); (case vFo3 => repeat' (first | exact .nil | refine .cons ⟨_, rfl⟩ ?_)); (case gFo4 => k_is)
    (case LFo4 => k_is); (case zFo4 => decide); (case vFo4 => repeat' (first | exact .nil | refine .cons ⟨_, rfl⟩ ?_)); (case gFo5 => k_is); (case LFo5 => k_is); (case zFo5 => decide)
    (case vFo5 => repeat' (first | exact .nil | refine .cons ⟨_, rfl⟩ ?_)); (case gFo6 => k_is); (case LFo6 => k_is); (case zFo6 => decide); (case vFo6 => repeat' (first | exact .nil | refine .cons ⟨_, rfl⟩ ?_)); (case gFo7 => k_is)
    (case LFo7 => k_is); (case zFo7 => decide); (case vFo7 => repeat' (first | exact .nil | refine .cons ⟨_, rfl⟩ ?_)); (case ABo => k_is); (case LBo => k_is); (case litBo => repeat' (first | exact True.intro | refine ⟨⟨_, _, rfl, rfl⟩, ?_⟩))
    (case lowBo => rfl); (case gBo1 => k_is); (case LBo1 => k_is); (case zBo1 => decide); (case vBo1 => repeat' (first | exact .nil | refine .cons ⟨_, rfl⟩ ?_)); (case gBo2 => k_is)
    (case LBo2 => k_is); (case zBo2 => decide); (case vBo2 => repeat' (first | exact .nil | refine .cons ⟨_, rfl⟩ ?_)); (case gBo3 => k_is); (case LBo3 => k_is); (case zBo3 => decide)
    (case vBo3 => repeat' (first | exact .nil | refine .cons ⟨_, rfl⟩ ?_)); (case gBo4 => k_is); (case LBo4 => k_is); (case zBo4 => decide); (case vBo4 => repeat' (first | exact .nil | refine .cons ⟨_, rfl⟩ ?_)); (case ARa => k_is)
    (case LRa => k_is); (case litRa => repeat' (first | exact True.intro | refine ⟨⟨_, _, rfl, rfl⟩, ?_⟩)); (case lowRa => rfl); (case gRa1 => k_is); (case gRa2 => k_is); (case gRa3 => k_is)
    (case gRa4 => k_is); (case gRa5 => k_is); (case gRa6 => k_is); (case gRa7 => k_is); (case zL => k_is); (case zN => k_is)
    (case zMP => k_is); (case zMG => k_is); (case zME => k_is); (case y_abs => k_is); (case y_all => k_is); (case y_bool => k_is)
    (case y_dict => k_is); (case y_enumerate => k_is); (case y_int => k_is); (case y_isinstance => k_is); (case y_len => k_is); (case y_list => k_is)
    (case y_max => k_is); (case y_range => k_is); (case y_repr => k_is); (case y_set => k_is); (case y_sorted => k_is); (case y_str => k_is)
    (case y_tuple => k_is); (case y_zip => k_is)

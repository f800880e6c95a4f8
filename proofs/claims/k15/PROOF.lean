import PyProof.Rows.All
import Wide.All
import OpenK.AllK
import Wide.FinOn
import HandS.ForMost
import HandS.AnyAll
import HandS.IsInst
import HandS.Style
import HandS.EndTab
import HandS.Codes
import HandS.GenOver
import HandS.Strs
import HandS.Zip
import HandS.Walk
import HandS.More
import KE.KEqSeq
import HandS.SortKw
import HandS.Keys
import HandS.ExcValue
import HandS.ExcIs
import HandS.ForExc
import HandS.TupAny
import HandS.DictComp
import HandS.Conv
import HandS.Small
import PyProof.TupleOfGen
import PyProof.SumAny
import PyProof.ConsumeS
import KE.SortKeyHeap
import KE.SortData
import KE.KRevSl
import PyProof.DictUpdate
import PyProof.DictDisplay
import PyProof.DictValues
import HandS.Lambda
import KE.KDictCopyH
import PySem.Challenge.RW_shelfcounts_k15_whole_all_moments_later
set_option Elab.async false
set_option linter.all false
set_option maxRecDepth 100000
namespace Shelf
open PySem PySem.Spec PyProof.Rows L2
def topS (i : Nat) : Stmt := PySem.Challenge.pw_shelfcounts_k15_whole_all_moments_later.main.body.getD i (.Pass ⟨0, 0, 0, 0⟩)
abbrev sIsName : Stmt := topS 3
abbrev sWhole : Stmt := topS 4
abbrev sFits : Stmt := topS 7
abbrev sIsMoment : Stmt := topS 8
abbrev sGood : Stmt := topS 9
abbrev sPlacesOf : Stmt := topS 10
abbrev sChange : Stmt := topS 11
abbrev sWithMo : Stmt := topS 12
abbrev sWithPlaces : Stmt := topS 13
abbrev sFirst : Stmt := topS 34
abbrev sExch : Stmt := topS 35
abbrev sAlong : Stmt := topS 36
abbrev sLater : Stmt := topS 38
abbrev sPieces : Stmt := topS 40
abbrev sPoT : Stmt := topS 41
abbrev sRow : Stmt := topS 42
abbrev sCounted : Stmt := topS 43
abbrev sNameOf : Stmt := topS 44
abbrev sTies : Stmt := topS 45
abbrev sEndT : Stmt := topS 46
abbrev sLookT : Stmt := topS 47
abbrev sSomeT : Stmt := topS 48
abbrev sPen : Stmt := topS 50
abbrev sTake : Stmt := topS 51
abbrev sNames : Stmt := topS 52
abbrev sWords : Stmt := topS 53
abbrev sMoments : Stmt := topS 54
abbrev sOwn : Stmt := topS 55
abbrev sHouse : Stmt := topS 56
abbrev sMany : Stmt := topS 57
abbrev sEntryOf : Stmt := topS 58
abbrev sEntry : Stmt := topS 59
abbrev sLTold : Stmt := topS 60
abbrev sLLater : Stmt := topS 61
abbrev sLaw : Stmt := topS 62
/-! ### generator expressions whose parts may call: the generator's own frame as a context -/
abbrev gxc (X : Cx) (A' : Around) (s : Shared) (H : Hp) (ce : Env) (fp : List Addr) : Cx :=
  { X with A := A', s_0 := s, H_0 := H, env := ce, outer := X.stack, stack := ce :: X.stack, ex := fp, fn := fun _ => false, calm := true, pn := [], xe := fun _ _ => False }
abbrev genE (X : Cx) (scope : Scope) (C : Addr) (code : Value) : Env := genEnv scope (cloFrom X.env.cells scope.names []) C code builtinsNs X.env
structure GOk (N : List Str) (sc scope : Scope) (own : List (Str × Nat)) : Prop where
  blk : BlkOk N sc scope own
  co : scope.isCoroutine = false
  cell : ∀ y ∈ scope.names, y.2 ≠ .cell
  dot : scope.names.lookup (".0" : Str) = some NameKind.local
section
variable {X : Cx} {pins : List (Addr × Obj)} {σ : L2.St} {H : Hp} {s : Shared}
theorem gx_free {N : List Str} {scope : Scope} {own : List (Str × Nat)} (I : Inv X pins σ H s) (ok : GOk N X.env.scope scope own) : ∀ y ∈ scope.names, y.2 = .free → ∃ c, X.env.cells.lookup y.1 = some c := fun y hy e => by
  rcases ok.blk.free y hy e with k | k
  · exact I.ok.has _ (.inl k)
  · exact I.ok.has _ (.inr k)
/-- the generator's frame and the generator itself have come -/
theorem gx_start {scope : Scope} {own : List (Str × Nat)} {fp : List Addr} {A' : Around} {code it : Value} {h' : Heap} {oG : Obj} {g' : Array GenState} {t' : Nat} (I : Inv X pins σ H s) (ok : GOk X.N X.env.scope scope own) (hN : X.N.Nodup)
    (hfp : ∀ b ∈ fp, FpOk X pins H b ∧ b < s.heap.objs.size) (hA : A'.handled = none) (hfr : A'.frames = some (genE X scope s.heap.objs.size code :: X.stack))
    (hn : h'.Ns s.heap.objs.size (fun y => if y = ".0" then some it else none)) (hs : Heap.SameBut s.heap.objs.size (s.heap.push { cls := .type "frame", data := .dict #[] }) h')
    (hG : ∀ v, oG.data ≠ .cell v) (hb : AllBare g') (fG : oG.isFreed = false) :
    Inv (gxc X A' s H (genE X scope s.heap.objs.size code) fp) [(h'.objs.size, oG)] (wipe σ (own.map (·.2))) H { s with gens := g', toks := t', heap := h'.push oG } := by
  have sz : h'.objs.size = s.heap.objs.size + 1 := by rw [hs.1, Heap.size_push]
  have k1 : ∀ b o, s.heap.get? b = some o → h'.get? b = some o := fun b o e => hs.extBut b o (Nat.ne_of_lt (Heap.lt_size e)) (Heap.get?_push_of_some _ e)
  have kp : ∀ b o, s.heap.get? b = some o → (h'.push oG).get? b = some o := fun b o e => Heap.get?_push_of_some _ (k1 b o e)
  have fr := gx_free I ok
  have cm : ∀ {y c}, (cloFrom X.env.cells scope.names []).lookup y = some c → X.env.cells.lookup y = some c ∧ c < s.heap.objs.size ∧ (y, NameKind.free) ∈ scope.names := fun {y c} e => by
    rcases cloFrom_mem (PySem.mem_of_lookup e) with hm | ⟨h1, rfl⟩
    · cases hm
    · obtain ⟨c, hc⟩ := fr _ h1 rfl
      rw [hc]
      obtain ⟨w, z⟩ := I.cell _ _ hc
      exact ⟨rfl, z.lt, h1⟩
  have has : ∀ {y}, (y, NameKind.free) ∈ scope.names → ∃ c, (cloFrom X.env.cells scope.names []).lookup y = some c := fun {y} hy => mem_lookup (cloFrom_has (cells := X.env.cells) (acc := []) hy)
  have uq : ∀ {y k}, (y, k) ∈ scope.names → scope.names.lookup y = some k := fun {y k} h => ok.blk.uniq _ h
  have okG : (gxc X A' s H (genE X scope s.heap.objs.size code) fp).Ok := by
    refine ⟨I.ok.mod, ok.blk.kind, I.ok.glob, rfl, Nat.le_refl _, fun y z c e1 e2 => I.ok.inj y z c (cm e1).1 (cm e2).1, fun y hy => ?_, fun y c z _ => (nomatch z), fun _ => hA, hfr, .inr ⟨rfl, rfl⟩,
      fun b hb => ⟨Nat.ne_of_lt (hfp b hb).2, fun y c e z => (hfp b hb).1.2.2.2.2.1 y c (cm e).1 z⟩, I.bs, Nat.le_trans I.ok.bsz I.sz, fun b o e hb => ?_, fun b hb z => ?_, I.stack, I.stkFree⟩
    · rcases hy with hy | hy
      · exact absurd rfl (ok.cell _ (PySem.mem_of_lookup (show scope.names.lookup y = some .cell from hy)))
      · exact has (PySem.mem_of_lookup (show scope.names.lookup y = some .free from hy))
    · rcases (hfp b hb).1.2.2.2.1 with z | z
      · exact I.ok.noex b o e z
      · exact absurd (Nat.lt_of_lt_of_le (Heap.lt_size e) (Nat.le_trans I.ok.bsz z)) (Nat.lt_irrefl _)
    · rcases List.mem_cons.mp (I.stkSub b z) with z | z
      · exact (hfp b hb).1.2.1 z
      · exact (hfp b hb).1.2.2.1 z
  refine ⟨okG, rfl, hb, Un.kept kp, ⟨_, hn.push oG, fun i y v e1 e2 e3 => ?_⟩, fun y c e => ?_, I.hok.fresh (Nat.le_refl _), fun y c e => I.freeC y c (cm e).1, fun p hp => ?_, I.hok.kept kp, by rw [wipe_length]; exact I.len⟩
  · obtain ⟨e2, hne⟩ := wipe_some e2
    have key : scope.names.lookup y = some .free := by
      have no : ∀ k, scope.names.lookup y = some k → ¬ (k = .local ∨ k = .cell) := fun k hk hh => by
        rcases ok.blk.own _ (PySem.mem_of_lookup hk) hh with e' | e'
        · obtain ⟨p, hp, hpy⟩ := List.mem_map.mp e'
          have e4 := ok.blk.ix p hp
          have : p.1 = y := hpy
          rw [this] at e4
          exact hne (List.mem_map.mpr ⟨p, hp, nodup_ix hN e4 e1⟩)
        · exact e' (List.mem_of_getElem? e1)
      rcases (show Vis scope y from e3) with e3 | e3 | e3
      · exact absurd (.inl rfl) (no _ e3)
      · exact absurd (.inr rfl) (no _ e3)
      · exact e3
    obtain ⟨m, _, hl⟩ := I.loc
    have fy := PySem.mem_of_lookup key
    have hvis : Vis X.env.scope y := (ok.blk.free _ fy rfl).elim (fun k => .inr (.inl k)) (fun k => .inr (.inr k))
    obtain ⟨u, r, q⟩ := hl i y v e1 e2 hvis
    refine ⟨u, r, .inr ⟨.inr key, ?_⟩⟩
    obtain ⟨c, h1⟩ := has fy
    rcases q with ⟨k, _⟩ | ⟨_, c', e', z⟩
    · have k : X.env.scope.names.lookup y = some .local := k
      rcases ok.blk.free _ fy rfl with k' | k' <;> rw [show X.env.scope.names.lookup y = _ from k'] at k <;> cases k
    · have h2 := (cm h1).1
      rw [h2] at e'
      cases e'
      exact ⟨c, h1, z.keeps kp⟩
  · obtain ⟨v, z⟩ := I.cell y c (cm e).1
    exact ⟨v, z.keeps kp⟩
  · have hp' : p = (h'.objs.size, oG) := by simpa using hp
    subst hp'
    have nl : s.heap.objs.size ≤ h'.objs.size := by omega
    refine ⟨Heap.get?_push_size _ fG, I.hok.fresh nl, by show h'.objs.size ≠ s.heap.objs.size; omega, fun z => ?_, hG⟩
    rcases List.mem_cons.mp (I.stkSub _ z) with z | z
    · have := I.lt
      rw [← z] at this
      exact Nat.lt_irrefl _ (Nat.lt_of_lt_of_le this nl)
    · exact I.nofs nl z
end
/-! ### the generator's turns -/
abbrev gxl (X : Cx) (Ag : Around) (elt tg iter : Expr) (ifs : List Expr) (scope : Scope) (gpos : Pos) (it : Addr) (ce : Env) (s3 : Shared) (H3 : Hp) (fp : List Addr) : Cx :=
  gxc X (Ag.over (.compLoop (.GeneratorExp elt [⟨tg, iter, ifs, 0⟩] scope gpos) 0 (.ref it) .none ce) []) s3 H3 ce fp
/-- what stands between two turns: at most m turns are left, the i-th is next -/
def GTurns (J : It) (g : TG) (tt : TT) (te : TE) (vs : List Nat) (σ : L2.St) (W : Nat → Nat → Hp → Prop) (Out : Nat → Nat → V → Hp → Prop) (Fin : Hp → Prop) : Prop :=
  ∀ i m H, W i m H → (J.stop i H ∧ Fin H) ∨ (J.go i H ∧ ∀ x H', J.yld i H x H' → g x (wipe σ vs) H' fun σ2 H2 => wipe σ2 vs = wipe σ vs ∧ tt σ2 H2 fun b H3 =>
    if b = true then te σ2 H3 fun y H4 => Out i m y H4 else ∃ m', m' < m ∧ W (i + 1) m' H3)
def gxY (IG : Hp → Shared → Prop) (tn : Nat → Heap → Prop) (fp : List Addr) (W : Nat → Nat → Hp → Prop) (Out : Nat → Nat → V → Hp → Prop) (gn : Nat) : Protocol := fun n _ v s kap =>
  ∃ i m y H, RelV y v ∧ IG H s ∧ tn (i + 1) s.heap ∧ (∀ b ∈ fp, H b = none) ∧ Out i m y H ∧ gn < s.gens.size ∧ m ≤ n ∧
    ∀ m', m' < m → W (i + 1) m' H → ∀ s'' : Shared, IG H s'' → tn (i + 1) s''.heap → gn < s''.gens.size → kap (.send .none) s''
def gxR (IG : Hp → Shared → Prop) (Fin : Hp → Prop) : Nat → Shared → Shared → Prop := fun _ _ s1 => ∃ H, IG H s1 ∧ Fin H
section
variable {X : Cx} {σ : L2.St} {Ag : Around} {tg elt iter : Expr} {ifs : List Expr} {scope : Scope} {gpos : Pos} {it a : Addr} {oG : Obj} {ce : Env} {fp : List Addr} {s3 : Shared} {H3 : Hp} {tn : Nat → Heap → Prop} {J : It} {vs : List Nat} {gn : Nat}
  {g : TG} {tt : TT} {te : TE} {W : Nat → Nat → Hp → Prop} {Out : Nat → Nat → V → Hp → Prop} {Fin : Hp → Prop}
theorem gx_stat {σ' : L2.St} {H' : Hp} {s' : Shared} {A' : Around} (I' : Inv (gxc X A' s3 H3 ce fp) [(a, oG)] σ' H' s') (na : a ∉ fp) (hn : ∀ b ∈ fp, H' b = none) : ∀ b ∈ fp, FpOk (gxc X A' s3 H3 ce fp) [(a, oG)] H' b := fun b hb => by
  refine ⟨hn b hb, (I'.ok.exf b hb).1, I'.ok.exfs b hb, .inl hb, fun x c e => (I'.ok.exf b hb).2 x c e, fun p hp z => ?_⟩
  have hp' : p = (a, oG) := by simpa using hp
  subst hp'
  have z' : a = b := z
  exact na (z' ▸ hb)
theorem gx_seg (T : Turn X.prog X.w X.K tg J fp it tn) (na : a ∉ fp) (hco : ce.scope.isCoroutine = false)
    (pg : PG (gxl X Ag elt tg iter ifs scope gpos it ce s3 H3 fp) tg g)
    (pt : PTs (gxl X Ag elt tg iter ifs scope gpos it ce s3 H3 fp) ifs tt)
    (pe : PE (gxl X Ag elt tg iter ifs scope gpos it ce s3 H3 fp) elt te)
    (turn : GTurns J g tt te vs σ W Out Fin) (IG : Hp → Shared → Prop)
    (hIG : IG = fun H s => Inv (gxl X Ag elt tg iter ifs scope gpos it ce s3 H3 fp) [(a, oG)] (wipe σ vs) H s) :
    ∀ (m n i : Nat) (H : Hp) (s s0 : Shared), m < n → IG H s → tn i s.heap → (∀ b ∈ fp, H b = none) → W i m H → gn < s.gens.size →
      Seg (model X.prog X.w) Ag (fun n s0 r s1 => r = .ok .next ∧ gxR IG Fin n s0 s1) (gxY IG tn fp W Out gn) n s0
        (.compLoop (.GeneratorExp elt [⟨tg, iter, ifs, 0⟩] scope gpos) 0 (.ref it) .none ce)
        ((model X.prog X.w).den (.compLoop (.GeneratorExp elt [⟨tg, iter, ifs, 0⟩] scope gpos) 0 (.ref it) .none ce)) [] s := by
  intro m
  induction m using Nat.strongRecOn with
  | ind m ih =>
  intro n i H s s0 hmn I0 st n0 w0 hg
  have I : Inv (gxl X Ag elt tg iter ifs scope gpos it ce s3 H3 fp) [(a, oG)] (wipe σ vs) H s := by
    rw [hIG] at I0
    exact I0
  show Seg _ Ag _ _ _ s0 _ ((compTurn (.GeneratorExp elt [⟨tg, iter, ifs, 0⟩] scope gpos) 0 (.ref it) .none ce).onRaise (leaving ce)) [] s
  rw [compTurn_gen, Sem.onRaise_eq_wrap]
  refine seg_bind_wrap (wpAny_standAt ?_)
  rcases turn i m H w0 with ⟨stop, fin⟩ | ⟨go, step⟩
  · refine seg_bind_wrap (thnF (T.done (gxl X Ag elt tg iter ifs scope gpos it ce s3 H3 fp) rfl rfl rfl rfl i [(a, oG)] s _ H (fun _ _ => False) I (gx_stat I na n0) st stop) fun r s6 ⟨hr, I6⟩ => ?_)
    subst hr
    exact seg_end (.ok .next) ⟨rfl, H, by rw [hIG]; exact I6, fin⟩
  · refine seg_bind_wrap (GenW.wpAny_gsz hg (thnF (T.item (gxl X Ag elt tg iter ifs scope gpos it ce s3 H3 fp) rfl rfl rfl rfl i [(a, oG)] s _ H (fun _ _ => False) I (gx_stat I na n0) st go) fun r s6 ⟨u, hr, h6⟩ hg6 => ?_))
    subst hr
    refine seg_bind_wrap (GenW.wpAny_gsz hg6 (thnF h6 fun _ s7 ⟨x, H7, I7, r7, y7, st7, n7⟩ hg7 => ?_))
    have I7' := I7.pinned (gx_stat I7 na n7) (T.obj _ _ st7)
    refine seg_bind_wrap (GenW.wpAny_gsz hg7 (thnF (pg.run _ s7 _ H7 x u _ I7' r7 (step x H7 y7)) fun _ s8 ⟨σ8, H8, I8, hw8, q8⟩ hg8 => ?_))
    refine seg_bind_wrap (GenW.wpAny_gsz hg8 (thnF (pt.run _ s8 σ8 H8 _ I8 q8) fun b s9 ⟨H9, I9, q9⟩ hg9 => ?_))
    have hl : (wipe σ vs).length = σ8.length := by rw [← hw8, wipe_length]
    have back : ∀ {s' : Shared} {H' : Hp}, Inv (gxl X Ag elt tg iter ifs scope gpos it ce s3 H3 fp) ([(a, oG)] ++ pinsAt fp s7.heap) σ8 H' s' →
        IG H' s' ∧ tn (i + 1) s'.heap ∧ ∀ b ∈ fp, H' b = none := fun {s' H'} I' => by
      have pin' : ∀ b ∈ fp, ∀ o, s7.heap.get? b = some o → s'.heap.get? b = some o ∧ H' b = none := fun b hb o e =>
        let z := I'.pin (b, o) (List.mem_append_right _ (List.mem_append_right _ (mem_pinsAt hb e)))
        ⟨z.1, z.2.1⟩
      refine ⟨?_, T.keep _ _ _ st7 fun b hb o e => (pin' b hb o e).1, fun b hb => ?_⟩
      · rw [hIG]
        refine I'.unpinned.weak hl fun j v e => ?_
        rw [← hw8] at e
        exact (wipe_some e).1
      · obtain ⟨o, e, _⟩ := T.obj _ _ st7 b hb
        exact (pin' b hb o e).2
    cases b with
    | false =>
      simp only [Bool.false_eq_true, if_false] at q9 ⊢
      obtain ⟨m', hm, w'⟩ := q9
      obtain ⟨b1, b2, b3⟩ := back I9
      exact seg_again rfl (ih m' hm n (i + 1) H9 s9 s0 (Nat.lt_trans hm hmn) b1 b2 b3 w' hg9)
    | true =>
      simp only [if_true] at q9 ⊢
      have hy : ∀ v, yieldOut ce v = yieldValue v := fun v => by simp only [yieldOut, hco, Bool.false_eq_true, if_false]
      simp only [hy]
      rw [Sem.bind_eq_wrap', Sem.bind_eq_wrap', Sem.wrap_wrap, Sem.wrap_wrap]
      obtain ⟨n', rfl⟩ : ∃ n', n = n' + 1 := ⟨n - 1, by omega⟩
      refine seg_wrap (GenW.wpAny_gsz hg9 (thnF (pe.run _ s9 σ8 H9 _ I9 q9) fun z s10 ⟨yv, H10, I10, r10, out⟩ hg10 => ?_))
      obtain ⟨b1, b2, b3⟩ := back I10
      refine seg_at (seg_yield rfl rfl rfl ⟨i, m, yv, H10, r10, b1, b2, b3, out, hg10, by omega, fun m' hm w' s'' I'' st'' hg'' => ?_⟩)
      exact seg_again rfl (ih m' hm n' (i + 1) H10 s'' s'' (by omega) I'' st'' b3 w' hg'')
theorem gx_seg0 (T : Turn X.prog X.w X.K tg J fp it tn) {n : Nat} {s0 s : Shared} {R : GenEnd} {Y : Protocol} (st : tn 0 s.heap)
    (loop : Seg (model X.prog X.w) Ag R Y n s0 (.compLoop (.GeneratorExp elt [⟨tg, iter, ifs, 0⟩] scope gpos) 0 (.ref it) .none ce)
        ((model X.prog X.w).den (.compLoop (.GeneratorExp elt [⟨tg, iter, ifs, 0⟩] scope gpos) 0 (.ref it) .none ce)) [] s) :
    Seg (model X.prog X.w) Ag R Y n s0 (.compStart (.GeneratorExp elt [⟨tg, iter, ifs, 0⟩] scope gpos) 0 (.ref it) .none ce)
      ((model X.prog X.w).den (.compStart (.GeneratorExp elt [⟨tg, iter, ifs, 0⟩] scope gpos) 0 (.ref it) .none ce)) [] s := by
  show Seg _ Ag _ _ _ s0 _ ((compStart (.GeneratorExp elt [⟨tg, iter, ifs, 0⟩] scope gpos) 0 (.ref it) .none ce).onRaise (leaving ce)) [] s
  unfold compStart
  rw [Sem.onRaise_eq_wrap]
  show Seg _ Ag _ _ _ s0 _ ((ask >>= _).wrap _ _ _ _) [] s
  refine seg_bind_wrap (wpAny_askSetting ?_)
  split
  · exact seg_again rfl loop
  · refine seg_bind_wrap (wpAny_rule ?_)
    show Seg _ Ag _ _ _ s0 _ ((standAt iter.pos >>= _).wrap _ _ _ _) [] s
    exact seg_bind_wrap (wpAny_standAt (seg_bind_wrap (T.self _ 0 s _ _ st (seg_again rfl loop))))
end
/-! ### the generator asked for its next -/
structure IGok (X : Cx) (pins : List (Addr × Obj)) (σ : L2.St) (a : Addr) (gn : Nat) (IG : Hp → Shared → Prop) : Prop where
  bare : ∀ {H s}, IG H s → AllBare s.gens
  gens : ∀ {H s g'}, IG H s → AllBare g' → IG H { s with gens := g' }
  kept : ∀ {H : Hp} {s : Shared} {h' : Heap} {tk : Nat}, IG H s → (∀ b o, s.heap.get? b = some o → h'.get? b = some o) → IG H { s with heap := h', toks := tk }
  isgen : ∀ {H s}, IG H s → s.heap.IsGen a gn
  nolim : ∀ {H s}, IG H s → s.heap.NoLimit
  back : ∀ {H s}, IG H s → Inv X pins σ H s
def GRun (X : Cx) (Ac : Around) (IG : Hp → Shared → Prop) (tn : Nat → Heap → Prop) (fp : List Addr) (W : Nat → Nat → Hp → Prop) (Out : Nat → Nat → V → Hp → Prop) (Fin : Hp → Prop) (gn i m n : Nat) (H : Hp) (s : Shared) : Prop :=
  IG H s ∧ tn i s.heap ∧ (∀ b ∈ fp, H b = none) ∧ W i m H ∧ ∃ gs, s.gens[gn]? = some gs ∧ m < n ∧ ∀ s'' : Shared, IG H s'' → tn i s''.heap → gn < s''.gens.size →
    gs.Goes (model X.prog X.w) Ac.in1 (fun n s0 r s1 => r = .ok .next ∧ gxR IG Fin n s0 s1) (gxY IG tn fp W Out gn) n (.send .none) s''
theorem bare_set {s : Shared} {gn : Nat} {x : GenState} (h : AllBare s.gens) (hx : x.bare = true) : AllBare (s.setGen gn x).gens := by
  intro y hy
  have hy' : y ∈ s.gens.setIfInBounds gn x := hy
  rcases Array.mem_or_eq_of_mem_setIfInBounds hy' with h1 | h1
  · exact h y h1
  · rw [h1]; exact hx
section
variable {X : Cx} {pins : List (Addr × Obj)} {σ : L2.St} {Ac : Around} {IG : Hp → Shared → Prop} {tn : Nat → Heap → Prop} {fp : List Addr} {W : Nat → Nat → Hp → Prop} {Out : Nat → Nat → V → Hp → Prop} {Fin : Hp → Prop} {a : Addr} {gn : Nat}
theorem GRun.lt {i m n : Nat} {H : Hp} {s : Shared} (G : GRun X Ac IG tn fp W Out Fin gn i m n H s) : gn < s.gens.size := by
  obtain ⟨_, _, _, _, gs, h, _⟩ := G
  exact (Array.getElem?_eq_some_iff.mp h).1
/-- what a consumer lays beside it changes nothing -/
theorem GRun.kept (ig : IGok X pins σ a gn IG) (hk : ∀ i h h', tn i h → (∀ b o, h.get? b = some o → h'.get? b = some o) → tn i h') {i m n : Nat} {H : Hp} {s : Shared} {h' : Heap} {tk : Nat} (G : GRun X Ac IG tn fp W Out Fin gn i m n H s)
    (k : ∀ b o, s.heap.get? b = some o → h'.get? b = some o) : GRun X Ac IG tn fp W Out Fin gn i m n H { s with heap := h', toks := tk } := by
  obtain ⟨g1, g2, g3, g4, gs, g5, g6, g7⟩ := G
  exact ⟨ig.kept g1 k, hk _ _ _ g2 k, g3, g4, gs, g5, g6, g7⟩
theorem gx_next {E : Value → Shared → Prop} {Q : Option Value → Shared → Prop} {i m n : Nat} {H : Hp} {s : Shared} (ig : IGok X pins σ a gn IG) (hA : Ac.handled = none) (hd : Ac.depth < recursionLimit) (G : GRun X Ac IG tn fp W Out Fin gn i m n H s)
    (hout : ∀ v y H' s' i' m', RelV y v → Out i' m' y H' → IG H' s' → (∀ m'', m'' < m' → W (i' + 1) m'' H' → GRun X Ac IG tn fp W Out Fin gn (i' + 1) m'' (n - 1) H' s') → Q (some v) s')
    (hfin : ∀ H' s', Fin H' → IG H' s' → Q none s') : wpAny (model X.prog X.w) Ac (pyNext (.ref a)) Q E s := by
  have lt := G.lt
  obtain ⟨g1, g2, g3, g4, gs, g5, g6, g7⟩ := G
  have run : IG H (s.setGen gn .running) := ig.gens g1 (bare_set (ig.bare g1) rfl)
  refine wpAny_pyNext_genexpQ (P := gxR IG Fin) hA (ig.nolim g1) hd (ig.isgen g1) g5 (g7 _ run g2 (by rw [GenW.setGen_size]; exact lt)) (fun v s1 gs' hb hv => ?_) fun s1 hp h' hk => ?_
  · obtain ⟨i', m', y, H', r, I1, st1, nf, out, hg1, hmn, kap⟩ := hv
    have I2 : IG H' (s1.setGen gn gs') := ig.gens I1 (bare_set (ig.bare I1) hb)
    refine hout v y H' _ i' m' r out I2 fun m'' hm w' => ⟨I2, st1, nf, w', gs', ?_, by omega, fun s'' J'' st'' hg'' => ?_⟩
    · show (s1.gens.setIfInBounds gn gs')[gn]? = some gs'
      rw [Array.getElem?_setIfInBounds_self_of_lt hg1]
    · have q := kap m'' hm w' s'' J'' st'' hg''
      cases n with
      | zero => exact q.elim
      | succ n => exact q
  · obtain ⟨H', I1, fin⟩ := hp
    exact hfin H' _ fin (ig.kept (tk := (s1.setGen gn .finished).toks) (ig.gens I1 (bare_set (ig.bare I1) rfl)) hk)
end
/-! ### the generator made -/
section
variable {X : Cx} {pins : List (Addr × Obj)} {σ : L2.St} {H : Hp} {s : Shared}
theorem over_gen {Ag : Around} {stack : List Env} {elt tg iter : Expr} {ifs : List Expr} {scope : Scope} {gpos : Pos} {it : Value} {ce : Env} (hf : Ag.frames = some stack) :
    (Ag.over (.compLoop (.GeneratorExp elt [⟨tg, iter, ifs, 0⟩] scope gpos) 0 it .none ce) []).frames = some (ce :: stack) := by
  show pushEnvs [ce] (pushEnvs [] Ag.frames) = _
  rw [hf]
  rfl
theorem room_gen {Ag : Around} {k : Nat} {elt tg iter : Expr} {ifs : List Expr} {scope : Scope} {gpos : Pos} {it : Value} {ce : Env} (h1 : Ag.handled = none) (h2 : Ag.depth + 1 + 3 * k + 5 < recursionLimit) (h3 : Ag.units + 3 + 16 * k + 200 < cLine) :
    Room k (Ag.over (.compLoop (.GeneratorExp elt [⟨tg, iter, ifs, 0⟩] scope gpos) 0 it .none ce) []) := by
  refine ⟨h1, ?_, ?_⟩
  · show Ag.depth + 0 + 1 + 3 * k + 5 < _
    omega
  · show Ag.units + 0 + 3 + 16 * k + 200 < _
    omega
/-- a generator expression is made; Ac: where it will be asked -/
theorem gx_mk {c T : Addr} {elt tg iter : Expr} {ifs : List Expr} {scope : Scope} {own : List (Str × Nat)} {gpos : Pos} {wi : TI} {g : TG} {tt : TT} {te : TE} {k : Nat} {Q' : Value → Shared → Prop} {Outf : (Nat → Nat → Hp → Prop) → Nat → Nat → V → Hp → Prop} {Fin : Hp → Prop}
    (Ac : Around) (hA : Ac.handled = none) (hfr : Ac.frames = some X.stack) (hd : Ac.depth ≤ X.A.depth) (hu : Ac.units ≤ X.A.units + 8) (hr : Room (k + 1) X.A) (hc : X.calm = true) (hN : X.N.Nodup) (TB : GxR.TabB X.base X.mg c T) (hcode : X.env.code = .ref c) (ok : GOk X.N X.env.scope scope own) (hi : PI X tg iter wi)
    (hg : ∀ (A' : Around) (s3 : Shared) (H3 : Hp) (C : Addr) (code : Value) (fp : List Addr), PG (gxc X A' s3 H3 (genE X scope C code) fp) tg g)
    (ht : ∀ (A' : Around) (s3 : Shared) (H3 : Hp) (C : Addr) (code : Value) (fp : List Addr), Room k A' → PTs (gxc X A' s3 H3 (genE X scope C code) fp) ifs tt)
    (he : ∀ (A' : Around) (s3 : Shared) (H3 : Hp) (C : Addr) (code : Value) (fp : List Addr), Room k A' → PE (gxc X A' s3 H3 (genE X scope C code) fp) elt te)
    (hs : ∀ v, genFold iter X.env v = pure v) (I : Inv X pins σ H s)
    (h : wi σ H fun J H1 => GxR.TabG H1 T ∧ ∀ H2, GxR.Tabbed T H1 H2 → ∃ W, (∃ m, W 0 m H2) ∧ GTurns J g tt te (own.map (·.2)) σ W (Outf W) Fin)
    (hQ : ∀ (IG : Hp → Shared → Prop) (tn : Nat → Heap → Prop) (fp : List Addr) W (a : Addr) (gn m : Nat) (H2 : Hp) (s5 : Shared), IGok X pins σ a gn IG → (∀ i h h', tn i h → (∀ b o, h.get? b = some o → h'.get? b = some o) → tn i h') →
      GRun X Ac IG tn fp W (Outf W) Fin gn 0 m (m + 1) H2 s5 → Q' (.ref a) s5) :
    wpAny (model X.prog X.w) X.A (eval (.GeneratorExp elt [⟨tg, iter, ifs, 0⟩] scope gpos) X.env) Q' X.xe s := by
  have free := gx_free I ok
  refine wpAny_GeneratorExp_make ok.co (closure_ok free) ok.cell ok.dot ok.blk.kind (Nat.lt_of_le_of_lt (by omega : X.A.depth ≤ X.A.depth + 3 * (k + 1) + 5) hr.dp) ?_ hs
  refine thn (hi.run pins s σ H _ I h) fun xv s1 h1 => thn h1 fun itv s2 h2 => ?_
  obtain ⟨it, fp, tn, J, H1, rfl, J1, TU, st2, f2, ⟨ps, hT, hok⟩, q⟩ := h2
  have gT : s2.heap.get? T = some (PySem.W.tabObj ps) := J1.hok T _ hT
  have cd : PySem.W.CodeHd s2.heap c T := TB.code.keeps J1.bk
  refine ⟨J1.nolimit, ?_⟩
  have lts : ∀ b ∈ fp, b < s2.heap.objs.size := fun b hb => by
    obtain ⟨o, e, _⟩ := TU.obj _ _ st2 b hb
    exact Heap.lt_size e
  have nfT : ∀ b ∈ fp, b ≠ T := fun b hb z => by
    have := (f2 b hb).1
    rw [z, hT] at this
    cases this
  -- behind the code object
  have on : ∀ (code : Value) (h3 : Heap) (tk : Nat) (more : Array Value), Heap.ExtBut T s2.heap h3 → s2.heap.objs.size ≤ h3.objs.size → h3.get? T = some (PySem.W.tabObj (ps ++ more)) → TriplesOk (ps ++ more).toList →
      wpAny (model X.prog X.w) X.A (builtinsFor X.env.globals X.env.builtins) (fun bi s4 =>
        ∀ h', h'.Ns s4.heap.objs.size (fun y => if y = ".0" then some (.ref it) else none) → Heap.SameBut s4.heap.objs.size (s4.heap.push { cls := .type "frame", data := .dict #[] }) h' →
          Q' (.ref h'.objs.size) { s4 with
            gens := s4.gens.push (.fresh (.compStart (.GeneratorExp elt [⟨tg, iter, ifs, 0⟩] scope gpos) 0 (.ref it) .none (genEnv scope (cloFrom X.env.cells scope.names []) s4.heap.objs.size code bi X.env))),
            toks := s4.toks + 1 + 1 + 1,
            heap := h'.push { cls := .type "generator", data := .fields #[.int s4.gens.size 0, .str "<genexpr>" (s4.toks + 1), .str (X.env.qual ++ "<genexpr>") (s4.toks + 1 + 1)] } }) X.xe { s2 with heap := h3, toks := tk } := by
    intro code h3 tk more ext ge3 gT3 ok3
    have J3 : Inv X pins σ (upd H1 T (.tbl (ps ++ more))) { s2 with heap := h3, toks := tk } := GxR.inv_tab (g' := s2.gens) (d' := s2.drawn) J1 hT ext gT3 J1.bare
    have tb : GxR.Tabbed T H1 (upd H1 T (.tbl (ps ++ more))) := ⟨⟨_, upd_same, ok3⟩, fun b nb => upd_ne nb⟩
    obtain ⟨W, ⟨m0, w0⟩, turn⟩ := q _ tb
    obtain ⟨bm, ob, e1, e2, _, e4, e5, e6, e7, e8⟩ := TB.bm
    refine wpAny_builtinsFor (m := X.mg) (by rw [J3.ok.glob]; exact J3.mod.glob.keeps J3.bk) e1 e2 (ext _ _ e4 (J1.bk _ _ e5)) e6 e7 e8 ?_
    intro h' hn hsb
    have f3 : ∀ b ∈ fp, FpOk X pins (upd H1 T (.tbl (ps ++ more))) b ∧ b < h3.objs.size := fun b hb => by
      refine ⟨⟨?_, (f2 b hb).2⟩, Nat.lt_of_lt_of_le (lts b hb) ge3⟩
      rw [upd_ne (nfT b hb)]
      exact (f2 b hb).1
    have st3 : tn 0 h3 := TU.keep _ _ _ st2 fun b hb o e => ext b o (nfT b hb) e
    have nf3 : ∀ b ∈ fp, (upd H1 T (.tbl (ps ++ more))) b = none := fun b hb => (f3 b hb).1.1
    generalize hH3 : upd H1 T (.tbl (ps ++ more)) = H3 at J3 w0 f3 nf3
    generalize hs3 : ({ s2 with heap := h3, toks := tk } : Shared) = s3 at J3 hn hsb ⊢
    have eh : s3.heap = h3 := by rw [← hs3]
    have szh : h'.objs.size = s3.heap.objs.size + 1 := by rw [hsb.1, Heap.size_push]
    have kp : ∀ b o, s3.heap.get? b = some o → h'.get? b = some o := fun b o e => hsb.extBut b o (Nat.ne_of_lt (Heap.lt_size e)) (Heap.get?_push_of_some _ e)
    generalize hoG : ({ cls := .type "generator", data := .fields #[.int s3.gens.size 0, .str "<genexpr>" (s3.toks + 1), .str (X.env.qual ++ "<genexpr>") (s3.toks + 1 + 1)] } : Obj) = oG
    have na : h'.objs.size ∉ fp := fun z => by
      have := (f3 _ z).2
      rw [← eh] at this
      exact Nat.lt_irrefl _ (Nat.lt_of_lt_of_le this (by rw [szh]; exact Nat.le_succ _))
    have start := gx_start (A' := Ac.in1.over (.compLoop (.GeneratorExp elt [⟨tg, iter, ifs, 0⟩] scope gpos) 0 (.ref it) .none (genE X scope s3.heap.objs.size code)) []) (code := code) (it := .ref it) (oG := oG)
      (g' := s3.gens.push (.fresh (.compStart (.GeneratorExp elt [⟨tg, iter, ifs, 0⟩] scope gpos) 0 (.ref it) .none (genE X scope s3.heap.objs.size code)))) (t' := s3.toks + 1 + 1 + 1) J3 ok hN (fun b hb => ⟨(f3 b hb).1, by rw [eh]; exact (f3 b hb).2⟩) hA (over_gen hfr) hn hsb
      (fun v => by rw [← hoG]; exact fun z => nomatch z) (J3.bare.push rfl) (by rw [← hoG]; rfl)
    have rm : Room k (Ac.in1.over (.compLoop (.GeneratorExp elt [⟨tg, iter, ifs, 0⟩] scope gpos) 0 (.ref it) .none (genE X scope s3.heap.objs.size code)) []) :=
      room_gen hA (by have := hr.dp; show Ac.depth + 1 + 3 * k + 5 < _; omega) (by have := hr.un; show Ac.units + 1 + 3 + 16 * k + 200 < _; omega)
    refine hQ (fun H' s' => Inv (gxl X Ac.in1 elt tg iter ifs scope gpos it (genE X scope s3.heap.objs.size code) s3 H3 fp) [(h'.objs.size, oG)] (wipe σ (own.map (·.2))) H' s') tn fp W h'.objs.size s3.gens.size m0 H3 _ ?_ (fun i h h' st kk => TU.keep _ _ _ st fun b _ o e => kk b o e) ?_
    · refine ⟨fun I' => I'.bare, fun I' hb => ⟨I'.ok, I'.os, hb, I'.base, I'.loc, I'.cell, I'.free, I'.freeC, I'.pin, I'.hok, I'.len⟩, fun I' kk => I'.kept kk, fun I' => ?_, fun I' => I'.nolimit, fun I' => ?_⟩
      · have z := (I'.pin (h'.objs.size, oG) (by simp)).1
        rw [← hoG] at z
        exact ⟨_, _, _, z, rfl, rfl, rfl⟩
      · exact J3.call' (ch := fp) I'.os I'.base I'.hok I'.bare fun b hb => ⟨(f3 b hb).1.2.2.2.1, (f3 b hb).1.2.1, (f3 b hb).1.2.2.2.2.1, (f3 b hb).1.2.2.2.2.2⟩
    · refine ⟨start, TU.keep _ _ _ st3 fun b hb o e => Heap.get?_push_of_some _ (kp b o (by rw [eh]; exact e)), nf3, w0, _, Array.getElem?_push_size .., Nat.lt_succ_self _, fun s'' I'' st'' hg'' => ⟨rfl, ?_⟩⟩
      exact gx_seg0 TU st'' (gx_seg TU na ok.co (hg _ s3 H3 _ code fp) (ht _ s3 H3 _ code fp rm) (he _ s3 H3 _ code fp rm) turn _ rfl m0 (m0 + 1) 0 H3 s'' s'' (Nat.lt_succ_self _) I'' st'' nf3 w0 hg'')
  cases among : codeAmong gpos ps.toList with
  | some cv =>
    refine wpAny_genexprCode_hit hcode (cd.code gT hok) among ?_
    exact on cv s2.heap s2.toks #[] (Heap.ExtBut.refl _ _) (Nat.le_refl _) (by rw [Array.append_empty]; exact gT) (by rw [Array.append_empty]; exact hok)
  | none =>
    refine wpAny_genexprCodeX hcode (cd.code gT hok) (cd.tab gT) among fun c' h' tk hx hge hlt isC _ tab' _ => ?_
    obtain ⟨_, _, _, _, _, _, _, _, _, _, _, _, _, _, _, _, _, _, _, ok', _⟩ := isC
    exact on _ h' tk _ hx (Nat.le_trans hge (Nat.le_of_lt hlt)) tab'.2 ok'
end
/-! ### all(..) of a generator expression -/
def tAllG (T : Addr) (wi : TI) (g : TG) (tt : TT) (te : TE) (vs : List Nat) : TE := fun σ H Q => wi σ H fun J H1 => GxR.TabG H1 T ∧ ∀ H2, GxR.Tabbed T H1 H2 → ∃ W : Nat → Nat → Hp → Prop, (∃ m, W 0 m H2) ∧
  GTurns J g tt te vs σ W (fun i m y H' => ∃ k, y = .bl k ∧ (if k = true then ∃ m', m' < m ∧ W (i + 1) m' H' else Q (.bl false) H')) (fun H' => Q (.bl true) H')
section
variable {X : Cx} {pins : List (Addr × Obj)} {σ : L2.St}
theorem all_loop {IG : Hp → Shared → Prop} {tn : Nat → Heap → Prop} {fp : List Addr} {W : Nat → Nat → Hp → Prop} {a : Addr} {gn : Nat} {Q : VK} {R : Result → Shared → Prop} (ig : IGok X pins σ a gn IG) (hA : X.A.handled = none) (hd : X.A.depth < recursionLimit)
    (hR : ∀ b H s, Q (.bl b) H → IG H s → R (.ok (.ret (.bool b))) s) : ∀ (n i m : Nat) (H : Hp) (s : Shared),
    GRun X X.A.in1 IG tn fp W (fun i m y H' => ∃ k, y = .bl k ∧ (if k = true then ∃ m', m' < m ∧ W (i + 1) m' H' else Q (.bl false) H')) (fun H' => Q (.bl true) H') gn i m n H s →
    codeAny (model X.prog X.w) X.A (.builtin "all.loop" ⟨[.ref a], []⟩) R s := by
  intro n
  induction n with
  | zero =>
    intro i m H s G
    obtain ⟨_, _, _, _, gs, _, h, _⟩ := G
    exact absurd h (Nat.not_lt_zero _)
  | succ n ih =>
    intro i m H s G
    refine codeAny_builtin F.entry_all_loop ?_
    rw [Around.under_plainId F.plain_all_loop _]
    show wpAny _ X.A.in1 (pyNext (.ref a) >>= _) _ _ s
    refine wpAny_bind (gx_next ig hA hd G (fun v y H' s' i' m' r out I' cont => ?_) fun H' s' fin I' => ?_)
    · obtain ⟨k, rfl, hk⟩ := out
      obtain rfl : v = .bool k := r
      refine wpAny_bind (wpAny_holding (wpAny_truthy_bool ?_))
      refine wpAny_bind (wpAny_letGo ?_)
      cases k with
      | true =>
        obtain ⟨m'', hm, w'⟩ := hk
        exact wpAny_pure ⟨plainId_quiet F.plain_all_loop _, ih (i' + 1) m'' H' s' (cont m'' hm w')⟩
      | false =>
        refine wpAny_bind (wpAny_rule (wpAny_pure ?_))
        exact hR false H' s' hk I'
    · refine wpAny_bind (wpAny_rule (wpAny_pure ?_))
      exact hR true H' s' fin I'
theorem pe_allG {c T : Addr} {elt tg iter : Expr} {ifs : List Expr} {scope : Scope} {own : List (Str × Nat)} {gpos p pos : Pos} {wi : TI} {g : TG} {tt : TT} {te : TE} {k : Nat}
    (hr : Room (k + 1) X.A) (hgl : Gl X "all") (hm : X.mg "all" = none) (hc : X.calm = true) (hN : X.N.Nodup) (TB : GxR.TabB X.base X.mg c T) (hcode : X.env.code = .ref c) (ok : GOk X.N X.env.scope scope own) (hi : PI X tg iter wi)
    (hg : ∀ (A' : Around) (s3 : Shared) (H3 : Hp) (C : Addr) (code : Value) (fp : List Addr), PG (gxc X A' s3 H3 (genE X scope C code) fp) tg g)
    (ht : ∀ (A' : Around) (s3 : Shared) (H3 : Hp) (C : Addr) (code : Value) (fp : List Addr), Room k A' → PTs (gxc X A' s3 H3 (genE X scope C code) fp) ifs tt)
    (he : ∀ (A' : Around) (s3 : Shared) (H3 : Hp) (C : Addr) (code : Value) (fp : List Addr), Room k A' → PE (gxc X A' s3 H3 (genE X scope C code) fp) elt te)
    (hs : ∀ v, genFold iter X.env v = pure v := by intro _; rfl)
    (hst : starEach [.GeneratorExp elt [⟨tg, iter, ifs, 0⟩] scope gpos] X.env = (false, eval (.GeneratorExp elt [⟨tg, iter, ifs, 0⟩] scope gpos) X.env) :: starEach [] X.env := by rfl) :
    PE X (.Call (.Name "all" p) [.GeneratorExp elt [⟨tg, iter, ifs, 0⟩] scope gpos] [] pos) (tAllG T wi g tt te (own.map (·.2))) := by
  refine ⟨fun pins s σ H Q I h => wpAny_Call_Name_kw (ld_blt I hgl hm (show bootBuiltins "all" = some (.builtin "all") by decide +kernel) ?_)⟩
  refine PyProof.Rows.callWith_builtin1 ?_ hst (by rfl)
  rw [hst]
  have hA := I.ok.hd hc
  have hf := I.ok.frames
  refine Calls.spliced_cons (gx_mk (Outf := fun W i m y H' => ∃ k, y = .bl k ∧ (if k = true then ∃ m', m' < m ∧ W (i + 1) m' H' else Q (.bl false) H')) (Fin := fun H' => Q (.bl true) H')
    X.A.in1 hA hf (Nat.le_refl _) (by show X.A.units + 1 ≤ _; omega) hr hc hN TB hcode ok hi hg ht he hs I h ?_)
  · intro IG tn fp W a gn m H2 s5 ig hk G
    refine Calls.spliced_nil ?_
    refine call_function_tree F.kind_all F.plain_all F.entry_all (F.args_all1 _) ?_
    unfold Builtin.«all»
    refine wpAny_bind (m := oneArg "all" _) (wpAny_pure ?_)
    refine wpAny_bind (wpAny_pyIter_gen (ig.isgen G.1) ?_)
    exact wpAny_pure ⟨plainId_quiet F.plain_all_loop _, all_loop ig hA (Nat.lt_of_le_of_lt (by omega : X.A.depth ≤ X.A.depth + 3 * (k + 1) + 5) hr.dp) (fun b H s q I' => ⟨.bl b, H, ig.back I', rfl, q⟩) _ _ _ _ _ G⟩
end
/-! ### generators whose consumer keeps an object of its own -/
abbrev Pins := List (Addr × Obj)
def GTurnsL (J : It) (g : TG) (tt : TT) (te : TE) (vs : List Nat) (σ : L2.St) (W : Nat → Nat → List V → Hp → Prop) (Out : Nat → Nat → List V → V → Hp → Prop) (Fin : List V → Hp → Prop) : Prop :=
  ∀ i m ys H, W i m ys H → (J.stop i H ∧ Fin ys H) ∨ (J.go i H ∧ ∀ x H', J.yld i H x H' → g x (wipe σ vs) H' fun σ2 H2 => wipe σ2 vs = wipe σ vs ∧ tt σ2 H2 fun b H3 =>
    if b = true then te σ2 H3 fun y H4 => Out i m ys y H4 else ∃ m', m' < m ∧ W (i + 1) m' ys H3)
def gxYL (IG : Pins → Hp → Shared → Prop) (PX : List V → Pins → Prop) (tn : Nat → Heap → Prop) (fp : List Addr) (W : Nat → Nat → List V → Hp → Prop) (Out : Nat → Nat → List V → V → Hp → Prop) (gn : Nat) : Protocol := fun n s₀ v s kap =>
  ∃ i m ys y H px, (∀ p ∈ px, s₀.heap.get? p.1 = some p.2) ∧ RelV y v ∧ PX ys px ∧ IG px H s ∧ tn (i + 1) s.heap ∧ (∀ b ∈ fp, H b = none) ∧ Out i m ys y H ∧ gn < s.gens.size ∧ m ≤ n ∧
    ∀ m' px', m' < m → W (i + 1) m' (ys ++ [y]) H → PX (ys ++ [y]) px' → ∀ s'' : Shared, IG px' H s'' → tn (i + 1) s''.heap → gn < s''.gens.size → kap (.send .none) s''
def gxRL (IG : Pins → Hp → Shared → Prop) (PX : List V → Pins → Prop) (Fin : List V → Hp → Prop) : Nat → Shared → Shared → Prop := fun _ s₀ s1 => ∃ ys H px, (∀ p ∈ px, s₀.heap.get? p.1 = some p.2) ∧ PX ys px ∧ IG px H s1 ∧ Fin ys H
section
variable {X : Cx} {σ : L2.St} {Ag : Around} {tg elt iter : Expr} {ifs : List Expr} {scope : Scope} {gpos : Pos} {it a : Addr} {oG : Obj} {ce : Env} {fp : List Addr} {s3 : Shared} {H3 : Hp} {tn : Nat → Heap → Prop} {J : It} {vs : List Nat} {gn : Nat}
  {g : TG} {tt : TT} {te : TE} {W : Nat → Nat → List V → Hp → Prop} {Out : Nat → Nat → List V → V → Hp → Prop} {Fin : List V → Hp → Prop} {PX : List V → Pins → Prop}
theorem gx_statL {σ' : L2.St} {H' : Hp} {s' : Shared} {A' : Around} {px : Pins} (I' : Inv (gxc X A' s3 H3 ce fp) ((a, oG) :: px) σ' H' s') (na : a ∉ fp) (hpx : ∀ p ∈ px, p.1 ∉ fp) (hn : ∀ b ∈ fp, H' b = none) : ∀ b ∈ fp, FpOk (gxc X A' s3 H3 ce fp) ((a, oG) :: px) H' b := fun b hb => by
  refine ⟨hn b hb, (I'.ok.exf b hb).1, I'.ok.exfs b hb, .inl hb, fun x c e => (I'.ok.exf b hb).2 x c e, fun p hp z => ?_⟩
  have hp' : p ∈ (a, oG) :: px := by simpa using hp
  rcases List.mem_cons.mp hp' with e | e
  · subst e
    have z' : a = b := z
    exact na (z' ▸ hb)
  · exact hpx p e (z ▸ hb)
theorem gx_segL (T : Turn X.prog X.w X.K tg J fp it tn) (na : a ∉ fp) (hco : ce.scope.isCoroutine = false)
    (pg : PG (gxl X Ag elt tg iter ifs scope gpos it ce s3 H3 fp) tg g)
    (pt : PTs (gxl X Ag elt tg iter ifs scope gpos it ce s3 H3 fp) ifs tt)
    (pe : PE (gxl X Ag elt tg iter ifs scope gpos it ce s3 H3 fp) elt te)
    (turn : GTurnsL J g tt te vs σ W Out Fin) (IG : Pins → Hp → Shared → Prop) (Px : Pins → Prop) (hPx : ∀ px, Px px → ∀ p ∈ px, p.1 ∉ fp)
    (hIG : IG = fun px H s => Px px ∧ Inv (gxl X Ag elt tg iter ifs scope gpos it ce s3 H3 fp) ((a, oG) :: px) (wipe σ vs) H s) :
    ∀ (m n i : Nat) (ys : List V) (px : Pins) (H : Hp) (s s0 : Shared), m < n → (∀ p ∈ px, s0.heap.get? p.1 = some p.2) → PX ys px → IG px H s → tn i s.heap → (∀ b ∈ fp, H b = none) → W i m ys H → gn < s.gens.size →
      Seg (model X.prog X.w) Ag (fun n s0 r s1 => r = .ok .next ∧ gxRL IG PX Fin n s0 s1) (gxYL IG PX tn fp W Out gn) n s0
        (.compLoop (.GeneratorExp elt [⟨tg, iter, ifs, 0⟩] scope gpos) 0 (.ref it) .none ce)
        ((model X.prog X.w).den (.compLoop (.GeneratorExp elt [⟨tg, iter, ifs, 0⟩] scope gpos) 0 (.ref it) .none ce)) [] s := by
  intro m
  induction m using Nat.strongRecOn with
  | ind m ih =>
  intro n i ys px H s s0 hmn h00 hX I0 st n0 w0 hg
  have I1 : Px px ∧ Inv (gxl X Ag elt tg iter ifs scope gpos it ce s3 H3 fp) ((a, oG) :: px) (wipe σ vs) H s := by
    rw [hIG] at I0
    exact I0
  obtain ⟨hP, I⟩ := I1
  have hpx := hPx px hP
  show Seg _ Ag _ _ _ s0 _ ((compTurn (.GeneratorExp elt [⟨tg, iter, ifs, 0⟩] scope gpos) 0 (.ref it) .none ce).onRaise (leaving ce)) [] s
  rw [compTurn_gen, Sem.onRaise_eq_wrap]
  refine seg_bind_wrap (wpAny_standAt ?_)
  rcases turn i m ys H w0 with ⟨stop, fin⟩ | ⟨go, step⟩
  · refine seg_bind_wrap (thnF (T.done (gxl X Ag elt tg iter ifs scope gpos it ce s3 H3 fp) rfl rfl rfl rfl i ((a, oG) :: px) s _ H (fun _ _ => False) I (gx_statL I na hpx n0) st stop) fun r s6 ⟨hr, I6⟩ => ?_)
    subst hr
    exact seg_end (.ok .next) ⟨rfl, ys, H, px, h00, hX, by rw [hIG]; exact ⟨hP, I6⟩, fin⟩
  · refine seg_bind_wrap (GenW.wpAny_gsz hg (thnF (T.item (gxl X Ag elt tg iter ifs scope gpos it ce s3 H3 fp) rfl rfl rfl rfl i ((a, oG) :: px) s _ H (fun _ _ => False) I (gx_statL I na hpx n0) st go) fun r s6 ⟨u, hr, h6⟩ hg6 => ?_))
    subst hr
    refine seg_bind_wrap (GenW.wpAny_gsz hg6 (thnF h6 fun _ s7 ⟨x, H7, I7, r7, y7, st7, n7⟩ hg7 => ?_))
    have I7' := I7.pinned (gx_statL I7 na hpx n7) (T.obj _ _ st7)
    refine seg_bind_wrap (GenW.wpAny_gsz hg7 (thnF (pg.run _ s7 _ H7 x u _ I7' r7 (step x H7 y7)) fun _ s8 ⟨σ8, H8, I8, hw8, q8⟩ hg8 => ?_))
    refine seg_bind_wrap (GenW.wpAny_gsz hg8 (thnF (pt.run _ s8 σ8 H8 _ I8 q8) fun b s9 ⟨H9, I9, q9⟩ hg9 => ?_))
    have hl : (wipe σ vs).length = σ8.length := by rw [← hw8, wipe_length]
    have back : ∀ {s' : Shared} {H' : Hp}, Inv (gxl X Ag elt tg iter ifs scope gpos it ce s3 H3 fp) (((a, oG) :: px) ++ pinsAt fp s7.heap) σ8 H' s' →
        IG px H' s' ∧ tn (i + 1) s'.heap ∧ ∀ b ∈ fp, H' b = none := fun {s' H'} I' => by
      have pin' : ∀ b ∈ fp, ∀ o, s7.heap.get? b = some o → s'.heap.get? b = some o ∧ H' b = none := fun b hb o e =>
        let z := I'.pin (b, o) (List.mem_append_right _ (List.mem_append_right _ (mem_pinsAt hb e)))
        ⟨z.1, z.2.1⟩
      refine ⟨?_, T.keep _ _ _ st7 fun b hb o e => (pin' b hb o e).1, fun b hb => ?_⟩
      · rw [hIG]
        refine ⟨hP, I'.unpinned.weak hl fun j v e => ?_⟩
        rw [← hw8] at e
        exact (wipe_some e).1
      · obtain ⟨o, e, _⟩ := T.obj _ _ st7 b hb
        exact (pin' b hb o e).2
    cases b with
    | false =>
      simp only [Bool.false_eq_true, if_false] at q9 ⊢
      obtain ⟨m', hm, w'⟩ := q9
      obtain ⟨b1, b2, b3⟩ := back I9
      exact seg_again rfl (ih m' hm n (i + 1) ys px H9 s9 s0 (Nat.lt_trans hm hmn) h00 hX b1 b2 b3 w' hg9)
    | true =>
      simp only [if_true] at q9 ⊢
      have hy : ∀ v, yieldOut ce v = yieldValue v := fun v => by simp only [yieldOut, hco, Bool.false_eq_true, if_false]
      simp only [hy]
      rw [Sem.bind_eq_wrap', Sem.bind_eq_wrap', Sem.wrap_wrap, Sem.wrap_wrap]
      obtain ⟨n', rfl⟩ : ∃ n', n = n' + 1 := ⟨n - 1, by omega⟩
      refine seg_wrap (GenW.wpAny_gsz hg9 (thnF (pe.run _ s9 σ8 H9 _ I9 q9) fun z s10 ⟨yv, H10, I10, r10, out⟩ hg10 => ?_))
      obtain ⟨b1, b2, b3⟩ := back I10
      refine seg_at (seg_yield rfl rfl rfl ⟨i, m, ys, yv, H10, px, h00, r10, hX, b1, b2, b3, out, hg10, by omega, fun m' px' hm w' hX' s'' I'' st'' hg'' => ?_⟩)
      exact seg_again rfl (ih m' hm n' (i + 1) _ px' H10 s'' s'' (by omega) (fun p hp => by rw [hIG] at I''; exact (I''.2.pin p (by simp [hp])).1) hX' I'' st'' b3 w' hg'')
end
structure IGokL (X : Cx) (pins : List (Addr × Obj)) (σ : L2.St) (a : Addr) (gn : Nat) (tn : Nat → Heap → Prop) (IG : Pins → Hp → Shared → Prop) : Prop where
  bare : ∀ {px H s}, IG px H s → AllBare s.gens
  gens : ∀ {px H s g'}, IG px H s → AllBare g' → IG px H { s with gens := g' }
  kept : ∀ {px : Pins} {H : Hp} {s : Shared} {h' : Heap} {tk : Nat}, IG px H s → (∀ b o, s.heap.get? b = some o → h'.get? b = some o) → IG px H { s with heap := h', toks := tk }
  isgen : ∀ {px H s}, IG px H s → s.heap.IsGen a gn
  nolim : ∀ {px H s}, IG px H s → s.heap.NoLimit
  back : ∀ {px H s}, IG px H s → Inv X pins σ H s
  add : ∀ {H : Hp} {s : Shared} {h' : Heap} {tk : Nat} {S : Addr} {o : Obj}, IG [] H s → (∀ b u, s.heap.get? b = some u → h'.get? b = some u) → s.heap.objs.size ≤ S → h'.get? S = some o → (∀ v, o.data ≠ .cell v) → IG [(S, o)] H { s with heap := h', toks := tk }
  put : ∀ {H : Hp} {s : Shared} {h' : Heap} {tk : Nat} {S : Addr} {o o' : Obj}, IG [(S, o)] H s → (∀ b u, b ≠ S → s.heap.get? b = some u → h'.get? b = some u) → h'.get? S = some o' → (∀ v, o'.data ≠ .cell v) → IG [(S, o')] H { s with heap := h', toks := tk }
  own : ∀ {H s S o}, IG [(S, o)] H s → s.heap.get? S = some o
  tnk : ∀ {i h h'}, tn i h → (∀ b o, h.get? b = some o → h'.get? b = some o) → tn i h'
  tnp : ∀ {H s S o i h'}, IG [(S, o)] H s → tn i s.heap → (∀ b u, b ≠ S → s.heap.get? b = some u → h'.get? b = some u) → tn i h'
def GRunL (X : Cx) (Ac : Around) (IG : Pins → Hp → Shared → Prop) (PX : List V → Pins → Prop) (tn : Nat → Heap → Prop) (fp : List Addr) (W : Nat → Nat → List V → Hp → Prop) (Out : Nat → Nat → List V → V → Hp → Prop) (Fin : List V → Hp → Prop) (gn i m n : Nat) (ys : List V) (px : Pins) (H : Hp) (s : Shared) : Prop :=
  PX ys px ∧ IG px H s ∧ tn i s.heap ∧ (∀ b ∈ fp, H b = none) ∧ W i m ys H ∧ ∃ gs, s.gens[gn]? = some gs ∧ m < n ∧ ∀ (px' : Pins) (s'' : Shared), PX ys px' → IG px' H s'' → tn i s''.heap → gn < s''.gens.size →
    gs.Goes (model X.prog X.w) Ac.in1 (fun n s0 r s1 => r = .ok .next ∧ gxRL IG PX Fin n s0 s1) (gxYL IG PX tn fp W Out gn) n (.send .none) s''
def GStartL (X : Cx) (Ac : Around) (IG : Pins → Hp → Shared → Prop) (tn : Nat → Heap → Prop) (fp : List Addr) (W : Nat → Nat → List V → Hp → Prop) (Out : Nat → Nat → List V → V → Hp → Prop) (Fin : List V → Hp → Prop) (gn m : Nat) (H : Hp) (s : Shared) : Prop :=
  IG [] H s ∧ tn 0 s.heap ∧ (∀ b ∈ fp, H b = none) ∧ W 0 m [] H ∧ ∃ gs, s.gens[gn]? = some gs ∧ ∀ (PX : List V → Pins → Prop) (px' : Pins) (s'' : Shared), PX [] px' → IG px' H s'' → tn 0 s''.heap → gn < s''.gens.size →
    gs.Goes (model X.prog X.w) Ac.in1 (fun n s0 r s1 => r = .ok .next ∧ gxRL IG PX Fin n s0 s1) (gxYL IG PX tn fp W Out gn) (m + 1) (.send .none) s''
section
variable {X : Cx} {pins : List (Addr × Obj)} {σ : L2.St} {Ac : Around} {IG : Pins → Hp → Shared → Prop} {PX : List V → Pins → Prop} {tn : Nat → Heap → Prop} {fp : List Addr} {W : Nat → Nat → List V → Hp → Prop} {Out : Nat → Nat → List V → V → Hp → Prop} {Fin : List V → Hp → Prop} {a : Addr} {gn : Nat}
theorem gx_nextL {E : Value → Shared → Prop} {Q : Option Value → Shared → Prop} {i m n : Nat} {ys : List V} {px : Pins} {H : Hp} {s : Shared} (ig : IGokL X pins σ a gn tn IG) (hA : Ac.handled = none) (hd : Ac.depth < recursionLimit) (G : GRunL X Ac IG PX tn fp W Out Fin gn i m n ys px H s)
    (hout : ∀ v y H' s' i' m' ys' px', (∀ p ∈ px', s.heap.get? p.1 = some p.2) → RelV y v → Out i' m' ys' y H' → PX ys' px' → IG px' H' s' → tn (i' + 1) s'.heap →
      (∀ m'' px'' h' tk, m'' < m' → W (i' + 1) m'' (ys' ++ [y]) H' → PX (ys' ++ [y]) px'' → IG px'' H' { s' with heap := h', toks := tk } → tn (i' + 1) h' → GRunL X Ac IG PX tn fp W Out Fin gn (i' + 1) m'' (n - 1) (ys' ++ [y]) px'' H' { s' with heap := h', toks := tk }) → Q (some v) s')
    (hfin : ∀ ys' H' s' px', (∀ p ∈ px', s.heap.get? p.1 = some p.2) → Fin ys' H' → PX ys' px' → IG px' H' s' → Q none s') : wpAny (model X.prog X.w) Ac (pyNext (.ref a)) Q E s := by
  obtain ⟨g0, g1, g2, g3, g4, gs, g5, g6, g7⟩ := G
  have lt := (Array.getElem?_eq_some_iff.mp g5).1
  have run : IG px H (s.setGen gn .running) := ig.gens g1 (bare_set (ig.bare g1) rfl)
  refine wpAny_pyNext_genexpQ (P := gxRL IG PX Fin) hA (ig.nolim g1) hd (ig.isgen g1) g5 (g7 px _ g0 run g2 (by rw [GenW.setGen_size]; exact lt)) (fun v s1 gs' hb hv => ?_) fun s1 hp h' hk => ?_
  · obtain ⟨i', m', ys', y, H', px', h00, r, hX, I1, st1, nf, out, hg1, hmn, kap⟩ := hv
    have I2 : IG px' H' (s1.setGen gn gs') := ig.gens I1 (bare_set (ig.bare I1) hb)
    refine hout v y H' _ i' m' ys' px' h00 r out hX I2 st1 fun m'' px'' h' tk hm w' hX' I3 st3 => ⟨hX', I3, st3, nf, w', gs', ?_, by omega, fun pz s'' hXz J'' st'' hg'' => ?_⟩
    · show (s1.gens.setIfInBounds gn gs')[gn]? = some gs'
      rw [Array.getElem?_setIfInBounds_self_of_lt hg1]
    · have q := kap m'' pz hm w' hXz s'' J'' st'' hg''
      cases n with
      | zero => exact q.elim
      | succ n => exact q
  · obtain ⟨ys', H', px', h00, hX, I1, fin⟩ := hp
    exact hfin ys' H' _ px' h00 fin hX (ig.kept (tk := (s1.setGen gn .finished).toks) (ig.gens I1 (bare_set (ig.bare I1) rfl)) hk)
/-- from the start on, with what the consumer keeps -/
theorem GStartL.run {m : Nat} {H : Hp} {s : Shared} {px : Pins} {h' : Heap} {tk : Nat} (G : GStartL X Ac IG tn fp W Out Fin gn m H s) (hX : PX [] px) (I : IG px H { s with heap := h', toks := tk }) (st : tn 0 h') : GRunL X Ac IG PX tn fp W Out Fin gn 0 m (m + 1) [] px H { s with heap := h', toks := tk } := by
  obtain ⟨g1, g2, g3, g4, gs, g5, g7⟩ := G
  exact ⟨hX, I, st, g3, g4, gs, g5, Nat.lt_succ_self _, fun px' s'' hX' I' st' hg => g7 PX px' s'' hX' I' st' hg⟩
end
section
variable {X : Cx} {pins : List (Addr × Obj)} {σ : L2.St} {H : Hp} {s : Shared}
theorem gx_mkL {c T : Addr} {elt tg iter : Expr} {ifs : List Expr} {scope : Scope} {own : List (Str × Nat)} {gpos : Pos} {wi : TI} {g : TG} {tt : TT} {te : TE} {k : Nat} {Q' : Value → Shared → Prop} {Outf : (Nat → Nat → List V → Hp → Prop) → Nat → Nat → List V → V → Hp → Prop} {Fin : List V → Hp → Prop}
    (Ac : Around) (hA : Ac.handled = none) (hfr : Ac.frames = some X.stack) (hd : Ac.depth ≤ X.A.depth) (hu : Ac.units ≤ X.A.units + 8) (hr : Room (k + 1) X.A) (hc : X.calm = true) (hN : X.N.Nodup) (TB : GxR.TabB X.base X.mg c T) (hcode : X.env.code = .ref c) (ok : GOk X.N X.env.scope scope own) (hi : PI X tg iter wi)
    (hg : ∀ (A' : Around) (s3 : Shared) (H3 : Hp) (C : Addr) (code : Value) (fp : List Addr), PG (gxc X A' s3 H3 (genE X scope C code) fp) tg g)
    (ht : ∀ (A' : Around) (s3 : Shared) (H3 : Hp) (C : Addr) (code : Value) (fp : List Addr), Room k A' → PTs (gxc X A' s3 H3 (genE X scope C code) fp) ifs tt)
    (he : ∀ (A' : Around) (s3 : Shared) (H3 : Hp) (C : Addr) (code : Value) (fp : List Addr), Room k A' → PE (gxc X A' s3 H3 (genE X scope C code) fp) elt te)
    (hs : ∀ v, genFold iter X.env v = pure v) (I : Inv X pins σ H s)
    (h : wi σ H fun J H1 => GxR.TabG H1 T ∧ ∀ H2, GxR.Tabbed T H1 H2 → ∃ W, (∃ m, W 0 m [] H2) ∧ GTurnsL J g tt te (own.map (·.2)) σ W (Outf W) Fin)
    (hQ : ∀ (IG : Pins → Hp → Shared → Prop) (tn : Nat → Heap → Prop) (fp : List Addr) W (a : Addr) (gn m : Nat) (H2 : Hp) (s5 : Shared), IGokL X pins σ a gn tn IG →
      GStartL X Ac IG tn fp W (Outf W) Fin gn m H2 s5 → Q' (.ref a) s5) :
    wpAny (model X.prog X.w) X.A (eval (.GeneratorExp elt [⟨tg, iter, ifs, 0⟩] scope gpos) X.env) Q' X.xe s := by
  have free := gx_free I ok
  refine wpAny_GeneratorExp_make ok.co (closure_ok free) ok.cell ok.dot ok.blk.kind (Nat.lt_of_le_of_lt (by omega : X.A.depth ≤ X.A.depth + 3 * (k + 1) + 5) hr.dp) ?_ hs
  refine thn (hi.run pins s σ H _ I h) fun xv s1 h1 => thn h1 fun itv s2 h2 => ?_
  obtain ⟨it, fp, tn, J, H1, rfl, J1, TU, st2, f2, ⟨ps, hT, hok⟩, q⟩ := h2
  have gT : s2.heap.get? T = some (PySem.W.tabObj ps) := J1.hok T _ hT
  have cd : PySem.W.CodeHd s2.heap c T := TB.code.keeps J1.bk
  refine ⟨J1.nolimit, ?_⟩
  have lts : ∀ b ∈ fp, b < s2.heap.objs.size := fun b hb => by
    obtain ⟨o, e, _⟩ := TU.obj _ _ st2 b hb
    exact Heap.lt_size e
  have nfT : ∀ b ∈ fp, b ≠ T := fun b hb z => by
    have := (f2 b hb).1
    rw [z, hT] at this
    cases this
  -- behind the code object
  have on : ∀ (code : Value) (h3 : Heap) (tk : Nat) (more : Array Value), Heap.ExtBut T s2.heap h3 → s2.heap.objs.size ≤ h3.objs.size → h3.get? T = some (PySem.W.tabObj (ps ++ more)) → TriplesOk (ps ++ more).toList →
      wpAny (model X.prog X.w) X.A (builtinsFor X.env.globals X.env.builtins) (fun bi s4 =>
        ∀ h', h'.Ns s4.heap.objs.size (fun y => if y = ".0" then some (.ref it) else none) → Heap.SameBut s4.heap.objs.size (s4.heap.push { cls := .type "frame", data := .dict #[] }) h' →
          Q' (.ref h'.objs.size) { s4 with
            gens := s4.gens.push (.fresh (.compStart (.GeneratorExp elt [⟨tg, iter, ifs, 0⟩] scope gpos) 0 (.ref it) .none (genEnv scope (cloFrom X.env.cells scope.names []) s4.heap.objs.size code bi X.env))),
            toks := s4.toks + 1 + 1 + 1,
            heap := h'.push { cls := .type "generator", data := .fields #[.int s4.gens.size 0, .str "<genexpr>" (s4.toks + 1), .str (X.env.qual ++ "<genexpr>") (s4.toks + 1 + 1)] } }) X.xe { s2 with heap := h3, toks := tk } := by
    intro code h3 tk more ext ge3 gT3 ok3
    have J3 : Inv X pins σ (upd H1 T (.tbl (ps ++ more))) { s2 with heap := h3, toks := tk } := GxR.inv_tab (g' := s2.gens) (d' := s2.drawn) J1 hT ext gT3 J1.bare
    have tb : GxR.Tabbed T H1 (upd H1 T (.tbl (ps ++ more))) := ⟨⟨_, upd_same, ok3⟩, fun b nb => upd_ne nb⟩
    obtain ⟨W, ⟨m0, w0⟩, turn⟩ := q _ tb
    obtain ⟨bm, ob, e1, e2, _, e4, e5, e6, e7, e8⟩ := TB.bm
    refine wpAny_builtinsFor (m := X.mg) (by rw [J3.ok.glob]; exact J3.mod.glob.keeps J3.bk) e1 e2 (ext _ _ e4 (J1.bk _ _ e5)) e6 e7 e8 ?_
    intro h' hn hsb
    have f3 : ∀ b ∈ fp, FpOk X pins (upd H1 T (.tbl (ps ++ more))) b ∧ b < h3.objs.size := fun b hb => by
      refine ⟨⟨?_, (f2 b hb).2⟩, Nat.lt_of_lt_of_le (lts b hb) ge3⟩
      rw [upd_ne (nfT b hb)]
      exact (f2 b hb).1
    have st3 : tn 0 h3 := TU.keep _ _ _ st2 fun b hb o e => ext b o (nfT b hb) e
    have nf3 : ∀ b ∈ fp, (upd H1 T (.tbl (ps ++ more))) b = none := fun b hb => (f3 b hb).1.1
    generalize hH3 : upd H1 T (.tbl (ps ++ more)) = H3 at J3 w0 f3 nf3
    generalize hs3 : ({ s2 with heap := h3, toks := tk } : Shared) = s3 at J3 hn hsb ⊢
    have eh : s3.heap = h3 := by rw [← hs3]
    have szh : h'.objs.size = s3.heap.objs.size + 1 := by rw [hsb.1, Heap.size_push]
    have kp : ∀ b o, s3.heap.get? b = some o → h'.get? b = some o := fun b o e => hsb.extBut b o (Nat.ne_of_lt (Heap.lt_size e)) (Heap.get?_push_of_some _ e)
    generalize hoG : ({ cls := .type "generator", data := .fields #[.int s3.gens.size 0, .str "<genexpr>" (s3.toks + 1), .str (X.env.qual ++ "<genexpr>") (s3.toks + 1 + 1)] } : Obj) = oG
    have na : h'.objs.size ∉ fp := fun z => by
      have := (f3 _ z).2
      rw [← eh] at this
      exact Nat.lt_irrefl _ (Nat.lt_of_lt_of_le this (by rw [szh]; exact Nat.le_succ _))
    have start := gx_start (A' := Ac.in1.over (.compLoop (.GeneratorExp elt [⟨tg, iter, ifs, 0⟩] scope gpos) 0 (.ref it) .none (genE X scope s3.heap.objs.size code)) []) (code := code) (it := .ref it) (oG := oG)
      (g' := s3.gens.push (.fresh (.compStart (.GeneratorExp elt [⟨tg, iter, ifs, 0⟩] scope gpos) 0 (.ref it) .none (genE X scope s3.heap.objs.size code)))) (t' := s3.toks + 1 + 1 + 1) J3 ok hN (fun b hb => ⟨(f3 b hb).1, by rw [eh]; exact (f3 b hb).2⟩) hA (over_gen hfr) hn hsb
      (fun v => by rw [← hoG]; exact fun z => nomatch z) (J3.bare.push rfl) (by rw [← hoG]; rfl)
    have rm : Room k (Ac.in1.over (.compLoop (.GeneratorExp elt [⟨tg, iter, ifs, 0⟩] scope gpos) 0 (.ref it) .none (genE X scope s3.heap.objs.size code)) []) :=
      room_gen hA (by have := hr.dp; show Ac.depth + 1 + 3 * k + 5 < _; omega) (by have := hr.un; show Ac.units + 1 + 3 + 16 * k + 200 < _; omega)
    let Px : Pins → Prop := fun px => ∀ p ∈ px, h'.objs.size + 1 ≤ p.1
    have hPx : ∀ px, Px px → ∀ p ∈ px, p.1 ∉ fp := fun px z p hp q => by
      have l1 : h'.objs.size + 1 ≤ p.1 := z p hp
      have l2 := (f3 _ q).2
      rw [← eh] at l2
      have l0 : s3.heap.objs.size ≤ h'.objs.size + 1 := by omega
      exact Nat.lt_irrefl _ (Nat.lt_of_lt_of_le l2 (Nat.le_trans l0 l1))
    refine hQ (fun px H' s' => Px px ∧ Inv (gxl X Ac.in1 elt tg iter ifs scope gpos it (genE X scope s3.heap.objs.size code) s3 H3 fp) ((h'.objs.size, oG) :: px) (wipe σ (own.map (·.2))) H' s') tn fp W h'.objs.size s3.gens.size m0 H3 _ ?_ ?_
    · have bk : ∀ {px : Pins} {H' : Hp} {s' : Shared}, Inv (gxl X Ac.in1 elt tg iter ifs scope gpos it (genE X scope s3.heap.objs.size code) s3 H3 fp) ((h'.objs.size, oG) :: px) (wipe σ (own.map (·.2))) H' s' → Inv X pins σ H' s' := fun I' =>
        J3.call' (ch := fp) I'.os I'.base I'.hok I'.bare fun b hb => ⟨(f3 b hb).1.2.2.2.1, (f3 b hb).1.2.1, (f3 b hb).1.2.2.2.2.1, (f3 b hb).1.2.2.2.2.2⟩
      refine ⟨fun I' => I'.2.bare, fun I' hb => ⟨I'.1, I'.2.ok, I'.2.os, hb, I'.2.base, I'.2.loc, I'.2.cell, I'.2.free, I'.2.freeC, I'.2.pin, I'.2.hok, I'.2.len⟩, fun I' kk => ⟨I'.1, I'.2.kept kk⟩, fun I' => ?_, fun I' => I'.2.nolimit, fun I' => bk I'.2, ?_, ?_, ?_, ?_, ?_⟩
      · have z := (I'.2.pin (h'.objs.size, oG) (by simp)).1
        rw [← hoG] at z
        exact ⟨_, _, _, z, rfl, rfl, rfl⟩
      · intro H' s' h2' tk' S o I' kk hS e nc
        have g0 := (I'.2.pin (h'.objs.size, oG) (by simp)).1
        have l0 := Heap.lt_size g0
        refine ⟨fun p hp => ?_, ?_⟩
        · rw [List.mem_singleton.mp hp]
          exact Nat.le_trans l0 hS
        · have K1 := I'.2.kept (t' := tk') kk
          have F := I'.2.fpOk (b := S) hS (I'.2.hok.fresh hS)
          refine K1.pins_of fun p hp => ?_
          rcases List.mem_cons.mp hp with z | z
          · rw [z]
            exact K1.pin _ (by simp)
          · rw [List.mem_singleton.mp z]
            exact ⟨e, F.1, F.2.1, F.2.2.1, nc⟩
      · intro H' s' h2' tk' S o o' I' kk e nc
        obtain ⟨p1, I1⟩ := I'
        obtain ⟨q1, q2, q3, q4, q5⟩ := I1.pin (S, o) (by simp)
        have lS : h'.objs.size + 1 ≤ S := p1 (S, o) (by simp)
        have Iu : Inv (gxl X Ac.in1 elt tg iter ifs scope gpos it (genE X scope s3.heap.objs.size code) s3 H3 fp) [(h'.objs.size, oG)] (wipe σ (own.map (·.2))) H' s' := I1.pins_of fun p hp => I1.pin p (by rw [List.mem_singleton.mp hp]; simp)
        have K1 := Iu.turned (t' := tk') (it := S) kk q2 q3 (.inr (by show s3.heap.objs.size ≤ S; omega)) (fun y cc ec z => ?_) (fun p hp z => ?_)
        · refine ⟨fun p hp => by rw [List.mem_singleton.mp hp]; exact lS, K1.pins_of fun p hp => ?_⟩
          rcases List.mem_cons.mp hp with z | z
          · rw [z]
            exact K1.pin _ (by simp)
          · rw [List.mem_singleton.mp z]
            exact ⟨e, q2, q3, q4, nc⟩
        · obtain ⟨v, zc⟩ := J3.cell y cc (by
            have ec' : (cloFrom X.env.cells scope.names []).lookup y = some cc := ec
            rcases cloFrom_mem (PySem.mem_of_lookup ec') with hm | ⟨h1, rfl⟩
            · cases hm
            · obtain ⟨c0, hc0⟩ := free _ h1 rfl
              rw [hc0]
              rfl)
          have l0 : s3.heap.objs.size ≤ h'.objs.size + 1 := by omega
          have l4 := zc.lt
          rw [z] at l4
          exact Nat.lt_irrefl _ (Nat.lt_of_lt_of_le l4 (Nat.le_trans l0 lS))
        · have hp' : p = (h'.objs.size, oG) := by simpa using hp
          rw [hp'] at z
          have z' : h'.objs.size = S := z
          omega
      · intro H' s' S o I'
        exact (I'.2.pin (S, o) (by simp)).1
      · exact fun st kk => TU.keep _ _ _ st fun b _ o e => kk b o e
      · intro H' s' S o i h2' I' st kk
        refine TU.keep _ _ _ st fun b hb ob e => kk b ob (fun z => ?_) e
        exact hPx _ I'.1 (S, o) (by simp) (z ▸ hb)
    · refine ⟨⟨fun p hp => (nomatch hp), start⟩, TU.keep _ _ _ st3 fun b hb o e => Heap.get?_push_of_some _ (kp b o (by rw [eh]; exact e)), nf3, w0, _, Array.getElem?_push_size .., fun PX px s'' hX I'' st'' hg'' => ⟨rfl, ?_⟩⟩
      exact gx_seg0 TU st'' (gx_segL TU na ok.co (hg _ s3 H3 _ code fp) (ht _ s3 H3 _ code fp rm) (he _ s3 H3 _ code fp rm) turn _ Px hPx rfl m0 (m0 + 1) 0 [] px H3 s'' s'' (Nat.lt_succ_self _) (fun p hp => (I''.2.pin p (by simp [hp])).1) hX I'' st'' nf3 w0 hg'')
  cases among : codeAmong gpos ps.toList with
  | some cv =>
    refine wpAny_genexprCode_hit hcode (cd.code gT hok) among ?_
    exact on cv s2.heap s2.toks #[] (Heap.ExtBut.refl _ _) (Nat.le_refl _) (by rw [Array.append_empty]; exact gT) (by rw [Array.append_empty]; exact hok)
  | none =>
    refine wpAny_genexprCodeX hcode (cd.code gT hok) (cd.tab gT) among fun c' h' tk hx hge hlt isC _ tab' _ => ?_
    obtain ⟨_, _, _, _, _, _, _, _, _, _, _, _, _, _, _, _, _, _, _, ok', _⟩ := isC
    exact on _ h' tk _ hx (Nat.le_trans hge (Nat.le_of_lt hlt)) tab'.2 ok'
end
/-! ### tuple(..) of a generator expression -/
abbrev lsO (acc : Array Value) (c : Nat) : Obj := { cls := .type "list", dict := none, data := .seq acc c, slots := #[] }
def pxL (S : Addr) : List V → Pins → Prop := fun ys px => ∃ acc c, px = [(S, lsO acc c)] ∧ Vals ys acc.toList
abbrev outL (W : Nat → Nat → List V → Hp → Prop) : Nat → Nat → List V → V → Hp → Prop := fun i m ys y H' => ys.length < sizeLine ∧ ∃ m', m' < m ∧ W (i + 1) m' (ys ++ [y]) H'
section
variable {X : Cx} {pins : List (Addr × Obj)} {σ : L2.St} {IG : Pins → Hp → Shared → Prop} {tn : Nat → Heap → Prop} {fp : List Addr} {W : Nat → Nat → List V → Hp → Prop} {Fin : List V → Hp → Prop} {a : Addr} {gn : Nat} {B : Around}
theorem vals_len {ys : List V} {acc : Array Value} (h : Vals ys acc.toList) : acc.size = ys.length := by
  rw [← Array.length_toList]
  exact h.length.symm
theorem gx_extend {S : Addr} {res : Value} {R : Result → Shared → Prop} (ig : IGokL X pins σ a gn tn IG) (hA : B.handled = none) (hd : B.depth < recursionLimit)
    (hR : ∀ ys acc c H s, Vals ys acc.toList → Fin ys H → IG [(S, lsO acc c)] H s → R (.ok (.ret res)) s) : ∀ (n i m : Nat) (ys : List V) (px : Pins) (H : Hp) (s : Shared),
    GRunL X B.in1 IG (pxL S) tn fp W (outL W) Fin gn i m n ys px H s → codeAny (model X.prog X.w) B (.builtin "list.extend.loop" ⟨[.ref S, .ref a, res], []⟩) R s := by
  intro n
  induction n with
  | zero =>
    intro i m ys px H s G
    obtain ⟨_, _, _, _, _, gs, _, h, _⟩ := G
    exact absurd h (Nat.not_lt_zero _)
  | succ n ih =>
    intro i m ys px H s G
    refine codeAny_builtin F.entry_extend_loop (Around.under_plainId (A := B) F.plain_extend_loop _ ▸ ?_)
    show wpAny _ B.in1 (pyNext (.ref a) >>= _) _ _ s
    refine wpAny_bind (gx_nextL ig hA hd G (fun v y H' s' i' m' ys' px' _ r out hX I' st' cont => ?_) fun ys' H' s' px' _ fin hX I' => ?_)
    · obtain ⟨acc, c, rfl, hv⟩ := hX
      obtain ⟨hlt, m'', hm, w'⟩ := out
      have own := ig.own I'
      have ln := vals_len hv
      have oth : ∀ b u, b ≠ S → s'.heap.get? b = some u → (s'.heap.update S (Obj.mapSeq (·.push v))).get? b = some u := fun b u nb e => (Heap.get?_update_other _ _ (Ne.symm nb)).trans e
      have self := Heap.get?_update_self (Obj.mapSeq (·.push v)) own rfl
      show wpAny _ B.in1 (updateSeq S (·.push v) >>= _) _ _ _
      refine wpAny_bind (wpAny_updateSeq own rfl (wpAny_pure ⟨plainId_quiet F.plain_extend_loop _, ih (i' + 1) m'' _ _ H' _ (cont m'' _ _ s'.toks hm w' ⟨acc.push v, _, rfl, ?_⟩ (ig.put I' oth self fun u z => nomatch z) (ig.tnp I' st' oth))⟩) (by omega)
        (by show (acc.push v).size ≤ sizeLine + 1; rw [Array.size_push]; omega))
      rw [Array.toList_push]
      exact Paired.snoc hv r
    · obtain ⟨acc, c, rfl, hv⟩ := hX
      exact wpAny_pure (hR ys' acc c H' s' hv fin I')
/-- what is collected from it -/
theorem gx_collect {Q : List Value → Shared → Prop} {E : Value → Shared → Prop} {m : Nat} {H : Hp} {s : Shared} (ig : IGokL X pins σ a gn tn IG) (hA : B.handled = none) (hd : B.depth < recursionLimit)
    (G : GStartL X B.in1 IG tn fp W (outL W) Fin gn m H s) (hQ : ∀ ys (acc : Array Value) H' s', Vals ys acc.toList → Fin ys H' → Inv X pins σ H' s' → Q acc.toList s') : wpAny (model X.prog X.w) B (collect (.ref a)) Q E s := by
  have g0 := ig.isgen G.1
  have lt : (a : Nat) < s.heap.objs.size := by
    obtain ⟨o, nm, qn, ho, _⟩ := g0
    exact Heap.lt_size ho
  have nSa : s.heap.objs.size ≠ a := Nat.ne_of_gt lt
  unfold collect
  refine wpAny_bind (wpAny_runValue (codeAny_builtin F.entry_proto_collect (Around.under_plainId (A := B) F.plain_proto_collect _ ▸ ?_)))
  show wpAny _ B.in1 (newList [] >>= fun l => again (.builtin "list.__iadd__" ⟨[l, .ref a], []⟩)) _ _ s
  refine wpAny_bind (wpAny_newObj_type (wpAny_pure ⟨plainId_quiet F.plain_list_iadd _, codeAny_builtin F.entry_list_iadd (Around.under_plainId (A := B) F.plain_list_iadd _ ▸ ?_)⟩))
  have k1 : ∀ b u, s.heap.get? b = some u → (s.heap.push { cls := .type "list", data := .seq ([] : List Value).toArray }).get? b = some u := fun b u e => Heap.get?_push_of_some _ e
  have gS : (s.heap.push { cls := .type "list", data := .seq ([] : List Value).toArray }).get? s.heap.objs.size = some (lsO #[] 0) := Heap.get?_push_size _ rfl
  generalize s.heap.push { cls := .type "list", data := .seq ([] : List Value).toArray } = h1 at k1 gS
  have ty : Shared.TypeIs { s with heap := h1 } (.ref a) "generator" := Heap.IsGen.typeIs (s := { s with heap := h1 }) (g0.keeps k1)
  show wpAny _ B.in1 (Builtin.List.listExtendWith (.ref s.heap.objs.size) (.ref a) (.ref s.heap.objs.size)) _ _ _
  unfold Builtin.List.listExtendWith
  refine wpAny_bind (wpAny_typeOf ty ?_)
  simp only [show Builtin.List.listSameRef (.ref s.heap.objs.size) (.ref a) = false by simp [Builtin.List.listSameRef, nSa], show (Value.type "generator" == Value.type "list") = false by decide, show (Value.type "generator" == Value.type "tuple") = false by decide, Bool.or_false, Bool.false_eq_true, if_false]
  refine wpAny_bind (wpAny_pyIter_gen (s := { s with heap := h1 }) (g0.keeps k1) (wpAny_bind (wpAny_holding ?_)))
  unfold Builtin.List.listLengthHint
  refine wpAny_bind (wpAny_specialOf ty F.gen_no_len ?_)
  show wpAny _ B.in1 (specialOf (Value.ref a) (Str.ofString "__length_hint__") >>= _) _ _ _
  refine wpAny_bind (wpAny_specialOf ty F.gen_no_hint (wpAny_pure ?_))
  show wpAny _ B.in1 (rule "list.extend.makes-room" >>= fun _ => Builtin.List.listTouch (.ref s.heap.objs.size) >>= fun _ => again (.builtin "list.extend.loop" ⟨[.ref s.heap.objs.size, .ref a, .ref s.heap.objs.size], []⟩)) _ _ _
  refine wpAny_bind (wpAny_rule (wpAny_bind ?_))
  show wpAny _ B.in1 (updateSeq s.heap.objs.size (·.push .none) >>= fun _ => updateSeq s.heap.objs.size (·.pop)) _ _ _
  refine wpAny_bind (wpAny_updateSeq gS rfl ?_)
  have gS2 := Heap.get?_update_self (Obj.mapSeq (·.push Value.none)) gS rfl
  refine wpAny_updateSeq gS2 rfl ?_
  have gS3 := Heap.get?_update_self (Obj.mapSeq (·.pop)) gS2 rfl
  have oth : ∀ b u, b ≠ s.heap.objs.size → h1.get? b = some u → ((h1.update s.heap.objs.size (Obj.mapSeq (·.push Value.none))).update s.heap.objs.size (Obj.mapSeq (·.pop))).get? b = some u := fun b u nb e =>
    (Heap.get?_update_other _ _ (Ne.symm nb)).trans ((Heap.get?_update_other _ _ (Ne.symm nb)).trans e)
  have I1 := ig.add (tk := s.toks) G.1 k1 (Nat.le_refl _) gS fun u z => nomatch z
  have st1 := ig.tnk G.2.1 k1
  have I3 := ig.put (tk := s.toks) I1 oth gS3 fun u z => nomatch z
  have st3 := ig.tnp I1 st1 oth
  refine wpAny_pure ⟨plainId_quiet F.plain_extend_loop _, gx_extend ig hA hd (fun ys acc c H' s' hv fin I' => ?_) (m + 1) 0 m [] _ H _ (G.run (PX := pxL s.heap.objs.size) ⟨#[], _, rfl, .nil⟩ I3 st3)⟩
  show wpAny _ B (load s.heap.objs.size >>= _) _ _ s'
  exact wpAny_bind (wpAny_load (ig.own I') (wpAny_pure (hQ ys acc H' s' hv fin (ig.back I'))))
theorem gx_tuple {A : Around} {Q : Value → Shared → Prop} {E : Value → Shared → Prop} {m : Nat} {H : Hp} {s : Shared} (ig : IGokL X pins σ a gn tn IG) (hA : A.handled = none) (hd : A.depth < recursionLimit)
    (G : GStartL X A.in1.in1.in1 IG tn fp W (outL W) Fin gn m H s) (hz : ∀ ys H', Fin ys H' → ys.length ≤ sizeLine)
    (hQ : ∀ ys (acc : Array Value) H' s', Vals ys acc.toList → Fin ys H' → Inv X pins σ H' s' → Q (.ref s'.heap.objs.size) { s' with heap := s'.heap.push { cls := .type "tuple", data := .seq acc } }) :
    wpAny (model X.prog X.w) A (call (.type "tuple") [.ref a]) Q E s := by
  refine callType_codes (Q₁ := fun obj s1 => s1.TypeIs obj "tuple" ∧ Q obj s1) F.called_tuple (F.typeCall_tuple_1 _) F.entry_object_init (codeAny_of_tree ?_) fun obj s1 h1 =>
    ⟨h1.1, F.args_object_init_2 obj _, object_init_meets F.called_tuple.init.lookup F.called_tuple.made (by decide) X.prog X.w A.in1 _ s1 ⟨h1.1, rfl, h1.2⟩⟩
  show wpAny _ A.in1.in1 (do checkBuiltinCall "tuple.__new__" ⟨[.type "tuple", .ref a], []⟩; again (.builtin "tuple.__new__" ⟨[.type "tuple", .ref a], []⟩)) _ _ s
  refine wpAny_bind (wpAny_of_eq (F.newCall_tuple_1 _) (wpAny_pure ⟨plainId_quiet F.plain_tuple_new _, codeAny_builtin F.entry_tuple_new (Around.under_plainId (A := A.in1) F.plain_tuple_new _ ▸ ?_)⟩))
  have e1 := sub_tuple_self
  have e2 := init_tuple_lookup
  have e3 := madeHere_tuple
  have ty : s.TypeIs (.ref a) "generator" := Heap.IsGen.typeIs (ig.isgen G.1)
  wp_walk using wpAny_typeOf ty, gx_collect (B := A.in1.in1) ig hA hd G
  intro ys acc H' s' hv fin I'
  show wpAny _ _ (Builtin.Tuple.tupleExact acc.toList.toArray >>= fun v => ret v) _ _ _
  unfold Builtin.Tuple.tupleExact
  rw [show acc.toList.toArray = acc by simp]
  exact wpAny_bind (wpAny_newObj_type (wpAny_pure ⟨⟨_, Heap.get?_push_size _ rfl, rfl⟩, hQ ys acc H' s' hv fin I'⟩) (by show acc.size ≤ sizeLine; rw [vals_len hv]; exact hz ys H' fin))
end
def tTupG (T : Addr) (wi : TI) (g : TG) (tt : TT) (te : TE) (vs : List Nat) : TE := fun σ H Q => wi σ H fun J H1 => GxR.TabG H1 T ∧ ∀ H2, GxR.Tabbed T H1 H2 → ∃ W : Nat → Nat → List V → Hp → Prop, (∃ m, W 0 m [] H2) ∧
  GTurnsL J g tt te vs σ W (outL W) (fun ys H' => ys.length ≤ sizeLine ∧ ∀ p, H' p = none → Q (.ref p) (upd H' p (.tup ys)))
section
variable {X : Cx} {pins : List (Addr × Obj)} {σ : L2.St}
theorem pe_tupG {c T : Addr} {elt tg iter : Expr} {ifs : List Expr} {scope : Scope} {own : List (Str × Nat)} {gpos p pos : Pos} {wi : TI} {g : TG} {tt : TT} {te : TE} {k : Nat}
    (hr : Room (k + 1) X.A) (hgl : Gl X "tuple") (hm : X.mg "tuple" = none) (hc : X.calm = true) (hN : X.N.Nodup) (TB : GxR.TabB X.base X.mg c T) (hcode : X.env.code = .ref c) (ok : GOk X.N X.env.scope scope own) (hi : PI X tg iter wi)
    (hg : ∀ (A' : Around) (s3 : Shared) (H3 : Hp) (C : Addr) (code : Value) (fp : List Addr), PG (gxc X A' s3 H3 (genE X scope C code) fp) tg g)
    (ht : ∀ (A' : Around) (s3 : Shared) (H3 : Hp) (C : Addr) (code : Value) (fp : List Addr), Room k A' → PTs (gxc X A' s3 H3 (genE X scope C code) fp) ifs tt)
    (he : ∀ (A' : Around) (s3 : Shared) (H3 : Hp) (C : Addr) (code : Value) (fp : List Addr), Room k A' → PE (gxc X A' s3 H3 (genE X scope C code) fp) elt te)
    (hs : ∀ v, genFold iter X.env v = pure v := by intro _; rfl)
    (hst : starEach [.GeneratorExp elt [⟨tg, iter, ifs, 0⟩] scope gpos] X.env = (false, eval (.GeneratorExp elt [⟨tg, iter, ifs, 0⟩] scope gpos) X.env) :: starEach [] X.env := by rfl) :
    PE X (.Call (.Name "tuple" p) [.GeneratorExp elt [⟨tg, iter, ifs, 0⟩] scope gpos] [] pos) (tTupG T wi g tt te (own.map (·.2))) := by
  refine ⟨fun pins s σ H Q I h => wpAny_Call_Name_kw (ld_blt I hgl hm (show bootBuiltins "tuple" = some (.type "tuple") by decide +kernel) ?_)⟩
  refine PyProof.Rows.callWith_type1 ?_ hst (by rfl)
  rw [hst]
  have hA := I.ok.hd hc
  have hf := I.ok.frames
  refine Calls.spliced_cons (gx_mkL (Outf := outL) (Fin := fun ys H' => ys.length ≤ sizeLine ∧ ∀ p, H' p = none → Q (.ref p) (upd H' p (.tup ys)))
    X.A.in1.in1.in1 hA hf (Nat.le_refl _) (by show X.A.units + 1 + 1 + 1 ≤ _; omega) hr hc hN TB hcode ok hi hg ht he hs I h ?_)
  intro IG tn fp W a gn m H2 s5 ig G
  refine Calls.spliced_nil (gx_tuple ig hA (Nat.lt_of_le_of_lt (by omega : X.A.depth ≤ X.A.depth + 3 * (k + 1) + 5) hr.dp) G (fun ys H' z => z.1) fun ys acc H' s' hv fin I' => ?_)
  have nw := I'.hok.fresh (Nat.le_refl s'.heap.objs.size)
  exact ⟨.ref s'.heap.objs.size, _, I'.laid (t' := s'.toks) (o := .tup ys) (fun b u e => Heap.get?_push_of_some _ e) (Nat.le_refl _) ⟨fin.1, acc.toList, hv, ⟨_, Heap.get?_push_size _ rfl, rfl, 0, by show Data.seq acc 0 = Data.seq acc.toList.toArray 0; rw [Array.toArray_toList]⟩⟩, rfl, fin.2 _ nw⟩
end
/-! ### sum(..) of a generator expression -/
def pxN (S : Addr) : List V → Pins → Prop := fun ys px => ∃ (ns : List Int) (t : Tok) (c : Nat), ys = ns.map V.int ∧ px = [(S, lsO #[.int ns.sum t] c)]
abbrev outN (W : Nat → Nat → List V → Hp → Prop) : Nat → Nat → List V → V → Hp → Prop := fun i m ys y H' => (∃ k, y = .int k) ∧ ∃ m', m' < m ∧ W (i + 1) m' (ys ++ [y]) H'
theorem sum_snoc (ns : List Int) (k : Int) : (ns ++ [k]).sum = ns.sum + k := by simp
section
variable {X : Cx} {pins : List (Addr × Obj)} {σ : L2.St} {IG : Pins → Hp → Shared → Prop} {tn : Nat → Heap → Prop} {fp : List Addr} {W : Nat → Nat → List V → Hp → Prop} {Fin : List V → Hp → Prop} {a : Addr} {gn : Nat} {B : Around}
theorem gx_sumloop {S : Addr} {R : Result → Shared → Prop} (ig : IGokL X pins σ a gn tn IG) (hA : B.handled = none) (hd : B.depth < recursionLimit)
    (hR : ∀ (ns : List Int) (t : Tok) (H : Hp) (s : Shared), Fin (ns.map V.int) H → Inv X pins σ H s → R (.ok (.ret (.int ns.sum t))) s) : ∀ (n i m : Nat) (ys : List V) (px : Pins) (H : Hp) (s : Shared) (st : Int), (st = 0 ∨ st = 2) →
    GRunL X B.in1 IG (pxN S) tn fp W (outN W) Fin gn i m n ys px H s → codeAny (model X.prog X.w) B (.builtin "sum.loop" ⟨[.ref a, .ref S, rawInt st, rawInt 0], []⟩) R s := by
  intro n
  induction n with
  | zero =>
    intro i m ys px H s st _ G
    obtain ⟨_, _, _, _, _, gs, _, h, _⟩ := G
    exact absurd h (Nat.not_lt_zero _)
  | succ n ih =>
    intro i m ys px H s st hst G
    obtain ⟨ns, t, c, rfl, rfl⟩ := id G.1
    have own0 := ig.own G.2.1
    refine codeAny_builtin F.entry_sum_loop (Around.under_plainId (A := B) F.plain_sum_loop _ ▸ ?_)
    show wpAny _ B.in1 (seqItems? (.ref S) >>= _) _ _ s
    refine wpAny_bind (wpAny_seqItems own0 rfl ?_)
    show wpAny _ B.in1 (tryCatch (pyNext (.ref a)) _ >>= _) _ _ s
    refine wpAny_bind (wpAny_tryCatch (gx_nextL ig hA hd G (fun v y H' s' i' m' ys' px' h00 r out hX I' st' cont => ?_) fun ys' H' s' px' h00 fin hX I' => ?_))
    · obtain ⟨ns', t', c', rfl, rfl⟩ := hX
      have e0 := (h00 (S, lsO #[.int ns'.sum t'] c') (by simp)).symm.trans own0
      have es : ns'.sum = ns.sum ∧ t' = t ∧ c' = c := by
        simp only [Option.some.injEq, Obj.mk.injEq, Data.seq.injEq, Array.mk.injEq, List.cons.injEq, Value.int.injEq] at e0
        exact ⟨e0.2.2.1.1.1.1, e0.2.2.1.1.1.2, e0.2.2.1.2⟩
      obtain ⟨e1, rfl, rfl⟩ := es
      obtain ⟨⟨k, rfl⟩, m'', hm, w'⟩ := out
      obtain ⟨tk, rfl⟩ : ∃ tk, v = .int k tk := r
      have own := ig.own I'
      rw [e1] at own
      -- the state behind the store
      have next : ∀ (tq : Tok) (c2 : Nat) (h2 : Heap) (tks : Nat) (st2 : Int), (st2 = 0 ∨ st2 = 2) → (∀ b u, b ≠ S → s'.heap.get? b = some u → h2.get? b = some u) → h2.get? S = some (lsO #[.int (ns.sum + k) tq] c2) →
          codeAny (model X.prog X.w) B (.builtin "sum.loop" ⟨[.ref a, .ref S, rawInt st2, rawInt 0], []⟩) R { s' with heap := h2, toks := tks } := fun tq c2 h2 tks st2 hst2 oth self =>
        ih (i' + 1) m'' _ _ H' _ st2 hst2 (cont m'' [(S, lsO #[.int (ns.sum + k) tq] c2)] h2 tks hm w' ⟨ns' ++ [k], tq, c2, by rw [List.map_append]; rfl, by rw [sum_snoc, e1]⟩ (ig.put I' oth self fun u z => nomatch z) (ig.tnp I' st' oth))
      have oth1 : ∀ {f : Array Value → Array Value} {h : Heap}, (∀ b u, b ≠ S → s'.heap.get? b = some u → h.get? b = some u) → ∀ b u, b ≠ S → s'.heap.get? b = some u → (h.update S (Obj.mapSeq f)).get? b = some u := fun hh b u nb e => (Heap.get?_update_other _ _ (Ne.symm nb)).trans (hh b u nb e)
      have o0 : ∀ b u, b ≠ S → s'.heap.get? b = some u → s'.heap.get? b = some u := fun _ _ _ e => e
      rcases hst with rfl | rfl
      · show wpAny _ B.in1 (if (_ : Bool) = true then (mkInt (ns.sum + k) >>= _) else _) _ _ _
        split
        · refine wpAny_bind (wpAny_mkInt ?_)
          show wpAny _ B.in1 (updateSeq S (fun _ => #[.int (ns.sum + k) s'.toks]) >>= _) _ _ _
          exact wpAny_bind (wpAny_updateSeq own rfl (wpAny_pure ⟨plainId_quiet F.plain_sum_loop _, next s'.toks _ _ _ 0 (.inl rfl) (oth1 o0) (Heap.get?_update_self _ own rfl)⟩))
        · refine wpAny_bind (wpAny_rule (wpAny_bind (wpAny_attempt (wpAny_holding (wpAny_add_int ?_)))))
          show wpAny _ B.in1 (updateSeq S (fun _ => #[.int (ns.sum + k) s'.toks]) >>= _) _ _ _
          refine wpAny_bind (wpAny_updateSeq own rfl ?_)
          have own2 := Heap.get?_update_self (Obj.mapSeq fun _ => #[Value.int (ns.sum + k) s'.toks]) own rfl
          exact wpAny_bind (wpAny_letGo (wpAny_bind (wpAny_updateSeq own2 rfl (wpAny_pure ⟨plainId_quiet F.plain_sum_loop _, next s'.toks _ _ _ 2 (.inr rfl) (oth1 (oth1 o0)) (Heap.get?_update_self _ own2 rfl)⟩))))
      · show wpAny _ B.in1 ((holding [Value.int k tk] (binaryOp .Add (.int ns.sum t') (.int k tk))).attempt >>= _) _ _ _
        refine wpAny_bind (wpAny_attempt (wpAny_holding (wpAny_add_int ?_)))
        show wpAny _ B.in1 (updateSeq S (fun _ => #[.int (ns.sum + k) s'.toks]) >>= _) _ _ _
        refine wpAny_bind (wpAny_updateSeq own rfl ?_)
        have own2 := Heap.get?_update_self (Obj.mapSeq fun _ => #[Value.int (ns.sum + k) s'.toks]) own rfl
        exact wpAny_bind (wpAny_letGo (wpAny_bind (wpAny_updateSeq own2 rfl (wpAny_pure ⟨plainId_quiet F.plain_sum_loop _, next s'.toks _ _ _ 2 (.inr rfl) (oth1 (oth1 o0)) (Heap.get?_update_self _ own2 rfl)⟩))))
    · obtain ⟨ns', t', c', rfl, rfl⟩ := hX
      have e0 := (h00 (S, lsO #[.int ns'.sum t'] c') (by simp)).symm.trans own0
      have es : ns'.sum = ns.sum ∧ t' = t ∧ c' = c := by
        simp only [Option.some.injEq, Obj.mk.injEq, Data.seq.injEq, Array.mk.injEq, List.cons.injEq, Value.int.injEq] at e0
        exact ⟨e0.2.2.1.1.1.1, e0.2.2.1.1.1.2, e0.2.2.1.2⟩
      obtain ⟨e1, rfl, rfl⟩ := es
      have := hR ns' t' H' s' fin (ig.back I')
      rw [e1] at this
      exact wpAny_pure this
theorem gx_sum {Q : Value → Shared → Prop} {E : Value → Shared → Prop} {m : Nat} {H : Hp} {s : Shared} (ig : IGokL X pins σ a gn tn IG) (hA : B.handled = none) (hd : B.depth < recursionLimit)
    (G : GStartL X B.in1 IG tn fp W (outN W) Fin gn m H s) (hQ : ∀ (ns : List Int) (t : Tok) (H' : Hp) (s' : Shared), Fin (ns.map V.int) H' → Inv X pins σ H' s' → Q (.int ns.sum t) s') :
    wpAny (model X.prog X.w) B (call (.builtin "sum") [.ref a]) Q E s := by
  have g0 := ig.isgen G.1
  refine call_function_tree F.kind_sum F.plain_sum F.entry_sum (F.args_sum1 _) ?_
  unfold Builtin.«sum»
  simp only [List.length_cons, List.length_nil]
  rw [if_neg (by decide)]
  refine wpAny_bind (wpAny_of_eq (show Builtin.Builtins.bindParams "sum" ["start"] 0 { } = pure [none] from rfl) (wpAny_bind (wpAny_pyIter_gen g0 (wpAny_bind (wpAny_mkInt (wpAny_bind (wpAny_pure ?_)))))))
  simp only [List.forIn_cons, List.forIn_nil]
  refine wpAny_bind (wpAny_bind (wpAny_bind (wpAny_isInstance (T := "int") (b := false) (typeIs_int _ _ _) PySem.sub_int_str ?_)))
  simp only [Bool.false_eq_true, if_false]
  refine wpAny_pure (wpAny_bind (wpAny_bind (wpAny_isInstance (T := "int") (b := false) (typeIs_int _ _ _) PySem.sub_int_bytes ?_)))
  simp only [Bool.false_eq_true, if_false]
  refine wpAny_pure (wpAny_bind (wpAny_bind (wpAny_isInstance (T := "int") (b := false) (typeIs_int _ _ _) PySem.sub_int_bytearray ?_)))
  simp only [Bool.false_eq_true, if_false]
  refine wpAny_pure (wpAny_pure (wpAny_bind (wpAny_newObj_type ?_)))
  have k1 : ∀ b u, s.heap.get? b = some u → (s.heap.push { cls := .type "list", data := .seq ([Value.int 0 s.toks] : List Value).toArray }).get? b = some u := fun b u e => Heap.get?_push_of_some _ e
  have gS : (s.heap.push { cls := .type "list", data := .seq ([Value.int 0 s.toks] : List Value).toArray }).get? s.heap.objs.size = some (lsO #[.int ([] : List Int).sum s.toks] 0) := Heap.get?_push_size _ rfl
  exact wpAny_pure ⟨plainId_quiet F.plain_sum_loop _, gx_sumloop ig hA hd (fun ns t H' s' fin I' => hQ ns t H' s' fin I') (m + 1) 0 m [] _ H _ 0 (.inl rfl) (G.run (PX := pxN s.heap.objs.size) ⟨[], s.toks, 0, rfl, rfl⟩ (ig.add (tk := _) G.1 k1 (Nat.le_refl _) gS fun u z => nomatch z) (ig.tnk G.2.1 k1))⟩
end
def tSumG (T : Addr) (wi : TI) (g : TG) (tt : TT) (te : TE) (vs : List Nat) : TE := fun σ H Q => wi σ H fun J H1 => GxR.TabG H1 T ∧ ∀ H2, GxR.Tabbed T H1 H2 → ∃ W : Nat → Nat → List V → Hp → Prop, (∃ m, W 0 m [] H2) ∧
  GTurnsL J g tt te vs σ W (outN W) (fun ys H' => ∀ ns : List Int, ys = ns.map V.int → Q (.int ns.sum) H')
section
variable {X : Cx} {pins : List (Addr × Obj)} {σ : L2.St}
theorem pe_sumG {c T : Addr} {elt tg iter : Expr} {ifs : List Expr} {scope : Scope} {own : List (Str × Nat)} {gpos p pos : Pos} {wi : TI} {g : TG} {tt : TT} {te : TE} {k : Nat}
    (hr : Room (k + 1) X.A) (hgl : Gl X "sum") (hm : X.mg "sum" = none) (hc : X.calm = true) (hN : X.N.Nodup) (TB : GxR.TabB X.base X.mg c T) (hcode : X.env.code = .ref c) (ok : GOk X.N X.env.scope scope own) (hi : PI X tg iter wi)
    (hg : ∀ (A' : Around) (s3 : Shared) (H3 : Hp) (C : Addr) (code : Value) (fp : List Addr), PG (gxc X A' s3 H3 (genE X scope C code) fp) tg g)
    (ht : ∀ (A' : Around) (s3 : Shared) (H3 : Hp) (C : Addr) (code : Value) (fp : List Addr), Room k A' → PTs (gxc X A' s3 H3 (genE X scope C code) fp) ifs tt)
    (he : ∀ (A' : Around) (s3 : Shared) (H3 : Hp) (C : Addr) (code : Value) (fp : List Addr), Room k A' → PE (gxc X A' s3 H3 (genE X scope C code) fp) elt te)
    (hs : ∀ v, genFold iter X.env v = pure v := by intro _; rfl)
    (hst : starEach [.GeneratorExp elt [⟨tg, iter, ifs, 0⟩] scope gpos] X.env = (false, eval (.GeneratorExp elt [⟨tg, iter, ifs, 0⟩] scope gpos) X.env) :: starEach [] X.env := by rfl) :
    PE X (.Call (.Name "sum" p) [.GeneratorExp elt [⟨tg, iter, ifs, 0⟩] scope gpos] [] pos) (tSumG T wi g tt te (own.map (·.2))) := by
  refine ⟨fun pins s σ H Q I h => wpAny_Call_Name_kw (ld_blt I hgl hm (show bootBuiltins "sum" = some (.builtin "sum") by decide +kernel) ?_)⟩
  refine PyProof.Rows.callWith_builtin1 ?_ hst (by rfl)
  rw [hst]
  have hA := I.ok.hd hc
  have hf := I.ok.frames
  refine Calls.spliced_cons (gx_mkL (Outf := outN) (Fin := fun ys H' => ∀ ns : List Int, ys = ns.map V.int → Q (.int ns.sum) H')
    X.A.in1 hA hf (Nat.le_refl _) (by show X.A.units + 1 ≤ _; omega) hr hc hN TB hcode ok hi hg ht he hs I h ?_)
  intro IG tn fp W a gn m H2 s5 ig G
  exact Calls.spliced_nil (gx_sum ig hA (Nat.lt_of_le_of_lt (by omega : X.A.depth ≤ X.A.depth + 3 * (k + 1) + 5) hr.dp) G fun ns t H' s' fin I' => ⟨.int ns.sum, H', I', ⟨t, rfl⟩, fin ns rfl⟩)
end
/-! ### sorted(..) of what gives texts -/
def leS (a b : Str) : Prop := a.cps.toList ≤ b.cps.toList
theorem leS_of {a b : Str} (h : ltCps b.cps.toList a.cps.toList = false) : leS a b := by
  rw [ltCps_eq] at h
  exact List.not_lt.mp (of_decide_eq_false h)
theorem str_ext {a b : Str} (h : a.cps.toList = b.cps.toList) : a = b := by
  cases a with
  | mk x => cases b with
    | mk y =>
      have : x = y := Array.toList_inj.mp h
      rw [this]
theorem leS_trans {a b c : Str} (h1 : leS a b) (h2 : leS b c) : leS a c := List.le_trans h1 h2
theorem leS_anti {a b : Str} (h1 : leS a b) (h2 : leS b a) : a = b := str_ext (List.le_antisymm h1 h2)
theorem rising_pw : ∀ (p : Str) (l : List Str), risingS p l = true → (p :: l).Pairwise leS
  | p, [], _ => List.pairwise_singleton _ _
  | p, x :: r, h => by
    have h' : (!ltCps x.cps.toList p.cps.toList && risingS x r) = true := h
    rw [Bool.and_eq_true] at h'
    have le : leS p x := leS_of (by simpa using h'.1)
    have ih := rising_pw x r h'.2
    refine List.pairwise_cons.mpr ⟨fun y hy => ?_, ih⟩
    rcases List.mem_cons.mp hy with rfl | hy
    · exact le
    · exact leS_trans le (List.rel_of_pairwise_cons ih hy)
theorem sorted_pw {l : List Str} (h : sortedS l = true) : l.Pairwise leS := by
  cases l with
  | nil => exact .nil
  | cons x r => exact rising_pw x r h
/-- two sorted lists of the same texts are one -/
theorem sorted_one {l r : List Str} (p : l.Perm r) (h1 : sortedS l = true) (h2 : sortedS r = true) : l = r :=
  List.Perm.eq_of_pairwise (fun a b _ _ x y => leS_anti x y) (sorted_pw h1) (sorted_pw h2) p
theorem sorted_by {prog : Program} {w : World} {A : Around} {E : Value → Shared → Prop} {s : Shared} {x : Value} {Q : Value → Shared → Prop}
    (h : wpAny (model prog w) A.in1 (collect x) (fun vs s1 => ∃ ss, StrsAre vs ss ∧ vs.length < 64 ∧ ∀ (out : Array Value) (ss' : List Str) (h' : Heap) (ep : Nat), StrsAre out.toList ss' → ss'.Perm ss → sortedS ss' = true →
      (∀ b o, s1.heap.get? b = some o → h'.get? b = some o) → h'.get? s1.heap.objs.size = some (seqObj "list" out ep) → Q (.ref s1.heap.objs.size) { s1 with heap := h' }) E s) :
    wpAny (model prog w) A (call (.builtin "sorted") [x]) Q E s := by
  refine Calls.call_function_entry kind_sorted plain_sorted entry_sorted (args_sorted1 _) ?_
  unfold Builtin.«sorted»
  refine wpAny_bind (m := checkCount "sorted" 1 1 _) (wpAny_pure (wpAny_bind (wpAny_mono h (fun vs s1 ⟨ss, hS, h64, hq⟩ => ?_) fun _ _ e => e)))
  have hoL : (s1.heap.push (seqObj "list" vs.toArray 0)).get? s1.heap.objs.size = some (seqObj "list" vs.toArray 0) := Heap.get?_push_size _ rfl
  refine wpAny_bind (wpAny_newList (wpAny_bind (wpAny_holding (wpAny_call_entry slot_list_sort ⟨_, hoL, rfl⟩ entry_list_sort (list_sort_treeK strKind_oneLt hoL hS.keysOf (fun v1 v2 rest e => keyKind_strs (by rw [← e]; exact hS)) h64 fun st' hp hs => ⟨_, rfl, ?_⟩) (args_list_sort _)))))
  obtain ⟨ss', h1, h2, h3⟩ := sorted_out_str hS hp hs
  obtain ⟨ep, he⟩ := sortedHeap_at (out := (arrOf st').map (·.2)) hoL
  refine wpAny_pure ⟨_, rfl, hq _ ss' _ ep h1 h2 h3 (fun b o e => ?_) he⟩
  have lt := Heap.lt_size e
  rw [sortedHeap_old (Nat.ne_of_lt lt) (by rw [Heap.size_push]; exact Nat.lt_succ_of_lt lt)]
  exact Heap.get?_push_of_some _ e
/-- of a tuple of texts -/
theorem cr_sortedTS {X : Cx} : CallR X (.builtin "sorted") (fun vs H Q => ∃ (a : Addr) (xs : List Str), vs = [.ref a] ∧ SqT X.K H a (xs.map V.str) ∧ xs.length < 64 ∧
    ∀ (ys : List Str) (p : Addr), ys.Perm xs → sortedS ys = true → H p = none → Q (.ref p) (upd H p (.lst (ys.map V.str)))) := by
  rintro pins s σ H vs us Q I r ⟨a, xs, rfl, hs, h64, q⟩
  rw [Vals.ref1 r]
  obtain ⟨its, rv, ⟨o, e1, e2, n, e3⟩, hz⟩ := I.tuple hs
  have l0 := rv.length
  rw [List.length_map] at l0
  refine sorted_by (wpAny_collect_seq a (.inr rfl) e1 e2 e3 (fun h1 k1 => ⟨xs, ?_, ?_, fun out ys h' ep g1 g2 g3 k2 g4 => ?_⟩) (by rw [List.size_toArray, ← rv.length]; exact hz))
  · exact rv.strs
  · show its.length < 64
    rw [← l0]
    exact h64
  · have I1 := I.kept (t' := s.toks) k1
    have hlen : (ys.map V.str).length ≤ sizeLine := by rw [List.length_map, g2.length_eq]; exact small64 h64
    exact ⟨.ref h1.objs.size, upd H h1.objs.size (.lst (ys.map V.str)), I1.laid (t' := s.toks) k2 (Nat.le_refl _) ⟨hlen, out.toList, ep, vals_of_strs g1, by rw [g4]⟩, rfl, q ys _ g2 g3 (I1.hok.fresh (Nat.le_refl _))⟩
/-! ### the pen: what a script is drawn from -/
theorem same_new {H : Hp} {p : Addr} {o : HO} (h : H p = none) : Same H (upd H p o) := fun b x e => (upd_ne (ne_of_none e h)).trans e
/-- all but the object at p is as it was -/
def But (p : Addr) (H H' : Hp) : Prop := ∀ b o, H b = some o → b ≠ p → H' b = some o
theorem But.refl (p : Addr) (H : Hp) : But p H H := fun _ _ e _ => e
theorem But.of {p : Addr} {H H' : Hp} (h : Same H H') : But p H H' := fun b o e _ => h b o e
theorem But.tr {p : Addr} {H H1 H2 : Hp} (a : But p H H1) (b : But p H1 H2) : But p H H2 := fun c o e n => b c o (a c o e n) n
theorem But.to {p : Addr} {H H1 : Hp} (a : But p H H1) {l : Addr} {o : HO} (h : H l = none) (n : H p ≠ none) : But p H (upd H1 l o) := fun c u e nc => (upd_ne (ne_of_none e h)).trans (a c u e nc)
theorem dget_s {H : Hp} {p : Addr} {kvs : List (Key × V)} {x : Str} {v : V} (h : H p = some (.dK kvs)) (e : valV kvs (Sum.inr x) = some v) : DGet H p (.str x) (some v) := .inl ⟨kvs, Sum.inr x, .inl h, rfl, e.symm⟩
theorem dput_s {H : Hp} {p : Addr} {kvs : List (Key × V)} {x : Str} {v : V} (h : H p = some (.dK kvs)) (hl : kvs.length < sizeLine) : DPut H p (.str x) v (upd H p (.dK (putK kvs (Sum.inr x) v))) := .inl ⟨kvs, Sum.inr x, h, rfl, hl, rfl⟩
theorem put_len {kvs : List (Key × V)} {k : Key} {v u : V} (e : valV kvs k = some u) : (putK kvs k v).length = kvs.length := by
  have h := valV_any k kvs
  rw [e] at h
  have h' : (kvs.any fun kv => decide (kv.1 = k)) = true := h
  unfold putK
  rw [if_pos h', List.length_map]
abbrev kCells : Key := Sum.inr "cells"
abbrev kAt : Key := Sum.inr "at"
abbrev kLeft : Key := Sum.inr "left"
theorem nCA : ¬ kCells = kAt := by decide +kernel
theorem nCL : ¬ kCells = kLeft := by decide +kernel
theorem nAL : ¬ kAt = kLeft := by decide +kernel
theorem nLA : ¬ kLeft = kAt := by decide +kernel
/-- a pen stands at p, its cells at c; at most n have been drawn -/
structure PenAt (H : Hp) (p c : Addr) (n : Nat) : Prop where
  ex : ∃ (kvs : List (Key × V)) (ns : List Int) (a l : Int), H p = some (.dK kvs) ∧ kvs.length ≤ 3 ∧ valV kvs kCells = some (.ref c) ∧ valV kvs kAt = some (.int a) ∧ valV kvs kLeft = some (.int l) ∧ H c = some (.lst (ns.map V.int)) ∧ 0 ≤ a ∧ a ≤ n ∧ 0 ≤ l
theorem PenAt.same {H H' : Hp} {p c : Addr} {n : Nat} (P : PenAt H p c n) (h : Same H H') : PenAt H' p c n := by
  obtain ⟨kvs, ns, a, l, h1, h2, h3, h4, h5, h6, h7⟩ := P.ex
  exact ⟨kvs, ns, a, l, h _ _ h1, h2, h3, h4, h5, h _ _ h6, h7⟩
theorem PenAt.there {H : Hp} {p c : Addr} {n : Nat} (P : PenAt H p c n) : H p ≠ none := by
  obtain ⟨kvs, ns, a, l, h1, _⟩ := P.ex
  rw [h1]
  exact fun z => nomatch z
theorem PenAt.cells {H : Hp} {p c : Addr} {n : Nat} (P : PenAt H p c n) : H c ≠ none := by
  obtain ⟨kvs, ns, a, l, _, _, _, _, _, h1, _⟩ := P.ex
  rw [h1]
  exact fun z => nomatch z
theorem PenAt.upd {H : Hp} {p c l : Addr} {n : Nat} {o : HO} (P : PenAt H p c n) (h1 : l ≠ p) (h2 : l ≠ c) : PenAt (L2.upd H l o) p c n := by
  obtain ⟨kvs, ns, a, x, g1, g2, g3, g4, g5, g6, g7⟩ := P.ex
  exact ⟨kvs, ns, a, x, (upd_ne h1.symm).trans g1, g2, g3, g4, g5, (upd_ne h2.symm).trans g6, g7⟩
theorem PenAt.mono {H : Hp} {p c : Addr} {n m : Nat} (P : PenAt H p c n) (h : n ≤ m) : PenAt H p c m := by
  obtain ⟨kvs, ns, a, l, g1, g2, g3, g4, g5, g6, g7, g8, g9⟩ := P.ex
  exact ⟨kvs, ns, a, l, g1, g2, g3, g4, g5, g6, g7, by omega, g9⟩
theorem dp_ints {K : PySem.W.Frag} {H : Hp} : ∀ ns : List Int, DpAll K H (ns.map V.int) (ns.map PyData.int)
  | [] => .nil
  | n :: r => .cons (.int n) (dp_ints r)
/-- what a draw promises: a number below many, the pen drawn once more, nothing else touched -/
def spTake : Sp := fun vs H Q _ => ∃ (p c : Addr) (n : Nat) (m : Int), vs = [.ref p, .int m] ∧ PenAt H p c n ∧ n ≤ 100000 ∧ 1 ≤ m ∧ m ≤ 1000000000 ∧
  ∀ (r : Int) (H' : Hp), 0 ≤ r → r < m → PenAt H' p c (n + 1) → But p H H' → Q (.int r) H'
def spPen (K : PySem.W.Frag) : Sp := fun vs H Q _ => ∃ (a : Addr) (ns : List Int), vs = [.ref a] ∧ SqL K H a (ns.map V.int) ∧
  ∀ (p c : Addr) (H' : Hp), H p = none → H c = none → PenAt H' p c 0 → Same H H' → Q (.ref p) H'
theorem mem_cut {α : Type} {xs : List α} {lo hi : Nat} : ∀ x ∈ (xs.drop lo).take hi, x ∈ xs := fun x h => List.mem_of_mem_drop (List.mem_of_mem_take h)
theorem cut_ints (ns : List Int) (lo hi : Option Int) : ∃ ms : List Int, cutV (ns.map V.int) lo hi = ms.map V.int := by
  unfold cutV
  rw [← List.map_drop, ← List.map_take]
  exact ⟨_, rfl⟩
section
variable {P : Program} {w : World} {K : PySem.W.Frag} {mg : Str → Option Value} {base : Heap}
theorem scPen : FnScope ["_law_script"] ["_law_script"] (defScope sPen) := ⟨rfl, rfl, rfl, by decide +kernel, rfl, by decide +kernel, by decide +kernel⟩
theorem scTake : FnScope ["_law_pen_here", "_law_many_here", "_law_found", "_law_at", "_law_cells", "_law_cell", "_law_one", "_law_two"] ["_law_pen_here", "_law_many_here"] (defScope sTake) := ⟨rfl, rfl, rfl, by decide +kernel, rfl, by decide +kernel, by decide +kernel⟩
theorem ok_pen {f : Addr} {fd : FuncData} (F : Fun K "_law_pen" "_law_pen" sPen f fd) (ml : mg "list" = none) : FnOk P w K mg base CX0 1 f fd ["_law_script"] (spPen K) := by
  refine F.ok scPen (fun vs H Q E h => ?_) (fun cdv A outer s H vs Q E hr h => ?_)
  · obtain ⟨a, ns, rfl, _⟩ := h
    rfl
  · obtain ⟨a, ns, rfl, hS, q⟩ := h
    refine ⟨_, pss_one (ps_ret (pe_disp (pps_cons pe_str (pe_callTy call_list_of (by rfl) ml (by decide +kernel) (pa_cons (pe_slice sl_list (pv 0) po_none (po_some pe_int)) pa_nil))
      (pps_cons pe_str pe_int (pps_cons pe_str pe_int pps_nil))) (by rfl) (by rfl) (fun z => by cases z) (by decide))), ?_⟩
    refine fun p np => ?_
    have s1 : Same H (upd H p (.dK [])) := same_new np
    refine ⟨.ref a, rfl, 63, rfl, a, ns.map V.int, rfl, s1.seq hS, fun t nt => ?_⟩
    obtain ⟨ms, em⟩ := cut_ints ns none (some 63)
    have s2 : Same (upd H p (.dK [])) (upd (upd H p (.dK [])) t (.lst (cutV (ns.map V.int) none (some 63)))) := same_new nt
    refine ⟨t, _, rfl, .inl (SqL.of upd_same), fun c nc => ?_⟩
    have s3 := @same_new _ _ (.lst (cutV (ns.map V.int) none (some 63))) nc
    have hp := s3 _ _ (s2 _ _ upd_same)
    refine ⟨hp, [(kCells, .ref c), (kAt, .int 0), (kLeft, .int 0)], rfl, (by show 3 ≤ 15; decide), ?_⟩
    have s4 := s1.trans (s2.trans s3)
    have npc : p ≠ c := ne_of_none (s2 _ _ upd_same) nc
    refine q p c _ np (s1.free (s2.free nc)) ⟨_, ms, 0, 0, upd_same, (by exact Nat.le_refl 3), ?_, ?_, ?_, ?_, Int.le_refl _, Int.le_refl _, Int.le_refl _⟩ fun b o e => (upd_ne (ne_of_none e np)).trans (s4 b o e)
    · rfl
    · rfl
    · rfl
    · rw [upd_ne npc.symm, upd_same, em]
theorem ok_take {f : Addr} {fd : FuncData} (F : Fun K "_law_take" "_law_take" sTake f fd) (mlen : mg "len" = none) (mabs : mg "abs" = none) : FnOk P w K mg base CX0 1 f fd ["_law_pen_here", "_law_many_here"] spTake := by
  refine F.ok scTake (fun vs H Q E h => ?_) (fun cdv A outer s H vs Q E hr h => ?_)
  · obtain ⟨p, c, n, m, rfl, _⟩ := h
    rfl
  · obtain ⟨p, c, n, m, rfl, pen, hn, m1, m2, q⟩ := h
    have hu := hu_of hr
    have nd := scTake.nd
    refine ⟨_, pss_cons (ps_if (pt_cmpR op_gt (pe_dget hu (pv 0) pe_str (fun _ _ => rfl)) pe_int (nomark _))
        (pss_cons (ps_set (i := 2) nd rfl (Or.inl rfl) (pe_op op_mod (pe_dget hu (pv 0) pe_str (fun _ _ => rfl)) (pv 1)))
        (pss_cons (ps_dput hu (pv 0) pe_str (pe_op op_fdiv (pe_dget hu (pv 0) pe_str (fun _ _ => rfl)) (pv 1)) rfl)
        (pss_one (ps_ret (pv 2))))) pss_nil)
      (pss_cons (ps_set (i := 3) nd rfl (Or.inl rfl) (pe_dget hu (pv 0) pe_str (fun _ _ => rfl)))
      (pss_cons (ps_dput hu (pv 0) pe_str (pe_op op_add (pv 3) pe_int) rfl)
      (pss_cons (ps_set (i := 4) nd rfl (Or.inl rfl) (pe_dget hu (pv 0) pe_str (fun _ _ => rfl)))
      (pss_cons (ps_set (i := 5) nd rfl (Or.inl rfl) (pe_op op_add (pe_op op_add (pe_op op_mul (pe_op op_mul pe_int (pv 3)) (pv 3)) (pe_op op_mul pe_int (pv 3))) pe_int))
      (C8.pss_cut (ps_if (pt_cmpR (op_neD hr.units) (pv 4) (pe_lst pa_nil) (nomark _))
        (pss_one (ps_set (i := 5) nd rfl (Or.inl rfl) (pe_ix ix_list (pv 4) (pe_op op_mod (pv 3) (pe_callB call_len_seq (by rfl) mlen PySem.boot_len (pa_cons (pv 4) pa_nil))) (fun _ _ => rfl)))) pss_nil)
      (C8.pss_cut (ps_if (PW.pt (pw_and (pt_cmpR op_lt (pv 3) (pe_callB call_len_seq (by rfl) mlen PySem.boot_len (pa_cons (pv 4) pa_nil)) (nomark _))
          (pw_and1 (pt_cmpR op_ge (pe_callB call_abs (by rfl) mabs (by decide +kernel) (pa_cons (pv 5) pa_nil)) (pe_op op_pow pe_int pe_int) (nomark _)))))
        (pss_cons (ps_dput hu (pv 0) pe_str (pe_op op_fdiv (pe_callB call_abs (by rfl) mabs (by decide +kernel) (pa_cons (pv 5) pa_nil)) (pv 1)) rfl)
        (pss_one (ps_ret (pe_op op_mod (pe_callB call_abs (by rfl) mabs (by decide +kernel) (pa_cons (pv 5) pa_nil)) (pv 1))))) pss_nil)
      (pss_cons (ps_set (i := 6) nd rfl (Or.inl rfl) (pe_op op_mod (pe_op op_pow (pe_op op_add (pe_op op_add (pe_op op_mod (pv 5) pe_int) (pe_op op_mul pe_int (pv 3))) pe_int) pe_int) pe_int))
      (pss_cons (ps_set (i := 7) nd rfl (Or.inl rfl) (pe_op op_mod (pe_op op_pow (pe_op op_add (pe_op op_add (pv 6) (pe_op op_mul (pe_op op_mul pe_int (pv 3)) (pv 3))) pe_int) pe_int) pe_int))
      (pss_one (ps_ret (pe_op op_mod (pe_op op_fdiv (pe_op op_mod (pe_op op_mul (pv 7) (pe_op op_add (pe_op op_mod (pv 6) pe_int) pe_int)) pe_int) pe_int) (pv 1)))))))))))), ?_⟩
    obtain ⟨kvs, ns, a, l, g1, g2, g3, g4, g5, g6, g7, g8, g9⟩ := pen.ex
    have hsz : kvs.length < sizeLine := small1000 (by omega)
    have npc : p ≠ c := ne_of g1 g6 (by intro z; cases z)
    -- the left
    refine ⟨_, rfl, p, _, rfl, dget_s g1 g5, l, 0, rfl, rfl, _, rfl, ite2 (fun e => ?_) (fun e => ?_)⟩
    · have e' : 0 < l := of_decide_eq_true e
      refine ⟨_, rfl, p, _, rfl, dget_s g1 g5, _, rfl, l, m, rfl, rfl, (by show (0 : Int) < m; omega), ?_⟩
      refine ⟨_, rfl, p, _, rfl, dget_s g1 g5, _, rfl, l, m, rfl, rfl, ⟨by omega, by omega⟩, _, rfl, p, _, rfl, dput_s g1 hsz, _, rfl, ?_⟩
      refine q _ _ (Int.emod_nonneg _ (by omega)) (Int.emod_lt_of_pos _ (by omega)) ⟨_, ns, a, l / m, upd_same, (by rw [put_len g5]; exact g2), ?_, ?_, ?_, ?_, g7, by omega, Int.ediv_nonneg (by omega) (by omega)⟩ fun b o z nb => (upd_ne nb).trans z
      · rw [valV_put, if_neg nCL]; exact g3
      · rw [valV_put, if_neg nAL]; exact g4
      · rw [valV_put, if_pos rfl]
      · rw [upd_ne npc.symm]; exact g6
    · -- a new cell
      refine ⟨_, rfl, p, _, rfl, dget_s g1 g4, ?_⟩
      refine ⟨_, rfl, a, 1, rfl, rfl, _, rfl, p, _, rfl, dput_s g1 hsz, ?_⟩
      have k1 : (upd H p (.dK (putK kvs kAt (.int (a + 1))))) p = some (.dK (putK kvs kAt (.int (a + 1)))) := upd_same
      have v3 : valV (putK kvs kAt (.int (a + 1))) kCells = some (.ref c) := by rw [valV_put, if_neg nCA]; exact g3
      have v4 : valV (putK kvs kAt (.int (a + 1))) kAt = some (.int (a + 1)) := by rw [valV_put, if_pos rfl]
      have v5 : valV (putK kvs kAt (.int (a + 1))) kLeft = some (.int l) := by rw [valV_put, if_neg nLA]; exact g5
      have k2 : (putK kvs kAt (.int (a + 1))).length ≤ 3 := by rw [put_len g4]; exact g2
      have k6 : (upd H p (.dK (putK kvs kAt (.int (a + 1))))) c = some (.lst (ns.map V.int)) := by rw [upd_ne npc.symm]; exact g6
      generalize putK kvs kAt (.int (a + 1)) = kw at k1 k2 k6 v3 v4 v5
      refine ⟨_, rfl, p, _, rfl, dget_s k1 v3, ?_⟩
      refine ⟨_, rfl, 70207, a, rfl, rfl, .inl ⟨by decide, by decide⟩, _, rfl, _, a, rfl, rfl, .inr ⟨by omega, by omega⟩, _, rfl, 131, a, rfl, rfl, .inl ⟨by decide, by decide⟩, _, _, rfl, rfl, _, 29, rfl, rfl, ?_⟩
      refine ⟨fun σ' H' => ∃ x : Int, σ' = [some (.ref p), some (.int m), none, some (.int a), some (.ref c), some (.int x), none, none] ∧ Same (upd H p (.dK kw)) H', ?_, ?_⟩
      · refine ⟨_, rfl, Nat.zero_le _, fun t nt => ?_⟩
        have s1 := @same_new _ _ (.lst []) nt
        refine ⟨.list (ns.map PyData.int), .list [], .lst (SqL.of (s1 _ _ k6)) (dp_ints ns), .lst (SqL.of upd_same) .nil, PySem.W.ke_shaped_ints ns, PySem.W.ke_shaped_ints [], _, rfl, ?_⟩
        cases e2 : (!PyData.eqv (.list (ns.map PyData.int)) (.list [])) with
        | false => exact iteF ⟨_, rfl, s1⟩
        | true =>
          refine iteT ?_
          have hne : ns ≠ [] := fun z => by
            subst z
            rw [show PyData.eqv (.list (([] : List Int).map PyData.int)) (.list []) = true from rfl] at e2
            cases e2
          have hlen : 0 < ns.length := List.length_pos_iff.mpr hne
          have hlt : (a % (ns.length : Int)).toNat < ns.length := by
            have h1 := Int.emod_nonneg a (show (ns.length : Int) ≠ 0 by omega)
            have h2 := Int.emod_lt_of_pos a (show (0 : Int) < ns.length by omega)
            omega
          refine ⟨_, rfl, _, rfl, _, rfl, c, _, rfl, .inl (SqL.of (s1 _ _ k6)), a, _, rfl, rfl, ?_, c, _, _, .int ns[(a % (ns.length : Int)).toNat], rfl, rfl, SqL.of (s1 _ _ k6), ?_, _, rfl, s1⟩
          · show (0 : Int) < ((ns.map V.int).length : Int)
            rw [List.length_map]; omega
          · rw [List.length_map]
            refine at_of (j := (a % (ns.length : Int)).toNat) (Int.toNat_of_nonneg (Int.emod_nonneg a (show (ns.length : Int) ≠ 0 by omega))).symm ?_
            rw [List.getElem?_map, List.getElem?_eq_getElem hlt]
            rfl
      · rintro σ' H2 ⟨x, rfl, s1⟩
        have j1 := s1 _ _ k1
        have j6 := s1 _ _ k6
        have bt : But p H H2 := fun b o z nb => s1 _ _ ((upd_ne nb).trans z)
        have absn : (0 : Int) ≤ if x < 0 then -x else x := by split <;> omega
        have fin : ∀ r : Int, 0 ≤ r → r < m → Q (.int r) H2 := fun r r1 r2 => q r H2 r1 r2 ⟨kw, ns, a + 1, l, j1, k2, v3, v4, v5, j6, by omega, by omega, g9⟩ bt
        have a2 : 0 ≤ 1213 * a * a ∧ 1213 * a * a ≤ 121300000 * 100000 := ⟨Int.mul_nonneg (by omega) g7, Int.mul_le_mul (by omega) (by omega) g7 (by decide)⟩
        refine ⟨fun σ' H' => σ' = [some (.ref p), some (.int m), none, some (.int a), some (.ref c), some (.int x), none, none] ∧ H' = H2, ?_, ?_⟩
        · refine ⟨_, rfl, _, rfl, c, _, rfl, .inl (SqL.of j6), a, _, rfl, rfl, _, rfl, ?_⟩
          refine ite2 (fun _ => ?_) (fun _ => ?_)
          · refine ⟨_, rfl, x, rfl, 10, 18, rfl, rfl, ⟨by decide, by decide, by decide⟩, _, _, rfl, rfl, _, rfl, ite2 (fun _ => ?_) (fun _ => ⟨rfl, rfl⟩)⟩
            refine ⟨_, rfl, x, rfl, _, rfl, _, m, rfl, rfl, ⟨by omega, by omega⟩, _, rfl, p, _, rfl, dput_s j1 (small1000 (by omega)), ?_⟩
            refine ⟨_, rfl, x, rfl, _, rfl, _, m, rfl, rfl, (by show (0 : Int) < m; omega), ?_⟩
            refine q _ _ (Int.emod_nonneg _ (by omega)) (Int.emod_lt_of_pos _ (by omega)) ⟨_, ns, a + 1, (if x < 0 then -x else x) / m, upd_same, (by rw [put_len v5]; exact k2), ?_, ?_, ?_, ?_, by omega, by omega, Int.ediv_nonneg absn (by omega)⟩ fun b o z nb => (upd_ne nb).trans (bt b o z nb)
            · rw [valV_put, if_neg nCL]; exact v3
            · rw [valV_put, if_neg nAL]; exact v4
            · rw [valV_put, if_pos rfl]
            · rw [upd_ne npc.symm]; exact j6
          · exact iteF ⟨rfl, rfl⟩
        · rintro σ' H' ⟨rfl, rfl⟩
          have b1 := Int.emod_nonneg x (show (2147483587 : Int) ≠ 0 by decide)
          have b2 := Int.emod_lt_of_pos x (show (0 : Int) < 2147483587 by decide)
          refine ⟨_, rfl, x, _, rfl, rfl, (by show (0 : Int) < 2147483587; decide), _, rfl, 45007, a, rfl, rfl, .inl ⟨by decide, by decide⟩, _, _, rfl, rfl, _, 11, rfl, rfl, _, 3, rfl, rfl, ⟨by decide, by decide, ?_⟩, _, 2147483629, rfl, rfl, (by show (0 : Int) < 2147483629; decide), ?_⟩
          · generalize x % 2147483587 = y at b1 b2
            show (y + 45007 * a + 11).natAbs < 2 ^ 64
            omega
          · generalize (x % 2147483587 + 45007 * a + 11) ^ (3 : Int).toNat = z
            have d1 := Int.emod_nonneg z (show (2147483629 : Int) ≠ 0 by decide)
            have d2 := Int.emod_lt_of_pos z (show (0 : Int) < 2147483629 by decide)
            obtain ⟨o, ho⟩ : ∃ o, z % 2147483629 = o := ⟨_, rfl⟩
            rw [ho] at d1 d2
            show tSeq _ _ _ [some (.ref p), some (.int m), none, some (.int a), some (.ref c), some (.int x), some (.int (z % 2147483629)), none] _
            rw [ho]
            have f1 := Int.emod_nonneg o (show (64007 : Int) ≠ 0 by decide)
            have f2 := Int.emod_lt_of_pos o (show (0 : Int) < 64007 by decide)
            refine ⟨_, rfl, _, rfl, 1213, a, rfl, rfl, .inl ⟨by decide, by decide⟩, _, rfl, _, a, rfl, rfl, .inr ⟨by omega, by omega⟩, o, _, rfl, rfl, _, 3, rfl, rfl, _, 5, rfl, rfl, ⟨by decide, by decide, ?_⟩, _, 2147483543, rfl, rfl, (by show (0 : Int) < 2147483543; decide), ?_⟩
            · show (o + 1213 * a * a + 3).natAbs < 2 ^ 64
              omega
            · refine ⟨_, rfl, _, rfl, o, 64007, rfl, rfl, (by show (0 : Int) < 64007; decide), _, 1, rfl, rfl, _, _, rfl, rfl, .inr ⟨by omega, by omega⟩, _, 2147483579, rfl, rfl, (by show (0 : Int) < 2147483579; decide), _, 64, rfl, rfl, ⟨by decide, by decide⟩, _, rfl, _, m, rfl, rfl, (by show (0 : Int) < m; omega), ?_⟩
              exact fin _ (Int.emod_nonneg _ (by omega)) (Int.emod_lt_of_pos _ (by omega))
end
/-! ### texts as lists of signs -/
abbrev sc (l : List Nat) : Str := ⟨l.toArray⟩
theorem sc_list (z : Str) : sc z.cps.toList = z := rfl
theorem sc_len (l : List Nat) : (sc l).length = l.length := by
  show l.toArray.size = l.length
  simp
theorem sc_app (a b : List Nat) : (sc a ++ sc b : Str) = sc (a ++ b) := by
  have h : TL.tl (sc a ++ sc b) = TL.tl (sc (a ++ b)) := by
    rw [TL.tl_append]
  have h2 := congrArg sc h
  exact h2
theorem sc_take (l : List Nat) {k : Nat} (hk : k ≤ l.length) : cutS (sc l) none (some (k : Int)) = sc (l.take k) := by
  unfold cutS
  rw [HT.sIx_none, HT.sIx_nat, sc_len, Nat.min_eq_left hk]
  show sc ((l.toArray.toList.drop 0).take (k - 0)) = sc (l.take k)
  simp
theorem sc_drop (l : List Nat) {k : Nat} (hk : k ≤ l.length) : cutS (sc l) (some (k : Int)) none = sc (l.drop k) := by
  unfold cutS
  rw [HT.sIx_none, HT.sIx_nat, sc_len, Nat.min_eq_left hk]
  show sc ((l.toArray.toList.drop k).take (l.length - k)) = sc (l.drop k)
  rw [List.take_of_length_le (by simp)]
theorem sc_join (ls : List (List Nat)) : Txt.join "" (ls.map sc) = sc ls.flatten := by
  have h : ∀ l : List (List Nat), TL.joinL [] l = l.flatten := by
    intro l
    induction l with
    | nil => rfl
    | cons p r ih =>
      cases r with
      | nil => show p = [p].flatten; simp
      | cons q r => show p ++ ([] ++ TL.joinL [] (q :: r)) = _; rw [List.nil_append, ih]; rfl
  have e := TL.tl_join "" (ls.map sc)
  rw [show TL.tl ("" : Str) = [] from rfl, h, List.map_map] at e
  rw [TL.join_eq]
  have e2 : ls.map (TL.tl ∘ sc) = ls := by
    have : (TL.tl ∘ sc) = id := funext fun l => by show l.toArray.toList = l; simp
    rw [this, List.map_id]
  rw [e2] at e
  exact congrArg sc e
abbrev abc : Str := "abcdefghijklmnopqrstuvwxyz"
def Lc (i : Nat) : Nat := abc.cps.toList.getD i 0
theorem abc_len : abc.cps.toList.length = 26 := by decide +kernel
theorem at_abc {r : Int} (h0 : 0 ≤ r) (h1 : r < 26) : atI abc.cps.toList r = some (Lc r.toNat) := by
  have h : r.toNat < abc.cps.toList.length := by rw [abc_len]; omega
  have e : ((r.toNat : Nat) : Int) = r := by omega
  have q := atI_nat (List.getElem?_eq_getElem h)
  rw [e] at q
  rw [q, Lc, List.getD_eq_getElem?_getD, List.getElem?_eq_getElem h]
  rfl
theorem Lc_in {i : Nat} (h : i < 26) : Lc i ∈ abc.cps.toList := by
  rw [Lc, List.getD_eq_getElem?_getD, List.getElem?_eq_getElem (by rw [abc_len]; exact h)]
  exact List.getElem_mem _
/-! ### the names that a law draws -/
def nmPair (t k : Nat) : List Nat := [Lc ((t + 7 * k) % 26), Lc ((t + k / 26) % 26)]
def bij (t : Nat) : Nat → List Nat
  | 0 => []
  | r + 1 => bij t (r / 2) ++ [Lc ((t + 9 * ((r + 1) % 2)) % 26)]
def nm (way t : Nat) (B : List Nat) (sp k : Nat) : List Nat := if way = 1 then bij t (k + 1) else B.take sp ++ nmPair t k ++ B.drop sp
def nmStr (way t : Nat) (B : List Nat) (sp k : Nat) : Str := sc (nm way t B sp k)
structure NmOk (way t : Nat) (B : List Nat) (sp : Nat) : Prop where
  t26 : t < 26
  b6 : B.length ≤ 6
  bl : ∀ c ∈ B, c ∈ abc.cps.toList
  s : sp ≤ B.length
/-- a list of names at l -/
def NmAt (H : Hp) (l : Addr) (m : Nat) : Prop := ∃ way t B sp, NmOk way t B sp ∧ H l = some (.lst ((List.range m).map fun k => V.str (nmStr way t B sp k)))
theorem bij_len (t : Nat) : ∀ r, (bij t r).length = if r = 0 then 0 else (bij t ((r - 1) / 2)).length + 1
  | 0 => by rw [bij]; rfl
  | r + 1 => by rw [bij, List.length_append, if_neg (by omega)]; rfl
theorem bij_le (t : Nat) : ∀ r, (bij t r).length ≤ r
  | 0 => by rw [bij]; exact Nat.le_refl _
  | r + 1 => by
    rw [bij, List.length_append]
    have := bij_le t (r / 2)
    show _ + 1 ≤ _
    omega
theorem flat_one : ∀ B : List Nat, (B.map fun c => [c]).flatten = B
  | [] => rfl
  | b :: r => by rw [List.map_cons, List.flatten_cons, flat_one r]; rfl
theorem sum_one : ∀ B : List Nat, (((B.map fun c => [c]).map sc).map (·.length)).sum = B.length
  | [] => rfl
  | b :: r => by
    rw [List.map_cons, List.map_cons, List.map_cons, List.sum_cons, sum_one r, List.length_cons, sc_len]
    exact Nat.add_comm _ _
def restOf (σ : L2.St) (_ : Hp) : Nat := match σ[10]? with
  | some (some (V.int r)) => r.toNat
  | _ => 0
/-- what _law_names promises -/
def spNames : Sp := fun vs H Q _ => ∃ (p c : Addr) (n : Nat) (m : Int), vs = [.ref p, .int m] ∧ PenAt H p c n ∧ n ≤ 50000 ∧ 0 ≤ m ∧ m ≤ 31 ∧
  ∀ (l : Addr) (H' : Hp), H l = none → NmAt H' l m.toNat → PenAt H' p c (n + 10) → But p H H' → Q (.ref l) H'
theorem yesT {σ : L2.St} {H : Hp} {A B : Hp → Prop} (h : A H) : tYes σ H fun b H3 => if b = true then A H3 else B H3 := iteT (A := A H) (B := B H) h
theorem small_sz {n : Nat} (h : n ≤ 1000) : n ≤ sizeLine := Nat.le_of_lt (small1000 h)
theorem at_ex {α : Type} {xs : List α} {r : Int} (h0 : 0 ≤ r) (h1 : r < (xs.length : Int)) : ∃ v, atI xs r = some v ∧ v ∈ xs := by
  have h : r.toNat < xs.length := by omega
  have e : ((r.toNat : Nat) : Int) = r := by omega
  have q := atI_nat (List.getElem?_eq_getElem h)
  rw [e] at q
  exact ⟨_, q, List.getElem_mem h⟩
/-- the def _law_take, as its callers need it -/
structure TakeT (P : Program) (w : World) (K : PySem.W.Frag) (mg : Str → Option Value) (base : Heap) (f : Addr) (fd : FuncData) : Prop where
  ok : FnOk P w K mg base CX0 1 f fd ["_law_pen_here", "_law_many_here"] spTake
  g : mg "_law_take" = some (.ref f)
  kp : PySem.W.keepIn K (.ref f) = true
  b : Binds K fd ["_law_pen_here", "_law_many_here"] []
/-- any def, as its callers need it -/
structure DefT (P : Program) (w : World) (K : PySem.W.Frag) (mg : Str → Option Value) (base : Heap) (x : Str) (k : Nat) (f : Addr) (fd : FuncData) (ps : List Str) (sp : Sp) : Prop where
  ok : FnOk P w K mg base CX0 k f fd ps sp
  g : mg x = some (.ref f)
  kp : PySem.W.keepIn K (.ref f) = true
  b : Binds K fd ps []
abbrev namesN : List Str := ["_law_pen_here", "_law_many_here", "_law_letters", "_law_way", "_law_turn", "_law_k", "_law_base", "_law_spot", "_law_found", "_law_word", "_law_rest"]
section
variable {P : Program} {w : World} {K : PySem.W.Frag} {mg : Str → Option Value} {base : Heap}
theorem scNames : FnScope namesN ["_law_pen_here", "_law_many_here"] (defScope sNames) := ⟨rfl, rfl, rfl, by decide +kernel, rfl, by decide +kernel, by decide +kernel⟩
set_option maxHeartbeats 4000000 in
theorem ok_names {f fT : Addr} {fd fdT : FuncData} (F : Fun K "_law_names" "_law_names" sNames f fd) (T : TakeT P w K mg base fT fdT) (ml : mg "len" = none) (mr : mg "range" = none) :
    FnOk P w K mg base CX0 2 f fd ["_law_pen_here", "_law_many_here"] spNames := by
  refine F.ok scNames (fun vs H Q E h => ?_) (fun cdv A outer s H vs Q E hr h => ?_)
  · obtain ⟨p, c, n, m, rfl, _⟩ := h
    rfl
  · obtain ⟨p, c, n, m, rfl, pen, hn, m0, m31, q⟩ := h
    have nd := scNames.nd
    refine ⟨_, pss_cons (ps_set (i := 2) nd rfl (Or.inr rfl) pe_str)
      (pss_cons (ps_set (i := 3) nd rfl (Or.inl rfl) (pe_call T.ok hr (by rfl) T.g T.kp T.b .nil pass0 (pa_cons (pv 0) (pa_cons pe_int pa_nil))))
      (pss_cons (ps_set (i := 4) nd rfl (Or.inl rfl) (pe_call T.ok hr (by rfl) T.g T.kp T.b .nil pass0 (pa_cons (pv 0) (pa_cons pe_int pa_nil))))
      (pss_cons (ps_set (i := 6) nd rfl (Or.inl rfl) (pe_join pe_str (pe_lc (own := [("_law_k", 5)]) (g := gName 5) (tt := tYes) rfl nd
          (pi_range1 rfl mr (pa_cons (pe_ix ix_list (pe_lst (pa_cons (pe_call T.ok hr (by rfl) T.g T.kp T.b .nil pass0 (pa_cons (pv 0) (pa_cons pe_int pa_nil))) (pa_cons pe_int (pa_cons pe_int pa_nil)))) (pv 3) (fun _ _ => rfl)) pa_nil))
          (blkOk_by (N := namesN) (sc := defScope sNames) (by decide +kernel))
          (fun _ _ _ _ _ => pg_name (i := 5) nd rfl (Or.inl rfl)) (fun _ _ _ _ _ => pts_nil)
          (fun _ _ _ _ _ => pe_ix ix_str (pv 2) (pe_call T.ok hr (by rfl) T.g T.kp T.b .nil pass0 (pa_cons (pv 0) (pa_cons pe_int pa_nil))) (fun _ _ => rfl)))))
      (pss_cons (ps_set (i := 7) nd rfl (Or.inl rfl) (pe_call T.ok hr (by rfl) T.g T.kp T.b .nil pass0 (pa_cons (pv 0) (pa_cons (pe_op op_add (pe_callB call_len_str (by rfl) ml PySem.boot_len (pa_cons (pv 6) pa_nil)) pe_int) pa_nil))))
      (pss_cons (ps_set (i := 8) nd rfl (Or.inl rfl) (pe_lst pa_nil))
      (pss_cons (ps_for PassesOwn.never rfl (pi_range1 rfl mr (pa_cons (pv 1) pa_nil)) (pg_name (i := 5) nd rfl (Or.inl rfl))
        (pss_cons (ps_set (i := 9) nd rfl (Or.inl rfl) (pe_op op_add_str (pe_ix ix_str (pv 2) (pe_op op_mod (pe_op op_add (pv 4) (pe_op op_mul pe_int (pv 5))) pe_int) (fun _ _ => rfl)) (pe_ix ix_str (pv 2) (pe_op op_mod (pe_op op_add (pv 4) (pe_op op_fdiv (pv 5) pe_int)) pe_int) (fun _ _ => rfl))))
        (pss_cons (ps_set (i := 9) nd rfl (Or.inl rfl) (pe_op op_add_str (pe_op op_add_str (pe_slice sl_str (pv 6) po_none (po_some (pv 7))) (pv 9)) (pe_slice sl_str (pv 6) (po_some (pv 7)) po_none)))
        (C8.pss_cut (ps_if (pt_cmpR op_eq (pv 3) pe_int (nomark _))
            (pss_cons (ps_set (i := 9) nd rfl (Or.inl rfl) pe_str)
            (pss_cons (ps_set (i := 10) nd rfl (Or.inl rfl) (pe_op op_add (pv 5) pe_int))
            (pss_one (ps_while PassesOwn.never (pt_cmpR op_gt (pv 10) pe_int (nomark _))
              (pss_cons (ps_set (i := 9) nd rfl (Or.inl rfl) (pe_op op_add_str (pe_ix ix_str (pv 2) (pe_op op_mod (pe_op op_add (pv 4) (pe_op op_mul pe_int (pe_op op_mod (pv 10) pe_int))) pe_int) (fun _ _ => rfl)) (pv 9)))
              (pss_one (ps_set (i := 10) nd rfl (Or.inl rfl) (pe_op op_fdiv (pe_op op_sub (pv 10) pe_int) pe_int)))))))) pss_nil)
        (pss_one (ps_expr (pe_bm PySem.F.plainAttrs_list PySem.F.slot_list_append PySem.F.type_list_append mt_append (pv 8) (pa_cons (pv 9) pa_nil))))))))
      (pss_one (ps_ret (pv 8))))))))), ?_⟩
    -- way, turn
    refine ⟨_, rfl, p, c, n, 3, rfl, pen, by omega, by decide, by decide, fun r1 H1 a1 b1 pen1 bt1 => ?_⟩
    refine ⟨_, rfl, p, c, n + 1, 26, rfl, pen1, by omega, by decide, by decide, fun r2 H2 a2 b2 pen2 bt2 => ?_⟩
    -- the base's size
    refine ⟨⟨_, rfl⟩, _, rfl, p, c, n + 2, 7, rfl, pen2, by omega, by decide, by decide, fun r3 H3 a3 b3 pen3 bt3 => ?_⟩
    refine ⟨(by show 3 ≤ sizeLine; decide), fun l nl => ?_⟩
    have s4 := @same_new _ _ (.lst [V.int r3, .int 0, .int 6]) nl
    obtain ⟨kk, hkk, k0, k6⟩ : ∃ kk : Int, atI [V.int r3, .int 0, .int 6] r1 = some (.int kk) ∧ 0 ≤ kk ∧ kk ≤ 6 := by
      have w3 : r1 = 0 ∨ r1 = 1 ∨ r1 = 2 := by omega
      rcases w3 with rfl | rfl | rfl
      · exact ⟨r3, atI_nat (j := 0) rfl, a3, by omega⟩
      · exact ⟨0, atI_nat (j := 1) rfl, by decide, by decide⟩
      · exact ⟨6, atI_nat (j := 2) rfl, by decide, by decide⟩
    have pen4 := pen3.same s4
    have bt4 : But p H (upd H3 l (.lst [V.int r3, .int 0, .int 6])) := (bt1.tr (bt2.tr bt3)).tr (.of s4)
    refine ⟨_, rfl, l, _, r1, _, rfl, rfl, SqL.of upd_same, hkk, kk, rfl, by omega, by omega, fun D nD => ?_⟩
    generalize upd H3 l (.lst [V.int r3, .int 0, .int 6]) = H4 at pen4 bt4 nD
    have nDp : D ≠ p := fun z => pen4.there (z ▸ nD)
    have nDc : D ≠ c := fun z => pen4.cells (z ▸ nD)
    refine lc_range (lo := 0) (n := kk.toNat) (fun j H' => PenAt H' p c (n + 3 + j) ∧ But p H H' ∧ ∃ B : List Nat, H' D = some (.lst (((B.map fun c => [c]).map sc).map V.str)) ∧ B.length = j ∧ ∀ c ∈ B, c ∈ abc.cps.toList)
      ⟨pen4.same (same_new nD), bt4.tr (.of (same_new nD)), [], upd_same, rfl, fun y hy => nomatch hy⟩ ?_ ?_
    · rintro j H6 hj ⟨pen6, bt6, B, hD6, ly, one⟩
      refine ⟨rfl, yesT ?_⟩
      refine ⟨_, rfl, _, rfl, p, c, _, 26, rfl, pen6, by omega, by decide, by decide, fun r H7 a7 b7 pen7 bt7 => ?_⟩
      have hD7 := bt7 D _ hD6 nDp
      have hDn : H D = none := by
        cases e : H D with
        | none => rfl
        | some o => rw [bt4 D o e nDp] at nD; cases nD
      refine ⟨abc, r, _, rfl, rfl, (by decide +kernel), at_abc a7 b7, _, hD7, (by simp only [List.length_map]; exact small1000 (by omega)), pen7.upd nDp nDc, fun b o e nb => (upd_ne (ne_of_none e hDn)).trans ((bt6.tr bt7) b o e nb), B ++ [Lc r.toNat], ?_, by simp [ly], ?_⟩
      · rw [upd_same, List.map_append, List.map_append, List.map_append]
        rfl
      · intro y hy
        rcases List.mem_append.mp hy with h | h
        · exact one y h
        · rw [List.mem_singleton.mp h]
          exact Lc_in (by omega)
    · rintro H6 ⟨pen6, bt6, B, hD6, ly, one⟩
      have bl : B.length ≤ 6 := by omega
      have ej : Txt.join "" ((B.map fun c => [c]).map sc) = sc B := by rw [sc_join, flat_one]
      refine ⟨"", D, (B.map fun c => [c]).map sc, rfl, rfl, .inl (SqL.of hD6), (by rw [sum_one]; simp only [List.length_map]; show B.length + B.length * 0 ≤ 16777216; omega), ?_⟩
      rw [ej]
      -- the spot
      refine ⟨_, rfl, _, rfl, sc B, rfl, (by rw [sc_len]; exact small_sz (by omega)), _, 1, rfl, rfl, p, c, n + 9, (B.length : Int) + 1, (by rw [sc_len]; rfl), pen6.mono (by omega), by omega, by omega, by omega, fun r4 H7 a4 b4 pen7 bt7 => ?_⟩
      refine ⟨Nat.zero_le _, fun Fd nFd => ?_⟩
      have nFp : Fd ≠ p := fun z => pen7.there (z ▸ nFd)
      have nFc : Fd ≠ c := fun z => pen7.cells (z ▸ nFd)
      have bt8 := bt6.tr bt7
      have hFn : H Fd = none := by
        cases e : H Fd with
        | none => rfl
        | some o => rw [bt8 Fd o e nFp] at nFd; cases nFd
      have nmok : NmOk r1.toNat r2.toNat B r4.toNat := ⟨by omega, bl, one, by omega⟩
      refine ⟨_, rfl, m, rfl, by omega, by omega, for_range (lo := 0) (n := m.toNat) (fun j σ H' => ∃ y5 y9 y10, σ = [some (.ref p), some (.int m), some (.str abc), some (.int r1), some (.int r2), y5, some (.str (sc B)), some (.int r4), some (.ref Fd), y9, y10] ∧
        PenAt H' p c (n + 10) ∧ But p H H' ∧ H' Fd = some (.lst ((List.range j).map fun k => V.str (nmStr r1.toNat r2.toNat B r4.toNat k)))) ⟨_, _, _, rfl, pen7.same (same_new nFd), bt8.tr (.of (same_new nFd)), upd_same⟩ ?_ ?_⟩
      · rintro j σ H9 hj ⟨y5, y9, y10, rfl, pen9, bt9, hF9⟩
        have i1 : 0 ≤ (r2 + 7 * (0 + (j : Int))) % 26 := Int.emod_nonneg _ (by decide)
        have i2 : (r2 + 7 * (0 + (j : Int))) % 26 < 26 := Int.emod_lt_of_pos _ (by decide)
        have i3 : 0 ≤ (r2 + (0 + (j : Int)) / 26) % 26 := Int.emod_nonneg _ (by decide)
        have i4 : (r2 + (0 + (j : Int)) / 26) % 26 < 26 := Int.emod_lt_of_pos _ (by decide)
        refine ⟨_, rfl, _, rfl, _, rfl, 7, 0 + (j : Int), rfl, rfl, .inl ⟨by decide, by decide⟩, r2, _, rfl, rfl, _, 26, rfl, rfl, (by show (0 : Int) < 26; decide), abc, _, _, rfl, rfl, (by decide +kernel), at_abc i1 i2, ?_⟩
        refine ⟨_, rfl, _, rfl, _, rfl, 0 + (j : Int), 26, rfl, rfl, ⟨by decide, by decide⟩, r2, _, rfl, rfl, _, 26, rfl, rfl, (by show (0 : Int) < 26; decide), abc, _, _, rfl, rfl, (by decide +kernel), at_abc i3 i4, _, _, rfl, rfl, (by show 1 + 1 ≤ sizeLine; decide), ?_⟩
        have q1 : ((r2 + 7 * (0 + (j : Int))) % 26).toNat = (r2.toNat + 7 * j) % 26 := by omega
        have q2 : ((r2 + (0 + (j : Int)) / 26) % 26).toNat = (r2.toNat + j / 26) % 26 := by
          have h : (0 + (j : Int)) / 26 = ((j / 26 : Nat) : Int) := by omega
          rw [h]
          generalize j / 26 = u
          omega
        have wd : ((⟨#[Lc ((r2 + 7 * (0 + (j : Int))) % 26).toNat]⟩ : Str) ++ ⟨#[Lc ((r2 + (0 + (j : Int)) / 26) % 26).toNat]⟩ : Str) = sc (nmPair r2.toNat j) := by
          rw [q1, q2]
          exact sc_app [_] [_]
        have e4 : ((r4.toNat : Nat) : Int) = r4 := by omega
        have c1 : cutS (sc B) none (some r4) = sc (B.take r4.toNat) := by rw [← e4]; exact sc_take B (by omega)
        have c2 : cutS (sc B) (some r4) none = sc (B.drop r4.toNat) := by rw [← e4]; exact sc_drop B (by omega)
        have szB : (sc B).length ≤ sizeLine := by rw [sc_len]; exact small_sz (by omega)
        refine ⟨_, rfl, _, rfl, r4, rfl, sc B, rfl, szB, _, rfl, _, _, rfl, rfl, ?_, _, rfl, _, rfl, r4, rfl, sc B, rfl, szB, _, _, rfl, rfl, ?_, ?_⟩
        · rw [wd, c1, sc_len, sc_len]
          refine small_sz ?_
          rw [List.length_take]
          show _ + 2 ≤ _
          omega
        · rw [wd, c1, c2, sc_app, sc_len, sc_len, List.length_append, List.length_take, List.length_drop]
          refine small_sz ?_
          show _ + 2 + _ ≤ _
          omega
        rw [wd, c1, c2, sc_app, sc_app]
        refine ⟨fun σ' H' => ∃ y10, σ' = [some (.ref p), some (.int m), some (.str abc), some (.int r1), some (.int r2), some (.int (0 + (j : Int))), some (.str (sc B)), some (.int r4), some (.ref Fd), some (.str (nmStr r1.toNat r2.toNat B r4.toNat j)), y10] ∧ H' = H9, ?_, ?_⟩
        · refine ⟨_, rfl, rfl, _, rfl, ite2 (fun e => ?_) (fun e => ?_)⟩
          · have e1 : r1 = 1 := V.int.inj (of_decide_eq_true e)
            subst e1
            refine ⟨_, rfl, _, 1, rfl, rfl, ?_⟩
            have el : (bij r2.toNat (j + 1)).length ≤ 100 := Nat.le_trans (bij_le _ _) (by omega)
            refine while_by (fun σ' H' => ∃ (L : List Nat) (r : Int), σ' = [some (.ref p), some (.int m), some (.str abc), some (.int 1), some (.int r2), some (.int (0 + (j : Int))), some (.str (sc B)), some (.int r4), some (.ref Fd), some (.str (sc L)), some (.int r)] ∧ H' = H9 ∧ 0 ≤ r ∧ bij r2.toNat (j + 1) = bij r2.toNat r.toNat ++ L)
              restOf ⟨[], _, rfl, rfl, by omega, ?_⟩ ?_ ?_
            · rw [List.append_nil, show (0 + (j : Int) + 1).toNat = j + 1 by omega]
            · rintro σ' H' ⟨L, r, rfl, rfl, r0, hb⟩
              have lL : L.length ≤ 100 := by
                have := congrArg List.length hb
                rw [List.length_append] at this
                omega
              refine ⟨_, rfl, r, 0, rfl, rfl, _, rfl, ite2 (fun er => ?_) (fun er => ?_)⟩
              · have er' : 0 < r := of_decide_eq_true er
                have d1 : 0 ≤ (r2 + 9 * (r % 2)) % 26 := Int.emod_nonneg _ (by decide)
                have d2 : (r2 + 9 * (r % 2)) % 26 < 26 := Int.emod_lt_of_pos _ (by decide)
                refine ⟨_, rfl, _, rfl, _, rfl, r, 2, rfl, rfl, (by show (0 : Int) < 2; decide), 9, _, rfl, rfl, .inl ⟨by decide, by decide⟩, r2, _, rfl, rfl, _, 26, rfl, rfl, (by show (0 : Int) < 26; decide), abc, _, _, rfl, rfl, (by decide +kernel), at_abc d1 d2, _, rfl, _, sc L, rfl, rfl, ?_, ?_⟩
                · show 1 + (sc L).length ≤ sizeLine
                  rw [sc_len]
                  exact small_sz (by omega)
                · refine ⟨_, rfl, r, 1, rfl, rfl, r - 1, 2, rfl, rfl, ⟨by decide, by decide⟩, ⟨Lc ((r2 + 9 * (r % 2)) % 26).toNat :: L, (r - 1) / 2, ?_, rfl, by omega, ?_⟩, ?_⟩
                  · rw [show ((⟨#[Lc ((r2 + 9 * (r % 2)) % 26).toNat]⟩ : Str) ++ sc L : Str) = sc (Lc ((r2 + 9 * (r % 2)) % 26).toNat :: L) from sc_app [_] L]
                    rfl
                  · rw [hb]
                    obtain ⟨u, rfl⟩ : ∃ u : Nat, r = ((u + 1 : Nat) : Int) := ⟨(r - 1).toNat, by omega⟩
                    rw [Int.toNat_natCast, bij, List.append_assoc, show ((((u + 1 : Nat) : Int) - 1) / 2).toNat = u / 2 by omega, show ((r2 + 9 * ((((u + 1 : Nat) : Int)) % 2)) % 26).toNat = (r2.toNat + 9 * ((u + 1) % 2)) % 26 by omega]
                    rfl
                  · show ((r - 1) / 2).toNat < r.toNat
                    omega
              · have er' : ¬ 0 < r := fun h => er (decide_eq_true h)
                have : r = 0 := by omega
                subst this
                refine ⟨some (.int 0), ?_, rfl⟩
                rw [show nmStr (1 : Int).toNat r2.toNat B r4.toNat j = sc L by
                  show sc (if 1 = 1 then bij r2.toNat (j + 1) else _) = sc L
                  rw [if_pos rfl, hb, show (0 : Int).toNat = 0 from rfl, bij, List.nil_append]]
            · rintro σ' H' Q1 Q2 hq ⟨v, hv, i, k, x1, x2, b, x3, x4⟩
              exact ⟨v, hv, i, k, x1, x2, b, x3, hq _ _ x4⟩
          · have e1 : ¬ r1 = 1 := fun h => e (decide_eq_true (congrArg V.int h))
            refine ⟨y10, ?_, rfl⟩
            rw [show nmStr r1.toNat r2.toNat B r4.toNat j = sc (B.take r4.toNat ++ nmPair r2.toNat j ++ B.drop r4.toNat) by
              show sc (if r1.toNat = 1 then _ else _) = _
              rw [if_neg (by omega)]]
            rfl
        · rintro σ' H' ⟨z10, rfl, rfl⟩
          refine ⟨_, rfl, .inl ⟨rfl, _, SqL.of hF9⟩, _, rfl, Fd, _, _, rfl, rfl, hF9, (by simp only [List.length_map, List.length_range]; exact small1000 (by omega)), ⟨_, _, _, rfl, pen9.upd nFp nFc, fun b o e nb => (upd_ne (ne_of_none e hFn)).trans (bt9 b o e nb), ?_⟩⟩
          rw [upd_same, List.range_succ, List.map_append]
          rfl
      · rintro σ H9 ⟨y5, y9, y10, rfl, pen9, bt9, hF9⟩
        exact ⟨_, rfl, q Fd H9 hFn ⟨_, _, _, _, nmok, hF9⟩ pen9 bt9⟩
end
/-! ### entries -/
inductive Ent where
  | come (nm : Str) (mo : Int) (g pl : Str) (many price : Int)
  | go (nm : Str) (mo : Int) (g pl : Str) (many : Int)
  | move (nm : Str) (mo : Int) (g one other : Str) (many : Int)
  | some_ (nm : Str) (mo : Int) (g one other : Str)
  | swap (nm : Str) (mo : Int) (one other : Str)
  | count (nm : Str) (mo : Int) (g pl : Str) (many : Int) (hand : Str)
  | look (nm : Str) (mo : Int) (g pl : Str)
namespace Ent
def word : Ent → Str
  | come .. => "come" | go .. => "go" | move .. => "move" | some_ .. => "some" | swap .. => "swap" | count .. => "count" | look .. => "look"
def name : Ent → Str
  | come n .. => n | go n .. => n | move n .. => n | some_ n .. => n | swap n .. => n | count n .. => n | look n .. => n
def moment : Ent → Int
  | come _ m .. => m | go _ m .. => m | move _ m .. => m | some_ _ m .. => m | swap _ m .. => m | count _ m .. => m | look _ m .. => m
def rest : Ent → List V
  | come _ _ g p m r => [.str g, .str p, .int m, .int r]
  | go _ _ g p m => [.str g, .str p, .int m]
  | move _ _ g o t m => [.str g, .str o, .str t, .int m]
  | some_ _ _ g o t => [.str g, .str o, .str t]
  | swap _ _ o t => [.str o, .str t]
  | count _ _ g p m h => [.str g, .str p, .int m, .str h]
  | look _ _ g p => [.str g, .str p]
def vals (e : Ent) : List V := .str e.word :: .str e.name :: .int e.moment :: e.rest
/-- its parts are drawn from these places, goods and hands -/
def From (PL GL HL : List Str) : Ent → Prop
  | come _ _ g p m r => g ∈ GL ∧ p ∈ PL ∧ 1 ≤ m ∧ m ≤ 1000000000 ∧ 0 ≤ r ∧ r ≤ 1000000000
  | go _ _ g p m => g ∈ GL ∧ p ∈ PL ∧ 1 ≤ m ∧ m ≤ 1000000000
  | move _ _ g o t m => g ∈ GL ∧ o ∈ PL ∧ t ∈ PL ∧ (PL.Nodup → o ≠ t) ∧ 1 ≤ m ∧ m ≤ 1000000000
  | some_ _ _ g o t => g ∈ GL ∧ o ∈ PL ∧ (t = "" ∨ (t ∈ PL ∧ (PL.Nodup → o ≠ t)))
  | swap _ _ o t => o ∈ PL ∧ t ∈ PL ∧ (PL.Nodup → o ≠ t)
  | count _ _ g p m h => g ∈ GL ∧ p ∈ PL ∧ 0 ≤ m ∧ m ≤ 1000000000 ∧ h ∈ HL
  | look _ _ g p => g ∈ GL ∧ p ∈ PL
end Ent
def words7 : List Str := ["come", "go", "move", "some", "swap", "count", "look"]
abbrev words10 : List Str := ["come", "go", "move", "some", "swap", "count", "look", "count", "swap", "move"]
theorem Ent.word_in (e : Ent) : e.word ∈ words7 := by
  cases e <;> simp [Ent.word, words7]
abbrev StrsAt (H : Hp) (l : Addr) (ys : List Str) : Prop := H l = some (.lst (ys.map V.str))
def spMany : Sp := fun vs H Q _ => ∃ (p c : Addr) (n : Nat), vs = [.ref p] ∧ PenAt H p c n ∧ n ≤ 90000 ∧
  ∀ (r : Int) (H' : Hp), 1 ≤ r → r ≤ 1000000000 → PenAt H' p c (n + 4) → But p H H' → Q (.int r) H'
def spEntryOf : Sp := fun vs H Q _ => ∃ (p c : Addr) (n : Nat) (wd nme : Str) (mo : Int) (a1 a2 a3 : Addr) (PL GL HL : List Str), vs = [.ref p, .str wd, .str nme, .int mo, .ref a1, .ref a2, .ref a3] ∧ PenAt H p c n ∧ n ≤ 80000 ∧ wd ∈ words7 ∧
  StrsAt H a1 PL ∧ StrsAt H a2 GL ∧ StrsAt H a3 HL ∧ PL ≠ [] ∧ GL ≠ [] ∧ HL ≠ [] ∧ PL.length ≤ 100 ∧ GL.length ≤ 100 ∧ HL.length ≤ 100 ∧
  ∀ (tp : Addr) (e : Ent) (H' : Hp), H tp = none → H' tp = some (.tup e.vals) → e.name = nme → e.moment = mo → e.From PL GL HL → PenAt H' p c (n + 20) → But p H H' → Q (.ref tp) H'
def spEntry : Sp := fun vs H Q _ => ∃ (p c : Addr) (n : Nat) (nme : Str) (mo : Int) (a1 a2 a3 : Addr) (PL GL HL : List Str), vs = [.ref p, .str nme, .int mo, .ref a1, .ref a2, .ref a3] ∧ PenAt H p c n ∧ n ≤ 70000 ∧
  StrsAt H a1 PL ∧ StrsAt H a2 GL ∧ StrsAt H a3 HL ∧ PL ≠ [] ∧ GL ≠ [] ∧ HL ≠ [] ∧ PL.length ≤ 100 ∧ GL.length ≤ 100 ∧ HL.length ≤ 100 ∧
  ∀ (tp : Addr) (e : Ent) (H' : Hp), H tp = none → H' tp = some (.tup e.vals) → e.name = nme → e.moment = mo → e.From PL GL HL → PenAt H' p c (n + 30) → But p H H' → Q (.ref tp) H'
theorem pen_strs {H H' : Hp} {p c l : Addr} {n : Nat} {ys : List Str} (pen : PenAt H p c n) (b : But p H H') (h : StrsAt H l ys) : StrsAt H' l ys := by
  obtain ⟨kvs, ns, a, x, g1, _⟩ := pen.ex
  exact b l _ h (ne_of h g1 (by intro z; cases z))
theorem pen_free {H H' : Hp} {p c l : Addr} {n : Nat} (pen : PenAt H p c n) (b : But p H H') (h : H' l = none) (pen' : PenAt H' p c n) : H l = none := by
  cases e : H l with
  | none => rfl
  | some o =>
    have nl : l ≠ p := fun z => pen'.there (z ▸ h)
    rw [b l o e nl] at h
    cases h
theorem But.free {H H' : Hp} {p l : Addr} (b : But p H H') (h : H' l = none) (hp : H' p ≠ none) : H l = none := by
  cases e : H l with
  | none => rfl
  | some o =>
    have nl : l ≠ p := fun z => hp (z ▸ h)
    rw [b l o e nl] at h
    cases h
theorem at_strs {ys : List Str} {r : Int} (h0 : 0 ≤ r) (h1 : r < (ys.length : Int)) : ∃ y, atI (ys.map V.str) r = some (.str y) ∧ ys[r.toNat]? = some y ∧ y ∈ ys := by
  have h : r.toNat < ys.length := by omega
  have e : ((r.toNat : Nat) : Int) = r := by omega
  have q := atI_nat (xs := ys.map V.str) (j := r.toNat) (v := .str ys[r.toNat]) (by rw [List.getElem?_map, List.getElem?_eq_getElem h]; rfl)
  rw [e] at q
  exact ⟨_, q, List.getElem?_eq_getElem h, List.getElem_mem h⟩
section
variable {P : Program} {w : World} {K : PySem.W.Frag} {mg : Str → Option Value} {base : Heap}
theorem scMany : FnScope ["_law_pen_here", "_law_way"] ["_law_pen_here"] (defScope sMany) := ⟨rfl, rfl, rfl, by decide +kernel, rfl, by decide +kernel, by decide +kernel⟩
theorem ok_many {f fT : Addr} {fd fdT : FuncData} (F : Fun K "_law_many" "_law_many" sMany f fd) (T : TakeT P w K mg base fT fdT) : FnOk P w K mg base CX0 2 f fd ["_law_pen_here"] spMany := by
  refine F.ok scMany (fun vs H Q E h => ?_) (fun cdv A outer s H vs Q E hr h => ?_)
  · obtain ⟨p, c, n, rfl, _⟩ := h
    rfl
  · obtain ⟨p, c, n, rfl, pen, hn, q⟩ := h
    have nd := scMany.nd
    refine ⟨_, pss_cons (ps_set (i := 1) nd rfl (Or.inl rfl) (pe_call T.ok hr (by rfl) T.g T.kp T.b .nil pass0 (pa_cons (pv 0) (pa_cons pe_int pa_nil))))
      (pss_one (ps_ret (pe_ix ix_list (pe_lst (pa_cons pe_int (pa_cons (pe_op op_add pe_int (pe_call T.ok hr (by rfl) T.g T.kp T.b .nil pass0 (pa_cons (pv 0) (pa_cons pe_int pa_nil))))
        (pa_cons (pe_op op_sub (pe_op op_pow pe_int pe_int) (pe_call T.ok hr (by rfl) T.g T.kp T.b .nil pass0 (pa_cons (pv 0) (pa_cons pe_int pa_nil))))
        (pa_cons (pe_op op_add pe_int (pe_call T.ok hr (by rfl) T.g T.kp T.b .nil pass0 (pa_cons (pv 0) (pa_cons (pe_op op_pow pe_int pe_int) pa_nil)))) pa_nil))))) (pv 1) (fun _ _ => rfl)))), ?_⟩
    refine ⟨_, rfl, p, c, n, 4, rfl, pen, by omega, by decide, by decide, fun r1 H1 a1 b1 pen1 bt1 => ?_⟩
    refine ⟨_, rfl, p, c, n + 1, 9, rfl, pen1, by omega, by decide, by decide, fun r2 H2 a2 b2 pen2 bt2 => ?_⟩
    refine ⟨1, r2, rfl, rfl, 10, 9, rfl, rfl, ⟨by decide, by decide, by decide⟩, _, rfl, p, c, n + 2, 3, rfl, pen2, by omega, by decide, by decide, fun r3 H3 a3 b3 pen3 bt3 => ?_⟩
    refine ⟨_, r3, rfl, rfl, _, rfl, 10, 9, rfl, rfl, ⟨by decide, by decide, by decide⟩, p, c, n + 3, 10 ^ (9 : Int).toNat, rfl, pen3, by omega, by decide, by decide, fun r4 H4 a4 b4 pen4 bt4 => ?_⟩
    have b4' : r4 < 1000000000 := b4
    refine ⟨1, r4, rfl, rfl, (by show 4 ≤ sizeLine; decide), fun l nl => ?_⟩
    have fin : ∀ r : Int, 1 ≤ r → r ≤ 1000000000 → Q (.int r) (upd H4 l (.lst [.int 1, .int (1 + r2), .int (10 ^ (9 : Int).toNat - r3), .int (1 + r4)])) := fun r h1 h2 => q r _ h1 h2 (pen4.same (same_new nl)) ((bt1.tr (bt2.tr (bt3.tr bt4))).tr (.of (same_new nl)))
    have w4 : r1 = 0 ∨ r1 = 1 ∨ r1 = 2 ∨ r1 = 3 := by omega
    rcases w4 with rfl | rfl | rfl | rfl
    · exact ⟨_, rfl, l, _, 0, _, rfl, rfl, SqL.of upd_same, atI_nat (j := 0) rfl, fin _ (by decide) (by decide)⟩
    · exact ⟨_, rfl, l, _, 1, _, rfl, rfl, SqL.of upd_same, atI_nat (j := 1) rfl, fin _ (by omega) (by omega)⟩
    · exact ⟨_, rfl, l, _, 2, _, rfl, rfl, SqL.of upd_same, atI_nat (j := 2) rfl, fin _ (by show (1 : Int) ≤ 1000000000 - r3; omega) (by show (1000000000 : Int) - r3 ≤ 1000000000; omega)⟩
    · exact ⟨_, rfl, l, _, 3, _, rfl, rfl, SqL.of upd_same, atI_nat (j := 3) rfl, fin _ (by omega) (by omega)⟩
abbrev entN : List Str := ["_law_pen_here", "_law_word", "_law_name", "_law_moment", "_law_places", "_law_goods", "_law_hands", "_law_at", "_law_one", "_law_good", "_law_other"]
theorem scEntryOf : FnScope entN ["_law_pen_here", "_law_word", "_law_name", "_law_moment", "_law_places", "_law_goods", "_law_hands"] (defScope sEntryOf) := ⟨rfl, rfl, rfl, by decide +kernel, rfl, by decide +kernel, by decide +kernel⟩
set_option maxHeartbeats 4000000 in
theorem ok_entryOf {f fT fM : Addr} {fd fdT fdM : FuncData} (F : Fun K "_law_entry_of" "_law_entry_of" sEntryOf f fd) (T : TakeT P w K mg base fT fdT) (M : DefT P w K mg base "_law_many" 2 fM fdM ["_law_pen_here"] spMany) (ml : mg "len" = none) :
    FnOk P w K mg base CX0 3 f fd ["_law_pen_here", "_law_word", "_law_name", "_law_moment", "_law_places", "_law_goods", "_law_hands"] spEntryOf := by
  refine F.ok scEntryOf (fun vs H Q E h => ?_) (fun cdv A outer s H vs Q E hr h => ?_)
  · obtain ⟨p, c, n, wd, nme, mo, a1, a2, a3, PL, GL, HL, rfl, _⟩ := h
    rfl
  · obtain ⟨p, c, n, wd, nme, mo, a1, a2, a3, PL, GL, HL, rfl, pen, hn, hw, h1, h2, h3, ne1, ne2, ne3, lp, lg, lh, q⟩ := h
    have nd := scEntryOf.nd
    have hr1 : Room 1 _ := hr.mono (by decide)
    refine ⟨_, pss_cons (ps_set (i := 7) nd rfl (Or.inl rfl) (pe_call T.ok hr1 (by rfl) T.g T.kp T.b .nil pass0 (pa_cons (pv 0) (pa_cons (pe_callB call_len_seq (by rfl) ml PySem.boot_len (pa_cons (pv 4) pa_nil)) pa_nil))))
      (pss_cons (ps_set (i := 8) nd rfl (Or.inl rfl) (pe_ix ix_list (pv 4) (pv 7) (fun _ _ => rfl)))
      (pss_cons (ps_set (i := 9) nd rfl (Or.inl rfl) (pe_ix ix_list (pv 5) (pe_call T.ok hr1 (by rfl) T.g T.kp T.b .nil pass0 (pa_cons (pv 0) (pa_cons (pe_callB call_len_seq (by rfl) ml PySem.boot_len (pa_cons (pv 5) pa_nil)) pa_nil))) (fun _ _ => rfl)))
      (pss_cons (ps_set (i := 10) nd rfl (Or.inl rfl) pe_str)
      (C8.pss_cut (ps_if (pt_cmpR op_gt (pe_callB call_len_seq (by rfl) ml PySem.boot_len (pa_cons (pv 4) pa_nil)) pe_int (nomark _))
        (pss_one (ps_set (i := 10) nd rfl (Or.inl rfl) (pe_ix ix_list (pv 4) (pe_op op_mod (pe_op op_add (pe_op op_add (pv 7) pe_int) (pe_call T.ok hr1 (by rfl) T.g T.kp T.b .nil pass0 (pa_cons (pv 0) (pa_cons (pe_op op_sub (pe_callB call_len_seq (by rfl) ml PySem.boot_len (pa_cons (pv 4) pa_nil)) pe_int) pa_nil)))) (pe_callB call_len_seq (by rfl) ml PySem.boot_len (pa_cons (pv 4) pa_nil))) (fun _ _ => rfl)))) pss_nil)
      (pss_cons (ps_if (pt_cmpR op_eq (pv 1) pe_str (nomark _)) (pss_one (ps_ret (pe_tup (pa_cons (pv 1) (pa_cons (pv 2) (pa_cons (pv 3) (pa_cons (pv 9) (pa_cons (pv 8) (pa_cons (pe_call M.ok hr (by rfl) M.g M.kp M.b .nil pass0 (pa_cons (pv 0) pa_nil)) (pa_cons (pe_op op_sub (pe_call M.ok hr (by rfl) M.g M.kp M.b .nil pass0 (pa_cons (pv 0) pa_nil)) (pe_call T.ok hr1 (by rfl) T.g T.kp T.b .nil pass0 (pa_cons (pv 0) (pa_cons pe_int pa_nil)))) pa_nil)))))))))) pss_nil)
      (pss_cons (ps_if (pt_cmpR op_eq (pv 1) pe_str (nomark _)) (pss_one (ps_ret (pe_tup (pa_cons (pv 1) (pa_cons (pv 2) (pa_cons (pv 3) (pa_cons (pv 9) (pa_cons (pv 8) (pa_cons (pe_call M.ok hr (by rfl) M.g M.kp M.b .nil pass0 (pa_cons (pv 0) pa_nil)) pa_nil))))))))) pss_nil)
      (C8.pss_cut (ps_if (PW.pt (pw_and (pt_cmpR op_eq (pv 1) pe_str (nomark _)) (pw_and1 (pt_cmpR op_ne (pv 10) pe_str (nomark _))))) (pss_one (ps_ret (pe_tup (pa_cons (pv 1) (pa_cons (pv 2) (pa_cons (pv 3) (pa_cons (pv 9) (pa_cons (pv 8) (pa_cons (pv 10) (pa_cons (pe_call M.ok hr (by rfl) M.g M.kp M.b .nil pass0 (pa_cons (pv 0) pa_nil)) pa_nil)))))))))) pss_nil)
      (pss_cons (ps_if (pt_cmpR op_eq (pv 1) pe_str (nomark _)) (pss_one (ps_ret (pe_tup (pa_cons (pv 1) (pa_cons (pv 2) (pa_cons (pv 3) (pa_cons (pv 9) (pa_cons (pv 8) (pa_cons (pe_ix ix_list (pe_lst (pa_cons (pv 10) (pa_cons (pv 10) (pa_cons pe_str pa_nil)))) (pe_call T.ok hr1 (by rfl) T.g T.kp T.b .nil pass0 (pa_cons (pv 0) (pa_cons pe_int pa_nil))) (fun _ _ => rfl)) pa_nil))))))))) pss_nil)
      (C8.pss_cut (ps_if (PW.pt (pw_and (pt_cmpR op_eq (pv 1) pe_str (nomark _)) (pw_and1 (pt_cmpR op_ne (pv 10) pe_str (nomark _))))) (pss_one (ps_ret (pe_tup (pa_cons (pv 1) (pa_cons (pv 2) (pa_cons (pv 3) (pa_cons (pv 8) (pa_cons (pv 10) pa_nil)))))))) pss_nil)
      (pss_cons (ps_if (pt_cmpR op_eq (pv 1) pe_str (nomark _)) (pss_one (ps_ret (pe_tup (pa_cons (pv 1) (pa_cons (pv 2) (pa_cons (pv 3) (pa_cons (pv 9) (pa_cons (pv 8) (pa_cons (pe_op op_sub (pe_call M.ok hr (by rfl) M.g M.kp M.b .nil pass0 (pa_cons (pv 0) pa_nil)) (pe_call T.ok hr1 (by rfl) T.g T.kp T.b .nil pass0 (pa_cons (pv 0) (pa_cons pe_int pa_nil)))) (pa_cons (pe_ix ix_list (pv 6) (pe_call T.ok hr1 (by rfl) T.g T.kp T.b .nil pass0 (pa_cons (pv 0) (pa_cons (pe_callB call_len_seq (by rfl) ml PySem.boot_len (pa_cons (pv 6) pa_nil)) pa_nil))) (fun _ _ => rfl)) pa_nil)))))))))) pss_nil)
      (pss_one (ps_ret (pe_tup (pa_cons pe_str (pa_cons (pv 2) (pa_cons (pv 3) (pa_cons (pv 9) (pa_cons (pv 8) pa_nil)))))))))))))))))), ?_⟩
    have p1 : 0 < PL.length := List.length_pos_iff.mpr ne1
    have g1 : 0 < GL.length := List.length_pos_iff.mpr ne2
    have k1 : 0 < HL.length := List.length_pos_iff.mpr ne3
    have lmap : ∀ ys : List Str, ((ys.map V.str).length : Int) = (ys.length : Int) := fun ys => by rw [List.length_map]
    -- at, one
    refine ⟨_, rfl, _, rfl, a1, _, rfl, .inl (SqL.of h1), p, c, n, _, rfl, pen, by omega, by rw [lmap]; omega, by rw [lmap]; omega, fun r1 H1 b1 d1 pen1 bt1 => ?_⟩
    rw [lmap] at d1
    have h11 := pen_strs pen bt1 h1
    have h12 := pen_strs pen bt1 h2
    have h13 := pen_strs pen bt1 h3
    obtain ⟨one, ho, ho2, ho3⟩ := at_strs b1 d1
    refine ⟨_, rfl, _, rfl, a1, _, r1, _, rfl, rfl, SqL.of h11, ho, ?_⟩
    refine ⟨_, rfl, _, rfl, _, rfl, a2, _, rfl, .inl (SqL.of h12), p, c, n + 1, _, rfl, pen1, by omega, by rw [lmap]; omega, by rw [lmap]; omega, fun r2 H2 b2 d2 pen2 bt2 => ?_⟩
    rw [lmap] at d2
    have h21 := pen_strs pen1 bt2 h11
    have h22 := pen_strs pen1 bt2 h12
    have h23 := pen_strs pen1 bt2 h13
    obtain ⟨good, hg, _, hg3⟩ := at_strs b2 d2
    have bt02 := bt1.tr bt2
    refine ⟨a2, _, r2, _, rfl, rfl, SqL.of h22, hg, ?_⟩
    refine ⟨fun σ' H' => ∃ other : Str, σ' = [some (.ref p), some (.str wd), some (.str nme), some (.int mo), some (.ref a1), some (.ref a2), some (.ref a3), some (.int r1), some (.str one), some (.str good), some (.str other)] ∧ (other = "" ∨ (other ∈ PL ∧ (PL.Nodup → one ≠ other))) ∧
      PenAt H' p c (n + 3) ∧ But p H H' ∧ StrsAt H' a1 PL ∧ StrsAt H' a2 GL ∧ StrsAt H' a3 HL, ?_, ?_⟩
    · refine ⟨_, rfl, a1, _, rfl, .inl (SqL.of h21), _, 1, rfl, rfl, _, rfl, ite2 (fun e => ?_) (fun e => ⟨"", rfl, .inl rfl, pen2.mono (by omega), bt02, h21, h22, h23⟩)⟩
      have e' : 1 < ((PL.map V.str).length : Int) := of_decide_eq_true e
      rw [lmap] at e'
      refine ⟨_, rfl, _, rfl, r1, 1, rfl, rfl, _, rfl, _, rfl, a1, _, rfl, .inl (SqL.of h21), _, 1, rfl, rfl, p, c, n + 2, _, rfl, pen2, by omega, by rw [lmap]; omega, by rw [lmap]; omega, fun r3 H3 b3 d3 pen3 bt3 => ?_⟩
      rw [lmap] at d3
      have h31 := pen_strs pen2 bt3 h21
      have h32 := pen_strs pen2 bt3 h22
      have h33 := pen_strs pen2 bt3 h23
      have x1 : 0 ≤ (r1 + 1 + r3) % (PL.length : Int) := Int.emod_nonneg _ (by omega)
      have x2 : (r1 + 1 + r3) % (PL.length : Int) < (PL.length : Int) := Int.emod_lt_of_pos _ (by omega)
      obtain ⟨other, hp, hp2, hp3⟩ := at_strs x1 x2
      refine ⟨r1 + 1, r3, rfl, rfl, _, rfl, a1, _, rfl, .inl (SqL.of h31), _, (PL.length : Int), rfl, by rw [lmap], (by show (0 : Int) < PL.length; omega), a1, _, _, .str other, rfl, rfl, SqL.of h31, hp, other, rfl, .inr ⟨hp3, fun nod z => ?_⟩, pen3, bt02.tr bt3, h31, h32, h33⟩
      subst z
      have := (List.getElem?_inj (show r1.toNat < PL.length by omega) nod).mp (ho2.trans hp2.symm)
      have x3 : (r1 + 1 + r3) % (PL.length : Int) = r1 + 1 + r3 ∨ (r1 + 1 + r3) % (PL.length : Int) = r1 + 1 + r3 - PL.length := by
        by_cases h : r1 + 1 + r3 < PL.length
        · exact .inl (Int.emod_eq_of_lt (by omega) h)
        · right
          rw [← Int.sub_emod_right]
          exact Int.emod_eq_of_lt (by omega) (by omega)
      omega
    · rintro σ' H3 ⟨other, rfl, oth, pen3, bt3, h31, h32, h33⟩
      have fin : ∀ (tp : Addr) (e : Ent) (H4 : Hp) (k : Nat), H4 tp = none → But p H3 H4 → PenAt H4 p c (n + 3 + k) → k ≤ 17 → e.name = nme → e.moment = mo → e.From PL GL HL → Q (.ref tp) (upd H4 tp (.tup e.vals)) := fun tp e H4 k ntp bt4 pen4 hk e1 e2 e3 =>
        q tp e _ ((bt3.tr bt4).free ntp pen4.there) upd_same e1 e2 e3 ((pen4.mono (by omega)).same (same_new ntp)) ((bt3.tr bt4).tr (.of (same_new ntp)))
      refine ⟨_, rfl, rfl, _, rfl, ite2 (fun e => ?_) (fun e1 => ?_)⟩
      · have e' : wd = "come" := V.str.inj (of_decide_eq_true e)
        subst e'
        refine ⟨_, rfl, _, rfl, _, rfl, _, rfl, _, rfl, _, rfl, p, c, n + 3, rfl, pen3, by omega, fun m1 H4 c1 d1 pen4 bt4 => ?_⟩
        refine ⟨_, rfl, p, c, _, rfl, pen4, by omega, fun m2 H5 c2 d2 pen5 bt5 => ?_⟩
        refine ⟨_, rfl, p, c, _, 2, rfl, pen5, by omega, by decide, by decide, fun r6 H6 c6 d6 pen6 bt6 => ?_⟩
        refine ⟨m2, r6, rfl, rfl, (by show 7 ≤ sizeLine; decide), fun tp ntp => ?_⟩
        exact fin tp (.come nme mo good one m1 (m2 - r6)) H6 9 ntp (bt4.tr (bt5.tr bt6)) pen6 (by decide) rfl rfl ⟨hg3, ho3, c1, d1, by omega, by omega⟩
      refine ⟨_, rfl, rfl, _, rfl, ite2 (fun e => ?_) (fun e2 => ?_)⟩
      · have e' : wd = "go" := V.str.inj (of_decide_eq_true e)
        subst e'
        refine ⟨_, rfl, _, rfl, _, rfl, _, rfl, _, rfl, _, rfl, p, c, n + 3, rfl, pen3, by omega, fun m1 H4 c1 d1 pen4 bt4 => ?_⟩
        refine ⟨(by show 6 ≤ sizeLine; decide), fun tp ntp => ?_⟩
        exact fin tp (.go nme mo good one m1) H4 4 ntp bt4 pen4 (by decide) rfl rfl ⟨hg3, ho3, c1, d1⟩
      have mv : ∀ (A B : Prop), (other ≠ "" → A) → B → (if (!decide (V.str other = V.str "")) = true then A else B) := fun A B hA hB => by
        by_cases z : other = ""
        · subst z
          rw [decide_eq_true rfl]
          exact iteF hB
        · rw [decide_eq_false fun h => z (V.str.inj h)]
          exact iteT (hA z)
      have oin : other ≠ "" → other ∈ PL ∧ (PL.Nodup → one ≠ other) := fun z => oth.resolve_left z
      refine ⟨fun σ' H' => σ' = [some (.ref p), some (.str wd), some (.str nme), some (.int mo), some (.ref a1), some (.ref a2), some (.ref a3), some (.int r1), some (.str one), some (.str good), some (.str other)] ∧ H' = H3, ?_, ?_⟩
      · refine ⟨_, rfl, rfl, _, rfl, ite2 (fun e => ?_) (fun _ => iteF ⟨rfl, rfl⟩)⟩
        have e' : wd = "move" := V.str.inj (of_decide_eq_true e)
        subst e'
        refine ⟨_, rfl, rfl, _, rfl, mv _ _ (fun z => ?_) ⟨rfl, rfl⟩⟩
        refine ⟨_, rfl, _, rfl, _, rfl, _, rfl, _, rfl, _, rfl, _, rfl, p, c, n + 3, rfl, pen3, by omega, fun m1 H4 c1 d1 pen4 bt4 => ?_⟩
        refine ⟨(by show 7 ≤ sizeLine; decide), fun tp ntp => ?_⟩
        exact fin tp (.move nme mo good one other m1) H4 4 ntp bt4 pen4 (by decide) rfl rfl ⟨hg3, ho3, (oin z).1, (oin z).2, c1, d1⟩
      rintro σ' H' ⟨rfl, rfl⟩
      refine ⟨_, rfl, rfl, _, rfl, ite2 (fun e => ?_) (fun e3 => ?_)⟩
      · have e' : wd = "some" := V.str.inj (of_decide_eq_true e)
        subst e'
        refine ⟨_, rfl, _, rfl, _, rfl, _, rfl, _, rfl, _, rfl, _, rfl, (by show 3 ≤ sizeLine; decide), fun l nl => ?_⟩
        have sl := @same_new _ _ (.lst [V.str other, .str other, .str ""]) nl
        have nlp : l ≠ p := fun z => pen3.there (z ▸ nl)
        refine ⟨_, rfl, p, c, n + 3, 3, rfl, pen3.same sl, by omega, by decide, by decide, fun r4 H4 c4 d4 pen4 bt4 => ?_⟩
        have hl := bt4 l _ upd_same nlp
        obtain ⟨to, ht, hto⟩ : ∃ to : Str, atI [V.str other, .str other, .str ""] r4 = some (.str to) ∧ (to = "" ∨ (to ∈ PL ∧ (PL.Nodup → one ≠ to))) := by
          have w3 : r4 = 0 ∨ r4 = 1 ∨ r4 = 2 := by omega
          rcases w3 with rfl | rfl | rfl
          · exact ⟨other, atI_nat (j := 0) rfl, oth⟩
          · exact ⟨other, atI_nat (j := 1) rfl, oth⟩
          · exact ⟨"", atI_nat (j := 2) rfl, .inl rfl⟩
        refine ⟨l, _, r4, _, rfl, rfl, SqL.of hl, ht, (by show 6 ≤ sizeLine; decide), fun tp ntp => ?_⟩
        exact fin tp (.some_ nme mo good one to) H4 1 ntp ((But.of sl).tr bt4) pen4 (by decide) rfl rfl ⟨hg3, ho3, hto⟩
      refine ⟨fun σ' H1 => σ' = [some (.ref p), some (.str wd), some (.str nme), some (.int mo), some (.ref a1), some (.ref a2), some (.ref a3), some (.int r1), some (.str one), some (.str good), some (.str other)] ∧ H1 = H', ?_, ?_⟩
      · refine ⟨_, rfl, rfl, _, rfl, ite2 (fun e => ?_) (fun _ => iteF ⟨rfl, rfl⟩)⟩
        have e' : wd = "swap" := V.str.inj (of_decide_eq_true e)
        subst e'
        refine ⟨_, rfl, rfl, _, rfl, mv _ _ (fun z => ?_) ⟨rfl, rfl⟩⟩
        refine ⟨_, rfl, _, rfl, _, rfl, _, rfl, _, rfl, (by show 5 ≤ sizeLine; decide), fun tp ntp => ?_⟩
        exact fin tp (.swap nme mo one other) H' 0 ntp (.refl _ _) pen3 (by decide) rfl rfl ⟨ho3, (oin z).1, (oin z).2⟩
      rintro σ' H2 ⟨rfl, rfl⟩
      refine ⟨_, rfl, rfl, _, rfl, ite2 (fun e => ?_) (fun e5 => ?_)⟩
      · have e' : wd = "count" := V.str.inj (of_decide_eq_true e)
        subst e'
        refine ⟨_, rfl, _, rfl, _, rfl, _, rfl, _, rfl, _, rfl, p, c, n + 3, rfl, pen3, by omega, fun m1 H4 c1 d1 pen4 bt4 => ?_⟩
        refine ⟨_, rfl, p, c, _, 2, rfl, pen4, by omega, by decide, by decide, fun r5 H5 c5 d5 pen5 bt5 => ?_⟩
        have h43 := pen_strs pen4 bt5 (pen_strs pen3 bt4 h33)
        refine ⟨m1, r5, rfl, rfl, _, rfl, _, rfl, _, rfl, a3, _, rfl, .inl (SqL.of h43), p, c, _, _, rfl, pen5, by omega, by rw [lmap]; omega, by rw [lmap]; omega, fun r6 H6 c6 d6 pen6 bt6 => ?_⟩
        rw [lmap] at d6
        obtain ⟨hand, hh, _, hh3⟩ := at_strs c6 d6
        refine ⟨a3, _, r6, _, rfl, rfl, SqL.of (pen_strs pen5 bt6 h43), hh, (by show 7 ≤ sizeLine; decide), fun tp ntp => ?_⟩
        exact fin tp (.count nme mo good one (m1 - r5) hand) H6 6 ntp (bt4.tr (bt5.tr bt6)) pen6 (by decide) rfl rfl ⟨hg3, ho3, by omega, by omega, hh3⟩
      refine ⟨_, rfl, _, rfl, _, rfl, _, rfl, (by show 5 ≤ sizeLine; decide), fun tp ntp => ?_⟩
      exact fin tp (.look nme mo good one) H2 0 ntp (.refl _ _) pen3 (by decide) rfl rfl ⟨hg3, ho3⟩
abbrev entryN : List Str := ["_law_pen_here", "_law_name", "_law_moment", "_law_places", "_law_goods", "_law_hands", "_law_words_here"]
theorem scEntry : FnScope entryN ["_law_pen_here", "_law_name", "_law_moment", "_law_places", "_law_goods", "_law_hands"] (defScope sEntry) := ⟨rfl, rfl, rfl, by decide +kernel, rfl, by decide +kernel, by decide +kernel⟩
theorem ok_entry {f fT fE : Addr} {fd fdT fdE : FuncData} (F : Fun K "_law_entry" "_law_entry" sEntry f fd) (T : TakeT P w K mg base fT fdT)
    (EO : DefT P w K mg base "_law_entry_of" 3 fE fdE ["_law_pen_here", "_law_word", "_law_name", "_law_moment", "_law_places", "_law_goods", "_law_hands"] spEntryOf) :
    FnOk P w K mg base CX0 4 f fd ["_law_pen_here", "_law_name", "_law_moment", "_law_places", "_law_goods", "_law_hands"] spEntry := by
  refine F.ok scEntry (fun vs H Q E h => ?_) (fun cdv A outer s H vs Q E hr h => ?_)
  · obtain ⟨p, c, n, nme, mo, a1, a2, a3, PL, GL, HL, rfl, _⟩ := h
    rfl
  · obtain ⟨p, c, n, nme, mo, a1, a2, a3, PL, GL, HL, rfl, pen, hn, h1, h2, h3, ne1, ne2, ne3, lp, lg, lh, q⟩ := h
    have nd := scEntry.nd
    have hr1 : Room 1 _ := hr.mono (by decide)
    refine ⟨_, pss_cons (ps_set (i := 6) nd rfl (Or.inl rfl) (pe_lst (pa_cons pe_str (pa_cons pe_str (pa_cons pe_str (pa_cons pe_str (pa_cons pe_str (pa_cons pe_str (pa_cons pe_str (pa_cons pe_str (pa_cons pe_str (pa_cons pe_str pa_nil))))))))))))
      (pss_one (ps_ret (pe_call EO.ok hr (by rfl) EO.g EO.kp EO.b .nil pass0 (pa_cons (pv 0) (pa_cons (pe_ix ix_list (pv 6) (pe_call T.ok hr1 (by rfl) T.g T.kp T.b .nil pass0 (pa_cons (pv 0) (pa_cons pe_int pa_nil))) (fun _ _ => rfl)) (pa_cons (pv 1) (pa_cons (pv 2) (pa_cons (pv 3) (pa_cons (pv 4) (pa_cons (pv 5) pa_nil)))))))))), ?_⟩
    refine ⟨(by show 10 ≤ sizeLine; decide), fun l nl => ?_⟩
    have sl := @same_new _ _ (.lst (words10.map V.str)) nl
    have nlp : l ≠ p := fun z => pen.there (z ▸ nl)
    have pen' := pen.same sl
    refine ⟨_, rfl, _, rfl, _, rfl, p, c, n, 10, rfl, pen', by omega, by decide, by decide, fun r1 H1 b1 d1 pen1 bt1 => ?_⟩
    obtain ⟨wd, hw, _, hw3⟩ := at_strs (ys := words10) b1 d1
    have hl : StrsAt H1 l words10 := bt1 l _ upd_same nlp
    have w7 : wd ∈ words7 := by
      simp only [List.mem_cons, List.not_mem_nil, or_false] at hw3
      rcases hw3 with rfl | rfl | rfl | rfl | rfl | rfl | rfl | rfl | rfl | rfl <;> simp [words7]
    refine ⟨l, _, r1, _, rfl, rfl, SqL.of hl, hw, _, rfl, _, rfl, _, rfl, _, rfl, _, rfl, p, c, n + 1, wd, nme, mo, a1, a2, a3, PL, GL, HL, rfl, pen1, by omega, w7, pen_strs pen' bt1 (sl _ _ h1), pen_strs pen' bt1 (sl _ _ h2), pen_strs pen' bt1 (sl _ _ h3), ne1, ne2, ne3, lp, lg, lh, fun tp e H2 ntp ht en em ef pen2 bt2 => ?_⟩
    exact q tp e H2 (sl.free ((bt1.free ntp pen1.there))) ht en em ef (pen2.mono (by omega)) ((But.of sl).tr (bt1.tr bt2))
end
/-! ### words and moments -/
def NmL (ys : List Str) (m : Nat) : Prop := ∃ way t B sp, NmOk way t B sp ∧ ys = (List.range m).map (nmStr way t B sp)
theorem nmAt_strs {H : Hp} {l : Addr} {m : Nat} (h : NmAt H l m) : ∃ ys, StrsAt H l ys ∧ NmL ys m := by
  obtain ⟨way, t, B, sp, ok, e⟩ := h
  refine ⟨(List.range m).map (nmStr way t B sp), ?_, way, t, B, sp, ok, rfl⟩
  show H l = _
  rw [e, List.map_map]
  rfl
theorem NmL.len {ys : List Str} {m : Nat} (h : NmL ys m) : ys.length = m := by
  obtain ⟨way, t, B, sp, ok, rfl⟩ := h
  simp
theorem NmL.take {ys : List Str} {m k : Nat} (h : NmL ys m) (hk : k ≤ m) : NmL (ys.take k) k := by
  obtain ⟨way, t, B, sp, ok, rfl⟩ := h
  refine ⟨way, t, B, sp, ok, ?_⟩
  rw [← List.map_take, List.take_range, Nat.min_eq_left hk]
theorem cut_take {xs : List V} {k : Nat} : cutV xs none (some (k : Int)) = xs.take k := by
  unfold cutV
  rw [HT.sIx_none, HT.sIx_nat]
  show (xs.drop 0).take (min k xs.length - 0) = xs.take k
  rw [List.drop_zero, Nat.sub_zero]
  by_cases h : k ≤ xs.length
  · rw [Nat.min_eq_left h]
  · rw [Nat.min_eq_right (by omega), List.take_length, List.take_of_length_le (by omega)]
def spWords : Sp := fun vs H Q _ => ∃ (p c : Addr) (n : Nat) (a b e : Nat), vs = [.ref p, .int a, .int b, .int e] ∧ PenAt H p c n ∧ n ≤ 40000 ∧ a ≤ 31 ∧ b ≤ 31 ∧ e ≤ 31 ∧
  ∀ (tp l1 l2 l3 l4 : Addr) (PL GL HL EL : List Str) (H' : Hp), H tp = none → H' tp = some (.tup [.ref l1, .ref l2, .ref l3, .ref l4]) → StrsAt H' l1 PL → StrsAt H' l2 GL → StrsAt H' l3 HL → StrsAt H' l4 EL →
    NmL PL a → NmL GL b → NmL HL 3 → NmL EL e → PenAt H' p c (n + 50) → But p H H' → Q (.ref tp) H'
def spMoments : Sp := fun vs H Q _ => ∃ (p c : Addr) (n : Nat) (m : Nat), vs = [.ref p, .int m] ∧ PenAt H p c n ∧ n ≤ 60000 ∧ m ≤ 31 ∧
  ∀ (l : Addr) (ns : List Int) (H' : Hp), H l = none → H' l = some (.lst (ns.map V.int)) → ns.length = m → (∀ x ∈ ns, 0 ≤ x ∧ x ≤ 9999) → PenAt H' p c (n + 100) → But p H H' → Q (.ref l) H'
section
variable {P : Program} {w : World} {K : PySem.W.Frag} {mg : Str → Option Value} {base : Heap}
abbrev wordsN : List Str := ["_law_pen_here", "_law_places", "_law_goods", "_law_entries", "_law_some", "_law_hands"]
theorem scWords : FnScope wordsN ["_law_pen_here", "_law_places", "_law_goods", "_law_entries"] (defScope sWords) := ⟨rfl, rfl, rfl, by decide +kernel, rfl, by decide +kernel, by decide +kernel⟩
theorem ok_words {f fT fN : Addr} {fd fdT fdN : FuncData} (F : Fun K "_law_words" "_law_words" sWords f fd) (T : TakeT P w K mg base fT fdT) (N : DefT P w K mg base "_law_names" 2 fN fdN ["_law_pen_here", "_law_many_here"] spNames) :
    FnOk P w K mg base CX0 3 f fd ["_law_pen_here", "_law_places", "_law_goods", "_law_entries"] spWords := by
  refine F.ok scWords (fun vs H Q E h => ?_) (fun cdv A outer s H vs Q E hr h => ?_)
  · obtain ⟨p, c, n, a, b, e, rfl, _⟩ := h
    rfl
  · obtain ⟨p, c, n, a, b, e, rfl, pen, hn, ha, hb, he, q⟩ := h
    have nd := scWords.nd
    have hr1 : Room 1 _ := hr.mono (by decide)
    refine ⟨_, pss_cons (ps_if (pt_cmpR op_eq (pe_call T.ok hr1 (by rfl) T.g T.kp T.b .nil pass0 (pa_cons (pv 0) (pa_cons pe_int pa_nil))) pe_int (nomark _))
        (pss_cons (ps_set (i := 4) nd rfl (Or.inl rfl) (pe_call N.ok hr (by rfl) N.g N.kp N.b .nil pass0 (pa_cons (pv 0) (pa_cons pe_int pa_nil))))
        (pss_one (ps_ret (pe_tup (pa_cons (pe_slice sl_list (pv 4) po_none (po_some (pv 1))) (pa_cons (pe_slice sl_list (pv 4) po_none (po_some (pv 2))) (pa_cons (pe_slice sl_list (pv 4) po_none (po_some pe_int)) (pa_cons (pe_slice sl_list (pv 4) po_none (po_some (pv 3))) pa_nil)))))))) pss_nil)
      (pss_cons (ps_set (i := 5) nd rfl (Or.inl rfl) (pe_call N.ok hr (by rfl) N.g N.kp N.b .nil pass0 (pa_cons (pv 0) (pa_cons pe_int pa_nil))))
      (pss_one (ps_ret (pe_tup (pa_cons (pe_call N.ok hr (by rfl) N.g N.kp N.b .nil pass0 (pa_cons (pv 0) (pa_cons (pv 1) pa_nil))) (pa_cons (pe_call N.ok hr (by rfl) N.g N.kp N.b .nil pass0 (pa_cons (pv 0) (pa_cons (pv 2) pa_nil))) (pa_cons (pv 5) (pa_cons (pe_call N.ok hr (by rfl) N.g N.kp N.b .nil pass0 (pa_cons (pv 0) (pa_cons (pv 3) pa_nil))) pa_nil)))))))), ?_⟩
    refine ⟨_, rfl, p, c, n, 4, rfl, pen, by omega, by decide, by decide, fun r1 H1 b1 d1 pen1 bt1 => ⟨rfl, _, rfl, ite2 (fun _ => ?_) (fun _ => ?_)⟩⟩
    · refine ⟨_, rfl, p, c, n + 1, 31, rfl, pen1, by omega, by decide, by decide, fun l H2 nl hl pen2 bt2 => ?_⟩
      obtain ⟨ys, hy, ny⟩ := nmAt_strs hl
      have tk : ∀ k : Nat, cutV (ys.map V.str) none (some (k : Int)) = (ys.take k).map V.str := fun k => by rw [cut_take, List.map_take]
      refine ⟨_, rfl, _, rfl, (a : Int), rfl, l, _, rfl, SqL.of hy, fun l1 n1 => ?_⟩
      have s1 := @same_new _ _ (.lst (cutV (ys.map V.str) none (some (a : Int)))) n1
      refine ⟨_, rfl, _, rfl, (b : Int), rfl, l, _, rfl, SqL.of (s1 _ _ hy), fun l2 n2 => ?_⟩
      have s2 := @same_new _ _ (.lst (cutV (ys.map V.str) none (some (b : Int)))) n2
      refine ⟨_, rfl, 3, rfl, l, _, rfl, SqL.of (s2 _ _ (s1 _ _ hy)), fun l3 n3 => ?_⟩
      have s3 := @same_new _ _ (.lst (cutV (ys.map V.str) none (some (3 : Int)))) n3
      refine ⟨_, rfl, _, rfl, (e : Int), rfl, l, _, rfl, SqL.of (s3 _ _ (s2 _ _ (s1 _ _ hy))), fun l4 n4 => ?_⟩
      have s4 := @same_new _ _ (.lst (cutV (ys.map V.str) none (some (e : Int)))) n4
      refine ⟨(by show 4 ≤ sizeLine; decide), fun tp ntp => ?_⟩
      have s5 := @same_new _ _ (.tup [V.ref l1, .ref l2, .ref l3, .ref l4]) ntp
      have u4 := s4.trans s5
      have u3 := s3.trans u4
      have u2 := s2.trans u3
      have u1 := s1.trans u2
      have bt := (bt1.tr bt2).tr (.of u1)
      have f0 : H tp = none := (bt1.tr bt2).free (s1.free (s2.free (s3.free (s4.free ntp)))) pen2.there
      refine q tp l1 l2 l3 l4 (ys.take a) (ys.take b) (ys.take 3) (ys.take e) _ f0 upd_same ?_ ?_ ?_ ?_ (ny.take ha) (ny.take hb) (ny.take (by decide)) (ny.take he) ((pen2.mono (by omega)).same u1) bt
      · exact u2 _ _ (by rw [upd_same, tk])
      · exact u3 _ _ (by rw [upd_same, tk])
      · exact u4 _ _ (by rw [upd_same]; exact congrArg (fun z => some (HO.lst z)) (tk 3))
      · exact s5 _ _ (by rw [upd_same, tk])
    · refine ⟨_, rfl, p, c, n + 1, 3, rfl, pen1, by omega, by decide, by decide, fun l3 H2 nl3 hl3 pen2 bt2 => ?_⟩
      obtain ⟨ys3, hy3, ny3⟩ := nmAt_strs hl3
      refine ⟨_, rfl, _, rfl, p, c, n + 11, (a : Int), rfl, pen2, by omega, by omega, by omega, fun l1 H3 nl1 hl1 pen3 bt3 => ?_⟩
      obtain ⟨ys1, hy1, ny1⟩ := nmAt_strs hl1
      refine ⟨_, rfl, _, rfl, p, c, n + 21, (b : Int), rfl, pen3, by omega, by omega, by omega, fun l2 H4 nl2 hl2 pen4 bt4 => ?_⟩
      obtain ⟨ys2, hy2, ny2⟩ := nmAt_strs hl2
      refine ⟨_, rfl, _, rfl, _, rfl, p, c, n + 31, (e : Int), rfl, pen4, by omega, by omega, by omega, fun l4 H5 nl4 hl4 pen5 bt5 => ?_⟩
      obtain ⟨ys4, hy4, ny4⟩ := nmAt_strs hl4
      refine ⟨(by show 4 ≤ sizeLine; decide), fun tp ntp => ?_⟩
      have s5 := @same_new _ _ (.tup [V.ref l1, .ref l2, .ref l3, .ref l4]) ntp
      have bt := bt1.tr (bt2.tr (bt3.tr (bt4.tr bt5)))
      exact q tp l1 l2 l3 l4 ys1 ys2 ys3 ys4 _ (bt.free ntp pen5.there) upd_same (s5 _ _ (pen_strs pen4 bt5 (pen_strs pen3 bt4 hy1))) (s5 _ _ (pen_strs pen4 bt5 hy2)) (s5 _ _ (pen_strs pen4 bt5 (pen_strs pen3 bt4 (pen_strs pen2 bt3 hy3)))) (s5 _ _ hy4)
        (by rw [Int.toNat_natCast] at ny1; exact ny1) (by rw [Int.toNat_natCast] at ny2; exact ny2) ny3 (by rw [Int.toNat_natCast] at ny4; exact ny4) ((pen5.mono (by omega)).same s5) (bt.tr (.of s5))
abbrev momN : List Str := ["_law_pen_here", "_law_many_here", "_law_way", "_law_some", "_law_k", "_law_few", "_law_found"]
theorem scMom : FnScope momN ["_law_pen_here", "_law_many_here"] (defScope sMoments) := ⟨rfl, rfl, rfl, by decide +kernel, rfl, by decide +kernel, by decide +kernel⟩
theorem at_ints {ns : List Int} {r : Int} (h0 : 0 ≤ r) (h1 : r < (ns.length : Int)) : ∃ y, atI (ns.map V.int) r = some (.int y) ∧ y ∈ ns := by
  have h : r.toNat < ns.length := by omega
  have e : ((r.toNat : Nat) : Int) = r := by omega
  have q := atI_nat (xs := ns.map V.int) (j := r.toNat) (v := .int ns[r.toNat]) (by rw [List.getElem?_map, List.getElem?_eq_getElem h]; rfl)
  rw [e] at q
  exact ⟨_, q, List.getElem_mem h⟩
set_option maxHeartbeats 4000000 in
theorem ok_moments {f fT : Addr} {fd fdT : FuncData} (F : Fun K "_law_moments" "_law_moments" sMoments f fd) (T : TakeT P w K mg base fT fdT) (ml : mg "len" = none) (mr : mg "range" = none) (mi : mg "int" = none) :
    FnOk P w K mg base CX0 2 f fd ["_law_pen_here", "_law_many_here"] spMoments := by
  refine F.ok scMom (fun vs H Q E h => ?_) (fun cdv A outer s H vs Q E hr h => ?_)
  · obtain ⟨p, c, n, m, rfl, _⟩ := h
    rfl
  · obtain ⟨p, c, n, m, rfl, pen, hn, hm, q⟩ := h
    have nd := scMom.nd
    refine ⟨_, pss_cons (ps_set (i := 2) nd rfl (Or.inl rfl) (pe_call T.ok hr (by rfl) T.g T.kp T.b .nil pass0 (pa_cons (pv 0) (pa_cons pe_int pa_nil))))
      (pss_cons (ps_set (i := 3) nd rfl (Or.inr rfl) (pe_lst (pa_cons pe_int (pa_cons pe_int (pa_cons pe_int (pa_cons pe_int (pa_cons (pe_call T.ok hr (by rfl) T.g T.kp T.b .nil pass0 (pa_cons (pv 0) (pa_cons pe_int pa_nil))) (pa_cons (pe_call T.ok hr (by rfl) T.g T.kp T.b .nil pass0 (pa_cons (pv 0) (pa_cons pe_int pa_nil))) pa_nil))))))))
      (pss_cons (ps_setLc (i := 5) (own := [("_law_k", 4)]) (g := gName 4) (tt := tYes) (te := tOp (rIxL K) (tVar 3) (tCall spTake [] E0 (tCons (tVar 0) (tCons (tC (V.int 6)) tNil)))) rfl nd rfl rfl (sw_true rfl rfl rfl (by decide +kernel))
          (pi_range1 rfl mr (pa_cons (pe_op op_add pe_int (pe_call T.ok hr (by rfl) T.g T.kp T.b .nil pass0 (pa_cons (pv 0) (pa_cons pe_int pa_nil)))) pa_nil))
          (blkOk_by (N := momN) (sc := defScope sMoments) (by decide +kernel))
          (fun _ _ _ _ _ => pg_name (i := 4) nd rfl (Or.inl rfl)) (fun _ _ _ _ _ => pts_nil)
          (fun _ _ _ _ _ => pe_ix ix_list (pv 3) (pe_call T.ok hr (by rfl) T.g T.kp T.b .nil pass0 (pa_cons (pv 0) (pa_cons pe_int pa_nil))) (fun _ _ => rfl)))
      (pss_cons (ps_set (i := 6) nd rfl (Or.inl rfl) (pe_lst pa_nil))
      (pss_cons (ps_for PassesOwn.never rfl (pi_range1 rfl mr (pa_cons (pv 1) pa_nil)) (pg_name (i := 4) nd rfl (Or.inl rfl))
        (pss_one (ps_expr (pe_bm PySem.F.plainAttrs_list PySem.F.slot_list_append PySem.F.type_list_append mt_append (pv 6) (pa_cons (pe_ix ix_list
          (pe_lst (pa_cons (pe_ix ix_list (pv 5) (pe_call T.ok hr (by rfl) T.g T.kp T.b .nil pass0 (pa_cons (pv 0) (pa_cons (pe_callB call_len_seq (by rfl) ml PySem.boot_len (pa_cons (pv 5) pa_nil)) pa_nil))) (fun _ _ => rfl)) (pa_cons (pe_call T.ok hr (by rfl) T.g T.kp T.b .nil pass0 (pa_cons (pv 0) (pa_cons pe_int pa_nil))) pa_nil)))
          (pe_callTy call_int1 (by rfl) mi (by decide +kernel) (pa_cons (pe_cmpR op_eq (pv 2) pe_int (nomark _)) pa_nil)) (fun _ _ => rfl)) pa_nil)))))
      (pss_one (ps_ret (pv 6))))))), ?_⟩
    refine ⟨_, rfl, p, c, n, 4, rfl, pen, by omega, by decide, by decide, fun r1 H1 b1 d1 pen1 bt1 => ?_⟩
    refine ⟨_, rfl, p, c, n + 1, 10000, rfl, pen1, by omega, by decide, by decide, fun r2 H2 b2 d2 pen2 bt2 => ?_⟩
    refine ⟨_, rfl, p, c, n + 2, 10000, rfl, pen2, by omega, by decide, by decide, fun r3 H3 b3 d3 pen3 bt3 => ?_⟩
    refine ⟨(by show 6 ≤ sizeLine; decide), fun S nS => ?_⟩
    have sS := @same_new _ _ (.lst (([0, 99, 100, 9999, r2, r3] : List Int).map V.int)) nS
    have penS := pen3.same sS
    have nSp : S ≠ p := fun z => pen3.there (z ▸ nS)
    have btS : But p H (upd H3 S (.lst (([0, 99, 100, 9999, r2, r3] : List Int).map V.int))) := (bt1.tr (bt2.tr bt3)).tr (.of sS)
    have hS : (upd H3 S (.lst (([0, 99, 100, 9999, r2, r3] : List Int).map V.int))) S = some (.lst (([0, 99, 100, 9999, r2, r3] : List Int).map V.int)) := upd_same
    refine ⟨_, rfl, p, c, n + 3, 4, rfl, penS, by omega, by decide, by decide, fun r4 H4 b4 d4 pen4 bt4 => ?_⟩
    have hS4 := bt4 S _ hS nSp
    refine ⟨1, r4, rfl, rfl, 1 + r4, rfl, by omega, by omega, fun D nD => ?_⟩
    have nDp : D ≠ p := fun z => pen4.there (z ▸ nD)
    have nDc : D ≠ c := fun z => pen4.cells (z ▸ nD)
    have nSD : S ≠ D := ne_of_none hS4 nD
    have hDn : H D = none := (btS.tr bt4).free nD pen4.there
    refine lc_range (lo := 0) (n := (1 + r4).toNat) (fun j H' => PenAt H' p c (n + 4 + j) ∧ But p H H' ∧ H' S = some (.lst (([0, 99, 100, 9999, r2, r3] : List Int).map V.int)) ∧ ∃ fs : List Int, H' D = some (.lst (fs.map V.int)) ∧ fs.length = j ∧ ∀ x ∈ fs, 0 ≤ x ∧ x ≤ 9999)
      ⟨pen4.same (same_new nD), (btS.tr bt4).tr (.of (same_new nD)), (upd_ne nSD).trans hS4, [], upd_same, rfl, fun y hy => nomatch hy⟩ ?_ ?_
    · rintro j H6 hj ⟨pen6, bt6, hS6, fs, hD6, lf, bd⟩
      refine ⟨rfl, yesT ?_⟩
      refine ⟨_, rfl, _, rfl, p, c, _, 6, rfl, pen6, by omega, by decide, by decide, fun r H7 b7 d7 pen7 bt7 => ?_⟩
      obtain ⟨y, hy, my⟩ := at_ints (ns := [0, 99, 100, 9999, r2, r3]) b7 d7
      have hD7 := bt7 D _ hD6 nDp
      have hS7 := bt7 S _ hS6 nSp
      refine ⟨S, _, r, _, rfl, rfl, SqL.of hS7, hy, _, hD7, (by rw [List.length_map]; exact small1000 (by omega)), pen7.upd nDp nDc, fun b o e nb => (upd_ne (ne_of_none e hDn)).trans ((bt6.tr bt7) b o e nb), (upd_ne nSD).trans hS7, fs ++ [y], ?_, by simp [lf], ?_⟩
      · rw [upd_same, List.map_append]
        rfl
      · intro x hx
        rcases List.mem_append.mp hx with h | h
        · exact bd x h
        · rw [List.mem_singleton.mp h]
          simp only [List.mem_cons, List.not_mem_nil, or_false] at my
          rcases my with rfl | rfl | rfl | rfl | rfl | rfl <;> constructor <;> omega
    · rintro H6 ⟨pen6, bt6, hS6, fs, hD6, lf, bd⟩
      refine ⟨Nat.zero_le _, fun Fd nFd => ?_⟩
      have nFp : Fd ≠ p := fun z => pen6.there (z ▸ nFd)
      have nFc : Fd ≠ c := fun z => pen6.cells (z ▸ nFd)
      have nDF : D ≠ Fd := ne_of_none hD6 nFd
      have hFn : H Fd = none := bt6.free nFd pen6.there
      refine ⟨_, rfl, (m : Int), rfl, by omega, by omega, for_range (lo := 0) (n := (m : Int).toNat) (fun j σ H' => ∃ y4, σ = [some (.ref p), some (.int (m : Int)), some (.int r1), some (.ref S), y4, some (.ref D), some (.ref Fd)] ∧ PenAt H' p c (n + 8 + 2 * j) ∧ But p H H' ∧ H' D = some (.lst (fs.map V.int)) ∧
        ∃ ns : List Int, H' Fd = some (.lst (ns.map V.int)) ∧ ns.length = j ∧ ∀ x ∈ ns, 0 ≤ x ∧ x ≤ 9999) ⟨_, rfl, (pen6.mono (by omega)).same (same_new nFd), bt6.tr (.of (same_new nFd)), (upd_ne nDF).trans hD6, [], upd_same, rfl, fun y hy => nomatch hy⟩ ?_ ?_⟩
      · rintro j σ H9 hj ⟨y4, rfl, pen9, bt9, hD9, ns, hF9, ln, bn⟩
        have lfs : ((fs.map V.int).length : Int) = (fs.length : Int) := by rw [List.length_map]
        refine ⟨_, rfl, .inl ⟨rfl, _, SqL.of hF9⟩, _, rfl, _, rfl, _, rfl, D, _, rfl, .inl (SqL.of hD9), p, c, _, _, rfl, pen9, by omega, by rw [lfs]; omega, by rw [lfs]; omega, fun r5 H10 b5 d5 pen10 bt10 => ?_⟩
        rw [lfs] at d5
        obtain ⟨y, hy, my⟩ := at_ints b5 d5
        have hD10 := bt10 D _ hD9 nDp
        refine ⟨D, _, r5, _, rfl, rfl, SqL.of hD10, hy, _, rfl, p, c, _, 10000, rfl, pen10, by omega, by decide, by decide, fun r6 H11 b6 d6 pen11 bt11 => ?_⟩
        refine ⟨(by show 2 ≤ sizeLine; decide), fun L nL => ?_⟩
        have sL := @same_new _ _ (.lst (([y, r6] : List Int).map V.int)) nL
        refine ⟨_, rfl, rfl, .inr ⟨decide (V.int r1 = V.int 0), rfl, ?_⟩⟩
        have z01 : (0 : Int) ≤ (if decide (V.int r1 = V.int 0) = true then 1 else 0) ∧ (if decide (V.int r1 = V.int 0) = true then (1 : Int) else 0) < 2 := by
          cases decide (V.int r1 = V.int 0) <;> decide
        obtain ⟨x, hx, mx⟩ := at_ints (ns := [y, r6]) z01.1 z01.2
        have hF12 := sL _ _ (bt11 Fd _ (bt10 Fd _ hF9 nFp) nFp)
        have bt12 := (bt9.tr (bt10.tr bt11)).tr (.of sL)
        refine ⟨L, _, _, _, rfl, rfl, SqL.of upd_same, hx, Fd, _, _, rfl, rfl, hF12, (by rw [List.length_map]; exact small1000 (by omega)), _, rfl, (((pen11.mono (by omega)).same sL).upd nFp nFc), fun b o e nb => (upd_ne (ne_of_none e hFn)).trans (bt12 b o e nb), (upd_ne nDF).trans (sL _ _ (bt11 D _ hD10 nDp)), ns ++ [x], ?_, by simp [ln], ?_⟩
        · rw [upd_same, List.map_append]
          rfl
        · intro z hz
          rcases List.mem_append.mp hz with h | h
          · exact bn z h
          · rw [List.mem_singleton.mp h]
            have by_ := bd y my
            simp only [List.mem_cons, List.not_mem_nil, or_false] at mx
            rcases mx with rfl | rfl <;> constructor <;> omega
      · rintro σ H9 ⟨y4, rfl, pen9, bt9, hD9, ns, hF9, ln, bn⟩
        exact ⟨_, rfl, q Fd ns H9 hFn hF9 (by omega) bn (pen9.mono (by omega)) bt9⟩
end
/-! ### is_name -/
def signB (c : Nat) : Bool := decide (c ∈ abc.cps.toList)
def nameB (z : Str) : Bool := decide (1 ≤ z.length) && decide (z.length ≤ 8) && z.cps.toList.all signB
theorem nameB_in {z : Str} (h1 : (1 : Int) ≤ (z.length : Int)) (h2 : (z.length : Int) ≤ 8) : nameB z = z.cps.toList.all signB := by
  unfold nameB
  rw [decide_eq_true (show 1 ≤ z.length by omega), decide_eq_true (show z.length ≤ 8 by omega)]
  rfl
theorem nameB_long {z : Str} (h : ¬ (z.length : Int) ≤ 8) : nameB z = false := by
  unfold nameB
  rw [decide_eq_false (show ¬ z.length ≤ 8 by omega), Bool.and_false]
  rfl
theorem nameB_short {z : Str} (h : ¬ (1 : Int) ≤ (z.length : Int)) : nameB z = false := by
  unfold nameB
  rw [decide_eq_false (show ¬ 1 ≤ z.length by omega)]
  rfl
/-! ### the drawn names are names, unlike ones -/
theorem bij_pow (t : Nat) : ∀ (j r : Nat), r + 1 ≤ 2 ^ j → (bij t r).length ≤ j
  | 0, r, h => by
    have : r = 0 := by simp at h; exact h
    subst this
    rw [bij]
    exact Nat.le_refl _
  | j + 1, 0, _ => by
    rw [bij]
    exact Nat.zero_le _
  | j + 1, r + 1, h => by
    rw [bij, List.length_append]
    have h2 : 2 ^ (j + 1) = 2 * 2 ^ j := by rw [Nat.pow_succ]; omega
    have := bij_pow t j (r / 2) (by rw [h2] at h; omega)
    show _ + 1 ≤ _
    omega
theorem bij_in (t : Nat) : ∀ (r : Nat), ∀ c ∈ bij t r, c ∈ abc.cps.toList
  | 0, c, h => by
    rw [bij] at h
    cases h
  | r + 1, c, h => by
    rw [bij] at h
    rcases List.mem_append.mp h with h | h
    · exact bij_in t (r / 2) c h
    · rw [List.mem_singleton.mp h]
      exact Lc_in (Nat.mod_lt _ (by decide))
theorem nm_in {way t : Nat} {B : List Nat} {sp : Nat} (ok : NmOk way t B sp) (k : Nat) : ∀ c ∈ nm way t B sp k, c ∈ abc.cps.toList := by
  intro c h
  unfold nm at h
  split at h
  · exact bij_in _ _ c h
  · rcases List.mem_append.mp h with h | h
    · rcases List.mem_append.mp h with h | h
      · exact ok.bl c (List.mem_of_mem_take h)
      · simp only [nmPair, List.mem_cons, List.not_mem_nil, or_false] at h
        rcases h with rfl | rfl <;> exact Lc_in (Nat.mod_lt _ (by decide))
    · exact ok.bl c (List.mem_of_mem_drop h)
theorem nm_len {way t : Nat} {B : List Nat} {sp : Nat} (ok : NmOk way t B sp) {k : Nat} (hk : k ≤ 30) : 1 ≤ (nm way t B sp k).length ∧ (nm way t B sp k).length ≤ 8 := by
  unfold nm
  split
  · have h := bij_pow t 5 (k + 1) (by show k + 1 + 1 ≤ 32; omega)
    refine ⟨?_, by omega⟩
    rw [bij, List.length_append]
    show 1 ≤ _ + 1
    omega
  · have := ok.b6
    have := ok.s
    rw [List.length_append, List.length_append, List.length_take, List.length_drop]
    show 1 ≤ _ + 2 + _ ∧ _ + 2 + _ ≤ 8
    constructor <;> omega
theorem nm_name {way t : Nat} {B : List Nat} {sp : Nat} (ok : NmOk way t B sp) {k : Nat} (hk : k ≤ 30) : nameB (nmStr way t B sp k) = true := by
  have h := nm_len ok hk
  have e : (nmStr way t B sp k).length = (nm way t B sp k).length := sc_len _
  unfold nameB
  rw [e, decide_eq_true h.1, decide_eq_true h.2]
  show (nmStr way t B sp k).cps.toList.all signB = true
  rw [List.all_eq_true]
  intro c hc
  exact decide_eq_true (nm_in ok k c (by simpa [nmStr] using hc))
theorem Lc_inj : ∀ i < 26, ∀ j < 26, Lc i = Lc j → i = j := by decide +kernel
theorem bij_inj {t : Nat} : ∀ (r q : Nat), bij t r = bij t q → r = q := by
  intro r
  induction r using Nat.strongRecOn with
  | ind r ih =>
    intro q h
    cases r with
    | zero =>
      cases q with
      | zero => rfl
      | succ q =>
        have := congrArg List.length h
        rw [bij, bij, List.length_append] at this
        simp at this
    | succ r =>
      cases q with
      | zero =>
        have := congrArg List.length h
        rw [bij, bij, List.length_append] at this
        simp at this
      | succ q =>
        rw [bij, bij] at h
        have h1 := List.append_inj_left' h rfl
        have h2 := List.append_inj_right' h rfl
        have e := ih (r / 2) (by omega) (q / 2) h1
        have e2 : Lc ((t + 9 * ((r + 1) % 2)) % 26) = Lc ((t + 9 * ((q + 1) % 2)) % 26) := List.head_eq_of_cons_eq h2
        have e3 := Lc_inj _ (Nat.mod_lt _ (by decide)) _ (Nat.mod_lt _ (by decide)) e2
        omega
theorem nm_inj {way t : Nat} {B : List Nat} {sp : Nat} {k j : Nat} (hk : k ≤ 30) (hj : j ≤ 30) (h : nm way t B sp k = nm way t B sp j) : k = j := by
  unfold nm at h
  split at h
  · have := bij_inj _ _ h
    omega
  · have h1 := List.append_inj_left' h rfl
    have h2 := List.append_inj_right h1 rfl
    unfold nmPair at h2
    have a := List.head_eq_of_cons_eq h2
    have b := List.head_eq_of_cons_eq (List.tail_eq_of_cons_eq h2)
    have a' := Lc_inj _ (Nat.mod_lt _ (by decide)) _ (Nat.mod_lt _ (by decide)) a
    have b' := Lc_inj _ (Nat.mod_lt _ (by decide)) _ (Nat.mod_lt _ (by decide)) b
    clear h h1 h2 a b
    have u1 : k / 26 ≤ 1 := by omega
    have u2 : j / 26 ≤ 1 := by omega
    have e1 : k / 26 = j / 26 := by
      generalize k / 26 = u at b' u1
      generalize j / 26 = v at b' u2
      omega
    clear b' u1 u2
    have e2 : (7 * k) % 26 = (7 * j) % 26 := by omega
    have e3 : k % 26 = j % 26 := by
      clear a'
      omega
    omega
theorem NmL.names {ys : List Str} {m : Nat} (h : NmL ys m) (hm : m ≤ 31) : ∀ y ∈ ys, nameB y = true := by
  obtain ⟨way, t, B, sp, ok, rfl⟩ := h
  intro y hy
  obtain ⟨k, hk, rfl⟩ := List.mem_map.mp hy
  exact nm_name ok (by have := List.mem_range.mp hk; omega)
theorem NmL.nodup {ys : List Str} {m : Nat} (h : NmL ys m) (hm : m ≤ 31) : ys.Nodup := by
  obtain ⟨way, t, B, sp, ok, rfl⟩ := h
  rw [List.Nodup, List.pairwise_map]
  refine List.Pairwise.imp_of_mem ?_ (List.nodup_range (n := m))
  intro a b ha hb ne e
  have ha' := List.mem_range.mp ha
  have hb' := List.mem_range.mp hb
  have e2 : nm way t B sp a = nm way t B sp b := by
    have := congrArg (fun z : Str => z.cps.toList) e
    simpa [nmStr] using this
  exact ne (nm_inj (by omega) (by omega) e2)
/-! ### defs that are called while nothing is being shown: the guards are known -/
structure FnG (P : Program) (w : World) (K : PySem.W.Frag) (mg : Str → Option Value) (base : Heap) (k : Nat) (f : Addr) (fd : FuncData) (ps : List Str) (sp : Sp) : Prop where
  many : ∀ vs H Q E, sp vs H Q E → vs.length = ps.length
  goes : ∀ (B : Around) (st : List Env) (s : Shared) (H : Hp) (as : Args) (us : List Value) (vs : List V) (Q : VK) (E : XK), B.guards = some [] → Room k B → Env0 P w K mg base B st s H →
    BindsTo s fd as (ps.zip us) → Vals vs us → sp vs H Q E → codeAny (model P w) B (.call (.ref f) as) (CR CX0 st P w H s Q E) s
section
variable {P : Program} {w : World} {K : PySem.W.Frag} {mg : Str → Option Value} {base : Heap}
theorem FnG.of {k : Nat} {f : Addr} {fd : FuncData} {ps : List Str} {sp : Sp} (F : FnOk P w K mg base CX0 k f fd ps sp) : FnG P w K mg base k f fd ps sp :=
  ⟨F.len, fun B st s H as us vs Q E _ => F.run B st s H as us vs Q E⟩
theorem Fun.okG {x qual : Str} {st : Stmt} {f : Addr} {fd : FuncData} {N ps : List Str} {k : Nat} {sp : Sp} (F : Fun K x qual st f fd) (S : FnScope N ps (defScope st)) (many : ∀ vs H Q E, sp vs H Q E → vs.length = ps.length)
    (body : ∀ (cdv : Value) (B : Around) (fs : List Env) (s : Shared) (H : Hp) (vs : List V) (Q : VK) (E : XK), B.guards = some [] → Room k (B.deeper (envOfC qual (defScope st) s.heap.objs.size f cdv)) → sp vs H Q E →
      ∃ t, PSs (cxOf CX0 P w K mg base N qual (defScope st) f cdv B fs s H E).nox (defBody st) t ∧ t { nx := fun _ H' => Q .non H', rt := Q } (start N vs) H) : FnG P w K mg base (k + 1) f fd ps sp := by
  obtain ⟨oc, od, kV, doc, pm, an, cdv, ct, osl, rfl, lk, hcd⟩ := F.ex
  refine ⟨many, fun B fs s H as us vs Q E hg hr e0 hb r hsp => ?_⟩
  have old : ∀ b o, base.get? b = some o → s.heap.get? b = some o := fun b o e => (e0.bs b o e).1
  have KX := e0.mod.kin.keeps old
  obtain ⟨t, pt, ht⟩ := body cdv B fs s H vs Q E hg (hr.deeper _) hsp
  refine codeAny_call_function hr.depth (KX _ _ lk) rfl S.co S.gen rfl (PySem.W.codeRec_of KX hcd) (hb _ _ _ _ ?_)
  refine wpAny_newFunctionEnv_cells S.kind ?_ ?_
  · rintro ⟨n, v⟩ hy
    have hn := (List.of_mem_zip hy).1
    exact (S.par n hn).imp id fun q => ⟨q, PySem.W.cellsFrom_some _ _ _ (.inl q)⟩
  · rintro env rfl s1 x
    have I := inv_start (CX := CX0) (E := E) S hr.hd e0 (many _ _ _ _ hsp) r x
    refine ⟨(e0.mod.nolimit.keeps old).keeps x.toInCall.keep, codeAny_func (wpAny_mono (pt.nox.run [] s1 _ H _ I ht) ?_ fun e s' hs => hs)⟩
    rintro fl s' hs
    cases fl with
    | ret u =>
      obtain ⟨v, σ', H', J, rv, q⟩ := hs
      exact ⟨v, H', J.os, J.bare, J.base, J.hok, rv, q⟩
    | next =>
      obtain ⟨σ', H', J, q⟩ := hs
      exact ⟨.non, H', J.os, J.bare, J.base, J.hok, rfl, q⟩
    | brk =>
      obtain ⟨_, _, _, q⟩ := hs
      exact False.elim q
    | cont =>
      obtain ⟨_, _, _, q⟩ := hs
      exact False.elim q
end
/-- f(e, ..): a def of this kind -/
theorem pe_callG {X : Cx} {k : Nat} {f : Addr} {fd : FuncData} {ps : List Str} {sp : Sp} {x : Str} {p pos : Pos} {e : Expr} {es : List Expr} {t : TA} (F : FnG X.prog X.w X.K X.mg X.base k f fd ps sp) (hG : X.A.guards = some []) (hr : Room k X.A) (hg : Gl X x) (hm : X.mg x = some (.ref f))
    (hk : PySem.W.keepIn X.K (.ref f) = true) (hb : Binds X.K fd ps []) (ha : PA X (e :: es) t) (hdb : (x == ("__debug__" : Str)) = false := by decide) (he : starEach (e :: es) X.env = (false, eval e X.env) :: starEach es X.env := by rfl)
    (hpl : (backTo pos (starEach es X.env)).any (·.1) = false := by rfl) : PE X (.Call (.Name x p) (e :: es) [] pos) (tCall sp [] E0 t) := by
  refine ⟨fun pins s σ H Q I h => wpAny_Call_Name_kw (ld_glob I hg hm ?_ hdb)⟩
  refine PySem.W.callWith_K (h₀ := X.base) I.ok.mod.kin hk (thn (ha.run pos pins s σ H _ I h) ?_) he hpl
  rintro us s1 ⟨vs, H1, I1, r, q⟩
  rw [List.append_nil] at q
  have hl : us.length = ps.length := r.length.symm.trans (F.many _ _ _ _ q)
  have bd := hb s1 us I1.kIn (by rw [List.append_nil]; exact hl)
  rw [List.append_nil] at bd
  refine ⟨I1.kIn, wpAny_call (codeAny_mono (F.goes X.A X.stack s1 H1 ⟨us, []⟩ us vs Q E0 hG hr I1.env0 bd r q) ?_)⟩
  rintro r2 s2 hq
  cases r2 with
  | error e => exact False.elim hq
  | ok fl =>
    cases fl with
    | ret u => exact I1.after hq
    | next => exact False.elim hq
    | brk => exact False.elim hq
    | cont => exact False.elim hq
/-! ### the top's call of the law, for a law that shows things -/
def topH (K : PySem.W.Frag) (a : Addr) (o : Obj) (xs : List V) (cs : List (Addr × Addr)) : Hp := fun b =>
  if b ∈ cs.map (·.2) then some (.tbl #[]) else if b = a ∧ K.lookup a = none then some (.frz o (.lst xs)) else none
section
variable {P : Program} {w : World} {K : PySem.W.Frag} {mg mb : Str → Option Value} {a : Addr} {o : Obj} {cs : List (Addr × Addr)} {s₁ : Shared} {vs : List Value} {ns : List Int}
theorem topH_tab {xs : List V} {p : Addr × Addr} (hp : p ∈ cs) : topH K a o xs cs p.2 = some (.tbl #[]) := if_pos (List.mem_map.mpr ⟨p, hp, rfl⟩)
theorem topH_cases {xs : List V} {b : Addr} {u : HO} (h : topH K a o xs cs b = some u) : (b ∈ cs.map (·.2) ∧ u = .tbl #[]) ∨ (b = a ∧ K.lookup a = none ∧ u = .frz o (.lst xs)) := by
  unfold topH at h
  split at h
  · rename_i hb
    exact .inl ⟨hb, (Option.some.inj h).symm⟩
  · split at h
    · rename_i hb
      exact .inr ⟨hb.1, hb.2, (Option.some.inj h).symm⟩
    · cases h
theorem top_call {fa : Addr} {k : Nat} {fd : FuncData} {x : Str} {sp : Sp}
    (KX : K.In s₁.heap) (hns : s₁.heap.Ns mainGlobals mg) (hb : s₁.heap.Ns builtinsNs mb) (hbb : ∀ x : Str, x ≠ "__name__" → mb x = bootBuiltins x) (hlim : s₁.heap.NoLimit) (hg : s₁.gens = #[])
    (hT : ∀ p ∈ cs, s₁.heap.get? p.2 = some { cls := .none, data := .fields #[] }) (nT : ∀ p ∈ cs, K.lookup p.2 = none) (C : ∀ p ∈ cs, PySem.W.CodeHd s₁.heap p.1 p.2)
    (hbm : ∃ (bm : Addr) (ob : Obj), mg "__builtins__" = some (.ref bm) ∧ bm ≠ builtinsNs ∧ s₁.heap.get? bm = some ob ∧ ob.cls = .type "module" ∧ ob.dict = some builtinsNs ∧ ob.data = .plain)
    (ha : s₁.heap.get? a = some { cls := .type "list", data := .seq vs.toArray }) (hi : IntsAre vs ns) (hl : ns.length ≤ sizeLine) (hr : Room k callerA)
    (F : ∀ base : Heap, K.In base → base.Ns mainGlobals mg → (∀ p ∈ cs, LamX.TabB base mg p.1 p.2) → FnG P w K mg base k fa fd [x] sp) (hbind : ∀ (s : Shared) (u : Value), BindsTo s fd ⟨[u], []⟩ [(x, u)])
    (hsp : ∀ H : Hp, (∀ p ∈ cs, H p.2 = some (.tbl #[])) → SqL K H a (ns.map V.int) → sp [.ref a] H (fun v _ => v = .bl true) fun _ _ _ => False) :
    codeAny (model P w) callerA (.call (.ref fa) ⟨[.ref a], []⟩) (fun r s' => r = .ok (.ret (.bool true)) ∧ OldK s₁.heap s'.heap ∧ s'.os = s₁.os ∧ AllBare s'.gens) s₁ := by
  have tabAt : ∀ b : Addr, b ∈ cs.map (·.2) → s₁.heap.get? b = some { cls := .none, data := .fields #[] } := fun b hb => by
    obtain ⟨p, hp, rfl⟩ := List.mem_map.mp hb
    exact hT p hp
  have naT : a ∉ cs.map (·.2) := fun z => by
    have q := (tabAt a z).symm.trans ha
    cases q
  have rv := vals_ints hi
  let H : Hp := topH K a { cls := .type "list", data := .seq vs.toArray } (ns.map V.int) cs
  have hH : ∀ p ∈ cs, H p.2 = some (.tbl #[]) := fun p hp => topH_tab hp
  -- what is tracked is a list or a table
  have free : ∀ {b : Addr} {ob : Obj}, s₁.heap.get? b = some ob → (∀ us n, ob.data ≠ .seq us n) → ob.data ≠ .fields #[] → H b = none := fun {b ob} e h1 h2 => by
    cases q : H b with
    | none => rfl
    | some u =>
      rcases topH_cases q with ⟨hb, _⟩ | ⟨rfl, _, _⟩
      · rw [tabAt b hb] at e
        cases e
        exact absurd rfl h2
      · rw [ha] at e
        cases e
        exact absurd rfl (h1 _ _)
  have dic : ∀ {b : Addr} {m : Str → Option Value}, s₁.heap.Ns b m → (hidT s₁.heap H).Ns b m := fun {b m} ⟨ob, es, ep, e, d, r⟩ =>
    ⟨ob, es, ep, hidT_get e (free e (fun us n z => by rw [d] at z; cases z) fun z => by rw [d] at z; cases z), d, r⟩
  have hK : K.In (hidT s₁.heap H) := fun b ob e => hidT_get (KX b ob e) (by
    cases q : H b with
    | none => rfl
    | some u =>
      rcases topH_cases q with ⟨hb, _⟩ | ⟨rfl, n, _⟩
      · obtain ⟨p, hp, rfl⟩ := List.mem_map.mp hb
        rw [nT p hp] at e
        cases e
      · rw [n] at e
        cases e)
  have hok : HOk P w H s₁.heap := fun b u q => by
    rcases topH_cases q with ⟨hb, rfl⟩ | ⟨rfl, _, rfl⟩
    · exact tabAt b hb
    · exact ⟨ha, by rw [List.length_map]; exact hl, vs, _, rv, ha⟩
  have hS : SqL K H a (ns.map V.int) := by
    cases hk : K.lookup a with
    | some ob =>
      have e := (KX a ob hk).symm.trans ha
      cases e
      exact .inr ⟨_, vs.toArray, _, hk, rfl, rfl, rfl, by rw [List.size_toArray, hi.length]; exact hl, by simpa using rv⟩
    | none => exact .inl (.inr ⟨{ cls := .type "list", data := .seq vs.toArray }, (if_neg naT).trans (if_pos ⟨rfl, hk⟩)⟩)
  have hM : L2.Mod K mg (hidT s₁.heap H) := ⟨hK, dic hns, ⟨mb, dic hb, hbb⟩, let ⟨mc, h1, h2⟩ := hlim; ⟨mc, dic h1, h2⟩⟩
  have TB : ∀ p ∈ cs, LamX.TabB (hidT s₁.heap H) mg p.1 p.2 := fun p hp => by
    have hTp := hT p hp
    obtain ⟨og, eg, pg, g1, g2, _⟩ := hns
    refine ⟨?_, ?_, fun z => ?_⟩
    · obtain ⟨ob, us, file, tf, flags, tg, inF, text, tt, e1, r1, r2, r3, r4⟩ := C p hp
      refine ⟨ob, us, file, tf, flags, tg, inF, text, tt, hidT_get e1 (free e1 (fun us n z => ?_) fun z => ?_), r1, r2, r3, r4⟩
      · rw [r2] at z
        cases z
      · rw [r2] at z
        cases z
        simp at r3
    · obtain ⟨bm, ob, b1, b2, b3, b4, b5, b6⟩ := hbm
      refine ⟨bm, ob, b1, b2, fun z => ?_, fun z => ?_, hidT_get b3 (free b3 (fun us n z => by rw [b6] at z; cases z) fun z => by rw [b6] at z; cases z), b4, b5, b6⟩
      · rw [z, g1] at b3
        cases b3
        rw [g2] at b6
        cases b6
      · rw [z, hTp] at b3
        cases b3
        cases b6
    · rw [z, hTp] at g1
      cases g1
      cases g2
  have e0 : Env0 P w K mg (hidT s₁.heap H) callerA [] s₁ H := ⟨rfl, hM, fun b ob e => of_hidT e, Nat.le_of_eq (hidT_size _ _), trivial, (fun b hb => nomatch (show b ∈ ([] : List Addr) from hb)), hok, .of_eq hg⟩
  refine codeAny_mono ((F _ hK (dic hns) TB).goes callerA [] s₁ H ⟨[.ref a], []⟩ [.ref a] [.ref a] _ _ rfl hr e0 (hbind s₁ (.ref a)) (.cons rfl .nil) (hsp H hH hS)) ?_
  rintro r s' h
  cases r with
  | error e => exact False.elim h
  | ok fl =>
    cases fl with
    | next => exact False.elim h
    | brk => exact False.elim h
    | cont => exact False.elim h
    | ret u =>
      obtain ⟨v, H', os, bare, un, hok', r', rfl⟩ := h
      obtain rfl : u = Value.bool true := r'
      have stays : ∀ b ob, b ∉ cs.map (·.2) → s₁.heap.get? b = some ob → s'.heap.get? b = some ob := fun b ob nb e => by
        cases q : H b with
        | none => exact un.keep b ob e q (fun z => nomatch (show b ∈ ([] : List Addr) from z)) (by simp)
        | some u =>
          rcases topH_cases q with ⟨z, _⟩ | ⟨rfl, _, rfl⟩
          · exact absurd z nb
          · rw [ha] at e
            cases e
            exact (hok' _ _ (un.frzs _ _ _ q)).1
      have grown : ∀ b ∈ cs.map (·.2), ∃ p ∈ cs, b = p.2 ∧ ∃ more : Array Value, s'.heap.get? b = some { cls := .none, data := .fields more } := fun b hb => by
        obtain ⟨p, hp, rfl⟩ := List.mem_map.mp hb
        obtain ⟨more, z⟩ := un.tbls p.2 #[] (hH p hp)
        exact ⟨p, hp, rfl, _, hok' p.2 _ z⟩
      refine ⟨rfl, ⟨fun b ob e => ?_, fun b ob e => ?_⟩, os, bare⟩
      · by_cases hb : b ∈ cs.map (·.2)
        · obtain ⟨p, hp, rfl, more, hm⟩ := grown b hb
          rw [hT p hp] at e
          cases e
          exact .inr (.inl ⟨((C p hp).tab (hT p hp)).isCodeTable, rfl, #[], more, rfl, by rw [Array.empty_append]; exact hm⟩)
        · exact .inl (stays b ob hb e)
      · by_cases hb : b ∈ cs.map (·.2)
        · obtain ⟨p, hp, rfl, more, hm⟩ := grown b hb
          exact ⟨_, hm⟩
        · exact ⟨ob, stays b ob hb e⟩
end
/-- what is known of a law that shows things -/
def LawG (l : PySem.W.OpenLaw) (w : World) (K : PySem.W.Frag) (k n : Nat) (x : Str) (mg : Str → Option Value) (fa : Addr) (h : Heap) : Prop :=
  ∃ (fd : FuncData) (cs : List (Addr × Addr)) (sp : Sp), ((∀ p ∈ cs, h.get? p.2 = some { cls := .none, data := .fields #[] }) ∧ (∀ p ∈ cs, K.lookup p.2 = none) ∧ ∀ p ∈ cs, PySem.W.CodeHd h p.1 p.2) ∧ (∀ (s : Shared) (u : Value), BindsTo s fd ⟨[u], []⟩ [(x, u)]) ∧
    (∀ (H : Hp) (a : Addr) (ns : List Int), ns.length ≤ n → (∀ p ∈ cs, H p.2 = some (.tbl #[])) → SqL K H a (ns.map V.int) → sp [.ref a] H (fun v _ => v = .bl true) fun _ _ _ => False) ∧
    ∀ base : Heap, K.In base → base.Ns mainGlobals mg → (∀ p ∈ cs, LamX.TabB base mg p.1 p.2) → FnG l.prog w K mg base k fa fd [x] sp
theorem end_G {l : PySem.W.OpenLaw} {n k : Nat} {q : Program} {loose : List Str} {XP : (Str → Option Value) → Heap → Prop} {YP : World → Heap → Prop} {d : PySem.DefRec} {K : Params → PySem.W.Frag} {x : Str}
    (hn : l.most = some n) (hn2 : n ≤ sizeLine) (hdf : d.params.defaults = []) (hr : Room k callerA)
    (hY : ∀ (w : World) (h : Heap), YP w h → (K w.params).In h)
    (F : ∀ (w : World) (s0 : Shared) (mg mb : Str → Option Value) (fa : Addr) (h : Heap), PySem.W.Ground q loose [] XP w s0 mg mb h → (K w.params).In h → mg d.name = some (.ref fa) → LawG l w (K w.params) k n x mg fa h) :
    PySem.W.WalkO q loose XP YP l.row.toRowW d [] (fun f vs => PySem.call f vs) := by
  refine Att.attach_callB hn hdf fun w s0 s1 mg mb fa o pm cd doc a vs ns G Y ho hd hcd hmg hobj hints hlen hbits hg => ?_
  have KX := hY w _ Y
  obtain ⟨fd, cs, sp, ⟨hT, nT, C⟩, hb, hsp, hF⟩ := F w s0 mg mb fa _ G KX hmg
  exact top_call KX G.T.g G.T.b G.T.builtins G.T.nolimit hg hT nT C G.T.bmain hobj hints (Nat.le_trans hlen hn2) hr hF hb (fun H hH hS => hsp H a ns hlen hH hS)
/-! ### repr of data -/
theorem cr_repr {X : Cx} (hG : X.A.guards = some []) (hu : X.A.units + 64 < cLine) : CallR X (.builtin "repr") (fun vs H Q => ∃ (a : Addr) (d : PyData), vs = [.ref a] ∧ Dp X.K H (.ref a) d ∧ d.showable = true ∧ d.hasDict = false ∧ d.depth ≤ 60 ∧ d.shown.length ≤ sizeLine ∧ Q (.str d.shown) H) := by
  rintro pins s σ H vs us Q I r ⟨a, d, rfl, hd, sh, nd, dp, sz, q⟩
  rw [Vals.ref1 r]
  obtain ⟨as, rd⟩ := Dp.reads I d (.ref a) (.ref a) hd rfl
  exact repr_of_reads' rd sh (PyData.noDict_hsm nd) hG (by omega) (fun _ _ e => e) (fun h' u tk hk => ⟨.str d.shown, H, I.kept hk, ⟨_, rfl⟩, q⟩) sz
/-! ### sorted(xs, key=f), f a def whose answers are data -/
mutual
theorem Dp.on {K : PySem.W.Frag} {H H' : Hp} (s : Same H H') : ∀ {v : V} {d : PyData}, Dp K H v d → Dp K H' v d
  | _, _, .non => .non
  | _, _, .bl b => .bl b
  | _, _, .int i => .int i
  | _, _, .str x => .str x
  | _, _, .lst h r => .lst (h.imp (fun z => z.imp (s _ _) fun ⟨o, e⟩ => ⟨o, s _ _ e⟩) id) (DpAll.on s r)
  | _, _, .tup h r => .tup (h.imp (fun z => z.imp (s _ _) fun ⟨o, e⟩ => ⟨o, s _ _ e⟩) id) (DpAll.on s r)
theorem DpAll.on {K : PySem.W.Frag} {H H' : Hp} (s : Same H H') : ∀ {vs : List V} {ds : List PyData}, DpAll K H vs ds → DpAll K H' vs ds
  | _, _, .nil => .nil
  | _, _, .cons h r => .cons (Dp.on s h) (DpAll.on s r)
end
theorem DpAll.snoc {K : PySem.W.Frag} {H : Hp} {v : V} {d : PyData} : ∀ {vs : List V} {ds : List PyData}, DpAll K H vs ds → Dp K H v d → DpAll K H (vs ++ [v]) (ds ++ [d])
  | _, _, .nil, h => .cons h .nil
  | _, _, .cons a r, h => .cons a (DpAll.snoc r h)
theorem DpAll.len {K : PySem.W.Frag} {H : Hp} : ∀ {vs : List V} {ds : List PyData}, DpAll K H vs ds → vs.length = ds.length
  | _, _, .nil => rfl
  | _, _, .cons _ r => congrArg Nat.succ (DpAll.len r)
theorem vals_snoc {v : V} {u : Value} : ∀ {vs : List V} {us : List Value}, Vals vs us → RelV v u → Vals (vs ++ [v]) (us ++ [u])
  | _, _, .nil, h => .cons h .nil
  | _, _, .cons a r, h => .cons a (vals_snoc r h)
theorem vals_get {vs : List V} {us : List Value} (h : Vals vs us) : ∀ {i : Nat} {u : Value}, us[i]? = some u → ∃ v, vs[i]? = some v ∧ RelV v u := by
  induction h with
  | nil => intro i u e; cases e
  | cons a r ih =>
    intro i u e
    cases i with
    | zero => exact ⟨_, rfl, by rw [← Option.some.inj e]; exact a⟩
    | succ n => exact ih (i := n) e
theorem each_dp {X : Cx} {pins : List (Addr × Obj)} {σ : L2.St} {H : Hp} {s : Shared} (I : Inv X pins σ H s) : ∀ {vs : List V} {ds : List PyData} {us : List Value}, DpAll X.K H vs ds → Vals vs us → PySem.W.EachIs (fun v d => ∃ as, Reads s.heap v d as) us ds
  | _, _, _, .nil, .nil => .nil
  | _, _, _, .cons h r, .cons a t => .cons (Dp.reads I _ _ _ h a) (each_dp I r t)
theorem each_pairs : ∀ {es : List (V × PyData)} {us : List Value}, Vals (es.map (·.1)) us → PySem.W.EachIs (fun v (e : V × PyData) => RelV e.1 v) us es
  | [], _, .nil => .nil
  | _ :: _, _, .cons a t => .cons a (each_pairs t)
theorem pairs_each : ∀ {es : List (V × PyData)} {us : List Value}, PySem.W.EachIs (fun v (e : V × PyData) => RelV e.1 v) us es → Vals (es.map (·.1)) us
  | [], _, .nil => .nil
  | _ :: _, _, .cons a t => .cons a (pairs_each t)
abbrev keyed (es : List (V × PyData)) : List (V × PyData) := es.mergeSort (PySem.W.dataLe false fun e => e.2)
def rSortK (K : PySem.W.Frag) (f : Addr) (sp : Sp) : List V → List V → Hp → VK → Prop := fun vs zs H Q => ∃ (l : Addr) (es : List (V × PyData)), vs = [.ref l] ∧ zs = [.ref f] ∧ SqL K H l (es.map (·.1)) ∧ PySem.W.AllAlike (es.map (·.2)) ∧ PySem.W.Sortable (es.map (·.2)) ∧ (∀ e ∈ es, e.2.depth ≤ 60) ∧
  (∀ e ∈ es, ∀ H1, Same H H1 → ∀ Q1 : VK, (∀ v H2, Same H1 H2 → Dp K H2 v e.2 → Q1 v H2) → sp [e.1] H1 Q1 E0) ∧ ∀ (p : Addr) (H1 : Hp), H p = none → Same H H1 → H1 p = some (.lst ((keyed es).map (·.1))) → Q (.ref p) H1
theorem cr_sortK {X : Cx} {k : Nat} {f : Addr} {fd : FuncData} {p1 : Str} {sp : Sp} (F : FnOk X.prog X.w X.K X.mg X.base CX0 k f fd [p1] sp) (hr : Room (k + 2) X.A) (hb : Binds X.K fd [p1] []) : CallRK X (.builtin "sorted") [Str.ofString "key"] (rSortK X.K f sp) := by
  rintro pins s σ H vs zs us ws Q I r rz ⟨l, es, rfl, rfl, hs, al, so, dp, key, q⟩
  obtain rfl := Vals.ref1 r
  obtain rfl := Vals.ref1 rz
  obtain ⟨its, rv, hl, hz⟩ := I.list hs
  have hlen : its.length = es.length := by rw [← rv.length, List.length_map]
  have hZ : its.length ≤ sizeLine := by rw [← rv.length]; exact hz
  have rB : Room k X.A.in1.in1 := hr.in1.in1
  have uB : X.A.in1.in1.units + 64 < cLine := rB.units
  refine PySem.W.sorted_of_sort (vs := its) hl.isList hZ (PyProof.Rows.ksk_s1 _ _) (fun _ => PyProof.Rows.ksk_l1 _ _) fun E' => ?_
  show wpAny _ X.A.in1.in1 (Builtin.«list.sort» ⟨[.ref (s.heap.objs.size + 1)], [(Str.ofString "key", .ref f)]⟩) _ _ _
  rw [PyProof.Rows.ksk_t1]
  generalize ha : s.heap.objs.size + 1 = a
  have ho : (PySem.W.copyHeap s.heap its).get? a = some (seqObj "list" its.toArray 0) := by rw [← ha]; exact PySem.W.copyHeap_at s.heap its
  obtain ⟨e1, ho1⟩ : ∃ e1, ((PySem.W.copyHeap s.heap its).update a (Obj.mapSeq fun _ => (#[] : Array Value))).get? a = some (seqObj "list" #[] e1) := ⟨_, get?_update_seq ho fun _ => #[]⟩
  have hsz0 : a < (PySem.W.copyHeap s.heap its).objs.size := Heap.lt_size ho
  unfold PyProof.Rows.ksk_tree
  refine wpAny_bind (listItems_at ho rfl ?_)
  refine wpAny_bind (listUpdate_at ho rfl ?_ (by rw [List.size_toArray]; exact hZ) (Nat.zero_le _))
  refine wpAny_bind (seqEpoch_at ho1 rfl ?_)
  refine wpAny_bind (wpAny_newTuple ?_ hZ)
  refine wpAny_bind (wpAny_newList ?_ (Nat.zero_le _))
  refine wpAny_holding ?_
  generalize hk : (((PySem.W.copyHeap s.heap its).update a (Obj.mapSeq fun _ => (#[] : Array Value))).push (seqObj "tuple" its.toArray 0)).objs.size = kS
  generalize hg : (((PySem.W.copyHeap s.heap its).update a (Obj.mapSeq fun _ => (#[] : Array Value))).push (seqObj "tuple" its.toArray 0)).push (seqObj "list" #[] 0) = g
  have size_g : s.heap.objs.size < kS := by
    rw [← hk, size_push', Heap.size_update]
    omega
  have hka : kS ≠ a := by
    rw [← hk, size_push', Heap.size_update]
    omega
  have old : ∀ b o, s.heap.get? b = some o → g.get? b = some o := fun b o e => by
    rw [← hg]
    refine Heap.get?_push_of_some _ (Heap.get?_push_of_some _ ((Heap.get?_update_ne _ _ _ _ (Nat.ne_of_lt ?_)).trans (PySem.W.copyHeap_old e)))
    exact Nat.lt_of_lt_of_le (Heap.lt_size e) (by omega)
  have ga : g.get? a = some (seqObj "list" #[] e1) := by
    rw [← hg]
    exact Heap.get?_push_of_some _ (Heap.get?_push_of_some _ ho1)
  have gk : g.get? kS = some (seqObj "list" #[] 0) := by
    rw [← hg, ← hk]
    exact Heap.get?_push_size _ rfl
  have fa : ∀ {H1 : Hp}, H1 a = none → FpOk X pins H1 a := fun n => I.fpOk (by omega) n
  have fk : ∀ {H1 : Hp}, H1 kS = none → FpOk X pins H1 kS := fun n => I.fpOk (by omega) n
  -- the two lists of the sort are held as pins
  have pin : ∀ {H1 : Hp} {s1 : Shared} {kA : Array Value} {n : Nat}, Inv X pins σ H1 s1 → H1 a = none → H1 kS = none → s1.heap.get? a = some (seqObj "list" #[] e1) → s1.heap.get? kS = some (seqObj "list" kA n) → Inv X (pins ++ [(a, seqObj "list" #[] e1), (kS, seqObj "list" kA n)]) σ H1 s1 := fun {H1 s1 kA n} J na nk ea ek => by
    refine J.pins_of fun p hp => ?_
    rcases List.mem_append.mp hp with h | h
    · exact J.pin p (List.mem_append_right _ h)
    · rcases List.mem_cons.mp h with rfl | h
      · exact ⟨ea, na, (fa na).2.1, (fa na).2.2.1, fun v z => by cases z⟩
      · rw [List.mem_singleton.mp h]
        exact ⟨ek, nk, (fk nk).2.1, (fk nk).2.2.1, fun v z => by cases z⟩
  have I0 : Inv X pins σ H { s with heap := g } := I.kept (t' := s.toks) old
  have na0 : H a = none := I.hok.fresh (by omega)
  have nk0 : H kS = none := I.hok.fresh (by omega)
  unfold PyProof.Rows.ksk_rest
  refine wpAny_bind (wpAny_rule ?_)
  first
    | rw [List.forIn_toArray]
    | (rw [← Array.forIn_toList]; simp only [List.toList_toArray])
  refine wpAny_bind (PyProof.Rows.ksk_fold (fun i s' => ∃ H1 kA n kv, Same H H1 ∧ Inv X (pins ++ [(a, seqObj "list" #[] e1), (kS, seqObj "list" kA n)]) σ H1 s' ∧ Vals kv kA.toList ∧ DpAll X.K H1 kv ((es.take i).map (·.2))) its 0 _
    ⟨H, #[], 0, [], fun _ _ e => e, pin I0 na0 nk0 ga gk, .nil, .nil⟩ ?step ?done)
  case step =>
    rintro j u s1 hu ⟨H1, kA, n, kv, sm, J, vk, dk⟩
    rw [Nat.zero_add] at dk ⊢
    obtain ⟨v, hv, rel⟩ := vals_get rv hu
    rw [List.getElem?_map] at hv
    obtain ⟨e, he, rfl⟩ := Option.map_eq_some_iff.mp hv
    have pa := J.pin (a, seqObj "list" #[] e1) (by simp)
    have pk := J.pin (kS, seqObj "list" kA n) (by simp)
    have hj : j < its.length := (List.getElem?_eq_some_iff.mp hu).1
    have ck : kA.size ≤ its.length := by
      have h1 : kv.length = kA.size := vk.length.trans Array.length_toList
      have h2 := DpAll.len dk
      rw [List.length_map, List.length_take] at h2
      omega
    have E1 := J.env0
    have sp1 := key e (List.mem_of_getElem? he) H1 sm (fun v H2 => Same H1 H2 ∧ Dp X.K H2 v e.2) fun v H2 h1 h2 => ⟨h1, h2⟩
    refine wpAny_bind (wpAny_attempt ?_)
    refine wpAny_call (codeAny_mono (F.run X.A.in1.in1 X.stack s1 H1 ⟨[u], []⟩ [u] [e.1] _ E0 rB ⟨E1.frames, E1.mod, E1.bs, E1.bsz, E1.funs, E1.frf, E1.hok, E1.bare⟩ (hb s1 [u] J.kIn rfl) (.cons rel .nil) sp1) ?_)
    rintro r s2 hq
    cases r with
    | error e => exact False.elim hq
    | ok fl =>
      cases fl with
      | next => exact False.elim hq
      | brk => exact False.elim hq
      | cont => exact False.elim hq
      | ret x =>
        obtain ⟨v2, H2, J2, rel2, sm2, dp2⟩ := J.after hq
        have pa2 := J2.pin (a, seqObj "list" #[] e1) (by simp)
        have pk2 := J2.pin (kS, seqObj "list" kA n) (by simp)
        have J3 : Inv X pins σ H2 s2 := J2.unpinned
        obtain ⟨c2, hc2⟩ : ∃ c2, (s2.heap.update kS (Obj.mapSeq (·.push x))).get? kS = some (seqObj "list" (kA.push x) c2) := ⟨_, get?_update_seq pk2.1 (·.push x)⟩
        have sb := Heap.SameBut.update s2.heap kS (Obj.mapSeq (·.push x))
        show wpAny _ _ _ _ _ _
        refine wpAny_bind (listUpdate_at pk2.1 rfl ?_ (Nat.le_trans ck hZ) (Nat.le_trans (Nat.le_of_eq (Array.size_push ..)) (Nat.succ_le_succ (Nat.le_trans ck hZ))))
        have J4 : Inv X pins σ H2 { s2 with heap := s2.heap.update kS (Obj.mapSeq (·.push x)), toks := s2.toks } := J3.turnedL (ch := [kS]) (fun b o hb e => (sb.2 b (fun z => hb (by simp [z]))).trans e) fun b hb => by rw [List.mem_singleton.mp hb]; exact fk pk2.2.1
        refine wpAny_pure ⟨rfl, H2, kA.push x, c2, kv ++ [v2], fun b o e => sm2 b o (sm b o e), pin J4 pa2.2.1 pk2.2.1 ((sb.2 a hka.symm).trans pa2.1) hc2, ?_, ?_⟩
        · rw [Array.toList_push]
          exact vals_snoc vk rel2
        · rw [List.take_add_one, he, List.map_append]
          exact DpAll.snoc (DpAll.on sm2 dk) dp2
  case done =>
    rintro s1 ⟨H1, kA, n, kv, sm, J, vk, dk⟩
    have pa := J.pin (a, seqObj "list" #[] e1) (by simp)
    have pk := J.pin (kS, seqObj "list" kA n) (by simp)
    have J1 : Inv X pins σ H1 s1 := J.unpinned
    rw [Nat.zero_add, hlen, List.take_length] at dk
    have hk1 := each_dp J dk vk
    have sz : kA.size = its.length := by
      have h1 : kv.length = kA.size := vk.length.trans Array.length_toList
      have h2 := DpAll.len dk
      rw [List.length_map] at h2
      omega
    have hu : ∀ d, d ∈ es.map (·.2) → X.A.in1.in1.units + d.depth < cLine := fun d hd => by
      obtain ⟨e, he, rfl⟩ := List.mem_map.mp hd
      have := dp e he
      omega
    obtain ⟨G, g1, g2⟩ := L2.restrict s1.heap fun b => decide (b ≠ kS)
    have kp : PySem.W.KeepsBut a G s1.heap := fun b o _ e => by
      by_cases z : b = kS
      · rw [g2 b (decide_eq_false fun h => h z)] at e
        cases e
      · rw [g1 b (decide_eq_true z)] at e
        exact e
    refine wpAny_bind (listItems_at pk.1 rfl ?_)
    refine PySem.W.keyH_end (κ := PySem.W.dataKind s1.heap (es.map (·.2))) (h₁ := G) kp (g2 kS (decide_eq_false fun h => h rfl)) pk.1 pa.1 hka (PySem.W.SortsAt.data hk1 al so hu) sz hZ fun h3 tk3 c k3 n3 => ⟨rfl, ?_⟩
    have ko : PySem.W.KeyedOut false (es.map (·.2)) its (PySem.W.sortVals (PySem.W.dataKind s1.heap (es.map (·.2))) false kA.toList its) := ⟨s1.heap, kA.toList, al, rfl, hk1⟩
    have out := pairs_each (PySem.W.keyedOut_each (fun e : V × PyData => e.2) ko (each_pairs rv))
    have J2 : Inv X pins σ H1 { s1 with heap := h3, toks := tk3 } := J1.turnedL (ch := [a, kS]) (fun b o hb e => k3 b o (fun z => hb (by simp [z])) ((g1 b (decide_eq_true fun z => hb (by simp [z]))).trans e)) fun b hb => by
      rcases List.mem_cons.mp hb with rfl | h
      · exact fa pa.2.1
      · rw [List.mem_singleton.mp h]
        exact fk pk.2.1
    have lo : ((keyed es).map (·.1)).length ≤ sizeLine := by
      rw [List.length_map, List.length_mergeSort, ← hlen]
      exact hZ
    refine ⟨.ref a, upd H1 a (.lst ((keyed es).map (·.1))), J2.take (it := a) (fun b o _ e => e) (fa pa.2.1) ⟨lo, _, c, out, n3⟩, rfl, q a _ na0 (fun b o e => (upd_ne (ne_of_none e na0)).trans (sm b o e)) upd_same⟩
/-! ### sorted(xs, key=f), the running of f told by `run` -/
theorem sort_run {X : Cx} {k : Nat} {f : Addr} {pins : List (Addr × Obj)} {s : Shared} {σ : L2.St} {H : Hp} {l : Addr} {es : List (V × PyData)} {Q : VK} (I : Inv X pins σ H s) (hr : Room (k + 2) X.A)
    (hs : SqL X.K H l (es.map (·.1))) (al : PySem.W.AllAlike (es.map (·.2))) (so : PySem.W.Sortable (es.map (·.2))) (dp : ∀ e ∈ es, e.2.depth ≤ 60)
    (run : ∀ e ∈ es, ∀ (H1 : Hp) (s1 : Shared) (u : Value) (more : List (Addr × Obj)), Same H H1 → Inv X (pins ++ more) σ H1 s1 → RelV e.1 u → Room k X.A.in1.in1 →
      codeAny (model X.prog X.w) X.A.in1.in1 (.call (.ref f) ⟨[u], []⟩) (CR CX0 X.stack X.prog X.w H1 s1 (fun v H2 => Same H1 H2 ∧ Dp X.K H2 v e.2) E0) s1)
    (q : ∀ (p : Addr) (H1 : Hp), H p = none → Same H H1 → H1 p = some (.lst ((keyed es).map (·.1))) → Q (.ref p) H1) :
    wpAny (model X.prog X.w) X.A (call (.builtin "sorted") [.ref l] [(Str.ofString "key", .ref f)]) (EP X pins σ Q) X.xe s := by
  obtain ⟨its, rv, hl, hz⟩ := I.list hs
  have hlen : its.length = es.length := by rw [← rv.length, List.length_map]
  have hZ : its.length ≤ sizeLine := by rw [← rv.length]; exact hz
  have rB : Room k X.A.in1.in1 := hr.in1.in1
  have uB : X.A.in1.in1.units + 64 < cLine := rB.units
  refine PySem.W.sorted_of_sort (vs := its) hl.isList hZ (PyProof.Rows.ksk_s1 _ _) (fun _ => PyProof.Rows.ksk_l1 _ _) fun E' => ?_
  show wpAny _ X.A.in1.in1 (Builtin.«list.sort» ⟨[.ref (s.heap.objs.size + 1)], [(Str.ofString "key", .ref f)]⟩) _ _ _
  rw [PyProof.Rows.ksk_t1]
  generalize ha : s.heap.objs.size + 1 = a
  have ho : (PySem.W.copyHeap s.heap its).get? a = some (seqObj "list" its.toArray 0) := by rw [← ha]; exact PySem.W.copyHeap_at s.heap its
  obtain ⟨e1, ho1⟩ : ∃ e1, ((PySem.W.copyHeap s.heap its).update a (Obj.mapSeq fun _ => (#[] : Array Value))).get? a = some (seqObj "list" #[] e1) := ⟨_, get?_update_seq ho fun _ => #[]⟩
  have hsz0 : a < (PySem.W.copyHeap s.heap its).objs.size := Heap.lt_size ho
  unfold PyProof.Rows.ksk_tree
  refine wpAny_bind (listItems_at ho rfl ?_)
  refine wpAny_bind (listUpdate_at ho rfl ?_ (by rw [List.size_toArray]; exact hZ) (Nat.zero_le _))
  refine wpAny_bind (seqEpoch_at ho1 rfl ?_)
  refine wpAny_bind (wpAny_newTuple ?_ hZ)
  refine wpAny_bind (wpAny_newList ?_ (Nat.zero_le _))
  refine wpAny_holding ?_
  generalize hk : (((PySem.W.copyHeap s.heap its).update a (Obj.mapSeq fun _ => (#[] : Array Value))).push (seqObj "tuple" its.toArray 0)).objs.size = kS
  generalize hg : (((PySem.W.copyHeap s.heap its).update a (Obj.mapSeq fun _ => (#[] : Array Value))).push (seqObj "tuple" its.toArray 0)).push (seqObj "list" #[] 0) = g
  have size_g : s.heap.objs.size < kS := by
    rw [← hk, size_push', Heap.size_update]
    omega
  have hka : kS ≠ a := by
    rw [← hk, size_push', Heap.size_update]
    omega
  have old : ∀ b o, s.heap.get? b = some o → g.get? b = some o := fun b o e => by
    rw [← hg]
    refine Heap.get?_push_of_some _ (Heap.get?_push_of_some _ ((Heap.get?_update_ne _ _ _ _ (Nat.ne_of_lt ?_)).trans (PySem.W.copyHeap_old e)))
    exact Nat.lt_of_lt_of_le (Heap.lt_size e) (by omega)
  have ga : g.get? a = some (seqObj "list" #[] e1) := by
    rw [← hg]
    exact Heap.get?_push_of_some _ (Heap.get?_push_of_some _ ho1)
  have gk : g.get? kS = some (seqObj "list" #[] 0) := by
    rw [← hg, ← hk]
    exact Heap.get?_push_size _ rfl
  have fa : ∀ {H1 : Hp}, H1 a = none → FpOk X pins H1 a := fun n => I.fpOk (by omega) n
  have fk : ∀ {H1 : Hp}, H1 kS = none → FpOk X pins H1 kS := fun n => I.fpOk (by omega) n
  -- the two lists of the sort are held as pins
  have pin : ∀ {H1 : Hp} {s1 : Shared} {kA : Array Value} {n : Nat}, Inv X pins σ H1 s1 → H1 a = none → H1 kS = none → s1.heap.get? a = some (seqObj "list" #[] e1) → s1.heap.get? kS = some (seqObj "list" kA n) → Inv X (pins ++ [(a, seqObj "list" #[] e1), (kS, seqObj "list" kA n)]) σ H1 s1 := fun {H1 s1 kA n} J na nk ea ek => by
    refine J.pins_of fun p hp => ?_
    rcases List.mem_append.mp hp with h | h
    · exact J.pin p (List.mem_append_right _ h)
    · rcases List.mem_cons.mp h with rfl | h
      · exact ⟨ea, na, (fa na).2.1, (fa na).2.2.1, fun v z => by cases z⟩
      · rw [List.mem_singleton.mp h]
        exact ⟨ek, nk, (fk nk).2.1, (fk nk).2.2.1, fun v z => by cases z⟩
  have I0 : Inv X pins σ H { s with heap := g } := I.kept (t' := s.toks) old
  have na0 : H a = none := I.hok.fresh (by omega)
  have nk0 : H kS = none := I.hok.fresh (by omega)
  unfold PyProof.Rows.ksk_rest
  refine wpAny_bind (wpAny_rule ?_)
  first
    | rw [List.forIn_toArray]
    | (rw [← Array.forIn_toList]; simp only [List.toList_toArray])
  refine wpAny_bind (PyProof.Rows.ksk_fold (fun i s' => ∃ H1 kA n kv, Same H H1 ∧ Inv X (pins ++ [(a, seqObj "list" #[] e1), (kS, seqObj "list" kA n)]) σ H1 s' ∧ Vals kv kA.toList ∧ DpAll X.K H1 kv ((es.take i).map (·.2))) its 0 _
    ⟨H, #[], 0, [], fun _ _ e => e, pin I0 na0 nk0 ga gk, .nil, .nil⟩ ?step ?done)
  case step =>
    rintro j u s1 hu ⟨H1, kA, n, kv, sm, J, vk, dk⟩
    rw [Nat.zero_add] at dk ⊢
    obtain ⟨v, hv, rel⟩ := vals_get rv hu
    rw [List.getElem?_map] at hv
    obtain ⟨e, he, rfl⟩ := Option.map_eq_some_iff.mp hv
    have pa := J.pin (a, seqObj "list" #[] e1) (by simp)
    have pk := J.pin (kS, seqObj "list" kA n) (by simp)
    have hj : j < its.length := (List.getElem?_eq_some_iff.mp hu).1
    have ck : kA.size ≤ its.length := by
      have h1 : kv.length = kA.size := vk.length.trans Array.length_toList
      have h2 := DpAll.len dk
      rw [List.length_map, List.length_take] at h2
      omega
    refine wpAny_bind (wpAny_attempt ?_)
    refine wpAny_call (codeAny_mono (run e (List.mem_of_getElem? he) H1 s1 u _ sm J rel rB) ?_)
    rintro r s2 hq
    cases r with
    | error e => exact False.elim hq
    | ok fl =>
      cases fl with
      | next => exact False.elim hq
      | brk => exact False.elim hq
      | cont => exact False.elim hq
      | ret x =>
        obtain ⟨v2, H2, J2, rel2, sm2, dp2⟩ := J.after hq
        have pa2 := J2.pin (a, seqObj "list" #[] e1) (by simp)
        have pk2 := J2.pin (kS, seqObj "list" kA n) (by simp)
        have J3 : Inv X pins σ H2 s2 := J2.unpinned
        obtain ⟨c2, hc2⟩ : ∃ c2, (s2.heap.update kS (Obj.mapSeq (·.push x))).get? kS = some (seqObj "list" (kA.push x) c2) := ⟨_, get?_update_seq pk2.1 (·.push x)⟩
        have sb := Heap.SameBut.update s2.heap kS (Obj.mapSeq (·.push x))
        show wpAny _ _ _ _ _ _
        refine wpAny_bind (listUpdate_at pk2.1 rfl ?_ (Nat.le_trans ck hZ) (Nat.le_trans (Nat.le_of_eq (Array.size_push ..)) (Nat.succ_le_succ (Nat.le_trans ck hZ))))
        have J4 : Inv X pins σ H2 { s2 with heap := s2.heap.update kS (Obj.mapSeq (·.push x)), toks := s2.toks } := J3.turnedL (ch := [kS]) (fun b o hb e => (sb.2 b (fun z => hb (by simp [z]))).trans e) fun b hb => by rw [List.mem_singleton.mp hb]; exact fk pk2.2.1
        refine wpAny_pure ⟨rfl, H2, kA.push x, c2, kv ++ [v2], fun b o e => sm2 b o (sm b o e), pin J4 pa2.2.1 pk2.2.1 ((sb.2 a hka.symm).trans pa2.1) hc2, ?_, ?_⟩
        · rw [Array.toList_push]
          exact vals_snoc vk rel2
        · rw [List.take_add_one, he, List.map_append]
          exact DpAll.snoc (DpAll.on sm2 dk) dp2
  case done =>
    rintro s1 ⟨H1, kA, n, kv, sm, J, vk, dk⟩
    have pa := J.pin (a, seqObj "list" #[] e1) (by simp)
    have pk := J.pin (kS, seqObj "list" kA n) (by simp)
    have J1 : Inv X pins σ H1 s1 := J.unpinned
    rw [Nat.zero_add, hlen, List.take_length] at dk
    have hk1 := each_dp J dk vk
    have sz : kA.size = its.length := by
      have h1 : kv.length = kA.size := vk.length.trans Array.length_toList
      have h2 := DpAll.len dk
      rw [List.length_map] at h2
      omega
    have hu : ∀ d, d ∈ es.map (·.2) → X.A.in1.in1.units + d.depth < cLine := fun d hd => by
      obtain ⟨e, he, rfl⟩ := List.mem_map.mp hd
      have := dp e he
      omega
    obtain ⟨G, g1, g2⟩ := L2.restrict s1.heap fun b => decide (b ≠ kS)
    have kp : PySem.W.KeepsBut a G s1.heap := fun b o _ e => by
      by_cases z : b = kS
      · rw [g2 b (decide_eq_false fun h => h z)] at e
        cases e
      · rw [g1 b (decide_eq_true z)] at e
        exact e
    refine wpAny_bind (listItems_at pk.1 rfl ?_)
    refine PySem.W.keyH_end (κ := PySem.W.dataKind s1.heap (es.map (·.2))) (h₁ := G) kp (g2 kS (decide_eq_false fun h => h rfl)) pk.1 pa.1 hka (PySem.W.SortsAt.data hk1 al so hu) sz hZ fun h3 tk3 c k3 n3 => ⟨rfl, ?_⟩
    have ko : PySem.W.KeyedOut false (es.map (·.2)) its (PySem.W.sortVals (PySem.W.dataKind s1.heap (es.map (·.2))) false kA.toList its) := ⟨s1.heap, kA.toList, al, rfl, hk1⟩
    have out := pairs_each (PySem.W.keyedOut_each (fun e : V × PyData => e.2) ko (each_pairs rv))
    have J2 : Inv X pins σ H1 { s1 with heap := h3, toks := tk3 } := J1.turnedL (ch := [a, kS]) (fun b o hb e => k3 b o (fun z => hb (by simp [z])) ((g1 b (decide_eq_true fun z => hb (by simp [z]))).trans e)) fun b hb => by
      rcases List.mem_cons.mp hb with rfl | h
      · exact fa pa.2.1
      · rw [List.mem_singleton.mp h]
        exact fk pk.2.1
    have lo : ((keyed es).map (·.1)).length ≤ sizeLine := by
      rw [List.length_map, List.length_mergeSort, ← hlen]
      exact hZ
    refine ⟨.ref a, upd H1 a (.lst ((keyed es).map (·.1))), J2.take (it := a) (fun b o _ e => e) (fa pa.2.1) ⟨lo, _, c, out, n3⟩, rfl, q a _ na0 (fun b o e => (upd_ne (ne_of_none e na0)).trans (sm b o e)) upd_same⟩
/-! ### a lambda of one parameter that captures nothing -/
abbrev lamO (X : Cx) (params : Arguments) (body : Expr) (scope : Scope) (pm : Value) (c' : Addr) (ctv : Value) : Obj := PySem.W.kla_obj "<lambda>" (X.env.qual ++ "<lambda>") params body scope [] pm c' ctv
/-- the pin that holds the lambda's object -/
theorem lam_pin {X : Cx} {pins : List (Addr × Obj)} {σ : L2.St} {H : Hp} {s : Shared} {f : Addr} {o : Obj} {fd : FuncData} (I : Inv X pins σ H s) (hf : s.heap.get? f = some o) (hd : o.data = .func fd) (hn : H f = none) (hfr : f ∉ frs X.stack) : Inv X (pins ++ [(f, o)]) σ H s := by
  refine I.pins_of fun p hp => ?_
  rcases List.mem_append.mp hp with h | h
  · exact I.pin p (List.mem_append_right _ h)
  · rw [List.mem_singleton.mp h]
    refine ⟨hf, hn, fun z => ?_, fun z => hfr ?_, fun v z => ?_⟩
    · obtain ⟨m, ⟨o', es, ep, ho, hd', _⟩, _⟩ := I.loc
      rw [show X.env.locals = f from z.symm, hf] at ho
      rw [← Option.some.inj ho, hd] at hd'
      cases hd'
    · rcases I.ok.stk with e | ⟨e, hx⟩
      · rw [e]
        exact z
      · rw [e]
        unfold frs
        rw [List.filterMap_cons, hx]
        exact List.mem_cons_of_mem _ z
    · have z' : o.data = .cell v := z
      rw [hd] at z'
      cases z'
theorem lam_call {X : Cx} {k : Nat} {pins : List (Addr × Obj)} {σ : L2.St} {H : Hp} {s : Shared} {f c' : Addr} {params : Arguments} {body : Expr} {scope : Scope} {pm ctv : Value} {a : Str} {tb : TE} {A : Around} {u : Value} {v : V} {Q : VK}
    (I : Inv X pins σ H s) (e0 : Env0 X.prog X.w X.K X.mg X.base A X.stack s H) (hf : s.heap.get? f = some (lamO X params body scope pm c' ctv)) (hc : H c' = some (LamX.CodeO c' (X.env.qual ++ "<lambda>"))) (S : FnScope [a] [a] scope) (hr : Room (k + 1) A)
    (hbind : ∀ (q : Str) (pm cv ctv : Value) (u : Value), bindArgs (PySem.W.kla_fn "<lambda>" q params body scope [] pm cv ctv) ⟨[u], []⟩ = pure [(a, u)]) (rel : RelV v u)
    (hbody : ∀ (A : Around) (outer : List Env) (s : Shared) (H : Hp) (q : Str) (f : Addr) (cd : Value), Room k (A.deeper (envOfC q scope s.heap.objs.size f cd)) → PE (cxOf CX0 X.prog X.w X.K X.mg X.base [a] q scope f cd A outer s H E0) body tb) (ht : tb (L2.start [a] [v]) H Q) :
    codeAny (model X.prog X.w) A (.call (.ref f) ⟨[u], []⟩) (CR CX0 X.stack X.prog X.w H s Q E0) s := by
  obtain ⟨⟨oc, vs, t, hoc, hdc, hvc⟩, _, _⟩ := I.hok c' _ hc
  refine PySem.W.kla_callFunE hr.depth hf rfl S.co S.gen rfl ⟨c', oc, vs, t, rfl, hoc, hdc, hvc⟩ ?_
  rw [hbind]
  have hkind : ∀ y ∈ [(a, u)], scope.names.lookup y.1 = some .local ∨ (scope.names.lookup y.1 = some .cell ∧ ((cellsFrom (s.heap.objs.size + 1) scope.names []).lookup y.1).isSome = true) := fun y hy => by
    rw [List.mem_singleton.mp hy]
    rcases S.par a (List.mem_singleton.mpr rfl) with q | q
    · exact .inl q
    · exact .inr ⟨q, PySem.W.cellsFrom_some _ _ _ (.inl q)⟩
  refine wpAny_pure (wpAny_newFunctionEnv_cells S.kind hkind fun env he s1 x => ?_)
  subst he
  refine ⟨I.nolimit.keeps x.toInCall.keep, ?_⟩
  have J : Inv (cxOf CX0 X.prog X.w X.K X.mg X.base [a] (X.env.qual ++ "<lambda>") scope f (.ref c') A X.stack s H E0) [] (L2.start [a] [v]) H s1 := inv_start (ps := [a]) (us := [u]) S hr.hd e0 rfl (.cons rel .nil) x
  refine PySem.W.kla_codeExpr (wpAny_mono ((hbody A X.stack s H _ f _ (hr.deeper _)).run [] s1 _ H Q J ht) (fun w s' hq => ?_) fun e s' hq => hq)
  obtain ⟨w', H', J', rv, q⟩ := hq
  exact ⟨w', H', J'.os, J'.bare, J'.base, J'.hok, rv, q⟩
/-! making it: all but the table at P stays -/
theorem lam_new {X : Cx} {pins : List (Addr × Obj)} {σ : L2.St} {H : Hp} {s : Shared} {c P : Addr} {params : Arguments} {body : Expr} {scope : Scope} {lpos : Pos} {E Q : Value → Shared → Prop} (I : Inv X pins σ H s) (TB : LamX.TabB X.base X.mg c P) (hcode : X.env.code = .ref c)
    (tab : LamX.TabS H P (X.env.qual ++ "<lambda>")) (hdef : defaultsOf params X.env = ([], [])) (clo : closureFor scope X.env = pure [])
    (fin : ∀ (f c' : Addr) (pm ctv : Value) (H1 : Hp) (z : Shared), Inv X pins σ H1 z → (∀ b o, b ≠ P → H b = some o → H1 b = some o) → (∀ b, H1 b = none → H b = none) → LamX.TabS H1 P (X.env.qual ++ "<lambda>") → z.heap.get? f = some (lamO X params body scope pm c' ctv) → H1 f = none → f ∉ frs X.stack → H1 c' = some (LamX.CodeO c' (X.env.qual ++ "<lambda>")) → Q (.ref f) z) :
    wpAny (model X.prog X.w) X.A (eval (.Lambda params body scope lpos) X.env) Q E s := by
  obtain ⟨ps, hP, tri, known⟩ := tab
  have atP : s.heap.get? P = some { cls := .none, data := .fields ps } := I.hok P _ hP
  have far : ∀ a, s.heap.objs.size ≤ a → a ∉ frs X.stack := fun a ha m => (List.mem_cons.mp (I.stkSub a m)).elim (fun e => absurd I.lt (by rw [← e]; exact Nat.not_lt.mpr ha)) (I.nofs ha)
  refine PySem.W.kla_eval hdef ?_
  rcases hc : codeAmong lpos ps.toList with _ | cv
  · refine PySem.W.kla_makeFunction (mg := X.mg) (c := c) (P := P) (ps := ps) clo I.ok.glob (I.mod.glob.keeps I.bk) hcode (TB.code.keeps I.bk) atP tri hc TB.gP (TB.bm.keeps I.bk) ?_
    rintro c' ctv hn tk ext ge lt ⟨c2, oc, vs, t, e2, hoc, hdat, hvs⟩ htb
    obtain rfl : c' = c2 := Value.ref.inj e2
    have up : s.heap.objs.size ≤ hn.objs.size := Nat.le_trans ge (Nat.le_of_lt lt)
    have nC : H c' = none := I.hok.fresh ge
    have nPc : P ≠ c' := ne_of_none hP nC
    have J := LamX.inv_table (t' := tk) (more := #[rawInt lpos.line, rawInt lpos.col, .ref c']) (h' := hn.push (lamO X params body scope ((X.mg "__name__").getD .none) c' ctv)) I hP (fun b o ne e => Heap.get?_push_of_some _ (ext b o ne e)) (Heap.get?_push_of_some _ htb) ge ⟨oc, vs, t, Heap.get?_push_of_some _ hoc, hdat, hvs⟩
    have keep : ∀ b o, b ≠ P → H b = some o → (upd (upd H P (.tbl (ps ++ #[rawInt lpos.line, rawInt lpos.col, .ref c']))) c' (LamX.CodeO c' (X.env.qual ++ "<lambda>"))) b = some o := fun b o ne e => by
      rw [upd_ne (ne_of_none e nC), upd_ne ne]
      exact e
    have lst : (ps ++ #[rawInt lpos.line, rawInt lpos.col, .ref c']).toList = ps.toList ++ [rawInt lpos.line, rawInt lpos.col, .ref c'] := by simp
    refine fin hn.objs.size c' ((X.mg "__name__").getD .none) ctv _ _ J keep (fun b e => ?_) ⟨_, by rw [upd_ne nPc, upd_same], by rw [lst]; exact PySem.TriplesOk_snoc _ _ _ _ tri, fun at' cv' e => ?_⟩ (Heap.get?_push_size _ rfl) ?_ (far _ up) upd_same
    · by_cases y1 : b = c'
      · rw [y1]
        exact nC
      · by_cases y2 : b = P
        · rw [upd_ne y1, y2, upd_same] at e
          cases e
        · rw [upd_ne y1, upd_ne y2] at e
          exact e
    · rw [lst] at e
      rcases LamX.among_app _ tri e with z | z
      · obtain ⟨c0, z1, z2⟩ := known at' cv' z
        exact ⟨c0, z1, keep _ _ (fun y => LamX.codeO_ne ps (Option.some.inj (z2.symm.trans (by rw [y]; exact hP)))) z2⟩
      · exact ⟨c', z, upd_same⟩
    · rw [upd_ne (Nat.ne_of_gt lt), upd_ne (Nat.ne_of_gt (Nat.lt_of_lt_of_le (Heap.lt_size atP) up))]
      exact I.hok.fresh up
  · obtain ⟨c', rfl, hco⟩ := known lpos cv hc
    refine PySem.W.kla_makeFunctionHit (mg := X.mg) (c := c) (P := P) (ps := ps) clo I.ok.glob (I.mod.glob.keeps I.bk) hcode (TB.code.keeps I.bk) atP tri hc (TB.bm.keeps I.bk) ?_
    rintro ctv hn tk ext up
    have J : Inv X pins σ H { s with heap := hn.push (lamO X params body scope ((X.mg "__name__").getD .none) c' ctv), toks := tk } := I.kept fun b o e => Heap.get?_push_of_some _ (ext b o e)
    exact fin hn.objs.size c' ((X.mg "__name__").getD .none) ctv H _ J (fun _ _ _ e => e) (fun _ e => e) ⟨ps, hP, tri, known⟩ (Heap.get?_push_size _ rfl) (I.hok.fresh up) (far _ up) hco
/-- what the making changed -/
structure LamD (P : Addr) (q : Str) (H H' : Hp) : Prop where
  kp : ∀ b o, b ≠ P → H b = some o → H' b = some o
  free : ∀ b, H' b = none → H b = none
  tab : LamX.TabS H' P q
/-- sorted(e, key=lambda a: body) -/
def tSortLam (K : PySem.W.Frag) (P : Addr) (q : Str) (a : Str) (te tb : TE) : TE := fun σ H Q => te σ H fun v H1 => LamX.TabS H1 P q ∧ ∀ H2, LamD P q H1 H2 → ∃ (l : Addr) (es : List (V × PyData)), v = .ref l ∧ SqL K H2 l (es.map (·.1)) ∧ PySem.W.AllAlike (es.map (·.2)) ∧ PySem.W.Sortable (es.map (·.2)) ∧ (∀ e ∈ es, e.2.depth ≤ 60) ∧
  (∀ e ∈ es, ∀ H3, Same H2 H3 → ∀ Q1 : VK, (∀ v H4, Same H3 H4 → Dp K H4 v e.2 → Q1 v H4) → tb (L2.start [a] [e.1]) H3 Q1) ∧ ∀ (p : Addr) (H3 : Hp), H2 p = none → Same H2 H3 → H3 p = some (.lst ((keyed es).map (·.1))) → Q (.ref p) H3
theorem pe_sortLam {X : Cx} {c P : Addr} {k : Nat} {params : Arguments} {body : Expr} {scope : Scope} {a : Str} {te tb : TE} {e : Expr} {p lpos kpos pos : Pos} (hg : Gl X "sorted") (hm : X.mg "sorted" = none) (ha : PE X e te)
    (TB : LamX.TabB X.base X.mg c P) (hcode : X.env.code = .ref c) (hdef : defaultsOf params X.env = ([], [])) (hclo : ∀ cs, cloFrom cs scope.names [] = []) (S : FnScope [a] [a] scope) (hr : Room (k + 3) X.A)
    (hbind : ∀ (q : Str) (pm cv ctv : Value) (u : Value), bindArgs (PySem.W.kla_fn "<lambda>" q params body scope [] pm cv ctv) ⟨[u], []⟩ = pure [(a, u)])
    (hbody : ∀ (A : Around) (outer : List Env) (s : Shared) (H : Hp) (q : Str) (f : Addr) (cd : Value), Room k (A.deeper (envOfC q scope s.heap.objs.size f cd)) → PE (cxOf CX0 X.prog X.w X.K X.mg X.base [a] q scope f cd A outer s H E0) body tb)
    (he : backTo pos (starEach [e] X.env) = (false, eval e X.env) :: backTo pos (starEach [] X.env) := by rfl) (hpl : (backTo pos (starEach [e] X.env)).any (·.1) = false := by rfl) :
    PE X (.Call (.Name "sorted" p) [e] [⟨some "key", .Lambda params body scope lpos, kpos⟩] pos) (tSortLam X.K P (X.env.qual ++ "<lambda>") a te tb) := by
  refine ⟨fun pins s σ H Q I h => ?_⟩
  refine wpAny_Call_Name_kw (ld_blt I hg hm rfl ?_ (by decide) (by decide))
  refine PyProof.Rows.callWith_kw ?_ he hpl rfl rfl
  rw [he]
  refine Calls.spliced_cons (thn (ha.run pins s σ H _ I h) fun u s1 ⟨v, H1, I1, r1, hT, q1⟩ => ?_)
  refine Calls.spliced_nil ?_
  show wpAny _ _ (evalAll [(do let v ← eval (.Lambda params body scope lpos) X.env; standAt pos; pure v)]) _ _ s1
  have clo : closureFor scope X.env = pure [] := (closure_ok fun y hy hz => absurd hz (S.nofree y hy)).trans (by rw [hclo])
  refine wpAny_evalAll_cons (wpAny_bind (lam_new I1 TB hcode hT hdef clo fun f c' pm ctv H2 s2 I2 kp fr T2 hf hfn hfr hco => ?_))
  refine wpAny_bind (wpAny_standAt (wpAny_pure (wpAny_evalAll_nil ?_)))
  obtain ⟨l, es, rfl, hs, al, so, dp, key, q⟩ := q1 H2 ⟨kp, fr, T2⟩
  obtain rfl : u = Value.ref l := r1
  have I3 := lam_pin I2 hf rfl hfn hfr
  refine thn (sort_run (k := k + 1) (f := f) I3 hr hs al so dp (fun e he H3 s3 u more sm J rel rB => ?_) q) fun x s4 ⟨v, H4, J4, r4, q4⟩ => ⟨v, H4, J4.unpinned, r4, q4⟩
  have E1 := J.env0
  refine lam_call J ⟨E1.frames, E1.mod, E1.bs, E1.bsz, E1.funs, E1.frf, E1.hok, E1.bare⟩ (J.pin (f, lamO X params body scope pm c' ctv) (by simp)).1 (sm _ _ hco) S rB hbind rel hbody (key e he H3 sm _ fun v H4 h1 h2 => ⟨h1, h2⟩)
/-! ### {**d, k: v, l: w} -/
section
variable {prog : Program} {w : World} {K : Type} [DecidableEq K] {knd : KeyKind prog w K} {A : Around} {E : Value → Shared → Prop} {s : Shared}
theorem put_pairs {d : Addr} {kvs : List (K × Value)} {k : K} {key v : Value} {Q : Unit → Shared → Prop} (hkey : knd.is k key = true) (hm : s.heap.DictOf knd d kvs) (hsz : kvs.length ≤ sizeLine)
    (hQ : ∀ h', h'.DictOf knd d (stored kvs k v) → Heap.SameBut d s.heap h' → Q () { s with heap := h' }) : wpAny (model prog w) A (dictPut d (knd.hash k) key v) Q E s := by
  obtain ⟨o, es, ep, ho, hc, hd, hk, hp, hn⟩ := hm
  have sz : es.size = kvs.length := by rw [← hp.length, Array.length_toList]
  have idx : (es.findIdx? fun e => knd.is k e.key) = kvs.findIdx? fun kv => decide (kv.1 = k) := by
    rw [← hp.findIdx k]
    obtain ⟨l⟩ := es
    simp
  unfold dictPut
  refine wpAny_bind (wpAny_dictFind_of hkey ho hd hk ?_)
  cases hi : es.findIdx? fun e => knd.is k e.key with
  | some i =>
    have any : (kvs.any fun kv => decide (kv.1 = k)) = true := any_of_findIdx_some (idx ▸ hi)
    refine wpAny_updateDict ho hd (hQ _ ⟨_, _, ep, Heap.get?_update_self _ ho (Obj.isFreed_of_dict (Obj.data_mapDict hd _)), hc.mapDict _, Obj.data_mapDict hd _, hk.modify _ _, ?_, ?_⟩ (Heap.SameBut.update ..))
    · have q := hp.modify hn (k := k) (i := i) (by rw [← hi]; obtain ⟨l⟩ := es; simp) v
      rw [stored, if_pos any]
      obtain ⟨l⟩ := es
      simpa using q
    · rw [stored, if_pos any, keys_map_store]
      exact hn
  | none =>
    have out : k ∉ kvs.map (·.1) := not_mem_of_findIdx_none (idx ▸ hi)
    have no : ¬ (kvs.any fun kv => decide (kv.1 = k)) = true := fun z => by
      obtain ⟨kv, h1, h2⟩ := List.any_eq_true.mp z
      exact out (List.mem_map.mpr ⟨kv, h1, of_decide_eq_true h2⟩)
    refine wpAny_updateDictKeys (hz := by rw [sz]; exact hsz) ho hd (hQ _ ⟨_, _, ep + 1, Heap.get?_update_self _ ho (Obj.isFreed_of_dict (Obj.data_mapDictKeys hd _)), hc.mapDictKeys _, Obj.data_mapDictKeys hd _, hk.push hkey _, ?_, ?_⟩ (Heap.SameBut.update ..))
    · have q := hp.append hkey (knd.hash k) v
      rw [stored, if_neg no]
      obtain ⟨l⟩ := es
      simpa using q
    · rw [stored, if_neg no, List.map_append, List.nodup_append]
      refine ⟨hn, by simp, fun a ha b hb e => out ?_⟩
      rw [List.map_cons, List.map_nil, List.mem_singleton] at hb
      have z : a = k := e.trans hb
      rw [← z]
      exact ha
theorem merge_pairs {d a : Addr} {kvs more : List (K × Value)} {Q : Unit → Shared → Prop} (hda : d ≠ a) (hS : (a == sysModules) = false) (hd : s.heap.DictOf knd d kvs) (ha : s.heap.DictOf knd a more) (hsz : kvs.length + more.length ≤ sizeLine)
    (hQ : ∀ h', h'.DictOf knd d (merged kvs more) → Heap.SameBut d s.heap h' → Q () { s with heap := h' }) : wpAny (model prog w) A (mergeMapping d (.ref a) false) Q E s := by
  obtain ⟨oa, ea, pa, ha1, ha2, ha3, ha4, ha5, ha6⟩ := id ha
  obtain ⟨od, ed, pd, hd1, hd2, hd3, hd4, hd5, hd6⟩ := id hd
  have len : ea.size = more.length := by rw [← ha5.length, Array.length_toList]
  unfold mergeMapping
  refine wpAny_bind (wpAny_isInstance ha.typeIs isSubtype_dict_dict ?_)
  rw [if_pos rfl]
  refine wpAny_bind (wpAny_specialOf ha.typeIs PySem.F.slot_dict_iter.lookup ?_)
  refine wpAny_bind (wpAny_pure ?_)
  rw [show (some (Value.builtin "dict.__iter__") == some (Value.builtin "dict.__iter__")) = true by decide]
  dsimp only
  rw [if_neg (by rw [hS]; exact Bool.false_ne_true)]
  have loop : wpAny (model prog w) A (do
      let l ← dictEntries a
      let size : Nat := l.size
      let epoch ← dictEpoch a
      forIn (List.range size) PUnit.unit fun i (_ : PUnit) => (do
          let l' ← dictEntries a
          match l'[i]? with
          | some e => do
            holding [e.key, e.val] (dictPut d e.hash e.key e.val)
            let p ← dictEpoch a
            if (p != epoch) = true then do
                (unsupported "dict.changed-during-merge" : Sem PUnit)
                pure (ForInStep.yield PUnit.unit)
              else pure (ForInStep.yield PUnit.unit)
          | x => do
            (unsupported "dict.changed-during-merge" : Sem PUnit)
            pure (ForInStep.yield PUnit.unit) : Sem (ForInStep PUnit))
      pure ()) Q E s := by
    refine wpAny_bind (wpAny_dictEntries ha1 ha3 ?_)
    refine wpAny_bind (wpAny_dictEpoch ha1 ha3 ?_)
    refine wpAny_bind (wpAny_forIn_list _ (fun rest _ s' => ∃ h' i, s' = { s with heap := h' } ∧ rest = List.range' i (ea.size - i) ∧ i ≤ ea.size ∧ h'.DictOf knd d (merged kvs (more.take i)) ∧ Heap.SameBut d s.heap h') _ ?_ ?_ _ _
      ⟨s.heap, 0, rfl, List.range_eq_range' .., Nat.zero_le _, hd, Heap.SameBut.refl _ _⟩)
    · rintro x rest b s' ⟨h', i, rfl, hr, hi, hd', hs'⟩
      have lt : i < ea.size := by
        rcases Nat.lt_or_ge i ea.size with h | h
        · exact h
        · rw [Nat.sub_eq_zero_of_le h] at hr
          cases hr
      rw [show ea.size - i = (ea.size - (i + 1)) + 1 by omega, List.range'_succ] at hr
      obtain ⟨rfl, rfl⟩ := List.cons.inj hr
      have ha1' : h'.get? a = some oa := (hs'.2 a hda.symm).trans ha1
      refine wpAny_bind (wpAny_dictEntries (s := { s with heap := h' }) ha1' ha3 ?_)
      rw [Array.getElem?_eq_getElem lt]
      obtain ⟨⟨k, v⟩, hkv⟩ : ∃ kv, more[x]? = some kv := ⟨_, List.getElem?_eq_getElem (by omega)⟩
      obtain ⟨hkey, hval⟩ := ha5.get? (e := ea[x]) (by simp [lt]) hkv
      obtain ⟨k', hkey', hhash⟩ := ha4 ea[x] (Array.getElem_mem lt)
      obtain rfl : k' = k := knd.inj _ _ _ hkey' hkey
      dsimp only at hval ⊢
      rw [hhash, hval]
      have le : (merged kvs (more.take x)).length ≤ sizeLine := by
        have h1 := merged_length_le kvs (more.take x)
        rw [List.length_take] at h1
        omega
      refine wpAny_bind (wpAny_holding (put_pairs (s := { s with heap := h' }) hkey' hd' le fun h2 hd2 hs2 => ?_))
      refine wpAny_bind (wpAny_dictEpoch (s := { s with heap := h2 }) ((hs2.2 a hda.symm).trans ha1') ha3 ?_)
      rw [if_neg (by simp)]
      refine wpAny_pure ⟨h2, x + 1, rfl, rfl, lt, ?_, ?_⟩
      · rw [merged_take_succ _ _ _ _ hkv]
        exact hd2
      · exact hs'.trans hs2
    · rintro b s' ⟨h', i, rfl, hr, hi, hd', hs'⟩
      have e : i = ea.size := by
        rcases Nat.lt_or_ge i ea.size with h | h
        · rw [show ea.size - i = (ea.size - (i + 1)) + 1 by omega, List.range'_succ] at hr
          cases hr
        · omega
      rw [e, len, List.take_length] at hd'
      exact wpAny_pure (hQ h' hd' hs')
  refine wpAny_bind (wpAny_dictEntries hd1 hd3 ?_)
  split
  · refine wpAny_bind (wpAny_dictEntries ha1 ha3 ?_)
    refine wpAny_bind ?_
    rw [← Array.forIn_toList]
    refine wpAny_forIn_list _ (fun rest _ s' => s' = s ∧ ∀ e ∈ rest, carriedByValue e.key = true) _ ?_ ?_ _ _ ⟨rfl, fun e he => ?_⟩
    · rintro e rest b s' ⟨rfl, h⟩
      have hc := h e List.mem_cons_self
      cases hk : e.key with
      | ref z =>
        rw [hk] at hc
        cases hc
      | _ => exact wpAny_pure ⟨rfl, fun e he => h e (List.mem_cons_of_mem _ he)⟩
    · rintro b s' ⟨rfl, _⟩
      exact loop
    · obtain ⟨k, h1, _⟩ := ha4 e (Array.mem_toList_iff.mp he)
      exact knd.byValue _ _ h1
  · exact loop
end
theorem display2 (m k1 v1 k2 v2 : Sem Value) : dictDisplay [(none, m), (some k1, v1), (some k2, v2)] = (do
    let d ← alloc { cls := .type "dict", data := .dict #[] }
    let x ← holding [.ref d] m
    (((holding [.ref d, x] (mergeMapping d x false)).onRaise fun y => do let _ ← holding [.ref d, x, y] (runValue (.builtin "proto.let_go" {}))).tryCatch fun e => do
        if ← isInstance e (.type "AttributeError") then
          rule "dict.display.not-a-mapping"; raiseError "TypeError" s!"'{← typeNameOf x}' object is not a mapping"
        throw e).onRaise fun y => do let _ ← holding [.ref d, y] (runValue (.builtin "proto.let_go" {}))
    let sub ← holding [.ref d] (subDict [(k1, v1), (k2, v2)])
    (holding [.ref d, .ref sub] (mergeMapping d (.ref sub) false)).onRaise fun y => do let _ ← holding [.ref d, y] (runValue (.builtin "proto.let_go" {}))
    pure (.ref d)) := by
  unfold dictDisplay
  simp
/-- {**d, k: v, l: w}: a new dict with d's pairs, then the others -/
def tDispM (t0 : TE) (trs : List (TE × TE)) : TE := fun σ H Q => ∀ p, H p = none → t0 σ (upd H p (.dK [])) fun x H1 => ∃ (a : Addr) (kvs : List (Key × V)), x = .ref a ∧ a ≠ p ∧ Rd H1 a (.dK kvs) ∧ H1 p = some (.dK []) ∧
  ∀ q, upd H1 p (.dK (mergeK [] kvs)) q = none → tPairs trs σ (upd (upd H1 p (.dK (mergeK [] kvs))) q (.dK [])) fun ps H2 => H2 q = some (.dK []) ∧ H2 p = some (.dK (mergeK [] kvs)) ∧ q ≠ p ∧ kvs.length + 15 ≤ 1000 ∧
    ∃ more : List (Key × V), ps = more.map (fun kv => (kV kv.1, kv.2)) ∧ more.length ≤ 15 ∧ Q (.ref p) (upd (upd H2 q (.dK (mergeK [] more))) p (.dK (mergeK (mergeK [] kvs) (mergeK [] more))))
theorem pe_dispM {X : Cx} {pos : Pos} {e0 k1 v1 k2 v2 : Expr} {t0 : TE} {trs : List (TE × TE)} (h0 : PE X e0 t0) (h : PPs X pos [some k1, some k2] [v1, v2] trs) : PE X (.Dict [none, some k1, some k2] [e0, v1, v2] pos) (tDispM t0 trs) := by
  refine ⟨fun pins s σ H Q I q => ?_⟩
  rw [arm_eval_Dict]
  refine wpAny_bind (wpAny_standAt ?_)
  show wpAny _ _ (dictDisplay [(none, do let x ← eval e0 X.env; standAt pos; pure x), (some (eval k1 X.env), do let x ← eval v1 X.env; standAt pos; pure x), (some (eval k2 X.env), do let x ← eval v2 X.env; standAt pos; pure x)]) _ _ _
  rw [display2]
  refine wpAny_bind (wpAny_alloc ?_)
  have fresh := I.hok.fresh (Nat.le_refl s.heap.objs.size)
  have I1 := I.laid (a := s.heap.objs.size) (o := .dK []) (h' := s.heap.push { cls := .type "dict", data := .dict #[] }) (t' := s.toks) (fun _ _ q => Heap.get?_push_of_some _ q) (Nat.le_refl _) (dk_empty s.heap I.big)
  generalize hp : s.heap.objs.size = p at *
  refine wpAny_bind (wpAny_holding (wpAny_bind (thn (h0.run pins _ σ _ _ I1 (q p fresh)) ?_)))
  rintro u s1 ⟨x, H1, I2, rx, a, kvs, rfl, nap, hx, hpE, q1⟩
  obtain rfl : u = Value.ref a := rx
  refine wpAny_bind (wpAny_standAt (wpAny_pure ?_))
  obtain ⟨za, aS, va, ra, da⟩ := dk_rd I2.hok hx
  obtain ⟨zp, pS, vp, rp, dp⟩ := dk_of I2.hok hpE
  cases rp
  refine wpAny_bind (wpAny_onRaise (wpAny_tryCatch (wpAny_onRaise (wpAny_holding (merge_pairs (knd := mixKind X.prog X.w) (fun z => nap z.symm) aS dp da (by rw [List.length_nil, Nat.zero_add, ← ra.length]; exact za) fun h1 d1 sb1 => ?_)))))
  have hz1 : (mergeK [] kvs).length ≤ sizeLine := by
    have := length_mergeK kvs []
    rw [List.length_nil] at this
    omega
  have I3 : Inv X pins σ (upd H1 p (.dK (mergeK [] kvs))) { s1 with heap := h1, toks := s1.toks } := d_write I2 (by rw [hpE]; exact True.intro) sb1 (let ⟨q, _, _, hq, _⟩ := d1; ⟨q, hq⟩) (dk_new hz1 pS (ra.merge .nil) d1)
  -- the pairs, in a dict of their own
  have fresh2 := I3.hok.fresh (Nat.le_refl h1.objs.size)
  have I4 := I3.laid (a := h1.objs.size) (o := .dK []) (h' := h1.push { cls := .type "dict", data := .dict #[] }) (t' := s1.toks) (fun _ _ q => Heap.get?_push_of_some _ q) (Nat.le_refl _) (dk_empty h1 I3.big)
  refine wpAny_bind (wpAny_holding ?_)
  show wpAny _ _ (subDict (pairTrees [some k1, some k2] [v1, v2] X.env pos)) _ _ _
  refine wpAny_subDict (knd := mixKind X.prog X.w) (show 2 ≤ 15 by decide) (thn (h.run pins _ σ _ _ I4 (q1 _ fresh2)) ?_)
  rintro ws s2 ⟨ps, H2, I5, rel, eq, ep, nqp, small, more, rfl, lm, q2⟩
  obtain ⟨rs, c, rk⟩ := carries_of (P := X.prog) (w := X.w) rel
  obtain ⟨zq, qS, vq, rq, dq⟩ := dk_of I5.hok eq
  cases rq
  refine ⟨rs, c, dq, fun h3 d3 sb3 => ?_⟩
  have hz2 : (mergeK [] more).length ≤ sizeLine := by
    have := length_mergeK more []
    rw [List.length_nil] at this
    rw [sizeLine_eq]
    omega
  have rm : KV (mergeK [] more) (merged [] rs) := rk.merge .nil
  have I6 : Inv X pins σ (upd H2 h1.objs.size (.dK (mergeK [] more))) { s2 with heap := h3, toks := s2.toks + ws.length } := d_write I5 (by rw [eq]; exact True.intro) sb3 (let ⟨q, _, _, hq, _⟩ := d3; ⟨q, hq⟩) (dk_new hz2 qS rm d3)
  have ep6 : upd H2 h1.objs.size (.dK (mergeK [] more)) p = some (.dK (mergeK [] kvs)) := (upd_ne (fun z => nqp z.symm)).trans ep
  obtain ⟨zp6, _, vp6, rp6, dp6⟩ := dk_of I6.hok ep6
  have ks : (mergeK [] kvs).length ≤ kvs.length := by
    have := length_mergeK kvs []
    rw [List.length_nil] at this
    omega
  have ms : (mergeK [] more).length ≤ more.length := by
    have := length_mergeK more []
    rw [List.length_nil] at this
    omega
  refine wpAny_bind (wpAny_onRaise (wpAny_holding (merge_pairs (knd := mixKind X.prog X.w) (fun z => nqp z.symm) qS dp6 d3 (by rw [← rp6.length, ← rm.length, sizeLine_eq]; omega) fun h4 d4 sb4 => wpAny_pure ?_)))
  have hz3 : (mergeK (mergeK [] kvs) (mergeK [] more)).length ≤ sizeLine := by
    have := length_mergeK (mergeK [] more) (mergeK [] kvs)
    rw [sizeLine_eq]
    omega
  exact ⟨.ref p, _, d_write (t' := s2.toks + ws.length) I6 (by rw [ep6]; exact True.intro) sb4 (let ⟨q, _, _, hq, _⟩ := d4; ⟨q, hq⟩) (dk_new hz3 pS (rm.merge rp6) d4), rfl, q2⟩
/-! ### t[::i], i one or minus one -/
section
variable {prog : Program} {w : World} {A : Around} {E : Value → Shared → Prop} {s : Shared}
theorem stepped {sl : Addr} {vs : Value} {i : Int} {n : Nat} {Q : Int × Int × Nat → Shared → Prop} (hs : s.heap.IsSliceOf sl .none .none vs) (ps : IsPart vs (some i)) (h0 : i ≠ 0)
    (h : Q ((Builtin.Slice.sliceAdjust none none i (n : Int)).1, i, Builtin.Slice.slicePlaces (Builtin.Slice.sliceAdjust none none i (n : Int)).1 (Builtin.Slice.sliceAdjust none none i (n : Int)).2 i) s) : wpAny (model prog w) A (Builtin.Slice.sliceApplied (.ref sl) (pure (n : Int))) Q E s := by
  obtain ⟨os, hos, hcs, hds⟩ := id hs
  unfold Builtin.Slice.sliceApplied Builtin.Slice.sliceFields
  refine wpAny_bind (wpAny_bind (wpAny_field hos hds (x := .none) rfl (wpAny_bind (wpAny_field hos hds (x := .none) rfl (wpAny_bind (wpAny_field hos hds (x := vs) rfl (wpAny_pure ?_)))))))
  refine wpAny_bind (HT.slicePart_ ps ?_)
  show wpAny _ _ (if (i == 0) = true then _ else _) _ _ s
  rw [if_neg (by rw [beq_iff_eq]; exact h0)]
  exact wpAny_bind (HT.slicePart_ .none (wpAny_bind (HT.slicePart_ .none (wpAny_bind (wpAny_pure (wpAny_pure h))))))
theorem fm_congr {α β : Type} {f g : α → Option β} : ∀ {l : List α}, (∀ x ∈ l, f x = g x) → l.filterMap f = l.filterMap g
  | [], _ => rfl
  | x :: r, h => by rw [List.filterMap_cons, List.filterMap_cons, h x List.mem_cons_self, fm_congr fun y hy => h y (List.mem_cons_of_mem _ hy)]
theorem back_pick (xs : Array Value) : ((List.range xs.size).filterMap fun (k : Nat) => xs[((xs.size : Int) - 1 + (k : Int) * -1).toNat]?) = xs.toList.reverse := by
  rw [← PySem.W.krv_all xs, ← List.filterMap_reverse, ← PySem.W.krv_range, List.filterMap_map]
  refine fm_congr fun k hk => ?_
  have := List.mem_range.mp hk
  show xs[((xs.size : Int) - 1 + (k : Int) * -1).toNat]? = xs[xs.size - 1 - k]?
  rw [show ((xs.size : Int) - 1 + (k : Int) * -1).toNat = xs.size - 1 - k by omega]
theorem item_step {t sl : Addr} {items : Array Value} {vs : Value} {i : Int} {Q : Value → Shared → Prop} (ht : IsTup s.heap t items) (hs : s.heap.IsSliceOf sl .none .none vs) (ps : IsPart vs (some i)) (hi : i = 1 ∨ i = -1) (hsz : items.size ≤ sizeLine)
    (h1 : i = 1 → Q (.ref t) s) (h2 : i = -1 → Q (.ref s.heap.objs.size) { s with heap := s.heap.push { cls := .type "tuple", data := .seq items.toList.reverse.toArray } }) : wpAny (model prog w) A (getItem (.ref t) (.ref sl)) Q E s := by
  obtain ⟨os, hos, hcs, hds⟩ := id hs
  have hTs : s.TypeIs (.ref sl) "slice" := ⟨os, hos, hcs⟩
  unfold getItem
  try with_reducible refine wpAny_holding ?_
  first | refine wpAny_bind (wpAny_pure ?_) | skip
  refine wpAny_bind (wpAny_sequenceKey ht.typeIs (by decide) ?_)
  refine wpAny_bind (wpAny_callSpecial?_slot (name := Str.ofString "__getitem__") ht.typeIs PyProof.Rows.slot_tuple_getitem (wpAny_call_entry PyProof.Rows.slot_tuple_getitem ht.typeIs entry_tuple_getitem ?_ (args_tuple_getitem _ _)))
  show wpAny _ _ (Builtin.Tuple.tupleItemsOf (.ref t) >>= _) _ _ s
  refine wpAny_bind (tupleItemsOf_ ht ?_)
  refine wpAny_bind (wpAny_typeOf hTs ?_)
  rw [if_pos (by decide)]
  refine wpAny_bind (stepped hs ps (by omega) ?_)
  rcases hi with rfl | rfl
  · have e1 : (Builtin.Slice.sliceAdjust none none 1 (items.size : Int)) = (0, (items.size : Int)) := rfl
    have e2 : Builtin.Slice.slicePlaces 0 (items.size : Int) 1 = items.size := by
      unfold Builtin.Slice.slicePlaces
      rw [if_pos (by decide), Int.ediv_one]
      split <;> omega
    rw [e1]
    show wpAny _ _ (if ((0 : Int) == 0 && (1 : Int) == 1 && Builtin.Slice.slicePlaces 0 (items.size : Int) 1 == items.size) = true then _ else _) _ _ s
    rw [e2, if_pos (by simp)]
    refine wpAny_bind ?_
    show wpAny _ _ (typeOf (.ref t) >>= fun T => pure (T == .type "tuple")) _ _ s
    refine wpAny_bind (wpAny_typeOf ht.typeIs (wpAny_pure ?_))
    rw [if_pos (by decide)]
    first
      | exact wpAny_bind (wpAny_rule (wpAny_pure ⟨_, rfl, wpAny_pure (h1 rfl)⟩))
      | exact wpAny_bind (wpAny_rule (wpAny_bind (wpAny_pure (wpAny_pure ⟨_, rfl, wpAny_pure (h1 rfl)⟩))))
  · have e1 : (Builtin.Slice.sliceAdjust none none (-1) (items.size : Int)) = ((items.size : Int) - 1, -1) := rfl
    have e2 : Builtin.Slice.slicePlaces ((items.size : Int) - 1) (-1) (-1) = items.size := by
      unfold Builtin.Slice.slicePlaces
      rw [if_neg (by decide), show (- -1 : Int) = 1 from rfl, Int.ediv_one]
      split <;> omega
    rw [e1]
    show wpAny _ _ (if ((items.size : Int) - 1 == 0 && (-1 : Int) == 1 && Builtin.Slice.slicePlaces ((items.size : Int) - 1) (-1) (-1) == items.size) = true then _ else _) _ _ s
    rw [if_neg (by simp), e2, back_pick]
    have ok : sizeOk (.seq items.toList.reverse.toArray) := by
      show items.toList.reverse.toArray.size ≤ sizeLine
      rw [List.size_toArray, List.length_reverse, Array.length_toList]
      exact hsz
    first
      | exact wpAny_bind (m := Builtin.Tuple.tupleExact _) (wpAny_newObj_type (wpAny_pure ⟨_, rfl, wpAny_pure (h2 rfl)⟩) ok)
      | exact wpAny_bind (m := Builtin.Tuple.tupleExact _) (wpAny_newObj_type (wpAny_bind (wpAny_pure (wpAny_pure ⟨_, rfl, wpAny_pure (h2 rfl)⟩))) ok)
      | exact wpAny_bind (wpAny_bind (m := Builtin.Tuple.tupleExact _) (wpAny_newObj_type (wpAny_pure (wpAny_pure ⟨_, rfl, wpAny_pure (h2 rfl)⟩)) ok))
      | exact wpAny_bind (wpAny_bind (m := Builtin.Tuple.tupleExact _) (wpAny_newObj_type (wpAny_pure ⟨_, rfl, wpAny_pure (h2 rfl)⟩) ok))
end
/-- t[::i], i one or minus one: some tuple of the items, in their order or the other way about -/
def tStepP (te ts : TE) : TE := fun σ H Q => te σ H fun x H1 => ts σ H1 fun y H2 => ∃ (a : Addr) (xs : List V) (i : Int), x = .ref a ∧ H2 a = some (.tup xs) ∧ y = .int i ∧ (i = 1 ∨ i = -1) ∧
  ∀ (b : Addr) (H' : Hp) (ys : List V), Same H2 H' → (ys = xs ∨ ys = xs.reverse) → H' b = some (.tup ys) → Q (.ref b) H'
theorem pe_stepP {X : Cx} {e st : Expr} {te ts : TE} {p3 pos : Pos} (he : PE X e te) (hst : PE X st ts) : PE X (.Subscript e (.Slice none none (some st) p3) pos) (tStepP te ts) := by
  refine ⟨fun pins s σ H Q I h => ?_⟩
  refine Subscript_ (thn (he.run pins s σ H _ I h) fun v s1 ⟨x, H1, I1, r1, q1⟩ => ?_)
  refine wpAny_Slice (thn (po_none.run pins s1 σ H1 (fun o H2 => o = none ∧ H2 = H1) I1 ⟨rfl, rfl⟩) ?_)
  rintro vl s2 ⟨l, H2, I2, pl, rfl, rfl⟩
  refine thn (po_none.run pins s2 σ H2 (fun o H3 => o = none ∧ H3 = H2) I2 ⟨rfl, rfl⟩) ?_
  rintro vu s3 ⟨u, H3, I3, pu, rfl, rfl⟩
  refine thn (hst.run pins s3 σ H3 _ I3 q1) ?_
  rintro vs s4 ⟨y, H4, I4, ry, a, xs, i, rfl, hx, rfl, hi, g⟩
  cases r1
  obtain ⟨t, rfl⟩ := ry
  have I5 : Inv X pins σ H4 { s4 with heap := s4.heap.push { cls := .type "slice", data := .fields #[vl, vu, .int i t] } } := I4.kept (t' := s4.toks) fun b ob q => Heap.get?_push_of_some _ q
  obtain ⟨its, r, ht, hz⟩ := I5.tuple (SqT.of hx)
  have el : vl = .none := by cases pl; rfl
  have eu : vu = .none := by cases pu; rfl
  subst el eu
  show wpAny (model X.prog X.w) X.A (subscriptTail e (.Slice none none (some st) p3) (.ref a) (.ref s4.heap.objs.size)) (EP X pins σ Q) X.xe { s4 with heap := s4.heap.push { cls := .type "slice", data := .fields #[.none, .none, .int i t] } }
  refine tail_any (ops := [.ref a, .ref s4.heap.objs.size]) ht.typeIs PyProof.Rows.slot_tuple_getitem.lookup ?_ (by with_unfolding_all rfl)
  refine item_step ht (Heap.IsSliceOf.new _ _ _ _) (.int i t) hi (by rw [List.size_toArray, ← r.length]; exact hz) (fun e1 => ⟨.ref a, H4, I5, rfl, g a H4 xs (fun _ _ e => e) (.inl rfl) hx⟩) fun e1 => ?_
  refine ⟨.ref _, _, I5.laid (t' := s4.toks) (o := .tup xs.reverse) (fun b ob q => Heap.get?_push_of_some _ q) (Nat.le_refl _) ⟨by rw [List.length_reverse]; exact hz, _, r.reverse, IsTup.new _ _⟩, rfl, g _ _ _ (same_new (I5.hok.fresh (Nat.le_refl _))) (.inr rfl) upd_same⟩
/-! ### the order of entries, by the law -/
def Ent.rank : Ent → Int
  | .swap .. => 0 | .come .. => 1 | .go .. => 1 | .move .. => 1 | .some_ .. => 1 | .count .. => 2 | .look .. => 2
def ordV (e : Ent) : List V := [.int e.moment, .int e.rank, .str e.name]
def ordD (e : Ent) : PyData := .tuple [.int e.moment, .int e.rank, .str e.name]
theorem ord_dp {K : PySem.W.Frag} {H : Hp} {tp : Addr} {e : Ent} (h : H tp = some (.tup (ordV e))) : Dp K H (.ref tp) (ordD e) := .tup (SqT.of h) (.cons (.int _) (.cons (.int _) (.cons (.str _) .nil)))
theorem ord_alike (e g : Ent) : PySem.W.alike (ordD e) (ordD g) = true := rfl
def spOrd : Sp := fun vs H Q _ => ∃ (a : Addr) (e : Ent), vs = [.ref a] ∧ H a = some (.tup e.vals) ∧ ∀ (tp : Addr) (H' : Hp), Same H H' → H' tp = some (.tup (ordV e)) → Q (.ref tp) H'
def rankW (x : Str) : Int := 1 - (if decide (V.str x = V.str "swap") = true then 1 else 0) + (if inV (V.str x) [V.str "count", V.str "look"] = true then 1 else 0)
theorem rank_own (e : Ent) : rankW e.word = e.rank := by
  have h1 : rankW "come" = 1 := by decide +kernel
  have h2 : rankW "go" = 1 := by decide +kernel
  have h3 : rankW "move" = 1 := by decide +kernel
  have h4 : rankW "some" = 1 := by decide +kernel
  have h5 : rankW "swap" = 0 := by decide +kernel
  have h6 : rankW "count" = 2 := by decide +kernel
  have h7 : rankW "look" = 2 := by decide +kernel
  cases e
  · exact h1
  · exact h2
  · exact h3
  · exact h4
  · exact h5
  · exact h6
  · exact h7
section
variable {P : Program} {w : World} {K : PySem.W.Frag} {mg : Str → Option Value} {base : Heap}
theorem scOwn : FnScope ["_law_entry_here", "_law_rank"] ["_law_entry_here"] (defScope sOwn) := ⟨rfl, rfl, rfl, by decide +kernel, rfl, by decide +kernel, by decide +kernel⟩
theorem at0 (e : Ent) : atI e.vals 0 = some (.str e.word) := atI_nat (j := 0) rfl
theorem at1 (e : Ent) : atI e.vals 1 = some (.str e.name) := atI_nat (j := 1) rfl
theorem at2 (e : Ent) : atI e.vals 2 = some (.int e.moment) := atI_nat (j := 2) rfl
theorem ok_own {f : Addr} {fd : FuncData} (F : Fun K "_law_order" "_law_order" sOwn f fd) (mi : mg "int" = none) : FnOk P w K mg base CX0 1 f fd ["_law_entry_here"] spOrd := by
  refine F.ok scOwn (fun vs H Q E h => ?_) (fun cdv A outer s H vs Q E hr h => ?_)
  · obtain ⟨a, e, rfl, _⟩ := h
    rfl
  · obtain ⟨a, e, rfl, ha, q⟩ := h
    refine ⟨_, pss_cons (ps_set (i := 1) scOwn.nd rfl (Or.inl rfl) (pe_op op_add (pe_op op_sub pe_int (pe_callTy call_int1 (by rfl) mi (by decide +kernel) (pa_cons (pe_cmpR op_eq (pe_ix ix_tup (pv 0) pe_int (fun _ _ => rfl)) pe_str (nomark _)) pa_nil)))
        (pe_callTy call_int1 (by rfl) mi (by decide +kernel) (pa_cons (pe_cmpR op_in_seq (pe_ix ix_tup (pv 0) pe_int (fun _ _ => rfl)) (pe_tup (pa_cons pe_str (pa_cons pe_str pa_nil))) (by rfl)) pa_nil))))
      (pss_one (ps_ret (pe_tup (pa_cons (pe_ix ix_tup (pv 0) pe_int (fun _ _ => rfl)) (pa_cons (pv 1) (pa_cons (pe_ix ix_tup (pv 0) pe_int (fun _ _ => rfl)) pa_nil)))))), ?_⟩
    refine ⟨_, rfl, a, _, 0, _, rfl, rfl, SqT.of ha, at0 e, rfl, .inr ⟨_, rfl, 1, _, rfl, rfl, _, rfl, a, _, 0, _, rfl, rfl, SqT.of ha, at0 e, (by show 2 ≤ sizeLine; decide), fun t nt => ?_⟩⟩
    have s1 := @same_new _ _ (.tup [V.str "count", .str "look"]) nt
    refine ⟨t, _, rfl, .inr (SqT.of upd_same), rfl, ?_, .inr ⟨_, rfl, _, _, rfl, rfl, ?_⟩⟩
    · rfl
    · refine ⟨_, rfl, a, _, 2, _, rfl, rfl, SqT.of (s1 _ _ ha), at2 e, _, rfl, _, rfl, a, _, 1, _, rfl, rfl, SqT.of (s1 _ _ ha), at1 e, (by show 3 ≤ sizeLine; decide), fun tp ntp => ?_⟩
      refine q tp _ (s1.trans (same_new ntp)) ?_
      rw [upd_same]
      exact congrArg (fun k => some (HO.tup [V.int e.moment, V.int k, V.str e.name])) (rank_own e)
end
/-! ### places_of -/
namespace Ent
def places : Ent → List Str
  | come _ _ _ p _ _ => [p]
  | go _ _ _ p _ => [p]
  | move _ _ _ o t _ => [o, t]
  | some_ _ _ _ o t => if t = "" then [o] else [o, t]
  | swap _ _ o t => [o, t]
  | count _ _ _ p _ _ => [p]
  | look _ _ _ p => [p]
end Ent
def spPlaces : Sp := fun vs H Q _ => ∃ (a : Addr) (e : Ent), vs = [.ref a] ∧ H a = some (.tup e.vals) ∧ ∀ (tp : Addr) (H' : Hp), Same H H' → H' tp = some (.tup (e.places.map V.str)) → Q (.ref tp) H'
theorem cut_mid {xs : List V} {i j : Nat} (h : j ≤ xs.length) (hi : i ≤ j) : cutV xs (some (i : Int)) (some (j : Int)) = (xs.drop i).take (j - i) := by
  unfold cutV
  rw [HT.sIx_nat, HT.sIx_nat, Nat.min_eq_left h, Nat.min_eq_left (Nat.le_trans hi h)]
theorem no_whole {n i j : Nat} (h : i ≤ n) (hi : 0 < i) : ¬ (HT.sIx n 0 (some (i : Int)) = 0 ∧ HT.sIx n n (some (j : Int)) = n) := by
  rw [HT.sIx_nat, Nat.min_eq_left h]
  omega
section
variable {P : Program} {w : World} {K : PySem.W.Frag} {mg : Str → Option Value} {base : Heap}
theorem scPlacesOf : FnScope ["entry", "word"] ["entry"] (defScope sPlacesOf) := ⟨rfl, rfl, rfl, by decide +kernel, rfl, by decide +kernel, by decide +kernel⟩
theorem bl_of {a b : Str} {k : Bool} (h : decide (V.str a = V.str b) = k) : V.bl (decide (V.str a = V.str b)) = V.bl k := congrArg V.bl h
theorem ok_placesOf {f : Addr} {fd : FuncData} (F : Fun K "places_of" "places_of" sPlacesOf f fd) : FnOk P w K mg base CX0 1 f fd ["entry"] spPlaces := by
  refine F.ok scPlacesOf (fun vs H Q E h => ?_) (fun cdv A outer s H vs Q E hr h => ?_)
  · obtain ⟨a, e, rfl, _⟩ := h
    rfl
  · obtain ⟨a, e, rfl, ha, q⟩ := h
    have nd := scPlacesOf.nd
    refine ⟨_, pss_cons (ps_set (i := 1) nd rfl (Or.inl rfl) (pe_ix ix_tup (pv 0) pe_int (fun _ _ => rfl)))
      (pss_cons (ps_if (pt_cmpR op_eq (pv 1) pe_str (nomark _)) (pss_one (ps_ret (pe_slice sl_tup (pv 0) (po_some pe_int) (po_some pe_int)))) pss_nil)
      (pss_cons (ps_if (PW.pt (pw_or (pt_cmpR op_eq (pv 1) pe_str (nomark _)) (pw_or1 (PW.pt (pw_and (pt_cmpR op_eq (pv 1) pe_str (nomark _)) (pw_and1 (pt_cmpR op_ne (pe_ix ix_tup (pv 0) pe_int (fun _ _ => rfl)) pe_str (nomark _)))))))) (pss_one (ps_ret (pe_slice sl_tup (pv 0) (po_some pe_int) (po_some pe_int)))) pss_nil)
      (pss_one (ps_ret (pe_slice sl_tup (pv 0) (po_some pe_int) (po_some pe_int)))))), ?_⟩
    refine ⟨_, rfl, a, _, 0, _, rfl, rfl, SqT.of ha, at0 e, ?_⟩
    have c1 : decide (V.str "come" = V.str "swap") = false := by decide +kernel
    have c2 : decide (V.str "go" = V.str "swap") = false := by decide +kernel
    have c3 : decide (V.str "move" = V.str "swap") = false := by decide +kernel
    have c4 : decide (V.str "some" = V.str "swap") = false := by decide +kernel
    have c6 : decide (V.str "count" = V.str "swap") = false := by decide +kernel
    have c7 : decide (V.str "look" = V.str "swap") = false := by decide +kernel
    have m1 : decide (V.str "come" = V.str "move") = false := by decide +kernel
    have m2 : decide (V.str "go" = V.str "move") = false := by decide +kernel
    have m4 : decide (V.str "some" = V.str "move") = false := by decide +kernel
    have m6 : decide (V.str "count" = V.str "move") = false := by decide +kernel
    have m7 : decide (V.str "look" = V.str "move") = false := by decide +kernel
    have s1 : decide (V.str "come" = V.str "some") = false := by decide +kernel
    have s2 : decide (V.str "go" = V.str "some") = false := by decide +kernel
    have s6 : decide (V.str "count" = V.str "some") = false := by decide +kernel
    have s7 : decide (V.str "look" = V.str "some") = false := by decide +kernel
    cases e with
    | come nme mo g pl many price =>
      refine ⟨_, rfl, rfl, false, bl_of c1, iteF ⟨_, rfl, rfl, false, bl_of m1, iteF ⟨_, rfl, rfl, false, bl_of s1, iteF ?_⟩⟩⟩
      exact ⟨_, rfl, 4, rfl, 5, rfl, a, _, rfl, SqT.of ha, no_whole (i := 4) (j := 5) (by show 4 ≤ 7; decide) (by decide), fun p np => q p _ (same_new np) (by rw [upd_same]; rfl)⟩
    | go nme mo g pl many =>
      refine ⟨_, rfl, rfl, false, bl_of c2, iteF ⟨_, rfl, rfl, false, bl_of m2, iteF ⟨_, rfl, rfl, false, bl_of s2, iteF ?_⟩⟩⟩
      exact ⟨_, rfl, 4, rfl, 5, rfl, a, _, rfl, SqT.of ha, no_whole (i := 4) (j := 5) (by show 4 ≤ 6; decide) (by decide), fun p np => q p _ (same_new np) (by rw [upd_same]; rfl)⟩
    | move nme mo g one other many =>
      refine ⟨_, rfl, rfl, false, bl_of c3, iteF ⟨_, rfl, rfl, true, bl_of (decide_eq_true rfl), iteT ?_⟩⟩
      exact ⟨_, rfl, 4, rfl, 6, rfl, a, _, rfl, SqT.of ha, no_whole (i := 4) (j := 6) (by show 4 ≤ 7; decide) (by decide), fun p np => q p _ (same_new np) (by rw [upd_same]; rfl)⟩
    | some_ nme mo g one other =>
      refine ⟨_, rfl, rfl, false, bl_of c4, iteF ⟨_, rfl, rfl, false, bl_of m4, iteF ⟨_, rfl, rfl, true, bl_of (decide_eq_true rfl), iteT ?_⟩⟩⟩
      refine ⟨_, rfl, a, _, 5, .str other, rfl, rfl, SqT.of ha, atI_nat (j := 5) rfl, rfl, !decide (V.str other = V.str ""), rfl, ?_⟩
      by_cases z : other = ""
      · rw [decide_eq_true (congrArg V.str z)]
        refine iteF ⟨_, rfl, 4, rfl, 5, rfl, a, _, rfl, SqT.of ha, no_whole (i := 4) (j := 5) (by show 4 ≤ 6; decide) (by decide), fun p np => q p _ (same_new np) ?_⟩
        rw [upd_same]
        show some (HO.tup [V.str one]) = some (HO.tup ((if other = "" then [one] else [one, other]).map V.str))
        rw [if_pos z]
        rfl
      · rw [decide_eq_false fun h => z (V.str.inj h)]
        refine iteT ⟨_, rfl, 4, rfl, 6, rfl, a, _, rfl, SqT.of ha, no_whole (i := 4) (j := 6) (by show 4 ≤ 6; decide) (by decide), fun p np => q p _ (same_new np) ?_⟩
        rw [upd_same]
        show some (HO.tup [V.str one, V.str other]) = some (HO.tup ((if other = "" then [one] else [one, other]).map V.str))
        rw [if_neg z]
        rfl
    | swap nme mo one other =>
      refine ⟨_, rfl, rfl, true, bl_of (decide_eq_true rfl), iteT ?_⟩
      exact ⟨_, rfl, 3, rfl, 5, rfl, a, _, rfl, SqT.of ha, no_whole (i := 3) (j := 5) (by show 3 ≤ 5; decide) (by decide), fun p np => q p _ (same_new np) (by rw [upd_same]; rfl)⟩
    | count nme mo g pl many hand =>
      refine ⟨_, rfl, rfl, false, bl_of c6, iteF ⟨_, rfl, rfl, false, bl_of m6, iteF ⟨_, rfl, rfl, false, bl_of s6, iteF ?_⟩⟩⟩
      exact ⟨_, rfl, 4, rfl, 5, rfl, a, _, rfl, SqT.of ha, no_whole (i := 4) (j := 5) (by show 4 ≤ 7; decide) (by decide), fun p np => q p _ (same_new np) (by rw [upd_same]; rfl)⟩
    | look nme mo g pl =>
      refine ⟨_, rfl, rfl, false, bl_of c7, iteF ⟨_, rfl, rfl, false, bl_of m7, iteF ⟨_, rfl, rfl, false, bl_of s7, iteF ?_⟩⟩⟩
      exact ⟨_, rfl, 4, rfl, 5, rfl, a, _, rfl, SqT.of ha, no_whole (i := 4) (j := 5) (by show 4 ≤ 5; decide) (by decide), fun p np => q p _ (same_new np) (by rw [upd_same]; rfl)⟩
end
/-! ### houses -/
def TK (H H' : Hp) : Prop := ∀ a xs, H a = some (.tup xs) → H' a = some (.tup xs)
theorem TK.of {H H' : Hp} (s : Same H H') : TK H H' := fun a xs e => s a _ e
theorem TK.tr {H H1 H2 : Hp} (a : TK H H1) (b : TK H1 H2) : TK H H2 := fun c xs e => b c xs (a c xs e)
theorem TK.but {H H' : Hp} {p c : Addr} {n : Nat} (pen : PenAt H p c n) (b : But p H H') : TK H H' := fun a xs e => by
  obtain ⟨kvs, ns', a', x', g1, _⟩ := pen.ex
  exact b a _ e (ne_of e g1 (by intro z; cases z))
theorem TK.upd {H : Hp} {l : Addr} {o : HO} (n : ∀ xs, H l ≠ some (.tup xs)) : TK H (upd H l o) := fun a xs e => by
  by_cases z : a = l
  · rw [z] at e
    exact absurd e (n xs)
  · exact (upd_ne z).trans e
/-- each address holds its entry -/
inductive EntsAt (H : Hp) : List Addr → List Ent → Prop
  | nil : EntsAt H [] []
  | cons {a : Addr} {e : Ent} {as : List Addr} {es : List Ent} : H a = some (.tup e.vals) → EntsAt H as es → EntsAt H (a :: as) (e :: es)
theorem EntsAt.on {H H' : Hp} (k : TK H H') {as : List Addr} {es : List Ent} (h : EntsAt H as es) : EntsAt H' as es := by
  induction h with
  | nil => exact .nil
  | cons a _ ih => exact .cons (k _ _ a) ih
theorem EntsAt.len {H : Hp} {as : List Addr} {es : List Ent} (h : EntsAt H as es) : as.length = es.length := by
  induction h with
  | nil => rfl
  | cons _ _ ih => simp [ih]
theorem EntsAt.snoc {H : Hp} {a : Addr} {e : Ent} {as : List Addr} {es : List Ent} (h : EntsAt H as es) (q : H a = some (.tup e.vals)) : EntsAt H (as ++ [a]) (es ++ [e]) := by
  induction h with
  | nil => exact .cons q .nil
  | cons a _ ih => exact .cons a ih
theorem EntsAt.get {H : Hp} {as : List Addr} {es : List Ent} (h : EntsAt H as es) : ∀ {i : Nat} {a : Addr}, as[i]? = some a → ∃ e, es[i]? = some e ∧ H a = some (.tup e.vals) := by
  induction h with
  | nil => intro i a q; cases q
  | @cons a0 e0 as es q _ ih =>
    intro i a z
    cases i with
    | zero => exact ⟨e0, rfl, by rw [← Option.some.inj z]; exact q⟩
    | succ n => exact ih (i := n) z
structure HouseAt (H : Hp) (h : Addr) (P G : List Str) (es : List Ent) : Prop where
  ex : ∃ (hp hg he : Addr) (tps : List Addr), H h = some (.tup [.ref hp, .ref hg, .ref he]) ∧ H hp = some (.tup (P.map V.str)) ∧ H hg = some (.tup (G.map V.str)) ∧ H he = some (.tup (tps.map V.ref)) ∧ EntsAt H tps es
theorem HouseAt.on {H H' : Hp} (k : TK H H') {h : Addr} {P G : List Str} {es : List Ent} (x : HouseAt H h P G es) : HouseAt H' h P G es := by
  obtain ⟨hp, hg, he, tps, h1, h2, h3, h4, h5⟩ := x.ex
  exact ⟨hp, hg, he, tps, k _ _ h1, k _ _ h2, k _ _ h3, k _ _ h4, h5.on k⟩
/-- what holds of a house that a law makes -/
structure Good (P G : List Str) (es : List Ent) (m : Nat) : Prop where
  nd : P.Nodup
  ne : P ≠ []
  le : P.length ≤ 6
  nm : ∀ y ∈ P, nameB y = true
  ge : G ≠ []
  gl : G.length ≤ 3
  gn : ∀ y ∈ G, nameB y = true
  gd : G.Nodup
  many : es.length = m
  nms : (es.map Ent.name).Nodup
  ps : sortedS P = true
  ents : ∀ e ∈ es, nameB e.name = true ∧ 0 ≤ e.moment ∧ e.moment ≤ 9999 ∧ ∃ HL : List Str, (∀ y ∈ HL, nameB y = true) ∧ e.From P G HL
theorem From.perm {e : Ent} {P P' G G' HL : List Str} (h : e.From P G HL) (p : P'.Perm P) (g : G'.Perm G) : e.From P' G' HL := by
  have nd : P'.Nodup → P.Nodup := fun z => p.nodup_iff.mp z
  cases e with
  | come n m gg pl k r => exact ⟨g.mem_iff.mpr h.1, p.mem_iff.mpr h.2.1, h.2.2⟩
  | go n m gg pl k => exact ⟨g.mem_iff.mpr h.1, p.mem_iff.mpr h.2.1, h.2.2⟩
  | move n m gg o t k => exact ⟨g.mem_iff.mpr h.1, p.mem_iff.mpr h.2.1, p.mem_iff.mpr h.2.2.1, fun z => h.2.2.2.1 (nd z), h.2.2.2.2⟩
  | some_ n m gg o t => exact ⟨g.mem_iff.mpr h.1, p.mem_iff.mpr h.2.1, h.2.2.imp id fun z => ⟨p.mem_iff.mpr z.1, fun q => z.2 (nd q)⟩⟩
  | swap n m o t => exact ⟨p.mem_iff.mpr h.1, p.mem_iff.mpr h.2.1, fun z => h.2.2 (nd z)⟩
  | count n m gg pl k hd => exact ⟨g.mem_iff.mpr h.1, p.mem_iff.mpr h.2.1, h.2.2⟩
  | look n m gg pl => exact ⟨g.mem_iff.mpr h.1, p.mem_iff.mpr h.2⟩
/-! the house as data -/
def dV : V → PyData
  | .str x => .str x
  | .int i => .int i
  | _ => .none
def entD (e : Ent) : PyData := .tuple (e.vals.map dV)
def houseD (P G : List Str) (es : List Ent) : PyData := .tuple [.tuple (P.map .str), .tuple (G.map .str), .tuple (es.map entD)]
theorem dp_strs {K : PySem.W.Frag} {H : Hp} : ∀ ys : List Str, DpAll K H (ys.map V.str) (ys.map PyData.str)
  | [] => .nil
  | y :: r => .cons (.str y) (dp_strs r)
theorem dp_ent {K : PySem.W.Frag} {H : Hp} {a : Addr} {e : Ent} (h : H a = some (.tup e.vals)) : Dp K H (.ref a) (entD e) := by
  refine .tup (SqT.of h) ?_
  cases e <;> (repeat' (first | exact .nil | refine .cons (.str _) ?_ | refine .cons (.int _) ?_))
theorem dp_ents {K : PySem.W.Frag} {H : Hp} {as : List Addr} {es : List Ent} (h : EntsAt H as es) : DpAll K H (as.map V.ref) (es.map entD) := by
  induction h with
  | nil => exact .nil
  | cons a _ ih => exact .cons (dp_ent a) ih
theorem HouseAt.dp {K : PySem.W.Frag} {H : Hp} {h : Addr} {P G : List Str} {es : List Ent} (x : HouseAt H h P G es) : Dp K H (.ref h) (houseD P G es) := by
  obtain ⟨hp, hg, he, tps, h1, h2, h3, h4, h5⟩ := x.ex
  exact .tup (SqT.of h1) (.cons (.tup (SqT.of h2) (dp_strs P)) (.cons (.tup (SqT.of h3) (dp_strs G)) (.cons (.tup (SqT.of h4) (dp_ents h5)) .nil)))
/-! its text isn't long -/
structure Short (d : PyData) (n k : Nat) : Prop where
  sh : d.showable = true
  nd : d.hasDict = false
  ls : d.leavesShort 13 = true
  bk : d.bulk ≤ n
  dp : d.depth ≤ k
theorem short_str {y : Str} (h : nameB y = true ∨ y = "" ∨ y ∈ words7) : Short (.str y) 8 0 := by
  have lo : y.cps.toList.all (fun c => decide (c < 16 ^ 8)) = true ∧ y.cps.size ≤ 8 := by
    rcases h with h | rfl | h
    · unfold nameB at h
      rw [Bool.and_eq_true, Bool.and_eq_true] at h
      have l8 : y.length ≤ 8 := of_decide_eq_true h.1.2
      refine ⟨List.all_eq_true.mpr fun c hc => decide_eq_true ?_, l8⟩
      have q : ∀ c ∈ abc.cps.toList, c < 16 ^ 8 := by decide +kernel
      exact q c (of_decide_eq_true (List.all_eq_true.mp h.2 c hc))
    · exact ⟨rfl, Nat.zero_le _⟩
    · simp only [words7, List.mem_cons, List.not_mem_nil, or_false] at h
      rcases h with rfl | rfl | rfl | rfl | rfl | rfl | rfl <;> exact ⟨by decide +kernel, by decide +kernel⟩
  exact ⟨rfl, rfl, lo.1, lo.2, Nat.zero_le _⟩
theorem short_int {i : Int} (h0 : 0 ≤ i) (h1 : i ≤ 1000000000) : Short (.int i) 8 0 := by
  have e : (PyData.shown (.int i)).length ≤ 13 := Nat.le_trans (toString_length_le h0 (k := 10) (by decide) (by omega)) (by decide)
  refine ⟨?_, rfl, decide_eq_true e, Nat.zero_le _, Nat.zero_le _⟩
  show decide (i.natAbs.log2 < 1920) = true
  refine decide_eq_true ?_
  by_cases z : i.natAbs = 0
  · rw [z]
    decide
  · exact Nat.lt_trans ((Nat.log2_lt z).mpr (show i.natAbs < 2 ^ 30 by omega)) (by decide)
theorem short_all {n k : Nat} : ∀ {ds : List PyData}, (∀ d ∈ ds, Short d n k) → PyData.showableAll ds = true ∧ PyData.hasDictAll ds = false ∧ PyData.leavesShortAll 13 ds = true ∧ PyData.bulkAll ds ≤ ds.length * (n + 1) ∧ PyData.depthAll ds ≤ k
  | [], _ => ⟨rfl, rfl, rfl, Nat.le_of_eq (by simp [PyData.bulkAll]), Nat.zero_le _⟩
  | d :: ds, h => by
    have h1 := h d List.mem_cons_self
    obtain ⟨a1, a2, a3, a4, a5⟩ := short_all fun x hx => h x (List.mem_cons_of_mem _ hx)
    refine ⟨?_, ?_, ?_, ?_, ?_⟩
    · rw [PyData.showableAll, h1.sh, a1]
      rfl
    · rw [PyData.hasDictAll, h1.nd, a2]
      rfl
    · rw [PyData.leavesShortAll, h1.ls, a3]
      rfl
    · rw [PyData.bulkAll, List.length_cons, Nat.succ_mul]
      have := h1.bk
      omega
    · rw [PyData.depthAll]
      exact Nat.max_le.mpr ⟨h1.dp, a5⟩
theorem short_tup {n k m : Nat} {ds : List PyData} (h : ∀ d ∈ ds, Short d n k) (l : ds.length * (n + 1) ≤ m) : Short (.tuple ds) m (k + 1) := by
  obtain ⟨a1, a2, a3, a4, a5⟩ := short_all h
  refine ⟨?_, ?_, ?_, ?_, ?_⟩
  · rw [PyData.showable]; exact a1
  · rw [PyData.hasDict]; exact a2
  · rw [PyData.leavesShort]; exact a3
  · rw [PyData.bulk]; omega
  · rw [PyData.depth]; omega
theorem Short.mono {d : PyData} {n k n' k' : Nat} (h : Short d n k) (hn : n ≤ n') (hk : k ≤ k') : Short d n' k' := ⟨h.sh, h.nd, h.ls, Nat.le_trans h.bk hn, Nat.le_trans h.dp hk⟩
theorem Short.fits {d : PyData} {n k : Nat} (h : Short d n k) (hn : n ≤ 100000) : d.shown.length ≤ sizeLine := by
  have q := PyData.shown_le_bulk 13 (by decide) d h.ls
  have := h.bk
  rw [sizeLine_eq]
  omega
theorem short_names {ys : List Str} (h : ∀ y ∈ ys, nameB y = true) (l : ys.length ≤ 31) : Short (.tuple (ys.map .str)) 300 1 := by
  refine short_tup (n := 8) (k := 0) (fun d hd => ?_) (by rw [List.length_map]; omega)
  obtain ⟨y, hy, rfl⟩ := List.mem_map.mp hd
  exact short_str (.inl (h y hy))
theorem short_ent {e : Ent} {P G HL : List Str} (nn : nameB e.name = true) (m0 : 0 ≤ e.moment) (m1 : e.moment ≤ 9999) (hP : ∀ y ∈ P, nameB y = true) (hG : ∀ y ∈ G, nameB y = true) (hH : ∀ y ∈ HL, nameB y = true) (h : e.From P G HL) : Short (entD e) 70 1 := by
  have w : ∀ {x : Str}, x ∈ words7 → Short (.str x) 8 0 := fun hx => short_str (.inr (.inr hx))
  have n : ∀ {x : Str}, nameB x = true → Short (.str x) 8 0 := fun hx => short_str (.inl hx)
  have mo : Short (.int e.moment) 8 0 := short_int m0 (by omega)
  refine short_tup (n := 8) (k := 0) (fun d hd => ?_) (by rw [List.length_map]; cases e <;> simp [Ent.vals, Ent.rest])
  obtain ⟨v, hv, rfl⟩ := List.mem_map.mp hd
  cases e with
  | come nm m g pl k r =>
    obtain ⟨h1, h2, h3, h4, h5, h6⟩ := h
    simp only [Ent.vals, Ent.rest, List.mem_cons, List.not_mem_nil, or_false] at hv
    rcases hv with rfl | rfl | rfl | rfl | rfl | rfl | rfl
    · exact w (Ent.word_in _)
    · exact n nn
    · exact mo
    · exact n (hG _ h1)
    · exact n (hP _ h2)
    · exact short_int (by omega) h4
    · exact short_int h5 h6
  | go nm m g pl k =>
    obtain ⟨h1, h2, h3, h4⟩ := h
    simp only [Ent.vals, Ent.rest, List.mem_cons, List.not_mem_nil, or_false] at hv
    rcases hv with rfl | rfl | rfl | rfl | rfl | rfl
    · exact w (Ent.word_in _)
    · exact n nn
    · exact mo
    · exact n (hG _ h1)
    · exact n (hP _ h2)
    · exact short_int (by omega) h4
  | move nm m g o t k =>
    obtain ⟨h1, h2, h3, h4, h5, h6⟩ := h
    simp only [Ent.vals, Ent.rest, List.mem_cons, List.not_mem_nil, or_false] at hv
    rcases hv with rfl | rfl | rfl | rfl | rfl | rfl | rfl
    · exact w (Ent.word_in _)
    · exact n nn
    · exact mo
    · exact n (hG _ h1)
    · exact n (hP _ h2)
    · exact n (hP _ h3)
    · exact short_int (by omega) h6
  | some_ nm m g o t =>
    obtain ⟨h1, h2, h3⟩ := h
    simp only [Ent.vals, Ent.rest, List.mem_cons, List.not_mem_nil, or_false] at hv
    rcases hv with rfl | rfl | rfl | rfl | rfl | rfl
    · exact w (Ent.word_in _)
    · exact n nn
    · exact mo
    · exact n (hG _ h1)
    · exact n (hP _ h2)
    · rcases h3 with rfl | h3
      · exact short_str (.inr (.inl rfl))
      · exact n (hP _ h3.1)
  | swap nm m o t =>
    obtain ⟨h1, h2, h3⟩ := h
    simp only [Ent.vals, Ent.rest, List.mem_cons, List.not_mem_nil, or_false] at hv
    rcases hv with rfl | rfl | rfl | rfl | rfl
    · exact w (Ent.word_in _)
    · exact n nn
    · exact mo
    · exact n (hP _ h1)
    · exact n (hP _ h2)
  | count nm m g pl k hd =>
    obtain ⟨h1, h2, h3, h4, h5⟩ := h
    simp only [Ent.vals, Ent.rest, List.mem_cons, List.not_mem_nil, or_false] at hv
    rcases hv with rfl | rfl | rfl | rfl | rfl | rfl | rfl
    · exact w (Ent.word_in _)
    · exact n nn
    · exact mo
    · exact n (hG _ h1)
    · exact n (hP _ h2)
    · exact short_int h3 h4
    · exact n (hH _ h5)
  | look nm m g pl =>
    obtain ⟨h1, h2⟩ := h
    simp only [Ent.vals, Ent.rest, List.mem_cons, List.not_mem_nil, or_false] at hv
    rcases hv with rfl | rfl | rfl | rfl | rfl
    · exact w (Ent.word_in _)
    · exact n nn
    · exact mo
    · exact n (hG _ h1)
    · exact n (hP _ h2)
theorem Good.short {P G : List Str} {es : List Ent} {m : Nat} (g : Good P G es m) (hm : m ≤ 31) : Short (houseD P G es) 10000 3 := by
  refine short_tup (n := 3000) (k := 2) (fun d hd => ?_) (by show 3 * 3001 ≤ 10000; decide)
  simp only [List.mem_cons, List.not_mem_nil, or_false] at hd
  rcases hd with rfl | rfl | rfl
  · exact (short_names g.nm (Nat.le_trans g.le (by decide))).mono (by decide) (by decide)
  · exact (short_names g.gn (Nat.le_trans g.gl (by decide))).mono (by decide) (by decide)
  · refine short_tup (n := 70) (k := 1) (fun d hd => ?_) (by rw [List.length_map, g.many]; omega)
    obtain ⟨e, he, rfl⟩ := List.mem_map.mp hd
    obtain ⟨e1, e2, e3, HL, e4, e5⟩ := g.ents e he
    exact short_ent e1 e2 e3 g.nm g.gn e4 e5
/-! ### tracks -/
def swp (o t x : Str) : Str := if x = o then t else if x = t then o else x
theorem swp_swp (o t x : Str) : swp o t (swp o t x) = x := by
  unfold swp
  by_cases h1 : x = o
  · rw [if_pos h1]
    by_cases h2 : t = o
    · rw [if_pos h2, h2, h1]
    · rw [if_neg h2, if_pos rfl, h1]
  · rw [if_neg h1]
    by_cases h2 : x = t
    · rw [if_pos h2, if_pos rfl, h2]
    · rw [if_neg h2, if_neg h1, if_neg h2]
def swE : Ent → Str → Str
  | .swap _ _ o t => swp o t
  | _ => id
theorem swE_swE (e : Ent) (x : Str) : swE e (swE e x) = x := by
  cases e with
  | swap n m o t => exact swp_swp o t x
  | _ => rfl
def tau (es : List Ent) : Str → Str := es.foldl (fun τ e x => τ (swE e x)) id
def dlt (es : List Ent) : Str → Str := es.foldl (fun δ e x => swE e (δ x)) id
theorem tau_snoc (es : List Ent) (e : Ent) : tau (es ++ [e]) = fun x => tau es (swE e x) := by
  unfold tau
  rw [List.foldl_append]
  rfl
theorem dlt_snoc (es : List Ent) (e : Ent) : dlt (es ++ [e]) = fun x => swE e (dlt es x) := by
  unfold dlt
  rw [List.foldl_append]
  rfl
theorem take_snoc {α : Type} {l : List α} {i : Nat} {x : α} (h : l[i]? = some x) : l.take (i + 1) = l.take i ++ [x] := by
  rw [List.take_add_one, h]
  rfl
theorem td_n (es : List Ent) : ∀ n, n ≤ es.length → ∀ x, tau (es.take n) (dlt (es.take n) x) = x ∧ dlt (es.take n) (tau (es.take n) x) = x
  | 0, _, x => ⟨rfl, rfl⟩
  | n + 1, h, x => by
    have e : es[n]? = some es[n] := List.getElem?_eq_getElem (by omega)
    rw [take_snoc e, tau_snoc, dlt_snoc]
    have ih := td_n es n (by omega)
    refine ⟨?_, ?_⟩
    · show tau (es.take n) (swE _ (swE _ (dlt (es.take n) x))) = x
      rw [swE_swE]
      exact (ih x).1
    · show swE _ (dlt (es.take n) (tau (es.take n) (swE _ x))) = x
      rw [(ih _).2, swE_swE]
theorem swE_in {P : List Str} {e : Ent} {G HL : List Str} (h : e.From P G HL) {x : Str} (hx : x ∈ P) : swE e x ∈ P := by
  cases e with
  | swap n m o t =>
    show swp o t x ∈ P
    unfold swp
    split
    · exact h.2.1
    · split
      · exact h.1
      · exact hx
  | _ => exact hx
theorem in_n {P : List Str} {es : List Ent} (h : ∀ e ∈ es, ∀ x ∈ P, swE e x ∈ P) : ∀ n, n ≤ es.length → ∀ x ∈ P, tau (es.take n) x ∈ P ∧ dlt (es.take n) x ∈ P
  | 0, _, x, hx => ⟨hx, hx⟩
  | n + 1, hn, x, hx => by
    have e : es[n]? = some es[n] := List.getElem?_eq_getElem (by omega)
    have ih := in_n h n (by omega)
    rw [take_snoc e, tau_snoc, dlt_snoc]
    have me : es[n] ∈ es := List.getElem_mem _
    exact ⟨(ih _ (h _ me x hx)).1, h _ me _ (ih x hx).2⟩
/-! dicts from places to texts -/
def kvT (P : List Str) (τ : Str → Str) : List (Key × V) := P.map fun p => ((Sum.inr p : Key), V.str (τ p))
theorem valV_kvT {P : List Str} {τ : Str → Str} {x : Str} (h : x ∈ P) : valV (kvT P τ) (Sum.inr x) = some (.str (τ x)) := by
  induction P with
  | nil => cases h
  | cons p r ih =>
    unfold valV kvT
    rw [List.map_cons, List.find?_cons]
    by_cases e : p = x
    · rw [decide_eq_true (congrArg Sum.inr e), e]
      rfl
    · rw [decide_eq_false fun z => e (Sum.inr.inj z)]
      rcases List.mem_cons.mp h with z | z
      · exact absurd z.symm e
      · exact ih z
theorem any_kvT {P : List Str} {τ : Str → Str} {x : Str} : ((kvT P τ).any fun kv => decide (kv.1 = (Sum.inr x : Key))) = decide (x ∈ P) := by
  unfold kvT
  rw [List.any_map]
  by_cases h : x ∈ P
  · rw [decide_eq_true h]
    exact List.any_eq_true.mpr ⟨x, h, decide_eq_true rfl⟩
  · rw [decide_eq_false h]
    rw [List.any_eq_false]
    intro p hp z
    exact h (Sum.inr.inj (of_decide_eq_true z) ▸ hp)
theorem put_in {P : List Str} {τ : Str → Str} {x y : Str} (h : x ∈ P) : putK (kvT P τ) (Sum.inr x) (.str y) = kvT P fun z => if z = x then y else τ z := by
  unfold putK
  rw [any_kvT, decide_eq_true h, if_pos rfl]
  unfold kvT
  rw [List.map_map]
  refine List.map_congr_left fun p _ => ?_
  show (if (Sum.inr p : Key) = Sum.inr x then ((Sum.inr p : Key), V.str y) else (Sum.inr p, V.str (τ p))) = (Sum.inr p, V.str (if p = x then y else τ p))
  by_cases e : p = x
  · rw [if_pos (congrArg Sum.inr e), if_pos e]
  · rw [if_neg fun z => e (Sum.inr.inj z), if_neg e]
theorem put_new {P : List Str} {τ : Str → Str} {x : Str} (h : x ∉ P) : putK (kvT P τ) (Sum.inr x) (.str (τ x)) = kvT (P ++ [x]) τ := by
  unfold putK
  rw [any_kvT, decide_eq_false h, if_neg (by decide)]
  unfold kvT
  rw [List.map_append]
  rfl
theorem merge_kvT {τ : Str → Str} : ∀ {R P : List Str}, (P ++ R).Nodup → mergeK (kvT P τ) (kvT R τ) = kvT (P ++ R) τ
  | [], P, _ => by
    rw [List.append_nil]
    rfl
  | x :: R, P, h => by
    show mergeK (putK (kvT P τ) (Sum.inr x) (.str (τ x))) (kvT R τ) = _
    have nx : x ∉ P := fun z => (List.nodup_append.mp h).2.2 x z x List.mem_cons_self rfl
    rw [put_new nx, merge_kvT (by rw [List.append_assoc]; exact h), List.append_assoc]
    rfl
theorem merge0 {P : List Str} {τ : Str → Str} (h : P.Nodup) : mergeK [] (kvT P τ) = kvT P τ := merge_kvT (P := []) h
theorem merge2 {P : List Str} {τ : Str → Str} {o t : Str} (ho : o ∈ P) (ht : t ∈ P) (ne : o ≠ t) (h : P.Nodup) :
    mergeK (mergeK [] (kvT P τ)) (mergeK [] [((Sum.inr o : Key), V.str (τ t)), (Sum.inr t, .str (τ o))]) = kvT P fun x => τ (swp o t x) := by
  have e : mergeK [] [((Sum.inr o : Key), V.str (τ t)), (Sum.inr t, .str (τ o))] = [((Sum.inr o : Key), V.str (τ t)), (Sum.inr t, .str (τ o))] := by
    show putK [((Sum.inr o : Key), V.str (τ t))] (Sum.inr t) (.str (τ o)) = _
    unfold putK
    rw [List.any_cons, List.any_nil, decide_eq_false fun z => ne (Sum.inr.inj z)]
    rfl
  rw [e, merge0 h]
  show putK (putK (kvT P τ) (Sum.inr o) (.str (τ t))) (Sum.inr t) (.str (τ o)) = _
  rw [put_in ho, put_in ht]
  unfold kvT
  refine List.map_congr_left fun p _ => ?_
  show (_, V.str (if p = t then τ o else if p = o then τ t else τ p)) = (_, V.str (τ (swp o t p)))
  unfold swp
  by_cases h1 : p = o
  · rw [if_neg (fun z => ne (h1.symm.trans z)), if_pos h1, if_pos h1]
  · by_cases h2 : p = t
    · rw [if_pos h2, if_neg h1, if_pos h2]
    · rw [if_neg h2, if_neg h1, if_neg h1, if_neg h2]
theorem len_kvT (P : List Str) (τ : Str → Str) : (kvT P τ).length = P.length := List.length_map ..
theorem dc_keys {d : Addr} {od : Obj} {kvs : List (Key × V)} {g : TG} {tt : TT} {tk tv : TE} {vs : List Nat} {σ : L2.St} {H1 : Hp} {D : Addr} {Qd : Hp → Prop} (Pv : Nat → Hp → Prop) (h0 : Pv 0 (upd H1 D (.dK []))) (hl : ∀ i H, Pv i H → H d = some (.frz od (.dK kvs)))
    (hs : ∀ i k v H, kvs[i]? = some (k, v) → Pv i H → g (kV k) (wipe σ vs) H fun σ2 H2 => wipe σ2 vs = wipe σ vs ∧ tt σ2 H2 fun b H3 =>
      if b = true then tk σ2 H3 fun y H4 => tv σ2 H4 fun z H5 => ∃ kvs k, y = kV k ∧ H5 D = some (.dK kvs) ∧ kvs.length < sizeLine ∧ Pv (i + 1) (upd H5 D (.dK (putK kvs k z))) else Pv (i + 1) H3) (hd : ∀ H, Pv kvs.length H → Qd H) :
    ∃ W : Nat → Nat → Hp → Prop, (∃ m, W 0 m (upd H1 D (.dK []))) ∧ ∀ i m H, W i m H →
      ((Itk d od kvs).stop i H ∧ Qd H) ∨ ((Itk d od kvs).go i H ∧ ∃ Nx : Hp → Prop, (∀ H', Nx H' → ∃ m', m' < m ∧ W (i + 1) m' H') ∧ ∀ x H', (Itk d od kvs).yld i H x H' → g x (wipe σ vs) H' fun σ2 H2 => wipe σ2 vs = wipe σ vs ∧ tt σ2 H2 fun b H3 =>
        if b = true then tk σ2 H3 fun y H4 => tv σ2 H4 fun z H5 => ∃ kvs k, y = kV k ∧ H5 D = some (.dK kvs) ∧ kvs.length < sizeLine ∧ Nx (upd H5 D (.dK (putK kvs k z))) else Nx H3) := by
  refine ⟨fun i m H => m = kvs.length - i ∧ i ≤ kvs.length ∧ Pv i H, ⟨kvs.length, rfl, Nat.zero_le _, h0⟩, ?_⟩
  rintro i m H ⟨rfl, hi, p⟩
  have q := hl i H p
  by_cases lt : i < kvs.length
  · refine .inr ⟨⟨q, lt⟩, Pv (i + 1), fun H' p' => ⟨kvs.length - (i + 1), by omega, rfl, lt, p'⟩, ?_⟩
    rintro x H' ⟨rfl, k, v, e, rfl⟩
    exact hs i k v _ e p
  · obtain rfl : i = kvs.length := by omega
    exact .inl ⟨⟨q, Nat.le_refl _⟩, hd H p⟩
/-- which swaps are of the house -/
abbrev SwOk (P : List Str) (e : Ent) : Prop := ∀ n m o t, e = .swap n m o t → o ∈ P ∧ t ∈ P ∧ o ≠ t
theorem Good.sw {P G : List Str} {es : List Ent} {m : Nat} (g : Good P G es m) {e : Ent} (he : e ∈ es) : SwOk P e := fun n mo o t z => by
  subst z
  obtain ⟨_, _, _, HL, _, f⟩ := g.ents _ he
  exact ⟨f.1, f.2.1, f.2.2 g.nd⟩
theorem Good.inn {P G : List Str} {es : List Ent} {m : Nat} (g : Good P G es m) : ∀ e ∈ es, ∀ x ∈ P, swE e x ∈ P := fun e he x hx => by
  obtain ⟨_, _, _, HL, _, f⟩ := g.ents e he
  exact swE_in f hx
theorem sw_ent {e : Ent} (h : e.word = "swap") : ∃ n m o t, e = .swap n m o t := by
  cases e with
  | come n m g p k r => exact absurd h (show ("come" : Str) ≠ "swap" by decide +kernel)
  | go n m g p k => exact absurd h (show ("go" : Str) ≠ "swap" by decide +kernel)
  | move n m g o t k => exact absurd h (show ("move" : Str) ≠ "swap" by decide +kernel)
  | some_ n m g o t => exact absurd h (show ("some" : Str) ≠ "swap" by decide +kernel)
  | swap n m o t => exact ⟨n, m, o, t, rfl⟩
  | count n m g p k hd => exact absurd h (show ("count" : Str) ≠ "swap" by decide +kernel)
  | look n m g p => exact absurd h (show ("look" : Str) ≠ "swap" by decide +kernel)
def spFirst : Sp := fun vs H Q _ => ∃ (h : Addr) (P G : List Str) (es : List Ent) (m : Nat), vs = [.ref h] ∧ HouseAt H h P G es ∧ Good P G es m ∧ ∀ (d : Addr) (H' : Hp), Same H H' → H' d = some (.dK (kvT P id)) → Q (.ref d) H'
def spExch : Sp := fun vs H Q _ => ∃ (d a : Addr) (P : List Str) (τ : Str → Str) (e : Ent), vs = [.ref d, .ref a] ∧ H d = some (.dK (kvT P τ)) ∧ H a = some (.tup e.vals) ∧ SwOk P e ∧ P.Nodup ∧ P.length ≤ 6 ∧
  ∀ (d' : Addr) (H' : Hp), Same H H' → H' d' = some (.dK (kvT P fun x => τ (swE e x))) → Q (.ref d') H'
def spBehind : Sp := fun vs H Q _ => ∃ (h : Addr) (P G : List Str) (es : List Ent) (m k : Nat), vs = [.ref h, .int k] ∧ HouseAt H h P G es ∧ Good P G es m ∧ k ≤ m ∧ m ≤ 30 ∧ ∀ (d : Addr) (H' : Hp), Same H H' → H' d = some (.dK (kvT P (tau (es.take k)))) → Q (.ref d) H'
def spTrackAt : Sp := fun vs H Q _ => ∃ (h : Addr) (P G : List Str) (es : List Ent) (m k : Nat) (x : Str), vs = [.ref h, .str x, .int k] ∧ HouseAt H h P G es ∧ Good P G es m ∧ k ≤ m ∧ m ≤ 30 ∧ x ∈ P ∧ ∀ H', Same H H' → Q (.str (tau (es.take k) x)) H'
def spPlaceOf : Sp := fun vs H Q _ => ∃ (h : Addr) (P G : List Str) (es : List Ent) (m k : Nat) (x : Str), vs = [.ref h, .str x, .int k] ∧ HouseAt H h P G es ∧ Good P G es m ∧ k ≤ m ∧ m ≤ 30 ∧ x ∈ P ∧ ∀ H', Same H H' → Q (.str (dlt (es.take k) x)) H'
section
variable {P : Program} {w : World} {K : PySem.W.Frag} {mg : Str → Option Value} {base : Heap}
theorem scFirst : FnScope ["house", "place"] ["house"] (defScope sFirst) := ⟨rfl, rfl, rfl, by decide +kernel, rfl, by decide +kernel, by decide +kernel⟩
theorem scExch : FnScope ["there", "entry", "one", "other"] ["there", "entry"] (defScope sExch) := ⟨rfl, rfl, rfl, by decide +kernel, rfl, by decide +kernel, by decide +kernel⟩
theorem ok_first {f : Addr} {fd : FuncData} (F : Fun K "tracks_at_first" "tracks_at_first" sFirst f fd) : FnOk P w K mg base CX0 1 f fd ["house"] spFirst := by
  refine F.ok scFirst (fun vs H Q E h => ?_) (fun cdv A outer s H vs Q E hr h => ?_)
  · obtain ⟨h, PL, G, es, m, rfl, _⟩ := h
    rfl
  · obtain ⟨h, PL, G, es, m, rfl, ho, gd, q⟩ := h
    obtain ⟨hp, hg, he, tps, h1, h2, h3, h4, h5⟩ := ho.ex
    have nd := scFirst.nd
    refine ⟨_, pss_one (ps_ret (pe_dc (own := [("place", 1)]) (g := gName 1) (tt := tYes) (tk := tVar 1) (tv := tVar 1) rfl nd (pi_tup (pe_ix ix_tup (pv 0) pe_int (fun _ _ => rfl)))
      (blkOk_by (N := ["house", "place"]) (sc := defScope sFirst) (by decide +kernel)) (fun _ _ _ _ _ => pg_name (i := 1) nd rfl (Or.inl rfl)) (fun _ _ _ _ _ => pts_nil) (fun _ _ _ _ _ => pv 1) (fun _ _ _ _ _ => pv 1))), ?_⟩
    refine ⟨_, rfl, h, _, 0, _, rfl, rfl, SqT.of h1, atI_nat (j := 0) rfl, hp, rfl, ⟨_, SqT.of h2⟩, fun D nD => ?_⟩
    refine dc_tup (K := K) (a := hp) (xs := PL.map V.str) (fun i H' => Same H H' ∧ H' D = some (.dK (kvT (PL.take i) id))) ⟨same_new nD, upd_same⟩ (fun i H' _ z => SqT.of (z.1 _ _ h2)) ?_ ?_
    · rintro i x H' hx ⟨sm, hD⟩
      rw [List.getElem?_map] at hx
      obtain ⟨y, hy, rfl⟩ := Option.map_eq_some_iff.mp hx
      have lt : i < PL.length := (List.getElem?_eq_some_iff.mp hy).1
      refine ⟨rfl, yesT ⟨_, rfl, _, rfl, _, Sum.inr y, rfl, hD, ?_, fun b o e => (upd_ne (ne_of_none e nD)).trans (sm b o e), ?_⟩⟩
      · rw [len_kvT, List.length_take]
        exact small1000 (by have := gd.le; omega)
      · rw [upd_same, take_snoc hy]
        have nx : y ∉ PL.take i := fun z => by
          have q := gd.nd
          rw [← List.take_append_drop i PL, List.nodup_append] at q
          refine q.2.2 y z y ?_ rfl
          rw [List.drop_eq_getElem_cons lt]
          rw [List.getElem?_eq_getElem lt] at hy
          rw [Option.some.inj hy]
          exact List.mem_cons_self
        exact congrArg (fun z => some (HO.dK z)) (put_new (τ := id) nx)
    · rintro H' ⟨sm, hD⟩
      refine q D H' sm ?_
      rw [hD, List.length_map, List.take_length]
theorem ok_exch {f fP : Addr} {fd dP : FuncData} (F : Fun K "exchanged" "exchanged" sExch f fd) (PO : DefT P w K mg base "places_of" 1 fP dP ["entry"] spPlaces) : FnOk P w K mg base CX0 2 f fd ["there", "entry"] spExch := by
  refine F.ok scExch (fun vs H Q E h => ?_) (fun cdv A outer s H vs Q E hr h => ?_)
  · obtain ⟨d, a, PL, τ, e, rfl, _⟩ := h
    rfl
  · obtain ⟨d, a, PL, τ, e, rfl, hd, ha, sw, ndp, le6, q⟩ := h
    have nd := scExch.nd
    refine ⟨_, pss_cons (ps_if (pt_cmpR op_ne (pe_ix ix_tup (pv 1) pe_int (fun _ _ => rfl)) pe_str (nomark _)) (pss_one (ps_ret (pv 0))) pss_nil)
      (pss_cons (ps_asg (pe_call PO.ok hr (by rfl) PO.g PO.kp PO.b .nil pass0 (pa_cons (pv 1) pa_nil)) (pg_tup (by rfl) (pgs_cons (pg_name (i := 2) nd rfl (Or.inl rfl)) (pgs_cons (pg_name (i := 3) nd rfl (Or.inl rfl)) pgs_nil))))
      (pss_one (ps_ret (pe_dispM (pv 0) (pps_cons (pv 2) (pe_dget (hu_of hr) (pv 0) (pv 3) (fun _ _ => rfl)) (pps_cons (pv 3) (pe_dget (hu_of hr) (pv 0) (pv 2) (fun _ _ => rfl)) pps_nil)))))), ?_⟩
    refine ⟨_, rfl, a, _, 0, _, rfl, rfl, SqT.of ha, at0 e, rfl, _, rfl, ?_⟩
    by_cases isw : e.word = "swap"
    · rw [decide_eq_true (congrArg V.str isw)]
      refine iteF ?_
      obtain ⟨nm, mo, o, t, rfl⟩ := sw_ent isw
      · obtain ⟨ho, ht, ne⟩ := sw nm mo o t rfl
        refine ⟨_, rfl, a, _, rfl, ha, fun tp H1 s1 h1 => ?_⟩
        refine ⟨tp, _, rfl, SqT.of h1, rfl, _, _, rfl, _, _, rfl, rfl, ?_⟩
        have hd1 := s1 _ _ hd
        intro p np
        have ndp' : d ≠ p := ne_of_none hd1 np
        refine ⟨_, rfl, d, _, rfl, ndp', .inl ((upd_ne ndp').trans hd1), upd_same, fun z nz => ?_⟩
        have ndz : d ≠ z := fun e => by
          rw [← e, upd_ne ndp', upd_ne ndp', hd1] at nz
          cases nz
        have nzp : z ≠ p := fun e => by
          rw [e, upd_same] at nz
          cases nz
        have hd2 : upd (upd (upd H1 p (.dK [])) p (.dK (mergeK [] (kvT PL τ)))) z (.dK []) d = some (.dK (kvT PL τ)) := (upd_ne ndz).trans ((upd_ne ndp').trans ((upd_ne ndp').trans hd1))
        refine ⟨_, rfl, _, rfl, _, rfl, d, _, rfl, DGet.k (k := Sum.inr t) hd2 |> fun g => (valV_kvT (τ := τ) ht) ▸ g, ?_⟩
        refine ⟨_, rfl, _, rfl, _, rfl, d, _, rfl, DGet.k (k := Sum.inr o) hd2 |> fun g => (valV_kvT (τ := τ) ho) ▸ g, ?_⟩
        refine ⟨upd_same, (upd_ne nzp.symm).trans upd_same, nzp, (by rw [len_kvT]; omega), [(Sum.inr o, .str (τ t)), (Sum.inr t, .str (τ o))], rfl, (by show 2 ≤ 15; decide), ?_⟩
        refine q p _ (s1.trans fun b ob eb => ?_) ?_
        · have nb : b ≠ p := ne_of_none eb np
          have nbz : b ≠ z := fun e => by
            rw [← e, upd_ne nb, upd_ne nb, eb] at nz
            cases nz
          rw [upd_ne nb, upd_ne nbz, upd_ne nbz, upd_ne nb, upd_ne nb]
          exact eb
        · rw [upd_same, merge2 ho ht ne ndp]
          rfl
    · rw [decide_eq_false fun z => isw (V.str.inj z)]
      refine iteT ⟨_, rfl, q d H (fun _ _ z => z) ?_⟩
      rw [hd]
      cases e with
      | swap nm mo o t => exact absurd rfl isw
      | _ => rfl
end
/-- t[:k]: some tuple of the first so many -/
def rSlTo : V → Option Int → Option Int → Hp → VK → Prop := fun x lo hi H Q => ∃ (a : Addr) (xs : List V) (k : Nat), x = .ref a ∧ H a = some (.tup xs) ∧ lo = none ∧ hi = some (k : Int) ∧ ∀ (b : Addr) (H' : Hp), Same H H' → H' b = some (.tup (xs.take k)) → Q (.ref b) H'
theorem sl_to {X : Cx} : SlR X rSlTo := by
  rintro pins s σ H x v vl vu lo hi sl Q I rx hs pl pu ⟨a, xs, k, rfl, ha, rfl, rfl, q⟩
  refine sl_tupA pins s σ H _ v vl vu _ _ sl Q I rx hs pl pu ⟨a, xs, rfl, SqT.of ha, fun z => q a H (fun _ _ e => e) ?_, fun _ p np => q p _ (same_new np) ?_⟩
  · have := z.2
    rw [HT.sIx_nat] at this
    rw [ha, List.take_of_length_le (by omega)]
  · rw [upd_same, cut_take]
/-! ### entries along their tracks -/
def Ent.mp (τ : Str → Str) : Ent → Ent
  | .come n m g p k r => .come n m g (τ p) k r
  | .go n m g p k => .go n m g (τ p) k
  | .move n m g o t k => .move n m g (τ o) (τ t) k
  | .some_ n m g o t => .some_ n m g (τ o) (if t = "" then "" else τ t)
  | .swap n m o t => .swap n m (τ o) (τ t)
  | .count n m g p k h => .count n m g (τ p) k h
  | .look n m g p => .look n m g (τ p)
/-- the i-th entry along the tracks -/
def alg (es : List Ent) (i : Nat) : Ent := (es.getD i (.look "" 0 "" "")).mp (tau (es.take i))
def along (es : List Ent) : List Ent := (List.range es.length).map (alg es)
theorem along_len (es : List Ent) : (along es).length = es.length := by simp [along]
theorem along_at {es : List Ent} {i : Nat} {e : Ent} (h : es[i]? = some e) : (along es)[i]? = some (e.mp (tau (es.take i))) := by
  have lt : i < es.length := (List.getElem?_eq_some_iff.mp h).1
  unfold along
  rw [List.getElem?_map, List.getElem?_range lt]
  show some (alg es i) = _
  unfold alg
  rw [List.getD_eq_getElem?_getD, h]
  rfl
def spWithPl : Sp := fun vs H Q _ => ∃ (a b : Addr) (e : Ent) (τ : Str → Str), vs = [.ref a, .ref b] ∧ H a = some (.tup e.vals) ∧ H b = some (.tup ((e.places.map τ).map V.str)) ∧
  (∀ y ∈ e.places, τ y ≠ "") ∧ ∀ (t : Addr) (H' : Hp), Same H H' → H' t = some (.tup (e.mp τ).vals) → Q (.ref t) H'
theorem cut_head {xs : List V} {k : Nat} : cutV xs none (some (k : Int)) = xs.take k := by
  unfold cutV
  rw [HT.sIx_nat]
  show (xs.drop 0).take (min k xs.length - 0) = _
  rw [List.drop_zero, Nat.sub_zero, ← List.take_eq_take_min]
theorem cut_tail {xs : List V} {k : Nat} : cutV xs (some (k : Int)) none = xs.drop k := by
  unfold cutV
  rw [HT.sIx_nat, HT.sIx_none]
  by_cases h : k ≤ xs.length
  · rw [Nat.min_eq_left h, List.take_of_length_le (by rw [List.length_drop]; exact Nat.le_refl _)]
  · rw [Nat.min_eq_right (by omega), List.drop_of_length_le (by omega), List.drop_of_length_le (by omega), List.take_nil]
/-- a part of a tuple, made or the same -/
def rSlS : V → Option Int → Option Int → Hp → VK → Prop := fun x lo hi H Q => ∃ (a : Addr) (xs : List V), x = .ref a ∧ H a = some (.tup xs) ∧ ∀ (b : Addr) (H' : Hp), Same H H' → H' b = some (.tup (cutV xs lo hi)) → Q (.ref b) H'
theorem sl_S {X : Cx} : SlR X rSlS := by
  rintro pins s σ H x v vl vu lo hi sl Q I rx hs pl pu ⟨a, xs, rfl, ha, q⟩
  refine sl_tupA pins s σ H _ v vl vu _ _ sl Q I rx hs pl pu ⟨a, xs, rfl, SqT.of ha, fun z => q a H (fun _ _ e => e) ?_, fun _ p np => q p _ (same_new np) upd_same⟩
  rw [ha]
  unfold cutV
  rw [z.1, z.2, List.drop_zero, Nat.sub_zero, List.take_length]
/-- tuples one behind the other -/
theorem op_catS {X : Cx} : OpR X (binaryOp .Add) (fun x y H Q => ∃ (a b : Addr) (xs ys : List V), x = .ref a ∧ y = .ref b ∧ H a = some (.tup xs) ∧ H b = some (.tup ys) ∧ xs ≠ [] ∧ xs.length + ys.length ≤ sizeLine ∧
    ∀ (t : Addr) (H' : Hp), Same H H' → H' t = some (.tup (xs ++ ys)) → Q (.ref t) H') := by
  rintro pins s σ H x y v u Q I rx ry ⟨a, b, xs, ys, rfl, rfl, ha, hb, ne, hz, q⟩
  refine op_catT pins s σ H _ _ v u Q I rx ry ⟨a, b, xs, ys, rfl, rfl, SqT.of ha, SqT.of hb, ne, hz, fun z => q a H (fun _ _ e => e) ?_, fun _ p np => q p _ (same_new np) upd_same⟩
  rw [ha, z, List.append_nil]
theorem vals_len_e (e : Ent) : 5 ≤ e.vals.length ∧ e.vals.length ≤ 7 := by cases e <;> simp [Ent.vals, Ent.rest]
theorem places_le (e : Ent) : e.places.length ≤ 2 ∧ 1 ≤ e.places.length := by
  cases e with
  | some_ n m g o t =>
    by_cases z : t = ""
    · rw [show Ent.places (.some_ n m g o t) = [o] from if_pos z]
      exact ⟨by simp, by simp⟩
    · rw [show Ent.places (.some_ n m g o t) = [o, t] from if_neg z]
      exact ⟨by simp, by simp⟩
  | _ => exact ⟨by simp [Ent.places], by simp [Ent.places]⟩
theorem mp_vals3 {τ : Str → Str} {n : Str} {m : Int} {o t : Str} : (Ent.swap n m o t).vals.take 3 ++ ((Ent.swap n m o t).places.map τ).map V.str ++ (Ent.swap n m o t).vals.drop (3 + (((Ent.swap n m o t).places.map τ).map V.str).length) = ((Ent.swap n m o t).mp τ).vals := rfl
theorem mp_vals4 {τ : Str → Str} {e : Ent} (h : e.word ≠ "swap") : e.vals.take 4 ++ (e.places.map τ).map V.str ++ e.vals.drop (4 + ((e.places.map τ).map V.str).length) = (e.mp τ).vals := by
  cases e with
  | swap n m o t => exact absurd rfl h
  | some_ n m g o t =>
    by_cases z : t = ""
    · subst z
      simp [Ent.places, Ent.mp, Ent.vals, Ent.rest]
      exact ⟨rfl, rfl, rfl⟩
    · rw [show Ent.places (.some_ n m g o t) = [o, t] from if_neg z, show Ent.mp τ (.some_ n m g o t) = .some_ n m g (τ o) (τ t) from congrArg (Ent.some_ n m g (τ o)) (if_neg z)]
      rfl
  | _ => rfl
section
variable {P : Program} {w : World} {K : PySem.W.Frag} {mg : Str → Option Value} {base : Heap}
theorem scWithPl : FnScope ["entry", "places", "start"] ["entry", "places"] (defScope sWithPlaces) := ⟨rfl, rfl, rfl, by decide +kernel, rfl, by decide +kernel, by decide +kernel⟩
theorem ok_withPl {f : Addr} {fd : FuncData} (F : Fun K "with_places" "with_places" sWithPlaces f fd) (ml : mg "len" = none) : FnOk P w K mg base CX0 1 f fd ["entry", "places"] spWithPl := by
  refine F.ok scWithPl (fun vs H Q E h => ?_) (fun cdv A outer s H vs Q E hr h => ?_)
  · obtain ⟨a, b, e, τ, rfl, _⟩ := h
    rfl
  · obtain ⟨a, b, e, τ, rfl, ha, hb, full, q⟩ := h
    have nd := scWithPl.nd
    refine ⟨_, pss_cons (ps_set (i := 2) nd rfl (Or.inl rfl) (pe_ifExp (pt_cmpR op_eq (pe_ix ix_tup (pv 0) pe_int (fun _ _ => rfl)) pe_str (nomark _)) pe_int pe_int))
      (pss_one (ps_ret (pe_op op_catS (pe_op op_catS (pe_slice sl_S (pv 0) po_none (po_some (pv 2))) (pv 1)) (pe_slice sl_S (pv 0) (po_some (pe_op op_add (pv 2) (pe_callB call_len_seq (by rfl) ml PySem.boot_len (pa_cons (pv 1) pa_nil)))) po_none)))), ?_⟩
    obtain ⟨v5, v7⟩ := vals_len_e e
    obtain ⟨p2, p1⟩ := places_le e
    have lp : ((e.places.map τ).map V.str).length = e.places.length := by rw [List.length_map, List.length_map]
    have ne0 : ∀ {k : Nat}, 0 < k → e.vals.take k ≠ [] := fun hk z => by
      have := congrArg List.length z
      rw [List.length_take, List.length_nil] at this
      omega
    have lt0 : ∀ {k : Nat}, (e.vals.take k).length ≤ 7 := fun {k} => by
      rw [List.length_take]
      omega
    refine ⟨_, rfl, a, _, 0, _, rfl, rfl, SqT.of ha, at0 e, rfl, _, rfl, ite2 (fun z => ?_) (fun z => ?_)⟩
    · have isw : e.word = "swap" := V.str.inj (of_decide_eq_true z)
      refine ⟨_, rfl, _, rfl, 3, rfl, a, _, rfl, ha, fun p H1 s1 g1 => ?_⟩
      replace g1 : H1 p = some (.tup (e.vals.take 3)) := g1.trans (congrArg (fun z => some (HO.tup z)) (cut_head (k := 3)))
      refine ⟨_, rfl, p, b, _, _, rfl, rfl, g1, s1 _ _ hb, ne0 (by decide), small_sz (by have := @lt0 3; omega), fun t H2 s2 g2 => ?_⟩
      refine ⟨_, rfl, _, rfl, _, rfl, b, _, rfl, .inr (SqT.of (s2 _ _ (s1 _ _ hb))), 3, _, rfl, rfl, _, rfl, a, _, rfl, s2 _ _ (s1 _ _ ha), fun u H3 s3 g3 => ?_⟩
      have e0 : ((3 : Int) + (((e.places.map τ).map V.str).length : Int)) = ((3 + ((e.places.map τ).map V.str).length : Nat) : Int) := by omega
      rw [e0, cut_tail] at g3
      refine ⟨t, u, _, _, rfl, rfl, s3 _ _ g2, g3, ?_, small_sz (by rw [List.length_append, List.length_drop]; have := @lt0 3; omega), fun v H4 s4 g4 => q v H4 (s1.trans (s2.trans (s3.trans s4))) ?_⟩
      · exact fun z => ne0 (k := 3) (by decide) (List.append_eq_nil_iff.mp z).1
      · obtain ⟨nm, mo, o, tt, rfl⟩ := sw_ent isw
        rw [g4]
        exact congrArg (fun z => some (HO.tup z)) mp_vals3
    · have isw : e.word ≠ "swap" := fun y => z (decide_eq_true (congrArg V.str y))
      refine ⟨_, rfl, _, rfl, 4, rfl, a, _, rfl, ha, fun p H1 s1 g1 => ?_⟩
      replace g1 : H1 p = some (.tup (e.vals.take 4)) := g1.trans (congrArg (fun z => some (HO.tup z)) (cut_head (k := 4)))
      refine ⟨_, rfl, p, b, _, _, rfl, rfl, g1, s1 _ _ hb, ne0 (by decide), small_sz (by have := @lt0 4; omega), fun t H2 s2 g2 => ?_⟩
      refine ⟨_, rfl, _, rfl, _, rfl, b, _, rfl, .inr (SqT.of (s2 _ _ (s1 _ _ hb))), 4, _, rfl, rfl, _, rfl, a, _, rfl, s2 _ _ (s1 _ _ ha), fun u H3 s3 g3 => ?_⟩
      have e0 : ((4 : Int) + (((e.places.map τ).map V.str).length : Int)) = ((4 + ((e.places.map τ).map V.str).length : Nat) : Int) := by omega
      rw [e0, cut_tail] at g3
      refine ⟨t, u, _, _, rfl, rfl, s3 _ _ g2, g3, ?_, small_sz (by rw [List.length_append, List.length_drop]; have := @lt0 4; omega), fun v H4 s4 g4 => q v H4 (s1.trans (s2.trans (s3.trans s4))) ?_⟩
      · exact fun z => ne0 (k := 4) (by decide) (List.append_eq_nil_iff.mp z).1
      · rw [g4]
        exact congrArg (fun z => some (HO.tup z)) (mp_vals4 isw)
end
/-! ### along_tracks -/
/-- nothing but the tables has changed -/
def TabsG (Ts : List Addr) (H : Hp) : Prop := ∀ T ∈ Ts, GxR.TabG H T
structure TB1 (Ts : List Addr) (H H' : Hp) : Prop where
  tg : TabsG Ts H'
  kp : ∀ a o, H a = some o → (∀ ps, o ≠ .tbl ps) → H' a = some o
  free : ∀ a, H' a = none → H a = none
  oth : ∀ a o, H a = some o → a ∉ Ts → H' a = some o
theorem tabg_sm {H H' : Hp} {T : Addr} (sm : Same H H') (t : GxR.TabG H T) : GxR.TabG H' T := by
  obtain ⟨ps, e, ok⟩ := t
  exact ⟨ps, sm _ _ e, ok⟩
theorem tabs_sm {H H' : Hp} {Ts : List Addr} (sm : Same H H') (t : TabsG Ts H) : TabsG Ts H' := fun T hT => tabg_sm sm (t T hT)
theorem TB1.same {Ts : List Addr} {H H' : Hp} (t : TabsG Ts H) (sm : Same H H') : TB1 Ts H H' := ⟨tabs_sm sm t, fun a o e _ => sm a o e, fun a n => sm.free n, fun a o e _ => sm a o e⟩
theorem TB1.tr {Ts : List Addr} {H H1 H2 : Hp} (a : TB1 Ts H H1) (b : TB1 Ts H1 H2) : TB1 Ts H H2 := ⟨b.1, fun c o e n => b.2 c o (a.2 c o e n) n, fun c n => a.free c (b.free c n), fun c o e n => b.oth c o (a.oth c o e n) n⟩
theorem TB1.tab {Ts : List Addr} {T : Addr} {H H' : Hp} (t : GxR.Tabbed T H H') (g : TabsG Ts H) (hT : T ∈ Ts) : TB1 Ts H H' := by
  refine ⟨fun T' hT' => ?_, fun a o e n => ?_, fun a n => ?_, fun a o e n => (t.2 a fun z => n (z ▸ hT)).trans e⟩
  · by_cases z : T' = T
    · rw [z]
      exact t.1
    · obtain ⟨ps, e, ok⟩ := g T' hT'
      exact ⟨ps, (t.2 T' z).trans e, ok⟩
  · have na : a ≠ T := fun z => by
      obtain ⟨ps, e', _⟩ := g T hT
      rw [z, e'] at e
      exact n ps (Option.some.inj e).symm
    rw [t.2 a na]
    exact e
  · by_cases z : a = T
    · obtain ⟨ps, e, _⟩ := t.1
      rw [z, e] at n
      cases n
    · rw [← t.2 a z]
      exact n
theorem TB1.tk {Ts : List Addr} {H H' : Hp} (t : TB1 Ts H H') : TK H H' := fun a xs e => t.2 a _ e fun ps z => nomatch z
theorem TB1.lst {Ts : List Addr} {H H' : Hp} (t : TB1 Ts H H') {a : Addr} {xs : List V} (e : H a = some (.lst xs)) : H' a = some (.lst xs) := t.2 a _ e fun ps z => nomatch z
theorem TB1.dct {Ts : List Addr} {H H' : Hp} (t : TB1 Ts H H') {a : Addr} {kvs : List (Key × V)} (e : H a = some (.dK kvs)) : H' a = some (.dK kvs) := t.2 a _ e fun ps z => nomatch z
theorem tabs_upd {H : Hp} {Ts : List Addr} {l : Addr} {xs : List V} {o : HO} (t : TabsG Ts H) (e : H l = some (.lst xs)) : TabsG Ts (upd H l o) := fun T hT => by
  obtain ⟨ps, e1, ok⟩ := t T hT
  exact ⟨ps, (upd_ne (ne_of e1 e (by intro z; cases z))).trans e1, ok⟩
/-- a list that came since is written -/
theorem TB1.put {Ts : List Addr} {H H' : Hp} {l : Addr} {xs : List V} {o : HO} (t : TB1 Ts H H') (n : H l = none) (e : H' l = some (.lst xs)) : TB1 Ts H (upd H' l o) :=
  ⟨tabs_upd t.1 e, fun a u eu na => (upd_ne (ne_of_none eu n)).trans (t.2 a u eu na), fun a na => by
    by_cases z : a = l
    · rw [z]
      exact n
    · rw [upd_ne z] at na
      exact t.free a na, fun a u eu na => (upd_ne (ne_of_none eu n)).trans (t.oth a u eu na)⟩
def spAlong (Ts : List Addr) : Sp := fun vs H Q _ => ∃ (h : Addr) (P G : List Str) (es : List Ent) (m : Nat), vs = [.ref h] ∧ HouseAt H h P G es ∧ Good P G es m ∧ m ≤ 30 ∧ TabsG Ts H ∧
  ∀ (l : Addr) (as : List Addr) (H' : Hp), TB1 Ts H H' → H l = none → H' l = some (.lst (as.map V.ref)) → EntsAt H' as (along es) → Q (.ref l) H'
theorem Ent.From.placesIn {e : Ent} {P G HL : List Str} (h : e.From P G HL) : ∀ y ∈ e.places, y ∈ P := by
  intro y hy
  cases e with
  | come n m g p k r => rw [List.mem_singleton.mp hy]; exact h.2.1
  | go n m g p k => rw [List.mem_singleton.mp hy]; exact h.2.1
  | move n m g o t k =>
    simp only [Ent.places, List.mem_cons, List.not_mem_nil, or_false] at hy
    rcases hy with rfl | rfl
    · exact h.2.1
    · exact h.2.2.1
  | some_ n m g o t =>
    by_cases z : t = ""
    · rw [show Ent.places (.some_ n m g o t) = [o] from if_pos z] at hy
      rw [List.mem_singleton.mp hy]
      exact h.2.1
    · rw [show Ent.places (.some_ n m g o t) = [o, t] from if_neg z] at hy
      simp only [List.mem_cons, List.not_mem_nil, or_false] at hy
      rcases hy with rfl | rfl
      · exact h.2.1
      · rcases h.2.2 with q | q
        · exact absurd q z
        · exact q.1
  | swap n m o t =>
    simp only [Ent.places, List.mem_cons, List.not_mem_nil, or_false] at hy
    rcases hy with rfl | rfl
    · exact h.1
    · exact h.2.1
  | count n m g p k hd => rw [List.mem_singleton.mp hy]; exact h.2.1
  | look n m g p => rw [List.mem_singleton.mp hy]; exact h.2
theorem Good.placesIn {P G : List Str} {es : List Ent} {m : Nat} (g : Good P G es m) {e : Ent} (he : e ∈ es) : ∀ y ∈ e.places, y ∈ P := by
  obtain ⟨_, _, _, HL, _, f⟩ := g.ents e he
  exact f.placesIn
theorem name_ne {y : Str} (h : nameB y = true) : y ≠ "" := fun z => by
  rw [z] at h
  exact absurd h (by decide +kernel)
section
variable {P : Program} {w : World} {K : PySem.W.Frag} {mg : Str → Option Value} {base : Heap}
abbrev alongN : List Str := ["house", "there", "told", "entry", "place"]
theorem scAlong : FnScope alongN ["house"] (defScope sAlong) := ⟨rfl, rfl, rfl, by decide +kernel, rfl, by decide +kernel, by decide +kernel⟩
set_option maxHeartbeats 2000000 in
theorem ok_along {f cA T fP fW fF fX : Addr} {dP dW dF dX : FuncData} {oc kV doc pm ct : Value} {od an : Option Addr} {osl : Array (Option Value)}
    (lk : K.lookup f = some ⟨oc, od, .func (PySem.W.fnOf "along_tracks" "along_tracks" (defArgs sAlong) (defBody sAlong) (defScope sAlong) .none kV doc pm an (.ref cA) ct), osl⟩) (cd : PySem.W.codeIn K (.ref cA) "along_tracks" = true)
    (TB : GxR.TabB base mg cA T) {Ts : List Addr} (hT : T ∈ Ts) (PO : DefT P w K mg base "places_of" 1 fP dP ["entry"] spPlaces) (WP : DefT P w K mg base "with_places" 1 fW dW ["entry", "places"] spWithPl)
    (FI : DefT P w K mg base "tracks_at_first" 1 fF dF ["house"] spFirst) (XC : DefT P w K mg base "exchanged" 2 fX dX ["there", "entry"] spExch) (mt : mg "tuple" = none) :
    FnOk P w K mg base CX0 3 f (PySem.W.fnOf "along_tracks" "along_tracks" (defArgs sAlong) (defBody sAlong) (defScope sAlong) .none kV doc pm an (.ref cA) ct) ["house"] (spAlong Ts) := by
  refine fn_of lk cd scAlong (fun vs H Q E h => ?_) (fun A outer s H vs Q E hr h => ?_)
  · obtain ⟨h, Ps, G, es, m, rfl, _⟩ := h
    rfl
  · obtain ⟨h, Ps, G, es, m, rfl, ho, gd, m30, tg, q⟩ := h
    have nd := scAlong.nd
    have hr1 : Room 1 _ := hr.mono (by decide)
    refine ⟨_, PSs.nox (pss_cons (ps_set (i := 1) nd rfl (Or.inr rfl) (pe_call FI.ok hr1 (by rfl) FI.g FI.kp FI.b .nil pass0 (pa_cons (pv 0) pa_nil)))
      (pss_cons (ps_set (i := 2) nd rfl (Or.inl rfl) (pe_lst pa_nil))
      (pss_cons (ps_for PassesOwn.never rfl (pi_tup (pe_ix ix_tup (pv 0) pe_int (fun _ _ => rfl))) (pg_name (i := 3) nd rfl (Or.inl rfl))
        (pss_cons (ps_expr (pe_bm PySem.F.plainAttrs_list PySem.F.slot_list_append PySem.F.type_list_append mt_append (pv 2)
          (pa_cons (pe_call WP.ok hr1 (by rfl) WP.g WP.kp WP.b .nil pass0 (pa_cons (pv 3) (pa_cons
            (pe_tupG (T := T) (c := cA) (k := 1) (own := [("place", 4)]) (g := gName 4) (tt := tYes) (te := tDGet (tVar 1) (tVar 4)) hr (by rfl) mt rfl nd TB rfl ⟨blkOk_by (N := alongN) (sc := defScope sAlong) (by decide +kernel), rfl, by decide +kernel, rfl⟩
              (pi_tup (pe_call PO.ok hr1 (by rfl) PO.g PO.kp PO.b .nil pass0 (pa_cons (pv 3) pa_nil)))
              (fun _ _ _ _ _ _ => pg_name (i := 4) nd rfl (Or.inl rfl)) (fun _ _ _ _ _ _ _ => pts_nil) (fun _ _ _ _ _ _ hr' => pe_dget (hu_of hr') (pv 1) (pv 4) (fun _ _ => rfl))) pa_nil))) pa_nil)))
        (pss_one (ps_set (i := 1) nd rfl (Or.inr rfl) (pe_call XC.ok hr (by rfl) XC.g XC.kp XC.b .nil pass0 (pa_cons (pv 1) (pa_cons (pv 3) pa_nil)))))))
      (pss_one (ps_ret (pv 2)))))), ?_⟩
    refine ⟨_, rfl, h, Ps, G, es, m, rfl, ho, gd, fun d H1 s1 h1 => ?_⟩
    refine ⟨Nat.zero_le _, fun D nD => ?_⟩
    have s2 := s1.trans (@same_new _ _ (.lst []) nD)
    have hD2 : (upd H1 D (.lst [])) D = some (.lst []) := upd_same
    have hd2 : (upd H1 D (.lst [])) d = some (.dK (kvT Ps id)) := (upd_ne (ne_of_none h1 nD)).trans h1
    have nD0 : H D = none := s1.free nD
    generalize upd H1 D (.lst []) = H2 at s2 hD2 hd2
    obtain ⟨hp, hg, he, tps, g1, g2, g3, g4, g5⟩ := ho.ex
    have tb2 : TB1 Ts H H2 := .same tg s2
    refine ⟨_, rfl, h, _, 2, _, rfl, rfl, SqT.of (s2 _ _ g1), atI_nat (j := 2) rfl, he, rfl, ⟨_, SqT.of (s2 _ _ g4)⟩, ?_⟩
    refine for_tup (K := K) (a := he) (xs := tps.map V.ref) (fun i σ H' => ∃ (d : Addr) (as : List Addr) (y3 : Option V), σ = [some (.ref h), some (.ref d), some (.ref D), y3, none] ∧ TB1 Ts H H' ∧
        H' d = some (.dK (kvT Ps (tau (es.take i)))) ∧ H' D = some (.lst (as.map V.ref)) ∧ EntsAt H' as ((along es).take i))
      ⟨d, [], none, rfl, tb2, hd2, hD2, .nil⟩ (fun i σ H' _ z => by obtain ⟨_, _, _, _, z, _⟩ := z; exact SqT.of (z.tk _ _ g4)) ?_ ?_
    · rintro i x σ H3 hx ⟨d3, as, y3, rfl, t3, hd3, hD3, en3⟩
      rw [List.getElem?_map] at hx
      obtain ⟨tp, htp, rfl⟩ := Option.map_eq_some_iff.mp hx
      obtain ⟨e, hes, hte⟩ := (g5.on t3.tk).get htp
      have me : e ∈ es := List.mem_of_getElem? hes
      have lt : i < es.length := (List.getElem?_eq_some_iff.mp hes).1
      have las : as.length = i := by
        rw [en3.len, List.length_take, along_len]
        omega
      refine ⟨_, rfl, .inl ⟨rfl, _, SqL.of hD3⟩, _, rfl, _, rfl, tp, e, rfl, hte, fun pl H4 s4 hpl => ?_⟩
      have t4 : TB1 Ts H H4 := t3.tr (.same t3.1 s4)
      refine ⟨pl, rfl, ⟨_, SqT.of hpl⟩, t4.1 T hT, fun H5 tb5 => ?_⟩
      have u5 : TB1 Ts H4 H5 := .tab tb5 t4.1 hT
      have plc : ∀ y ∈ e.places, y ∈ Ps := gd.placesIn me
      have hpl5 := u5.tk _ _ hpl
      have hd5 := u5.2 _ _ (s4 _ _ hd3) (fun ps z => nomatch z)
      refine ⟨fun k n ys H' => n = e.places.length - k ∧ k ≤ e.places.length ∧ H' = H5 ∧ ys = ((e.places.map (tau (es.take i))).take k).map V.str, ⟨_, rfl, Nat.zero_le _, rfl, rfl⟩, ?_⟩
      rintro k n ys H6 ⟨rfl, hk, rfl, rfl⟩
      by_cases lk : k < e.places.length
      · refine .inr ⟨⟨_, _, SqT.of hpl5, List.getElem?_eq_getElem (by rw [List.length_map]; exact lk)⟩, fun v H7 yl => ?_⟩
        obtain ⟨rfl, yl⟩ := yl
        have gy := yl _ (SqT.of hpl5)
        rw [List.getElem?_map] at gy
        obtain ⟨y, hy, rfl⟩ := Option.map_eq_some_iff.mp gy
        have my : y ∈ e.places := List.mem_of_getElem? hy
        refine ⟨rfl, yesT ⟨_, rfl, _, rfl, d3, _, rfl, dget_s hd5 (valV_kvT (plc y my)), ?_, _, Nat.sub_lt_sub_left lk (Nat.lt_succ_self _), rfl, lk, rfl, ?_⟩⟩
        · rw [List.length_map, List.length_take, List.length_map]
          exact small1000 (by have := (places_le e).1; omega)
        · rw [take_snoc (i := k) (x := tau (es.take i) y) (by rw [List.getElem?_map, hy]; rfl), List.map_append]
          rfl
      · have ek : k = e.places.length := by omega
        subst ek
        refine .inl ⟨⟨_, SqT.of hpl5, by rw [List.length_map]; exact Nat.le_refl _⟩, ?_, fun tt ntt => ?_⟩
        · rw [List.length_map, List.length_take, List.length_map]
          exact small_sz (by have := (places_le e).1; omega)
        have et : (e.places.map (tau (es.take i))).take e.places.length = e.places.map (tau (es.take i)) := List.take_of_length_le (by rw [List.length_map]; exact Nat.le_refl _)
        rw [et]
        have s7 := @same_new _ _ (.tup ((e.places.map (tau (es.take i))).map V.str)) ntt
        have h7 : (upd H6 tt (.tup ((e.places.map (tau (es.take i))).map V.str))) tt = some (.tup ((e.places.map (tau (es.take i))).map V.str)) := upd_same
        generalize upd H6 tt (.tup ((e.places.map (tau (es.take i))).map V.str)) = H7 at s7 h7
        have u7 : TB1 Ts H4 H7 := u5.tr (.same u5.1 s7)
        have inn := in_n gd.inn i (by omega)
        refine ⟨tp, tt, e, tau (es.take i), rfl, u7.tk _ _ (s4 _ _ hte), h7, fun y hy => name_ne (gd.nm _ (inn y (plc y hy)).1), fun t' H8 s8 h8 => ?_⟩
        have u8 : TB1 Ts H4 H8 := u7.tr (.same u7.1 s8)
        have hD8 := u8.2 _ _ (s4 _ _ hD3) (fun ps z => nomatch z)
        refine ⟨D, _, _, rfl, rfl, hD8, (by rw [List.length_map, las]; exact small1000 (by have := gd.many; omega)), ?_⟩
        have nt'D : t' ≠ D := ne_of h8 hD8 (by intro z; cases z)
        have ntpD : ∀ {a : Addr} {xs : List V}, H8 a = some (.tup xs) → a ≠ D := fun e => ne_of e hD8 (by intro z; cases z)
        have k8 : TK H8 (upd H8 D (.lst (as.map V.ref ++ [V.ref t']))) := fun a xs e => (upd_ne (ntpD e)).trans e
        have hd8 := u8.2 _ _ (s4 _ _ hd3) (fun ps z => nomatch z)
        have ndD : d3 ≠ D := ne_of hd8 hD8 (by intro z; cases z)
        have hte8 := u8.tk _ _ (s4 _ _ hte)
        have tgD := tabs_upd (o := .lst (as.map V.ref ++ [V.ref t'])) u8.1 hD8
        refine ⟨_, rfl, _, rfl, d3, tp, Ps, tau (es.take i), e, rfl, (upd_ne ndD).trans hd8, k8 _ _ hte8, gd.sw me, gd.nd, gd.le, fun d' H9 s9 h9 => ?_⟩
        refine ⟨d', as ++ [t'], _, rfl, ((t4.tr u8).put nD0 hD8).tr (.same tgD s9), ?_, ?_, ?_⟩
        · rw [h9, take_snoc hes, tau_snoc]
        · rw [s9 _ _ upd_same, List.map_append]
          rfl
        · rw [take_snoc (along_at hes)]
          exact EntsAt.snoc (((en3.on (TK.of s4)).on u8.tk).on (k8.tr (TK.of s9))) (s9 _ _ (k8 _ _ h8))
    · rintro σ H3 ⟨d3, as, y3, rfl, t3, hd3, hD3, en3⟩
      rw [List.length_map, g5.len, ← along_len es, List.take_length] at en3
      exact ⟨_, rfl, q D as H3 t3 nD0 hD3 en3⟩
end
/-! ### the good of an entry -/
def Ent.goodV : Ent → V
  | .come _ _ g _ _ _ => .str g
  | .go _ _ g _ _ => .str g
  | .move _ _ g _ _ _ => .str g
  | .some_ _ _ g _ _ => .str g
  | .swap _ _ _ _ => .non
  | .count _ _ g _ _ _ => .str g
  | .look _ _ g _ => .str g
def spGood : Sp := fun vs H Q _ => ∃ (a : Addr) (e : Ent), vs = [.ref a] ∧ H a = some (.tup e.vals) ∧ Q e.goodV H
section
variable {P : Program} {w : World} {K : PySem.W.Frag} {mg : Str → Option Value} {base : Heap}
theorem scGood : FnScope ["entry"] ["entry"] (defScope sGood) := ⟨rfl, rfl, rfl, by decide +kernel, rfl, by decide +kernel, by decide +kernel⟩
theorem at3 {e : Ent} (h : e.goodV ≠ .non) : atI e.vals 3 = some e.goodV := by
  cases e <;> first | exact atI_nat (j := 3) rfl | exact absurd rfl h
theorem sw_word (e : Ent) : e.word = "swap" ↔ e.goodV = .non := by
  have k1 : ("come" : Str) ≠ "swap" := by decide +kernel
  have k2 : ("go" : Str) ≠ "swap" := by decide +kernel
  have k3 : ("move" : Str) ≠ "swap" := by decide +kernel
  have k4 : ("some" : Str) ≠ "swap" := by decide +kernel
  have k6 : ("count" : Str) ≠ "swap" := by decide +kernel
  have k7 : ("look" : Str) ≠ "swap" := by decide +kernel
  cases e
  · exact ⟨fun h => absurd h k1, fun h => nomatch h⟩
  · exact ⟨fun h => absurd h k2, fun h => nomatch h⟩
  · exact ⟨fun h => absurd h k3, fun h => nomatch h⟩
  · exact ⟨fun h => absurd h k4, fun h => nomatch h⟩
  · exact ⟨fun _ => rfl, fun _ => rfl⟩
  · exact ⟨fun h => absurd h k6, fun h => nomatch h⟩
  · exact ⟨fun h => absurd h k7, fun h => nomatch h⟩
theorem ok_good {f : Addr} {fd : FuncData} (F : Fun K "good_of" "good_of" sGood f fd) : FnOk P w K mg base CX0 1 f fd ["entry"] spGood := by
  refine F.ok scGood (fun vs H Q E h => ?_) (fun cdv A outer s H vs Q E hr h => ?_)
  · obtain ⟨a, e, rfl, _⟩ := h
    rfl
  · obtain ⟨a, e, rfl, ha, q⟩ := h
    refine ⟨_, pss_cons (ps_if (pt_cmpR op_eq (pe_ix ix_tup (pv 0) pe_int (fun _ _ => rfl)) pe_str (nomark _)) (pss_one (ps_ret pe_non)) pss_nil) (pss_one (ps_ret (pe_ix ix_tup (pv 0) pe_int (fun _ _ => rfl)))), ?_⟩
    refine ⟨_, rfl, a, _, 0, _, rfl, rfl, SqT.of ha, at0 e, rfl, _, rfl, ite2 (fun z => ?_) (fun z => ?_)⟩
    · have z' : e.word = "swap" := V.str.inj (of_decide_eq_true z)
      rw [(sw_word e).mp z'] at q
      exact q
    · have z' : e.goodV ≠ .non := fun h => z (decide_eq_true (congrArg V.str ((sw_word e).mpr h)))
      exact ⟨_, rfl, a, _, 3, _, rfl, rfl, SqT.of ha, at3 z', q⟩
end
theorem mp_places {e : Ent} {τ : Str → Str} (h : ∀ y ∈ e.places, τ y ≠ "") : (e.mp τ).places = e.places.map τ := by
  cases e with
  | some_ n m g o t =>
    by_cases z : t = ""
    · subst z
      simp [Ent.places, Ent.mp]
    · rw [show Ent.places (.some_ n m g o t) = [o, t] from if_neg z, show Ent.mp τ (.some_ n m g o t) = .some_ n m g (τ o) (τ t) from congrArg (Ent.some_ n m g (τ o)) (if_neg z)]
      have : τ t ≠ "" := h t (by rw [show Ent.places (.some_ n m g o t) = [o, t] from if_neg z]; simp)
      exact if_neg this
  | _ => rfl
theorem Good.full {P G : List Str} {es : List Ent} {m : Nat} (g : Good P G es m) {e : Ent} (he : e ∈ es) {i : Nat} (hi : i ≤ es.length) : ∀ y ∈ e.places, tau (es.take i) y ≠ "" := fun y hy =>
  name_ne (g.nm _ ((in_n g.inn i hi) y (g.placesIn he y hy)).1)
theorem Ent.From.un {e : Ent} {P G HL : List Str} (h : e.From P G HL) (nd : P.Nodup) : e.places.Nodup := by
  have one : ∀ x : Str, [x].Nodup := fun x => List.nodup_cons.mpr ⟨fun z => (nomatch z), .nil⟩
  have two : ∀ {x y : Str}, x ≠ y → [x, y].Nodup := fun {x y} n => List.nodup_cons.mpr ⟨fun z => n (List.mem_singleton.mp z), one y⟩
  cases e with
  | come n m g p k r => exact one p
  | go n m g p k => exact one p
  | move n m g o t k => exact two (h.2.2.2.1 nd)
  | some_ n m g o t =>
    by_cases z : t = ""
    · rw [show Ent.places (.some_ n m g o t) = [o] from if_pos z]
      exact one o
    · rw [show Ent.places (.some_ n m g o t) = [o, t] from if_neg z]
      rcases h.2.2 with q | q
      · exact absurd q z
      · exact two (q.2 nd)
  | swap n m o t => exact two (h.2.2 nd)
  | count n m g p k hd => exact one p
  | look n m g p => exact one p
/-! ### pieces -/
namespace Ent
def mark : Ent → Bool
  | .count .. => true
  | .look .. => true
  | _ => false
def cnt : Ent → Int
  | .count _ _ _ _ k _ => k
  | _ => 0
def chg (p : Str) : Ent → Int
  | .come _ _ _ q k _ => if p = q then k else 0
  | .go _ _ _ q k => if p = q then -k else 0
  | .move _ _ _ o t k => if p = o then -k else if p = t then k else 0
  | _ => 0
end Ent
structure Row where
  tr : Str
  k : Nat
  op : Option Str
  cl : Option Str
  ins : List Str
  bal : Int
def cntO : Option Ent → Int
  | none => 0
  | some e => e.cnt
def mkRow (tr : Str) (k : Nat) (op cl : Option Ent) (ins : List Ent) : Row := ⟨tr, k, op.map Ent.name, cl.map Ent.name, ins.map Ent.name, cntO cl - cntO op - (ins.map (Ent.chg tr)).sum⟩
def cutRows (tr : Str) : List Ent → List Row → Option Ent → List Ent → List Row
  | [], rows, op, ins => rows ++ [mkRow tr rows.length op none ins]
  | e :: r, rows, op, ins => if e.mark = true then cutRows tr r (rows ++ [mkRow tr rows.length op (some e) ins]) (some e) [] else cutRows tr r rows op (ins ++ [e])
def toldOf (g : Str) (es : List Ent) : List Ent := (along es).filter fun e => decide (e.goodV = .str g)
def onTrack (t : Str) (es : List Ent) : List Ent := es.filter fun e => decide (t ∈ e.places)
def piecesM (P : List Str) (es : List Ent) (g : Str) : List Row := P.flatMap fun t => cutRows t (onTrack t (toldOf g es)) [] none []
def optS : Option Str → V
  | none => .non
  | some x => .str x
/-- an entry, or none -/
def EntO (H : Hp) (v : V) : Option Ent → Prop
  | none => v = .non
  | some e => ∃ a, v = .ref a ∧ H a = some (.tup e.vals) ∧ e.mark = true
theorem EntO.on {H H' : Hp} (k : TK H H') {v : V} {o : Option Ent} (h : EntO H v o) : EntO H' v o := by
  cases o with
  | none => exact h
  | some e =>
    obtain ⟨a, h1, h2, h3⟩ := h
    exact ⟨a, h1, k _ _ h2, h3⟩
structure RowAt (H : Hp) (r : Addr) (x : Row) : Prop where
  ex : ∃ (pc it : Addr), H r = some (.tup [.ref pc, optS x.op, optS x.cl, .ref it, .int x.bal]) ∧ H pc = some (.tup [.str x.tr, .int x.k]) ∧ H it = some (.tup (x.ins.map V.str))
theorem RowAt.on {H H' : Hp} (k : TK H H') {r : Addr} {x : Row} (h : RowAt H r x) : RowAt H' r x := by
  obtain ⟨pc, it, h1, h2, h3⟩ := h.ex
  exact ⟨pc, it, k _ _ h1, k _ _ h2, k _ _ h3⟩
def RowsAt (H : Hp) : List Addr → List Row → Prop := Paired (RowAt H)
theorem RowsAt.on {H H' : Hp} (k : TK H H') {rs : List Addr} {xs : List Row} (h : RowsAt H rs xs) : RowsAt H' rs xs := Paired.mapP h fun _ _ z => z.on k
def spChange : Sp := fun vs H Q _ => ∃ (a : Addr) (e : Ent) (p : Str), vs = [.ref a, .str p] ∧ H a = some (.tup e.vals) ∧ Q (.int (e.chg p)) H
def spCounted : Sp := fun vs H Q _ => ∃ (v : V) (o : Option Ent), vs = [v] ∧ EntO H v o ∧ Q (.int (cntO o)) H
def spNameOf : Sp := fun vs H Q _ => ∃ (v : V) (o : Option Ent), vs = [v] ∧ EntO H v o ∧ Q (optS (o.map Ent.name)) H
def spRow (Ts : List Addr) : Sp := fun vs H Q _ => ∃ (pc li : Addr) (vo vc : V) (op cl : Option Ent) (tr : Str) (k : Nat) (as : List Addr) (ins : List Ent), vs = [.ref pc, vo, vc, .ref li] ∧ H pc = some (.tup [.str tr, .int k]) ∧ EntO H vo op ∧ EntO H vc cl ∧
  H li = some (.lst (as.map V.ref)) ∧ EntsAt H as ins ∧ ins.length ≤ 30 ∧ TabsG Ts H ∧ ∀ (r : Addr) (H' : Hp), TB1 Ts H H' → RowAt H' r (mkRow tr k op cl ins) → Q (.ref r) H'
def spPoT (Ts : List Addr) : Sp := fun vs H Q _ => ∃ (l : Addr) (tr : Str) (as : List Addr) (es : List Ent), vs = [.str tr, .ref l] ∧ H l = some (.lst (as.map V.ref)) ∧ EntsAt H as es ∧ es.length ≤ 30 ∧ TabsG Ts H ∧
  ∀ (r : Addr) (rs : List Addr) (H' : Hp), TB1 Ts H H' → H r = none → H' r = some (.lst (rs.map V.ref)) → RowsAt H' rs (cutRows tr es [] none []) → Q (.ref r) H'
def spPieces (Ts : List Addr) : Sp := fun vs H Q _ => ∃ (h : Addr) (P G : List Str) (es : List Ent) (m : Nat) (g : Str), vs = [.ref h, .str g] ∧ HouseAt H h P G es ∧ Good P G es m ∧ m ≤ 30 ∧ TabsG Ts H ∧
  ∀ (r : Addr) (rs : List Addr) (H' : Hp), TB1 Ts H H' → H r = none → H' r = some (.lst (rs.map V.ref)) → RowsAt H' rs (piecesM P es g) → Q (.ref r) H'
section
variable {P : Program} {w : World} {K : PySem.W.Frag} {mg : Str → Option Value} {base : Heap}
theorem scChange : FnScope ["entry", "place", "word"] ["entry", "place"] (defScope sChange) := ⟨rfl, rfl, rfl, by decide +kernel, rfl, by decide +kernel, by decide +kernel⟩
theorem scCounted : FnScope ["entry"] ["entry"] (defScope sCounted) := ⟨rfl, rfl, rfl, by decide +kernel, rfl, by decide +kernel, by decide +kernel⟩
theorem scNameOf : FnScope ["entry"] ["entry"] (defScope sNameOf) := ⟨rfl, rfl, rfl, by decide +kernel, rfl, by decide +kernel, by decide +kernel⟩
theorem w_come_come : decide (V.str "come" = V.str "come") = true := by decide +kernel
theorem w_come_go : decide (V.str "come" = V.str "go") = false := by decide +kernel
theorem w_come_move : decide (V.str "come" = V.str "move") = false := by decide +kernel
theorem w_come_some : decide (V.str "come" = V.str "some") = false := by decide +kernel
theorem w_come_swap : decide (V.str "come" = V.str "swap") = false := by decide +kernel
theorem w_come_count : decide (V.str "come" = V.str "count") = false := by decide +kernel
theorem w_come_look : decide (V.str "come" = V.str "look") = false := by decide +kernel
theorem w_go_come : decide (V.str "go" = V.str "come") = false := by decide +kernel
theorem w_go_go : decide (V.str "go" = V.str "go") = true := by decide +kernel
theorem w_go_move : decide (V.str "go" = V.str "move") = false := by decide +kernel
theorem w_go_some : decide (V.str "go" = V.str "some") = false := by decide +kernel
theorem w_go_swap : decide (V.str "go" = V.str "swap") = false := by decide +kernel
theorem w_go_count : decide (V.str "go" = V.str "count") = false := by decide +kernel
theorem w_go_look : decide (V.str "go" = V.str "look") = false := by decide +kernel
theorem w_move_come : decide (V.str "move" = V.str "come") = false := by decide +kernel
theorem w_move_go : decide (V.str "move" = V.str "go") = false := by decide +kernel
theorem w_move_move : decide (V.str "move" = V.str "move") = true := by decide +kernel
theorem w_move_some : decide (V.str "move" = V.str "some") = false := by decide +kernel
theorem w_move_swap : decide (V.str "move" = V.str "swap") = false := by decide +kernel
theorem w_move_count : decide (V.str "move" = V.str "count") = false := by decide +kernel
theorem w_move_look : decide (V.str "move" = V.str "look") = false := by decide +kernel
theorem w_some_come : decide (V.str "some" = V.str "come") = false := by decide +kernel
theorem w_some_go : decide (V.str "some" = V.str "go") = false := by decide +kernel
theorem w_some_move : decide (V.str "some" = V.str "move") = false := by decide +kernel
theorem w_some_some : decide (V.str "some" = V.str "some") = true := by decide +kernel
theorem w_some_swap : decide (V.str "some" = V.str "swap") = false := by decide +kernel
theorem w_some_count : decide (V.str "some" = V.str "count") = false := by decide +kernel
theorem w_some_look : decide (V.str "some" = V.str "look") = false := by decide +kernel
theorem w_swap_come : decide (V.str "swap" = V.str "come") = false := by decide +kernel
theorem w_swap_go : decide (V.str "swap" = V.str "go") = false := by decide +kernel
theorem w_swap_move : decide (V.str "swap" = V.str "move") = false := by decide +kernel
theorem w_swap_some : decide (V.str "swap" = V.str "some") = false := by decide +kernel
theorem w_swap_swap : decide (V.str "swap" = V.str "swap") = true := by decide +kernel
theorem w_swap_count : decide (V.str "swap" = V.str "count") = false := by decide +kernel
theorem w_swap_look : decide (V.str "swap" = V.str "look") = false := by decide +kernel
theorem w_count_come : decide (V.str "count" = V.str "come") = false := by decide +kernel
theorem w_count_go : decide (V.str "count" = V.str "go") = false := by decide +kernel
theorem w_count_move : decide (V.str "count" = V.str "move") = false := by decide +kernel
theorem w_count_some : decide (V.str "count" = V.str "some") = false := by decide +kernel
theorem w_count_swap : decide (V.str "count" = V.str "swap") = false := by decide +kernel
theorem w_count_count : decide (V.str "count" = V.str "count") = true := by decide +kernel
theorem w_count_look : decide (V.str "count" = V.str "look") = false := by decide +kernel
theorem w_look_come : decide (V.str "look" = V.str "come") = false := by decide +kernel
theorem w_look_go : decide (V.str "look" = V.str "go") = false := by decide +kernel
theorem w_look_move : decide (V.str "look" = V.str "move") = false := by decide +kernel
theorem w_look_some : decide (V.str "look" = V.str "some") = false := by decide +kernel
theorem w_look_swap : decide (V.str "look" = V.str "swap") = false := by decide +kernel
theorem w_look_count : decide (V.str "look" = V.str "count") = false := by decide +kernel
theorem w_look_look : decide (V.str "look" = V.str "look") = true := by decide +kernel
theorem str_dec {p q : Str} : decide (V.str p = V.str q) = decide (p = q) := by
  by_cases h : p = q
  · rw [decide_eq_true h, decide_eq_true (congrArg V.str h)]
  · rw [decide_eq_false h, decide_eq_false fun z => h (V.str.inj z)]
theorem ok_change {f : Addr} {fd : FuncData} (F : Fun K "change_at" "change_at" sChange f fd) : FnOk P w K mg base CX0 1 f fd ["entry", "place"] spChange := by
  refine F.ok scChange (fun vs H Q E h => ?_) (fun cdv A outer s H vs Q E hr h => ?_)
  · obtain ⟨a, e, p, rfl, _⟩ := h
    rfl
  · obtain ⟨a, e, p, rfl, ha, q⟩ := h
    have nd := scChange.nd
    refine ⟨_, pss_cons (ps_set (i := 2) nd rfl (Or.inl rfl) (pe_ix ix_tup (pv 0) pe_int (fun _ _ => rfl)))
      (pss_cons (ps_if (PW.pt (pw_and (pt_cmpR op_eq (pv 2) pe_str (nomark _)) (pw_and1 (pt_cmpR op_eq (pv 1) (pe_ix ix_tup (pv 0) pe_int (fun _ _ => rfl)) (nomark _))))) (pss_one (ps_ret (pe_ix ix_tup (pv 0) pe_int (fun _ _ => rfl)))) pss_nil)
      (pss_cons (ps_if (PW.pt (pw_and (pt_cmpR op_eq (pv 2) pe_str (nomark _)) (pw_and1 (pt_cmpR op_eq (pv 1) (pe_ix ix_tup (pv 0) pe_int (fun _ _ => rfl)) (nomark _))))) (pss_one (ps_ret (pe_un un_neg (pe_ix ix_tup (pv 0) pe_int (fun _ _ => rfl))))) pss_nil)
      (pss_cons (ps_if (PW.pt (pw_and (pt_cmpR op_eq (pv 2) pe_str (nomark _)) (pw_and1 (pt_cmpR op_eq (pv 1) (pe_ix ix_tup (pv 0) pe_int (fun _ _ => rfl)) (nomark _))))) (pss_one (ps_ret (pe_un un_neg (pe_ix ix_tup (pv 0) pe_int (fun _ _ => rfl))))) pss_nil)
      (pss_cons (ps_if (PW.pt (pw_and (pt_cmpR op_eq (pv 2) pe_str (nomark _)) (pw_and1 (pt_cmpR op_eq (pv 1) (pe_ix ix_tup (pv 0) pe_int (fun _ _ => rfl)) (nomark _))))) (pss_one (ps_ret (pe_ix ix_tup (pv 0) pe_int (fun _ _ => rfl)))) pss_nil)
      (pss_one (ps_ret pe_int)))))), ?_⟩
    refine ⟨_, rfl, a, _, 0, _, rfl, rfl, SqT.of ha, at0 e, ?_⟩
    have d : ∀ {x y : Str} {b : Bool}, decide (V.str x = V.str y) = b → V.bl (decide (V.str x = V.str y)) = V.bl b := fun h => congrArg V.bl h
    cases e with
    | come n m g pl k r =>
      refine ⟨_, rfl, rfl, true, d w_come_come, iteT ⟨_, rfl, _, rfl, a, _, 4, _, rfl, rfl, SqT.of ha, atI_nat (j := 4) rfl, rfl, _, rfl, ?_⟩⟩
      by_cases z : p = pl
      · rw [decide_eq_true (congrArg V.str z)]
        refine iteT ⟨_, rfl, a, _, 5, _, rfl, rfl, SqT.of ha, atI_nat (j := 5) rfl, ?_⟩
        rw [show Ent.chg p (.come n m g pl k r) = k from if_pos z] at q
        exact q
      · rw [decide_eq_false fun y => z (V.str.inj y)]
        rw [show Ent.chg p (.come n m g pl k r) = 0 from if_neg z] at q
        exact iteF ⟨_, rfl, rfl, false, d w_come_go, iteF ⟨_, rfl, rfl, false, d w_come_move, iteF ⟨_, rfl, rfl, false, d w_come_move, iteF q⟩⟩⟩
    | go n m g pl k =>
      refine ⟨_, rfl, rfl, false, d w_go_come, iteF ⟨_, rfl, rfl, true, d w_go_go, iteT ⟨_, rfl, _, rfl, a, _, 4, _, rfl, rfl, SqT.of ha, atI_nat (j := 4) rfl, rfl, _, rfl, ?_⟩⟩⟩
      by_cases z : p = pl
      · rw [decide_eq_true (congrArg V.str z)]
        refine iteT ⟨_, rfl, a, _, 5, _, rfl, rfl, SqT.of ha, atI_nat (j := 5) rfl, k, rfl, ?_⟩
        rw [show Ent.chg p (.go n m g pl k) = -k from if_pos z] at q
        exact q
      · rw [decide_eq_false fun y => z (V.str.inj y)]
        rw [show Ent.chg p (.go n m g pl k) = 0 from if_neg z] at q
        exact iteF ⟨_, rfl, rfl, false, d w_go_move, iteF ⟨_, rfl, rfl, false, d w_go_move, iteF q⟩⟩
    | move n m g o t k =>
      refine ⟨_, rfl, rfl, false, d w_move_come, iteF ⟨_, rfl, rfl, false, d w_move_go, iteF ⟨_, rfl, rfl, true, d w_move_move, iteT ⟨_, rfl, _, rfl, a, _, 4, _, rfl, rfl, SqT.of ha, atI_nat (j := 4) rfl, rfl, _, rfl, ?_⟩⟩⟩⟩
      by_cases z : p = o
      · rw [decide_eq_true (congrArg V.str z)]
        refine iteT ⟨_, rfl, a, _, 6, _, rfl, rfl, SqT.of ha, atI_nat (j := 6) rfl, k, rfl, ?_⟩
        rw [show Ent.chg p (.move n m g o t k) = -k from if_pos z] at q
        exact q
      · rw [decide_eq_false fun y => z (V.str.inj y)]
        refine iteF ⟨_, rfl, rfl, true, d w_move_move, iteT ⟨_, rfl, _, rfl, a, _, 5, _, rfl, rfl, SqT.of ha, atI_nat (j := 5) rfl, rfl, _, rfl, ?_⟩⟩
        by_cases z2 : p = t
        · rw [decide_eq_true (congrArg V.str z2)]
          refine iteT ⟨_, rfl, a, _, 6, _, rfl, rfl, SqT.of ha, atI_nat (j := 6) rfl, ?_⟩
          rw [show Ent.chg p (.move n m g o t k) = k from (if_neg z).trans (if_pos z2)] at q
          exact q
        · rw [decide_eq_false fun y => z2 (V.str.inj y)]
          rw [show Ent.chg p (.move n m g o t k) = 0 from (if_neg z).trans (if_neg z2)] at q
          exact iteF q
    | some_ n m g o t => exact ⟨_, rfl, rfl, false, d w_some_come, iteF ⟨_, rfl, rfl, false, d w_some_go, iteF ⟨_, rfl, rfl, false, d w_some_move, iteF ⟨_, rfl, rfl, false, d w_some_move, iteF q⟩⟩⟩⟩
    | swap n m o t => exact ⟨_, rfl, rfl, false, d w_swap_come, iteF ⟨_, rfl, rfl, false, d w_swap_go, iteF ⟨_, rfl, rfl, false, d w_swap_move, iteF ⟨_, rfl, rfl, false, d w_swap_move, iteF q⟩⟩⟩⟩
    | count n m g pl k hd => exact ⟨_, rfl, rfl, false, d w_count_come, iteF ⟨_, rfl, rfl, false, d w_count_go, iteF ⟨_, rfl, rfl, false, d w_count_move, iteF ⟨_, rfl, rfl, false, d w_count_move, iteF q⟩⟩⟩⟩
    | look n m g pl => exact ⟨_, rfl, rfl, false, d w_look_come, iteF ⟨_, rfl, rfl, false, d w_look_go, iteF ⟨_, rfl, rfl, false, d w_look_move, iteF ⟨_, rfl, rfl, false, d w_look_move, iteF q⟩⟩⟩⟩
theorem ok_counted {f : Addr} {fd : FuncData} (F : Fun K "counted" "counted" sCounted f fd) : FnOk P w K mg base CX0 1 f fd ["entry"] spCounted := by
  refine F.ok scCounted (fun vs H Q E h => ?_) (fun cdv A outer s H vs Q E hr h => ?_)
  · obtain ⟨v, o, rfl, _⟩ := h
    rfl
  · obtain ⟨v, o, rfl, ho, q⟩ := h
    refine ⟨_, pss_cons (ps_if (PW.pt (pw_or (pt_cmpR op_isN (pv 0) pe_non (nomark _)) (pw_or1 (pt_cmpR op_eq (pe_ix ix_tup (pv 0) pe_int (fun _ _ => rfl)) pe_str (nomark _))))) (pss_one (ps_ret pe_int)) pss_nil)
      (pss_one (ps_ret (pe_ix ix_tup (pv 0) pe_int (fun _ _ => rfl)))), ?_⟩
    cases o with
    | none =>
      obtain rfl : v = .non := ho
      exact ⟨_, rfl, rfl, true, rfl, iteT q⟩
    | some e =>
      obtain ⟨a, rfl, ha, mk⟩ := ho
      refine ⟨_, rfl, rfl, false, rfl, iteF ⟨_, rfl, a, _, 0, _, rfl, rfl, SqT.of ha, at0 e, rfl, ?_⟩⟩
      cases e with
      | count n m g pl k hd => exact ⟨false, congrArg V.bl (show decide (V.str "count" = V.str "look") = false by decide +kernel), iteF ⟨_, rfl, a, _, 5, _, rfl, rfl, SqT.of ha, atI_nat (j := 5) rfl, q⟩⟩
      | look n m g pl => exact ⟨true, congrArg V.bl (show decide (V.str "look" = V.str "look") = true by decide +kernel), iteT q⟩
      | _ => exact nomatch mk
theorem ok_nameOf {f : Addr} {fd : FuncData} (F : Fun K "name_of" "name_of" sNameOf f fd) : FnOk P w K mg base CX0 1 f fd ["entry"] spNameOf := by
  refine F.ok scNameOf (fun vs H Q E h => ?_) (fun cdv A outer s H vs Q E hr h => ?_)
  · obtain ⟨v, o, rfl, _⟩ := h
    rfl
  · obtain ⟨v, o, rfl, ho, q⟩ := h
    refine ⟨_, pss_cons (ps_if (pt_cmpR op_isN (pv 0) pe_non (nomark _)) (pss_one (ps_ret pe_non)) pss_nil) (pss_one (ps_ret (pe_ix ix_tup (pv 0) pe_int (fun _ _ => rfl)))), ?_⟩
    cases o with
    | none =>
      obtain rfl : v = .non := ho
      exact ⟨_, rfl, rfl, true, rfl, iteT q⟩
    | some e =>
      obtain ⟨a, rfl, ha, mk⟩ := ho
      exact ⟨_, rfl, rfl, false, rfl, iteF ⟨_, rfl, a, _, 1, _, rfl, rfl, SqT.of ha, at1 e, q⟩⟩
abbrev rowN : List Str := ["piece", "opens", "closes", "inside", "moved", "balance", "entry"]
theorem scRow : FnScope rowN ["piece", "opens", "closes", "inside"] (defScope sRow) := ⟨rfl, rfl, rfl, by decide +kernel, rfl, by decide +kernel, by decide +kernel⟩
set_option maxHeartbeats 2000000 in
theorem ok_row {f cA T fC fN fH : Addr} {dC dN dH : FuncData} {oc kV doc pm ct : Value} {od an : Option Addr} {osl : Array (Option Value)}
    (lk : K.lookup f = some ⟨oc, od, .func (PySem.W.fnOf "piece_row" "piece_row" (defArgs sRow) (defBody sRow) (defScope sRow) .none kV doc pm an (.ref cA) ct), osl⟩) (cd : PySem.W.codeIn K (.ref cA) "piece_row" = true)
    (TB : GxR.TabB base mg cA T) {Ts : List Addr} (hT : T ∈ Ts) (CH : DefT P w K mg base "change_at" 1 fH dH ["entry", "place"] spChange) (CO : DefT P w K mg base "counted" 1 fC dC ["entry"] spCounted) (NO : DefT P w K mg base "name_of" 1 fN dN ["entry"] spNameOf) (mt : mg "tuple" = none) (ms : mg "sum" = none) :
    FnOk P w K mg base CX0 3 f (PySem.W.fnOf "piece_row" "piece_row" (defArgs sRow) (defBody sRow) (defScope sRow) .none kV doc pm an (.ref cA) ct) ["piece", "opens", "closes", "inside"] (spRow Ts) := by
  refine fn_of lk cd scRow (fun vs H Q E h => ?_) (fun A outer s H vs Q E hr h => ?_)
  · obtain ⟨pc, li, vo, vc, op, cl, tr, k, as, ins, rfl, _⟩ := h
    rfl
  · obtain ⟨pc, li, vo, vc, op, cl, tr, k, as, ins, rfl, hpc, hop, hcl, hli, hin, l30, tg, q⟩ := h
    have nd := scRow.nd
    have hr1 : Room 1 _ := hr.mono (by decide)
    refine ⟨_, PSs.nox (pss_cons (ps_set (i := 4) nd rfl (Or.inl rfl) (pe_sumG (T := T) (c := cA) (k := 1) (own := [("entry", 6)]) (g := gName 6) (tt := tYes) (te := tCall spChange [] E0 (tCons (tVar 6) (tCons (tOp (rIxT K) (tVar 0) (tC (V.int 0))) tNil))) hr (by rfl) ms rfl nd TB rfl ⟨blkOk_by (N := rowN) (sc := defScope sRow) (by decide +kernel), rfl, by decide +kernel, rfl⟩
        (pi_list (pv 3)) (fun _ _ _ _ _ _ => pg_name (i := 6) nd rfl (Or.inl rfl)) (fun _ _ _ _ _ _ _ => pts_nil) (fun _ _ _ _ _ _ hr' => pe_call CH.ok hr' (by rfl) CH.g CH.kp CH.b .nil pass0 (pa_cons (pv 6) (pa_cons (pe_ix ix_tup (pv 0) pe_int (fun _ _ => rfl)) pa_nil)))))
      (pss_cons (ps_set (i := 5) nd rfl (Or.inl rfl) (pe_op op_sub (pe_op op_sub (pe_call CO.ok hr1 (by rfl) CO.g CO.kp CO.b .nil pass0 (pa_cons (pv 2) pa_nil)) (pe_call CO.ok hr1 (by rfl) CO.g CO.kp CO.b .nil pass0 (pa_cons (pv 1) pa_nil))) (pv 4)))
      (pss_one (ps_ret (pe_tup (pa_cons (pv 0) (pa_cons (pe_call NO.ok hr1 (by rfl) NO.g NO.kp NO.b .nil pass0 (pa_cons (pv 1) pa_nil)) (pa_cons (pe_call NO.ok hr1 (by rfl) NO.g NO.kp NO.b .nil pass0 (pa_cons (pv 2) pa_nil)) (pa_cons
        (pe_tupG (T := T) (c := cA) (k := 1) (own := [("entry", 6)]) (g := gName 6) (tt := tYes) (te := tOp (rIxT K) (tVar 6) (tC (V.int 1))) hr (by rfl) mt rfl nd TB rfl ⟨blkOk_by (N := rowN) (sc := defScope sRow) (by decide +kernel), rfl, by decide +kernel, rfl⟩
          (pi_list (pv 3)) (fun _ _ _ _ _ _ => pg_name (i := 6) nd rfl (Or.inl rfl)) (fun _ _ _ _ _ _ _ => pts_nil) (fun _ _ _ _ _ _ hr' => pe_ix ix_tup (pv 6) pe_int (fun _ _ => rfl))) (pa_cons (pv 5) pa_nil)))))))))), ?_⟩
    have la := hin.len
    refine ⟨_, rfl, li, rfl, ⟨_, SqL.of hli⟩, tg T hT, fun H1 tb1 => ?_⟩
    have t1 : TB1 Ts H H1 := .tab tb1 tg hT
    have hli1 := t1.lst hli
    have hin1 := hin.on t1.tk
    have hpc1 := t1.tk _ _ hpc
    refine ⟨fun i n ys H' => n = ins.length - i ∧ i ≤ ins.length ∧ H' = H1 ∧ ys = ((ins.take i).map (Ent.chg tr)).map V.int, ⟨_, rfl, Nat.zero_le _, rfl, rfl⟩, ?_⟩
    rintro i n ys H2 ⟨rfl, hi, rfl, rfl⟩
    by_cases lt : i < ins.length
    · refine .inr ⟨⟨_, _, SqL.of hli1, List.getElem?_eq_getElem (by rw [List.length_map, la]; exact lt)⟩, fun v H3 yl => ?_⟩
      obtain ⟨rfl, yl⟩ := yl
      have gy := yl _ (SqL.of hli1)
      rw [List.getElem?_map] at gy
      obtain ⟨a, ha, rfl⟩ := Option.map_eq_some_iff.mp gy
      obtain ⟨e, hes, hae⟩ := hin1.get ha
      refine ⟨rfl, yesT ⟨_, rfl, _, rfl, pc, _, 0, _, rfl, rfl, SqT.of hpc1, atI_nat (j := 0) rfl, a, e, tr, rfl, hae, ⟨_, rfl⟩, _, Nat.sub_lt_sub_left lt (Nat.lt_succ_self _), rfl, lt, rfl, ?_⟩⟩
      rw [take_snoc hes, List.map_append, List.map_append]
      rfl
    · have ei : i = ins.length := by omega
      subst ei
      refine .inl ⟨⟨_, SqL.of hli1, by rw [List.length_map, la]; exact Nat.le_refl _⟩, fun ns hns => ?_⟩
      have ens : ns = ins.map (Ent.chg tr) := by
        rw [List.take_length] at hns
        have inj : ∀ {xs ys : List Int}, xs.map V.int = ys.map V.int → xs = ys := fun {xs} => by
          induction xs with
          | nil => intro ys h; cases ys with | nil => rfl | cons _ _ => cases h
          | cons x r ih => intro ys h; cases ys with | nil => cases h | cons y s => rw [V.int.inj (List.cons.inj h).1, ih (List.cons.inj h).2]
        exact (inj hns).symm
      subst ens
      refine ⟨_, rfl, vc, cl, rfl, hcl.on t1.tk, _, rfl, vo, op, rfl, hop.on t1.tk, _, _, rfl, rfl, _, rfl, _, _, rfl, rfl, ?_⟩
      refine ⟨_, rfl, _, rfl, vo, op, rfl, hop.on t1.tk, _, rfl, vc, cl, rfl, hcl.on t1.tk, _, rfl, li, rfl, ⟨_, SqL.of hli1⟩, t1.1 T hT, fun H3 tb3 => ?_⟩
      have t3 : TB1 Ts H2 H3 := .tab tb3 t1.1 hT
      have hli3 := t3.lst hli1
      have hin3 := hin1.on t3.tk
      refine ⟨fun i n ys H' => n = ins.length - i ∧ i ≤ ins.length ∧ H' = H3 ∧ ys = ((ins.take i).map Ent.name).map V.str, ⟨_, rfl, Nat.zero_le _, rfl, rfl⟩, ?_⟩
      rintro i n ys H4 ⟨rfl, hi, rfl, rfl⟩
      by_cases lt : i < ins.length
      · refine .inr ⟨⟨_, _, SqL.of hli3, List.getElem?_eq_getElem (by rw [List.length_map, la]; exact lt)⟩, fun v H5 yl => ?_⟩
        obtain ⟨rfl, yl⟩ := yl
        have gy := yl _ (SqL.of hli3)
        rw [List.getElem?_map] at gy
        obtain ⟨a, ha, rfl⟩ := Option.map_eq_some_iff.mp gy
        obtain ⟨e, hes, hae⟩ := hin3.get ha
        refine ⟨rfl, yesT ⟨_, rfl, a, _, 1, _, rfl, rfl, SqT.of hae, at1 e, ?_, _, Nat.sub_lt_sub_left lt (Nat.lt_succ_self _), rfl, lt, rfl, ?_⟩⟩
        · rw [List.length_map, List.length_map, List.length_take]
          exact small1000 (by omega)
        · rw [take_snoc hes, List.map_append, List.map_append]
          rfl
      · have ei : i = ins.length := by omega
        subst ei
        refine .inl ⟨⟨_, SqL.of hli3, by rw [List.length_map, la]; exact Nat.le_refl _⟩, ?_, fun it nit => ?_⟩
        · rw [List.length_map, List.length_map, List.length_take]
          exact small_sz (by omega)
        rw [List.take_length]
        have s5 := @same_new _ _ (.tup ((ins.map Ent.name).map V.str)) nit
        refine ⟨_, rfl, (by show 5 ≤ sizeLine; decide), fun r nr => ?_⟩
        have s6 := s5.trans (@same_new _ _ (.tup [.ref pc, optS (op.map Ent.name), optS (cl.map Ent.name), .ref it, .int (cntO cl - cntO op - (ins.map (Ent.chg tr)).sum)]) nr)
        refine q r _ (t1.tr (t3.tr (.same t3.1 s6))) ⟨pc, it, upd_same, s6 _ _ (t3.tk _ _ hpc1), ?_⟩
        exact (same_new nr) _ _ upd_same
end
/-! ### pieces of a track, of all -/
theorem mark_in (e : Ent) : inV (.str e.word) [V.str "count", .str "look"] = e.mark := by
  have h1 : inV (.str "come") [V.str "count", .str "look"] = false := by decide +kernel
  have h2 : inV (.str "go") [V.str "count", .str "look"] = false := by decide +kernel
  have h3 : inV (.str "move") [V.str "count", .str "look"] = false := by decide +kernel
  have h4 : inV (.str "some") [V.str "count", .str "look"] = false := by decide +kernel
  have h5 : inV (.str "swap") [V.str "count", .str "look"] = false := by decide +kernel
  have h6 : inV (.str "count") [V.str "count", .str "look"] = true := by decide +kernel
  have h7 : inV (.str "look") [V.str "count", .str "look"] = true := by decide +kernel
  cases e
  · exact h1
  · exact h2
  · exact h3
  · exact h4
  · exact h5
  · exact h6
  · exact h7
theorem cut_len (tr : Str) : ∀ (es : List Ent) (rows : List Row) (op : Option Ent) (ins : List Ent), (cutRows tr es rows op ins).length ≤ rows.length + es.length + 1
  | [], rows, op, ins => by
    show (rows ++ [_]).length ≤ _
    rw [List.length_append]
    simp
  | e :: r, rows, op, ins => by
    show (if e.mark = true then _ else _ : List Row).length ≤ _
    split
    · have := cut_len tr r (rows ++ [mkRow tr rows.length op (some e) ins]) (some e) []
      rw [List.length_append] at this
      simp only [List.length_cons, List.length_nil] at this ⊢
      omega
    · have := cut_len tr r rows op (ins ++ [e])
      simp only [List.length_cons]
      omega
theorem inV_iff {x : Str} {ys : List Str} : inV (.str x) (ys.map V.str) = decide (x ∈ ys) := by
  unfold inV
  rw [List.any_map]
  by_cases h : x ∈ ys
  · rw [decide_eq_true h]
    exact List.any_eq_true.mpr ⟨x, h, by show (x == x) = true; simp⟩
  · rw [decide_eq_false h, List.any_eq_false]
    intro y hy z
    have z' : (y == x) = true := z
    exact h (eq_of_beq z' ▸ hy)
theorem all_flat (ys : List Str) : (ys.map V.str).all flatV = true := by
  rw [List.all_map]
  exact List.all_eq_true.mpr fun y _ => rfl
theorem scal_good (e : Ent) (g : Str) : scal e.goodV (.str g) = true := by cases e <;> rfl
section
variable {P : Program} {w : World} {K : PySem.W.Frag} {mg : Str → Option Value} {base : Heap}
abbrev potN : List Str := ["track", "told", "rows", "opens", "inside", "entry"]
theorem scPoT : FnScope potN ["track", "told"] (defScope sPoT) := ⟨rfl, rfl, rfl, by decide +kernel, rfl, by decide +kernel, by decide +kernel⟩
set_option maxHeartbeats 2000000 in
theorem ok_pot {f fR : Addr} {fd dR : FuncData} {Ts : List Addr} (F : Fun K "pieces_of_track" "pieces_of_track" sPoT f fd) (RW : DefT P w K mg base "piece_row" 3 fR dR ["piece", "opens", "closes", "inside"] (spRow Ts)) (ml : mg "len" = none) :
    FnOk P w K mg base CX0 4 f fd ["track", "told"] (spPoT Ts) := by
  refine F.ok scPoT (fun vs H Q E h => ?_) (fun cdv A outer s H vs Q E hr h => ?_)
  · obtain ⟨l, tr, as, es, rfl, _⟩ := h
    rfl
  · obtain ⟨l, tr, as, es, rfl, hl, hen, l30, tg, q⟩ := h
    have nd := scPoT.nd
    refine ⟨_, pss_cons (ps_set (i := 2) nd rfl (Or.inl rfl) (pe_lst pa_nil))
      (pss_cons (ps_set (i := 3) nd rfl (Or.inl rfl) pe_non)
      (pss_cons (ps_set (i := 4) nd rfl (Or.inl rfl) (pe_lst pa_nil))
      (pss_cons (ps_for PassesOwn.never rfl (pi_list (pv 1)) (pg_name (i := 5) nd rfl (Or.inl rfl))
        (pss_one (ps_if (pt_cmpR op_in_seq (pe_ix ix_tup (pv 5) pe_int (fun _ _ => rfl)) (pe_tup (pa_cons pe_str (pa_cons pe_str pa_nil))) (by rfl))
          (pss_cons (ps_expr (pe_bm PySem.F.plainAttrs_list PySem.F.slot_list_append PySem.F.type_list_append mt_append (pv 2) (pa_cons (pe_call RW.ok hr (by rfl) RW.g RW.kp RW.b .nil pass0 (pa_cons (pe_tup (pa_cons (pv 0) (pa_cons (pe_callB call_len_seq (by rfl) ml PySem.boot_len (pa_cons (pv 2) pa_nil)) pa_nil))) (pa_cons (pv 3) (pa_cons (pv 5) (pa_cons (pv 4) pa_nil))))) pa_nil)))
          (pss_cons (ps_set (i := 3) nd rfl (Or.inl rfl) (pv 5)) (pss_one (ps_set (i := 4) nd rfl (Or.inl rfl) (pe_lst pa_nil)))))
          (pss_one (ps_expr (pe_bm PySem.F.plainAttrs_list PySem.F.slot_list_append PySem.F.type_list_append mt_append (pv 4) (pa_cons (pv 5) pa_nil)))))))
      (pss_cons (ps_expr (pe_bm PySem.F.plainAttrs_list PySem.F.slot_list_append PySem.F.type_list_append mt_append (pv 2) (pa_cons (pe_call RW.ok hr (by rfl) RW.g RW.kp RW.b .nil pass0 (pa_cons (pe_tup (pa_cons (pv 0) (pa_cons (pe_callB call_len_seq (by rfl) ml PySem.boot_len (pa_cons (pv 2) pa_nil)) pa_nil))) (pa_cons (pv 3) (pa_cons pe_non (pa_cons (pv 4) pa_nil))))) pa_nil)))
      (pss_one (ps_ret (pv 2))))))), ?_⟩
    refine ⟨Nat.zero_le _, fun R nR => ⟨Nat.zero_le _, fun I nI => ?_⟩⟩
    have sR := @same_new _ _ (.lst []) nR
    have sI := @same_new _ _ (.lst []) nI
    have nRI : R ≠ I := fun z => by rw [← z, upd_same] at nI; cases nI
    have nI0 : H I = none := sR.free nI
    have s0 := sR.trans sI
    have hI0 : (upd (upd H R (.lst [])) I (.lst [])) I = some (.lst []) := upd_same
    have hR0 : (upd (upd H R (.lst [])) I (.lst [])) R = some (.lst []) := (upd_ne nRI).trans upd_same
    generalize upd (upd H R (.lst [])) I (.lst []) = H0 at s0 hI0 hR0
    -- a row put behind the others
    have la := hen.len
    refine ⟨_, rfl, l, rfl, ⟨_, SqL.of (s0 _ _ hl)⟩, ?_⟩
    refine for_list (K := K) (a := l) (xs := as.map V.ref) (fun i σ H' => ∃ (I : Addr) (rs : List Addr) (rows : List Row) (vo : V) (op : Option Ent) (ias : List Addr) (ins : List Ent) (y5 : Option V), σ = [some (.str tr), some (.ref l), some (.ref R), some vo, some (.ref I), y5] ∧
        TB1 Ts H H' ∧ H I = none ∧ R ≠ I ∧ H' R = some (.lst (rs.map V.ref)) ∧ RowsAt H' rs rows ∧ EntO H' vo op ∧ H' I = some (.lst (ias.map V.ref)) ∧ EntsAt H' ias ins ∧ rows.length ≤ i ∧ ins.length ≤ i ∧ cutRows tr es [] none [] = cutRows tr (es.drop i) rows op ins)
      ⟨I, [], [], .non, none, [], [], _, rfl, .same tg s0, nI0, nRI, hR0, .nil, rfl, hI0, .nil, Nat.le_refl _, Nat.le_refl _, rfl⟩ (fun i σ H' _ z => by obtain ⟨_, _, _, _, _, _, _, _, _, z, _⟩ := z; exact SqL.of (z.lst hl)) ?_ ?_
    · rintro i x σ H1 hx ⟨I, rs, rows, vo, op, ias, ins, y5, rfl, t1, nI0, nRI, hR1, ro1, eo1, hI1, en1, lr, li, ec⟩
      rw [List.getElem?_map] at hx
      obtain ⟨a, ha, rfl⟩ := Option.map_eq_some_iff.mp hx
      obtain ⟨e, hes, hae⟩ := (hen.on t1.tk).get ha
      have lt : i < es.length := (List.getElem?_eq_some_iff.mp hes).1
      have dr : es.drop i = e :: es.drop (i + 1) := by
        rw [List.drop_eq_getElem_cons lt]
        rw [List.getElem?_eq_getElem lt] at hes
        rw [Option.some.inj hes]
      rw [dr] at ec
      refine ⟨_, rfl, a, _, 0, _, rfl, rfl, SqT.of hae, at0 e, (by show 2 ≤ sizeLine; decide), fun tq ntq => ?_⟩
      have s2 := @same_new _ _ (.tup [V.str "count", .str "look"]) ntq
      have h2 : (upd H1 tq (.tup [V.str "count", .str "look"])) tq = some (.tup [V.str "count", .str "look"]) := upd_same
      generalize upd H1 tq (.tup [V.str "count", .str "look"]) = H2 at s2 h2
      have t2 := t1.tr (.same t1.1 s2)
      refine ⟨tq, _, rfl, .inr (SqT.of h2), rfl, rfl, e.mark, congrArg V.bl (mark_in e), ?_⟩
      by_cases mk : e.mark = true
      · rw [mk]
        refine iteT ?_
        refine ⟨_, rfl, .inl ⟨rfl, _, SqL.of (s2 _ _ hR1)⟩, _, rfl, _, rfl, R, _, rfl, .inl (SqL.of (s2 _ _ hR1)), (by show 2 ≤ sizeLine; decide), fun pc npc => ?_⟩
        have s3 := @same_new _ _ (.tup [V.str tr, .int (((rs.map V.ref).length : Nat) : Int)]) npc
        have h3 : (upd H2 pc (.tup [V.str tr, .int (((rs.map V.ref).length : Nat) : Int)])) pc = some (.tup [V.str tr, .int (((rs.map V.ref).length : Nat) : Int)]) := upd_same
        have t3 := t2.tr (.same t2.1 s3)
        have s23 := s2.trans s3
        refine ⟨_, rfl, _, rfl, _, rfl, pc, I, vo, .ref a, op, some e, tr, (rs.map V.ref).length, ias, ins, rfl, h3, (eo1.on (TK.of s23)), ⟨a, rfl, s23 _ _ hae, mk⟩, s23 _ _ hI1, en1.on (TK.of s23), by omega, t3.1, fun r H4 t4 rw4 => ?_⟩
        have t34 := t3.tr t4
        have hR4 := t4.lst (s23 _ _ hR1)
        have lrs : rs.length = rows.length := Paired.length ro1
        refine ⟨R, _, _, rfl, rfl, hR4, (by rw [List.length_map]; exact small1000 (by omega)), _, rfl, Nat.zero_le _, fun I2 nI2 => ?_⟩
        have nR0 : H R = none := nR
        have t5 := t34.put (o := .lst (rs.map V.ref ++ [V.ref r])) nR0 hR4
        have k5 : TK H4 (upd H4 R (.lst (rs.map V.ref ++ [V.ref r]))) := TK.upd fun xs e => by rw [hR4] at e; cases e
        have hR5 : (upd H4 R (.lst (rs.map V.ref ++ [V.ref r]))) R = some (.lst ((rs ++ [r]).map V.ref)) := by rw [upd_same, List.map_append]; rfl
        generalize upd H4 R (.lst (rs.map V.ref ++ [V.ref r])) = H5 at nI2 t5 k5 hR5
        have s6 := @same_new _ _ (.lst []) nI2
        have nI20 : H I2 = none := t5.free _ nI2
        have nRI2 : R ≠ I2 := ne_of_none hR5 nI2
        refine ⟨I2, rs ++ [r], rows ++ [mkRow tr rows.length op (some e) ins], _, some e, [], [], _, rfl, t5.tr (.same t5.1 s6), nI20, nRI2, s6 _ _ hR5, ?_, ⟨a, rfl, s6 _ _ (k5 _ _ (t4.tk _ _ (s23 _ _ hae))), mk⟩, upd_same, .nil, ?_, Nat.zero_le _, ?_⟩
        · refine Paired.snoc ((((ro1.on (TK.of s23)).on t4.tk).on k5).on (TK.of s6)) ?_
          rw [List.length_map, lrs] at rw4
          exact (rw4.on k5).on (TK.of s6)
        · rw [List.length_append]
          simp
          omega
        · rw [ec]
          exact if_pos mk
      · rw [Bool.eq_false_iff.mpr mk]
        refine iteF ?_
        have hI2 := s2 _ _ hI1
        refine ⟨_, rfl, .inl ⟨rfl, _, SqL.of hI2⟩, _, rfl, I, _, _, rfl, rfl, hI2, (by rw [List.length_map, en1.len]; exact small1000 (by omega)), ?_⟩
        have k5 : TK H2 (upd H2 I (.lst (ias.map V.ref ++ [V.ref a]))) := TK.upd fun xs e => by rw [hI2] at e; cases e
        refine ⟨I, rs, rows, vo, op, ias ++ [a], ins ++ [e], _, rfl, t2.put nI0 hI2, nI0, nRI, (upd_ne nRI).trans (s2 _ _ hR1), (ro1.on (TK.of s2)).on k5, (eo1.on (TK.of s2)).on k5, ?_, EntsAt.snoc ((en1.on (TK.of s2)).on k5) (k5 _ _ (s2 _ _ hae)), by omega, ?_, ?_⟩
        · rw [upd_same, List.map_append]
          rfl
        · rw [List.length_append]
          simp
          omega
        · rw [ec]
          exact if_neg mk
    · rintro σ H1 ⟨I, rs, rows, vo, op, ias, ins, y5, rfl, t1, nI0, nRI, hR1, ro1, eo1, hI1, en1, lr, li, ec⟩
      rw [List.length_map, la] at lr li ec
      rw [List.drop_length] at ec
      refine ⟨_, rfl, .inl ⟨rfl, _, SqL.of hR1⟩, _, rfl, _, rfl, R, _, rfl, .inl (SqL.of hR1), (by show 2 ≤ sizeLine; decide), fun pc npc => ?_⟩
      have s3 := @same_new _ _ (.tup [V.str tr, .int (((rs.map V.ref).length : Nat) : Int)]) npc
      have h3 : (upd H1 pc (.tup [V.str tr, .int (((rs.map V.ref).length : Nat) : Int)])) pc = some (.tup [V.str tr, .int (((rs.map V.ref).length : Nat) : Int)]) := upd_same
      have t3 := t1.tr (.same t1.1 s3)
      refine ⟨_, rfl, _, rfl, pc, I, vo, .non, op, none, tr, (rs.map V.ref).length, ias, ins, rfl, h3, (eo1.on (TK.of s3)), rfl, s3 _ _ hI1, en1.on (TK.of s3), by omega, t3.1, fun r H4 t4 rw4 => ?_⟩
      have t34 := t3.tr t4
      have hR4 := t4.lst (s3 _ _ hR1)
      have lrs : rs.length = rows.length := Paired.length ro1
      refine ⟨R, _, _, rfl, rfl, hR4, (by rw [List.length_map]; exact small1000 (by omega)), _, rfl, ?_⟩
      have k5 : TK H4 (upd H4 R (.lst (rs.map V.ref ++ [V.ref r]))) := TK.upd fun xs e => by rw [hR4] at e; cases e
      refine q R (rs ++ [r]) _ (t34.put nR hR4) nR ?_ ?_
      · rw [upd_same, List.map_append]
        rfl
      · rw [ec]
        rw [List.length_map, lrs] at rw4
        exact Paired.snoc (((ro1.on (TK.of s3)).on t4.tk).on k5) (rw4.on k5)
end
section
variable {P : Program} {w : World} {K : PySem.W.Frag} {mg : Str → Option Value} {base : Heap}
abbrev piecesN : List Str := ["house", "good", "told", "rows", "track", "entry"]
theorem scPieces : FnScope piecesN ["house", "good"] (defScope sPieces) := ⟨rfl, rfl, rfl, by decide +kernel, rfl, by decide +kernel, by decide +kernel⟩
theorem told_len (g : Str) (es : List Ent) : (toldOf g es).length ≤ es.length := by
  unfold toldOf
  refine Nat.le_trans (List.length_filter_le _ _) ?_
  rw [along_len]
  exact Nat.le_refl _
theorem on_len (t : Str) (es : List Ent) : (onTrack t es).length ≤ es.length := List.length_filter_le _ _
theorem flat_len {P : List Str} {f : Str → List Row} {n : Nat} (h : ∀ t, (f t).length ≤ n) : ∀ k, ((P.take k).flatMap f).length ≤ k * n
  | 0 => by simp
  | k + 1 => by
    by_cases z : k < P.length
    · rw [take_snoc (List.getElem?_eq_getElem z), List.flatMap_append, List.length_append, Nat.succ_mul]
      have := flat_len (P := P) h k
      have h2 := h P[k]
      simp only [List.flatMap_cons, List.flatMap_nil, List.append_nil]
      omega
    · rw [List.take_of_length_le (by omega)]
      have := flat_len (P := P) h k
      rw [List.take_of_length_le (by omega)] at this
      rw [Nat.succ_mul]
      omega
theorem RowsAt.app {H : Hp} {rs qs : List Addr} {xs ys : List Row} (a : RowsAt H rs xs) (b : RowsAt H qs ys) : RowsAt H (rs ++ qs) (xs ++ ys) := by
  induction a with
  | nil => exact b
  | cons h _ ih => exact .cons h ih
set_option maxHeartbeats 2000000 in
theorem ok_pieces {f fA fG fT fP : Addr} {fd dA dG dT dP : FuncData} {Ts : List Addr} (F : Fun K "pieces" "pieces" sPieces f fd) (AL : DefT P w K mg base "along_tracks" 3 fA dA ["house"] (spAlong Ts)) (GO : DefT P w K mg base "good_of" 1 fG dG ["entry"] spGood)
    (PT : DefT P w K mg base "pieces_of_track" 4 fT dT ["track", "told"] (spPoT Ts)) (PO : DefT P w K mg base "places_of" 1 fP dP ["entry"] spPlaces) : FnOk P w K mg base CX0 5 f fd ["house", "good"] (spPieces Ts) := by
  refine F.ok scPieces (fun vs H Q E h => ?_) (fun cdv A outer s H vs Q E hr h => ?_)
  · obtain ⟨h, Ps, G, es, m, g, rfl, _⟩ := h
    rfl
  · obtain ⟨h, Ps, G, es, m, g, rfl, ho, gd, m30, tg, q⟩ := h
    have nd := scPieces.nd
    have hr1 : Room 1 _ := hr.mono (by decide)
    have hr3 : Room 3 _ := hr.mono (by decide)
    refine ⟨_, pss_cons (ps_setLc (i := 2) (own := [("entry", 5)]) (g := gName 5) (te := tVar 5) rfl nd rfl rfl (sw_true rfl rfl rfl (by decide +kernel)) (pi_list (pe_call AL.ok hr3 (by rfl) AL.g AL.kp AL.b .nil pass0 (pa_cons (pv 0) pa_nil)))
          (blkOk_by (N := piecesN) (sc := defScope sPieces) (by decide +kernel)) (fun _ _ _ _ _ => pg_name (i := 5) nd rfl (Or.inl rfl)) (fun _ _ _ _ _ => pts_one (pt_cmpR op_eq (pe_call GO.ok hr1 (by rfl) GO.g GO.kp GO.b .nil pass0 (pa_cons (pv 5) pa_nil)) (pv 1) (nomark _))) (fun _ _ _ _ _ => pv 5))
      (pss_cons (ps_set (i := 3) nd rfl (Or.inl rfl) (pe_lst pa_nil))
      (pss_cons (ps_for PassesOwn.never rfl (pi_tup (pe_ix ix_tup (pv 0) pe_int (fun _ _ => rfl))) (pg_name (i := 4) nd rfl (Or.inr rfl))
        (pss_one (ps_expr (pe_bm PySem.F.plainAttrs_list PySem.F.slot_list_extend PySem.F.type_list_extend mt_extend (pv 3) (pa_cons (pe_call PT.ok hr (by rfl) PT.g PT.kp PT.b .nil pass0 (pa_cons (pv 4) (pa_cons
          (pe_lc (own := [("entry", 5)]) (g := gName 5) (tt := tTest (tOp (rIn K false) (tVar 4) (tCall spPlaces [] E0 (tCons (tVar 5) tNil)))) (te := tVar 5) rfl nd (pi_list (pv 2)) (blkOk_by (N := piecesN) (sc := defScope sPieces) (by decide +kernel)) (fun _ _ _ _ _ => pg_name (i := 5) nd rfl (Or.inl rfl))
            (fun _ _ _ _ _ => pts_one (pt_cmpR op_in_seq (pv 4) (pe_call PO.ok hr1 (by rfl) PO.g PO.kp PO.b .nil pass0 (pa_cons (pv 5) pa_nil)) (by rfl))) (fun _ _ _ _ _ => pv 5)) pa_nil))) pa_nil)))))
      (pss_one (ps_ret (pv 3))))), ?_⟩
    refine ⟨_, rfl, h, Ps, G, es, m, rfl, ho, gd, m30, tg, fun l as H1 t1 nl hl en => ⟨l, rfl, ⟨_, SqL.of hl⟩, fun D nD => ?_⟩⟩
    have la := en.len
    rw [along_len] at la
    have nD0 : H D = none := t1.free _ nD
    have lm : es.length = m := gd.many
    refine lc_list (K := K) (a := l) (xs := as.map V.ref) (fun i H' => Same H1 H' ∧ ∃ ts : List Addr, H' D = some (.lst (ts.map V.ref)) ∧ EntsAt H' ts (((along es).take i).filter fun e => decide (e.goodV = .str g)))
      ⟨same_new nD, [], upd_same, .nil⟩ (fun i H' _ z => SqL.of (z.1 _ _ hl)) ?_ ?_
    · rintro i x H2 hx ⟨s2, ts, hD2, en2⟩
      rw [List.getElem?_map] at hx
      obtain ⟨a, ha, rfl⟩ := Option.map_eq_some_iff.mp hx
      obtain ⟨e, hes, hae⟩ := (en.on (TK.of s2)).get ha
      have lt : i < as.length := (List.getElem?_eq_some_iff.mp ha).1
      refine ⟨rfl, _, rfl, a, e, rfl, hae, _, rfl, scal_good e g, _, rfl, ?_⟩
      by_cases z : e.goodV = .str g
      · rw [decide_eq_true z]
        have k3 : TK H2 (upd H2 D (.lst (ts.map V.ref ++ [V.ref a]))) := TK.upd fun xs e => by rw [hD2] at e; cases e
        refine iteT ⟨_, rfl, _, hD2, ?_, fun b o e => (upd_ne (ne_of_none e nD)).trans (s2 b o e), ts ++ [a], ?_, ?_⟩
        · rw [List.length_map, en2.len]
          exact small1000 (by have := List.length_filter_le (fun e => decide (Ent.goodV e = .str g)) ((along es).take i); rw [List.length_take, along_len] at this; omega)
        · rw [upd_same, List.map_append]
          rfl
        · rw [take_snoc hes, List.filter_append]
          have f1 : [e].filter (fun e => decide (e.goodV = .str g)) = [e] := by simp [z]
          rw [f1]
          exact EntsAt.snoc (en2.on k3) (k3 _ _ hae)
      · rw [decide_eq_false z]
        refine iteF ⟨s2, ts, hD2, ?_⟩
        rw [take_snoc hes, List.filter_append]
        have f1 : [e].filter (fun e => decide (e.goodV = .str g)) = [] := by simp [z]
        rw [f1, List.append_nil]
        exact en2
    · rintro H2 ⟨s2, ts, hD2, en2⟩
      rw [List.length_map, la, ← along_len es, List.take_length] at en2
      have en2' : EntsAt H2 ts (toldOf g es) := en2
      have t2 := t1.tr (.same t1.1 s2)
      refine ⟨Nat.zero_le _, fun R nR => ?_⟩
      have nR0 : H R = none := t2.free _ nR
      have nDR : D ≠ R := ne_of_none hD2 nR
      have s3 := @same_new _ _ (.lst []) nR
      have hR3 : (upd H2 R (.lst [])) R = some (.lst []) := upd_same
      generalize upd H2 R (.lst []) = H3 at s3 hR3
      have t3 := t2.tr (.same t2.1 s3)
      obtain ⟨hp, hg, he, tps, g1, g2, g3, g4, g5⟩ := ho.ex
      refine ⟨_, rfl, h, _, 0, _, rfl, rfl, SqT.of (t3.tk _ _ g1), atI_nat (j := 0) rfl, hp, rfl, ⟨_, SqT.of (t3.tk _ _ g2)⟩, ?_⟩
      have cl31 : ∀ t, (cutRows t (onTrack t (toldOf g es)) [] none []).length ≤ 31 := fun t => by
        have h1 := cut_len t (onTrack t (toldOf g es)) [] none []
        have h2 := on_len t (toldOf g es)
        have h3 := told_len g es
        simp only [List.length_nil] at h1
        omega
      refine for_tup (K := K) (a := hp) (xs := Ps.map V.str) (fun i σ H' => ∃ (rs : List Addr) (y4 : Option V), σ = [some (.ref h), some (.str g), some (.ref D), some (.ref R), y4, none] ∧ TB1 Ts H H' ∧ H' D = some (.lst (ts.map V.ref)) ∧ EntsAt H' ts (toldOf g es) ∧
          H' R = some (.lst (rs.map V.ref)) ∧ RowsAt H' rs ((Ps.take i).flatMap fun t => cutRows t (onTrack t (toldOf g es)) [] none []))
        ⟨[], _, rfl, t3, s3 _ _ hD2, en2'.on (TK.of s3), hR3, .nil⟩ (fun i σ H' _ z => by obtain ⟨_, _, _, z, _⟩ := z; exact SqT.of (z.tk _ _ g2)) ?_ ?_
      · rintro i x σ H4 hx ⟨rs, y4, rfl, t4, hD4, en4, hR4, ro4⟩
        rw [List.getElem?_map] at hx
        obtain ⟨t, ht, rfl⟩ := Option.map_eq_some_iff.mp hx
        have lt : i < Ps.length := (List.getElem?_eq_some_iff.mp ht).1
        refine ⟨_, rfl, .inl ⟨rfl, _, SqL.of hR4⟩, _, rfl, _, rfl, D, rfl, ⟨_, SqL.of hD4⟩, fun C nC => ?_⟩
        have nC0 : H C = none := t4.free _ nC
        refine lc_list (K := K) (a := D) (xs := ts.map V.ref) (fun j H' => Same H4 H' ∧ ∃ us : List Addr, H' C = some (.lst (us.map V.ref)) ∧ EntsAt H' us (onTrack t ((toldOf g es).take j)))
          ⟨same_new nC, [], upd_same, .nil⟩ (fun j H' _ z => SqL.of (z.1 _ _ hD4)) ?_ ?_
        · rintro j x H5 hx ⟨s5, us, hC5, en5⟩
          rw [List.getElem?_map] at hx
          obtain ⟨a, ha, rfl⟩ := Option.map_eq_some_iff.mp hx
          obtain ⟨e, hes, hae⟩ := (en4.on (TK.of s5)).get ha
          refine ⟨rfl, _, rfl, _, rfl, a, e, rfl, hae, fun tp H6 s6 h6 => ?_⟩
          refine ⟨tp, _, rfl, .inr (SqT.of h6), rfl, all_flat _, decide (t ∈ e.places), congrArg V.bl inV_iff, ?_⟩
          have hC6 := s6 _ _ hC5
          by_cases z : t ∈ e.places
          · rw [decide_eq_true z]
            have k7 : TK H6 (upd H6 C (.lst (us.map V.ref ++ [V.ref a]))) := TK.upd fun xs e => by rw [hC6] at e; cases e
            refine iteT ⟨_, rfl, _, hC6, ?_, fun b o e => (upd_ne (ne_of_none e nC)).trans (s6 _ _ (s5 b o e)), us ++ [a], ?_, ?_⟩
            · rw [List.length_map, en5.len]
              exact small1000 (by have := on_len t ((toldOf g es).take j); have h3 := told_len g es; rw [List.length_take] at this; omega)
            · rw [upd_same, List.map_append]
              rfl
            · rw [take_snoc hes]
              unfold onTrack
              rw [List.filter_append]
              have f1 : [e].filter (fun e => decide (t ∈ e.places)) = [e] := by simp [z]
              rw [f1]
              exact EntsAt.snoc ((en5.on (TK.of s6)).on k7) (k7 _ _ (s6 _ _ hae))
          · rw [decide_eq_false z]
            refine iteF ⟨s5.trans s6, us, hC6, ?_⟩
            rw [take_snoc hes]
            unfold onTrack
            rw [List.filter_append]
            have f1 : [e].filter (fun e => decide (t ∈ e.places)) = [] := by simp [z]
            rw [f1, List.append_nil]
            exact en5.on (TK.of s6)
        · rintro H5 ⟨s5, us, hC5, en5⟩
          rw [List.length_map, en4.len, List.take_length] at en5
          have t5 := t4.tr (.same t4.1 s5)
          refine ⟨C, t, us, _, rfl, hC5, en5, ?_, t5.1, fun r qs H6 t6 nr hr6 ro6 => ?_⟩
          · have h2 := on_len t (toldOf g es)
            have h3 := told_len g es
            omega
          have hR6 := t6.lst (s5 _ _ hR4)
          have k7 : TK H6 (upd H6 R (.lst (rs.map V.ref ++ qs.map V.ref))) := TK.upd fun xs e => by rw [hR6] at e; cases e
          have nDR7 : D ≠ R := nDR
          have l1 : rs.length ≤ i * 31 := by
            rw [Paired.length ro4]
            exact flat_len cl31 i
          have l2 : qs.length ≤ 31 := by
            rw [Paired.length ro6]
            exact cl31 t
          refine ⟨R, r, _, _, rfl, rfl, hR6, hr6, small_sz (by rw [List.length_map, List.length_map]; have := gd.le; omega), ⟨rs ++ qs, _, rfl, (t5.tr t6).put nR0 hR6, (upd_ne nDR7).trans (t6.lst (s5 _ _ hD4)), ((en4.on (TK.of s5)).on t6.tk).on k7, ?_, ?_⟩⟩
          · rw [upd_same, List.map_append]
          · rw [take_snoc ht, List.flatMap_append]
            simp only [List.flatMap_cons, List.flatMap_nil, List.append_nil]
            exact RowsAt.app (((ro4.on (TK.of s5)).on t6.tk).on k7) (ro6.on k7)
      · rintro σ H4 ⟨rs, y4, rfl, t4, hD4, en4, hR4, ro4⟩
        rw [List.length_map, List.take_length] at ro4
        exact ⟨_, rfl, q R rs H4 t4 nR0 hR4 ro4⟩
end
/-! ### dict comprehensions, the dict of any kind -/
namespace DcG
abbrev newD : Obj := { cls := .type "dict", data := .dict #[] }
/-- a kind of dict: the empty one, and what a put makes of it -/
structure DKind where
  e0 : Addr → HO
  put : Hp → Addr → V → V → HO → Prop
structure KOk (P : Program) (w : World) (DK : DKind) : Prop where
  new : ∀ (hp : Heap) (H : Hp), sysModules < hp.objs.size → ObjOk P w H (hp.push newD) hp.objs.size (DK.e0 hp.objs.size)
  st : ∀ (X : Cx) (pins : List (Addr × Obj)) (σ : L2.St) (H : Hp) (z : Shared) (d : Addr) (y v : V) (o : HO) (u r : Value) (Q : Unit → Shared → Prop) (E : Value → Shared → Prop), X.prog = P → X.w = w → X.A.units + 1 < cLine → Inv X pins σ H z → DK.put H d y v o → RelV y u → RelV v r →
    (∀ z', Inv X pins σ (upd H d o) z' → Q () z') → wpAny (model P w) X.A (dictSet d u r) Q E z
def tDcK (DK : DKind) (wi : TI) (g : TG) (tt : TT) (tk tv : TE) (vs : List Nat) : TE := fun σ H Q => wi σ H fun J Ha => ∀ d, Ha d = none → ∃ W : Nat → Nat → Hp → Prop, (∃ m, W 0 m (upd Ha d (DK.e0 d))) ∧ ∀ i m Hb, W i m Hb →
  (J.stop i Hb ∧ Q (.ref d) Hb) ∨ (J.go i Hb ∧ ∃ Nx : Hp → Prop, (∀ H', Nx H' → ∃ m', m' < m ∧ W (i + 1) m' H') ∧ ∀ x H', J.yld i Hb x H' → g x (wipe σ vs) H' fun τ Hc => wipe τ vs = wipe σ vs ∧ tt τ Hc fun b Hd =>
    if b = true then tk τ Hd fun y He => tv τ He fun v Hf => ∃ o, DK.put Hf d y v o ∧ Nx (upd Hf d o) else Nx Hd)
section
variable {X : Cx}
theorem core1 {DK : DKind} {pins : List (Addr × Obj)} {z : Shared} {σ : L2.St} {H : Hp} {Q : VK} {kx vx tg iter : Expr} {ifs : List Expr} {scope : Scope} {own : List (Str × Nat)} {pos pos' : Pos} {wi : TI} {g : TG} {tt : TT} {tk tv : TE} {use : Option (Value → Sem Unit)} {Qf : Value → Shared → Prop}
    (KO : KOk X.prog X.w DK) (hu : X.A.units + 1 < cLine) (calm : X.calm = true) (ndN : X.N.Nodup) (I : Inv X pins σ H z) (hi : PI X tg iter wi) (ok : BlkOk X.N X.env.scope scope own)
    (Hg : ∀ (z : Shared) (H : Hp) (C : Addr) (cl : List (Str × Addr)) (fp : List Addr), PG (X.blk z H scope (compEnvC scope cl C X.env) fp) tg g)
    (Ht : ∀ (z : Shared) (H : Hp) (C : Addr) (cl : List (Str × Addr)) (fp : List Addr), PTs (X.blk z H scope (compEnvC scope cl C X.env) fp) ifs tt)
    (Hk : ∀ (z : Shared) (H : Hp) (C : Addr) (cl : List (Str × Addr)) (fp : List Addr), PE (X.blk z H scope (compEnvC scope cl C X.env) fp) kx tk)
    (Hv : ∀ (z : Shared) (H : Hp) (C : Addr) (cl : List (Str × Addr)) (fp : List Addr), PE (X.blk z H scope (compEnvC scope cl C X.env) fp) vx tv)
    (fol : ∀ x, foldedSetIterable iter X.env x = pure x) (h : tDcK DK wi g tt tk tv (own.map (·.2)) σ H Q)
    (back : ∀ d C z' m H', Inv X pins σ H' z' → Q (.ref d) H' → z'.heap.Ns C m → FpOk X pins H' C → compPost (model X.prog X.w) X.A X.xe use Qf (.ref d) C (.ok .next) z') :
    wpAny (model X.prog X.w) X.A (comprehension (.DictComp kx vx [⟨tg, iter, ifs, 0⟩] scope pos) scope X.env pos' newDict false (eval iter X.env) use) Qf X.xe z := by
  have fr : ∀ y ∈ scope.names, y.2 = .free → ∃ c, X.env.cells.lookup y.1 = some c := fun y hy e => (ok.free y hy e).elim (fun k => I.ok.has _ (.inl k)) fun k => I.ok.has _ (.inr k)
  refine wpAny_comprehension_free (use := use) rfl fol (closure_ok fr) ok.kind (fun y hy e => by rw [ok.uniq y hy, e]) (thn (hi.run pins z σ H _ I h) ?_)
  refine fun xv z1 hx => thn hx ?_
  rintro itv z2 ⟨it, fp, tn, J, Ha, rfl, Ia, T, sta, fa, q⟩
  refine wpAny_newObj_type (newEnv_comp ?_)
  obtain ⟨d, ed⟩ : ∃ d, d = z2.heap.objs.size := ⟨_, rfl⟩
  have nd : Ha d = none := Ia.hok.fresh (Nat.le_of_eq ed.symm)
  obtain ⟨W, ⟨m0, w0⟩, turn⟩ := q d nd
  obtain ⟨z3, ez3⟩ : ∃ z3 : Shared, z3 = { z2 with heap := z2.heap.push newD } := ⟨_, rfl⟩
  have hz3 : z3.heap = z2.heap.push newD := by rw [ez3]
  have Ib : Inv X pins σ (upd Ha d (DK.e0 d)) z3 := by
    rw [ez3]
    refine Ia.laid (t' := z2.toks) (fun b o e => Heap.get?_push_of_some _ e) (Nat.le_of_eq ed.symm) ?_
    rw [ed]
    exact KO.new z2.heap _ Ia.big
  have low : ∀ b ∈ fp, b < z2.heap.objs.size := fun b hb => by
    obtain ⟨o, e, _⟩ := T.obj _ _ sta b hb
    exact Heap.lt_size e
  have fb : ∀ b ∈ fp, FpOk X pins (upd Ha d (DK.e0 d)) b ∧ b < z3.heap.objs.size := fun b hb => by
    have lb := low b hb
    have nb : b ≠ d := by rw [ed]; exact Nat.ne_of_lt lb
    exact ⟨⟨(upd_ne nb).trans (fa b hb).1, (fa b hb).2⟩, by rw [hz3, Heap.size_push]; exact Nat.lt_succ_of_lt lb⟩
  have stb : tn 0 z3.heap := T.keep _ _ _ sta fun b _ o e => by rw [hz3]; exact Heap.get?_push_of_some _ e
  have Ic := block_start Ib ok ndN fb
  have PGh := Hg z3 (upd Ha d (DK.e0 d)) z3.heap.objs.size (cellsFrom (z3.heap.objs.size + 1) scope.names (cloFrom X.env.cells scope.names [])) fp
  have PTh := Ht z3 (upd Ha d (DK.e0 d)) z3.heap.objs.size (cellsFrom (z3.heap.objs.size + 1) scope.names (cloFrom X.env.cells scope.names [])) fp
  have PKh := Hk z3 (upd Ha d (DK.e0 d)) z3.heap.objs.size (cellsFrom (z3.heap.objs.size + 1) scope.names (cloFrom X.env.cells scope.names [])) fp
  have PVh := Hv z3 (upd Ha d (DK.e0 d)) z3.heap.objs.size (cellsFrom (z3.heap.objs.size + 1) scope.names (cloFrom X.env.cells scope.names [])) fp
  have nfp : ∀ b ∈ fp, (upd Ha d (DK.e0 d)) b = none := fun b hb => (fb b hb).1.1
  rw [← ed, ← ez3]
  show codeAny _ _ (.compStart (.DictComp kx vx [⟨tg, iter, ifs, 0⟩] scope pos) 0 (.ref it) (.ref d) (compEnvC scope (cellsFrom (z3.heap.objs.size + 1) scope.names (cloFrom X.env.cells scope.names [])) z3.heap.objs.size X.env)) _ { z3 with heap := pushCells (z3.heap.push newD) scope.names }
  generalize ece : compEnvC scope (cellsFrom (z3.heap.objs.size + 1) scope.names (cloFrom X.env.cells scope.names [])) z3.heap.objs.size X.env = ce at Ic PGh PTh PKh PVh ⊢
  have ceL : ce.locals = z3.heap.objs.size := by rw [← ece]; rfl
  generalize upd Ha d (DK.e0 d) = Hc at Ib Ic PGh PTh PKh PVh w0 nfp fb
  generalize ez4 : ({ z3 with heap := pushCells (z3.heap.push newD) scope.names } : Shared) = z4 at Ic ⊢
  have stc : tn 0 z4.heap := T.keep _ _ _ stb fun b _ o e => by rw [← ez4]; exact pushCells_keeps _ _ _ _ (Heap.get?_push_of_some _ e)
  have still : ∀ {σ' : L2.St} {H' : Hp} {z' : Shared}, Inv (X.blk z3 Hc scope ce fp) [] σ' H' z' → (∀ b ∈ fp, H' b = none) → ∀ b ∈ fp, FpOk (X.blk z3 Hc scope ce fp) [] H' b := fun I' hn b hb =>
    ⟨hn b hb, (I'.ok.exf b hb).1, I'.ok.exfs b hb, .inl hb, fun x c e => (I'.ok.exf b hb).2 x c e, fun p hp => absurd (show p ∈ ([] : List (Addr × Obj)) ++ [] from hp) (by simp)⟩
  have lp : codeAny (model X.prog X.w) X.A (.compLoop (.DictComp kx vx [⟨tg, iter, ifs, 0⟩] scope pos) 0 (.ref it) (.ref d) ce) (compPost (model X.prog X.w) X.A X.xe use Qf (.ref d) z3.heap.objs.size) z4 := by
    refine compLoop_anyD (fun n z' => ∃ i H', Inv (X.blk z3 Hc scope ce fp) [] (wipe σ (own.map (·.2))) H' z' ∧ tn i z'.heap ∧ (∀ b ∈ fp, H' b = none) ∧ W i n H') ?_ m0 ⟨0, Hc, Ic, stc, nfp, w0⟩
    rintro n z5 ⟨i, He, Ie, ste, ne, we⟩
    rcases turn i n He we with ⟨stop, qq⟩ | ⟨go, Nx, hNx, step⟩
    · refine thnF (T.done (X.blk z3 Hc scope ce fp) rfl rfl rfl calm i [] z5 _ He (fun _ _ => False) Ie (still Ie ne) ste stop) ?_
      rintro r z6 ⟨rfl, If⟩
      have Ig : Inv X pins σ He z6 := Ib.call' (ch := fp) If.os If.base If.hok If.bare fun b hb => by
        obtain ⟨⟨p0, p1, p2, p3, p4, p5⟩, _⟩ := fb b hb
        exact ⟨p3, p1, p4, p5⟩
      have nL : He z3.heap.objs.size = none := by rw [← ceL]; exact If.free
      obtain ⟨m, hm, _⟩ := If.loc
      have hm' : z6.heap.Ns z3.heap.objs.size m := by rw [← ceL]; exact hm
      exact back d z3.heap.objs.size z6 m He Ig qq hm' (Ib.fpOk (Nat.le_refl _) nL)
    · refine thnF (T.item (X.blk z3 Hc scope ce fp) rfl rfl rfl calm i [] z5 _ He (fun _ _ => False) Ie (still Ie ne) ste go) ?_
      rintro r z6 ⟨u, rfl, h6⟩
      refine thnF h6 ?_
      rintro _ z7 ⟨x, Hg7, I7, r7, y7, st7, n7⟩
      refine thnF (PGh.run _ z7 _ Hg7 x u _ (I7.pinned (still I7 n7) (T.obj _ _ st7)) r7 (step x Hg7 y7)) ?_
      rintro _ z8 ⟨τ, H8, I8, w8, q8⟩
      refine thnF (PTh.run _ z8 τ H8 _ I8 q8) ?_
      rintro b z9 ⟨H9, I9, q9⟩
      have fin : ∀ {z' : Shared} {H' : Hp}, Inv (X.blk z3 Hc scope ce fp) ([] ++ pinsAt fp z7.heap) τ H' z' → Nx H' → ∃ m, m < n ∧ ∃ i H', Inv (X.blk z3 Hc scope ce fp) [] (wipe σ (own.map (·.2))) H' z' ∧ tn i z'.heap ∧ (∀ b ∈ fp, H' b = none) ∧ W i m H' := fun {z' H'} I' nx => by
        obtain ⟨m', hm, w'⟩ := hNx H' nx
        have pn : ∀ b ∈ fp, ∀ o, z7.heap.get? b = some o → z'.heap.get? b = some o ∧ H' b = none := fun b hb o e => by
          have zz := I'.pin (b, o) (List.mem_append_right _ (List.mem_append_right _ (mem_pinsAt hb e)))
          exact ⟨zz.1, zz.2.1⟩
        refine ⟨m', hm, i + 1, H', (I'.unpinned (pins := [])).weak (by rw [← w8, wipe_length]) (fun j v e => ?_), T.keep _ _ _ st7 fun b hb o e => (pn b hb o e).1, fun b hb => ?_, w'⟩
        · rw [← w8] at e
          exact (wipe_some e).1
        · obtain ⟨o, e, _⟩ := T.obj _ _ st7 b hb
          exact (pn b hb o e).2
      cases b with
      | false => exact fin I9 q9
      | true =>
        refine thnF (PKh.run _ z9 τ H9 _ I9 q9) ?_
        rintro uk z10 ⟨yk, H10, I10, r10, q10⟩
        refine thnF (PVh.run _ z10 τ H10 _ I10 q10) ?_
        rintro uv z11 ⟨yv, H11, I11, r11, o, pu, nx⟩
        exact KO.st (X.blk z3 Hc scope ce fp) _ τ H11 z11 d yk yv o uk uv _ _ rfl rfl hu I11 pu r10 r11 fun z12 I12 => fin I12 nx
  exact codeAny_compStart_dict lp (T.self X.A 0 _ _ _ stc lp)
theorem pe_dcK {DK : DKind} {kx vx tg iter : Expr} {ifs : List Expr} {scope : Scope} {own : List (Str × Nat)} {pos : Pos} {wi : TI} {g : TG} {tt : TT} {tk tv : TE} (KO : KOk X.prog X.w DK) (hu : X.A.units + 1 < cLine) (calm : X.calm = true) (ndN : X.N.Nodup) (hi : PI X tg iter wi) (ok : BlkOk X.N X.env.scope scope own)
    (Hg : ∀ (z : Shared) (H : Hp) (C : Addr) (cl : List (Str × Addr)) (fp : List Addr), PG (X.blk z H scope (compEnvC scope cl C X.env) fp) tg g)
    (Ht : ∀ (z : Shared) (H : Hp) (C : Addr) (cl : List (Str × Addr)) (fp : List Addr), PTs (X.blk z H scope (compEnvC scope cl C X.env) fp) ifs tt)
    (Hk : ∀ (z : Shared) (H : Hp) (C : Addr) (cl : List (Str × Addr)) (fp : List Addr), PE (X.blk z H scope (compEnvC scope cl C X.env) fp) kx tk)
    (Hv : ∀ (z : Shared) (H : Hp) (C : Addr) (cl : List (Str × Addr)) (fp : List Addr), PE (X.blk z H scope (compEnvC scope cl C X.env) fp) vx tv) (fol : ∀ x, foldedSetIterable iter X.env x = pure x := by intro _; rfl) :
    PE X (.DictComp kx vx [⟨tg, iter, ifs, 0⟩] scope pos) (tDcK DK wi g tt tk tv (own.map (·.2))) := by
  constructor
  intro pins z σ H Q I h
  rw [arm_eval_DictComp]
  refine core1 KO hu calm ndN I hi ok Hg Ht Hk Hv fol h ?_
  rintro d C z' m H' I' q hm ⟨p0, p1, p2, p3, p4, p5⟩
  exact ⟨m, hm, fun hn sb => ⟨.ref d, H', I'.turned (t' := z'.toks) (fun b o hb e => (sb.2 b hb).trans e) p0 p1 p3 p4 p5, rfl, q⟩⟩
end
/-! keys that are tuples of ints and texts -/
def tupK : DKind := ⟨fun _ => .dT [], fun H d y v o => ∃ (kvs : List (List Key × V)) (k : List Key) (b : Addr), H d = some (.dT kvs) ∧ y = .ref b ∧ H b = some (.tup (k.map kV)) ∧ kvs.length < sizeLine ∧ o = .dT (putK kvs k v)⟩
theorem tupK_ok (P : Program) (w : World) : KOk P w tupK := by
  refine ⟨fun hp H big => ?_, ?_⟩
  · exact dt_empty hp big
  · rintro X pins σ H z d y v o u r Q E rfl rfl hu I ⟨kvs, k, b, hd, rfl, hb, hl, rfl⟩ ry rv h
    obtain rfl : u = Value.ref b := ry
    obtain ⟨sz, nz, xs, rel, dd⟩ := dt_of I.hok hd
    have lx : xs.length ≤ sizeLine := by rw [← Paired.length rel]; exact sz
    have lp : (putK kvs k v).length ≤ sizeLine := Nat.le_trans (length_putK kvs k v) hl
    refine wpAny_dictSet_heap (hsz := lx) (show (tupleKind (mixKind X.prog X.w)).room X.A from Nat.lt_of_succ_lt hu) (key_of I.hok hb) dd fun hn dd' sb => h _ ?_
    obtain ⟨qo, es, ep, a1, a2, a3, a4, _, a5⟩ := dd'
    refine d_write I (by rw [hd]; exact True.intro) sb ⟨qo, a1⟩ ⟨lp, nz, _, (rel.put k hb rv).keeps fun c ys ec => ?_, qo, es, ep, a1, a2, a3, a4, a5⟩
    exact (upd_ne (ne_of ec hd (fun q => nomatch q))).trans ec
/-! keys that are None, ints or texts -/
def lfV : Leaf → V
  | .none => .non
  | .num i => .int i
  | .text x => .str x
theorem lf_is {P : Program} {w : World} {k : Leaf} {u : Value} (r : RelV (lfV k) u) : (leafKind P w).is k u = true := by
  cases k with
  | none =>
    obtain rfl : u = Value.none := r
    rfl
  | num i =>
    obtain ⟨t, rfl⟩ : ∃ t, u = Value.int i t := r
    show (i == i) = true
    simp
  | text x =>
    obtain ⟨t, rfl⟩ : ∃ t, u = Value.str x t := r
    show (x == x) = true
    simp
def LfO (P : Program) (w : World) (d : Addr) (kvs : List (Leaf × V)) : HO := .ext fun h => kvs.length ≤ sizeLine ∧ (d == sysModules) = false ∧ ∃ vs, KV kvs vs ∧ h.DictOf (leafKind P w) d vs
theorem lf_new {P : Program} {w : World} {H : Hp} {h : Heap} {d : Addr} {kvs : List (Leaf × V)} {vs : List (Leaf × Value)} (l : kvs.length ≤ sizeLine) (nz : (d == sysModules) = false) (r : KV kvs vs) (dd : h.DictOf (leafKind P w) d vs) : ObjOk P w H h d (LfO P w d kvs) := by
  have ⟨o, es, ep, ho, _⟩ := dd
  refine ⟨⟨l, nz, vs, r, dd⟩, ⟨o, ho⟩, ?_⟩
  rintro h1 h2 ⟨l1, n1, vs1, r1, o1, es1, ep1, ho1, rest⟩ kp
  exact ⟨l1, n1, vs1, r1, o1, es1, ep1, kp _ ho1, rest⟩
def lfK (P : Program) (w : World) : DKind := ⟨fun d => LfO P w d [], fun H d y v o => ∃ (kvs : List (Leaf × V)) (k : Leaf), H d = some (LfO P w d kvs) ∧ y = lfV k ∧ kvs.length < sizeLine ∧ o = LfO P w d (putK kvs k v)⟩
theorem lf_of {P : Program} {w : World} {H : Hp} {h : Heap} {d : Addr} {kvs : List (Leaf × V)} (ok : HOk P w H h) (e : H d = some (LfO P w d kvs)) : kvs.length ≤ sizeLine ∧ (d == sysModules) = false ∧ ∃ vs, KV kvs vs ∧ h.DictOf (leafKind P w) d vs :=
  (show ObjOk P w H h d (LfO P w d kvs) from ok d _ e).1
theorem lfK_ok (P : Program) (w : World) : KOk P w (lfK P w) := by
  refine ⟨fun hp H big => lf_new (Nat.zero_le _) (beq_eq_false_iff_ne.mpr (Nat.ne_of_gt big)) .nil (Heap.DictOf.new hp), ?_⟩
  rintro X pins σ H z d y v o u r Q E rfl rfl hu I ⟨kvs, k, hd, rfl, hl, rfl⟩ ry rv h
  obtain ⟨sz, nz, vs, rel, dd⟩ := lf_of I.hok hd
  have lx : vs.length ≤ sizeLine := by rw [← rel.length]; exact sz
  have lp : (putK kvs k v).length ≤ sizeLine := Nat.le_trans (length_putK kvs k v) hl
  refine wpAny_dictSet_pairs (hsz := lx) (lf_is ry) dd fun hn dd' sb => h _ ?_
  have ⟨qo, _, _, hq, _⟩ := dd'
  exact d_write I (by rw [hd]; exact True.intro) sb ⟨qo, hq⟩ (lf_new lp nz (rel.put k rv) dd')
/-- d[k] of such a dict -/
def tLfG (P : Program) (w : World) (td ty : TE) : TE := fun σ H Q => td σ H fun x Ha => ty σ Ha fun y Hb => ∃ (a : Addr) (kvs : List (Leaf × V)) (k : Leaf) (v : V), x = .ref a ∧ Hb a = some (LfO P w a kvs) ∧ y = lfV k ∧ valV kvs k = some v ∧ Q v Hb
theorem pe_lfget {X : Cx} {o i : Expr} {pos : Pos} {td ty : TE} (ho : PE X o td) (hi : PE X i ty) (hs : NoSl i) : PE X (.Subscript o i pos) (tLfG X.prog X.w td ty) := by
  constructor
  intro pins z σ H Q I h
  refine subD_of PySem.F.slot_dict_getitem.lookup hs (thn (ho.run pins z σ H _ I h) ?_)
  rintro u z1 ⟨x, Ha, Ia, rx, q1⟩
  refine thn (hi.run pins z1 σ Ha _ Ia q1) ?_
  rintro iv z2 ⟨y, Hb, Ib, ry, a, kvs, k, v, rfl, hd, rfl, hv, q2⟩
  obtain rfl : u = Value.ref a := rx
  obtain ⟨sz, nz, vs, rel, dd⟩ := lf_of Ib.hok hd
  obtain ⟨w', hw, rw'⟩ := RelO.some_of (v := v) (o := valueAt vs k) (by rw [← hv]; exact rel.val k)
  exact ⟨dd.typeIs, wpAny_getItem_of (lf_is ry) dd.mapOf hw ⟨v, Hb, Ib.tok _, rw', q2⟩⟩
end DcG
/-! ### dict comprehensions with two clauses -/
namespace DcG
theorem turn_out (kx vx t0 i0 t1 i1 : Expr) (if0 if1 : List Expr) (scope : Scope) (pos : Pos) (it acc : Value) (env : Env) : compTurn (.DictComp kx vx [⟨t0, i0, if0, 0⟩, ⟨t1, i1, if1, 0⟩] scope pos) 0 it acc env = (do
    standAt i0.pos
    match ← pyNext it with
    | none => pure (.done .next)
    | some v =>
      letOwnedTupleGo t0 it v
      assign t0 env v
      let mut yes := true
      for c in if0 do
        if yes then yes ← isTrue c env (eval c env)
      if yes then
        let x ← eval i1 env
        standAt i1.pos
        let x ← foldedSetIterable i1 env x
        let _ ← runOwn (.compStart (.DictComp kx vx [⟨t0, i0, if0, 0⟩, ⟨t1, i1, if1, 0⟩] scope pos) 1 (← holding [x] (pyIter x)) acc env) env
      again (.compLoop (.DictComp kx vx [⟨t0, i0, if0, 0⟩, ⟨t1, i1, if1, 0⟩] scope pos) 0 it acc env)) := by rfl
theorem turn_in (kx vx t0 i0 t1 i1 : Expr) (if0 if1 : List Expr) (scope : Scope) (pos : Pos) (it : Value) (d : Addr) (env : Env) : compTurn (.DictComp kx vx [⟨t0, i0, if0, 0⟩, ⟨t1, i1, if1, 0⟩] scope pos) 1 it (.ref d) env = (do
    standAt i1.pos
    match ← pyNext it with
    | none => pure (.done .next)
    | some v =>
      letOwnedTupleGo t1 it v
      assign t1 env v
      let mut yes := true
      for c in if1 do
        if yes then yes ← isTrue c env (eval c env)
      if yes then
        (do
          let kv ← eval kx env
          let vv ← holding [kv] (eval vx env)
          standAt { kx.pos with endLine := vx.pos.endLine, endCol := vx.pos.endCol }
          holding [kv, vv] (dictSet d kv vv))
      again (.compLoop (.DictComp kx vx [⟨t0, i0, if0, 0⟩, ⟨t1, i1, if1, 0⟩] scope pos) 1 it (.ref d) env)) := by rfl
section
variable {prog : Program} {w : World} {A : Around} {R : Result → Shared → Prop} {z : Shared} {kx vx t0 i0 t1 i1 : Expr} {if0 if1 : List Expr} {scope : Scope} {pos : Pos} {it acc : Value} {d : Addr} {env : Env}
abbrev two (kx vx t0 i0 t1 i1 : Expr) (if0 if1 : List Expr) (scope : Scope) (pos : Pos) : Expr := .DictComp kx vx [⟨t0, i0, if0, 0⟩, ⟨t1, i1, if1, 0⟩] scope pos
abbrev tests (ifs : List Expr) (env : Env) : Sem Bool := forIn ifs true fun c r => if r = true then do let ok ← isTrue c env (eval c env); pure (ForInStep.yield ok) else pure (ForInStep.yield r)
abbrev Nt (prog : Program) (w : World) (A : Around) (env : Env) (R : Result → Shared → Prop) : Value → Shared → Prop := notedBy (model prog w) A env fun e z' => R (.error e) z'
theorem loop_out (fol : ∀ x, foldedSetIterable i1 env x = pure x) (I : Nat → Shared → Prop)
    (turn : ∀ n z, I n z → wpAny (model prog w) A (pyNext it) (fun r z1 => match r with
      | none => R (.ok .next) z1
      | some v => wpAny (model prog w) A (letOwnedTupleGo t0 it v) (fun _ z2 => wpAny (model prog w) A (assign t0 env v) (fun _ z3 => wpAny (model prog w) A (tests if0 env) (fun yes z4 =>
          if yes = true then wpAny (model prog w) A (eval i1 env) (fun x z5 => wpAny (model prog w) A (pyIter x) (fun jt z6 => codeAny (model prog w) A (.compStart (two kx vx t0 i0 t1 i1 if0 if1 scope pos) 1 jt acc env) (fun r z' => match r with
            | .ok _ => ∃ m, m < n ∧ I m z'
            | .error _ => False) z6) (Nt prog w A env R) z5) (Nt prog w A env R) z4
          else ∃ m, m < n ∧ I m z4) (Nt prog w A env R) z3) (Nt prog w A env R) z2) (Nt prog w A env R) z1) (Nt prog w A env R) z)
    (n : Nat) (h : I n z) : codeAny (model prog w) A (.compLoop (two kx vx t0 i0 t1 i1 if0 if1 scope pos) 0 it acc env) R z := by
  refine codeAny_loop rfl I (fun n z hI => ?_) n h
  show wpAny _ A ((compTurn (two kx vx t0 i0 t1 i1 if0 if1 scope pos) 0 it acc env).onRaise (fun x => do noteFrame x env; theTreesLotGoes x)) _ _ z
  refine wpAny_noted ?_
  rw [turn_out]
  refine wpAny_bind (wpAny_standAt (wpAny_bind (wpAny_mono (turn n z hI) (fun r z1 h1 => ?_) fun _ _ q => q)))
  cases r with
  | none => exact wpAny_pure h1
  | some v =>
    refine wpAny_bind (wpAny_mono h1 (fun _ z2 h2 => wpAny_bind (wpAny_mono h2 (fun _ z3 h3 => wpAny_bind (wpAny_mono h3 (fun yes z4 h4 => ?_) fun _ _ q => q)) fun _ _ q => q)) fun _ _ q => q)
    cases yes with
    | false => exact wpAny_pure ⟨rfl, h4⟩
    | true =>
      refine wpAny_bind (wpAny_mono h4 (fun x z5 h5 => wpAny_bind (wpAny_standAt (wpAny_bind (wpAny_of_eq (fol x) (wpAny_bind (wpAny_holding (wpAny_mono h5 (fun jt z6 h6 => wpAny_bind (wpAny_runOwn ?_)) fun _ _ q => q))))))) fun _ _ q => q)
      rw [Around.mark_none]
      refine codeAny_mono h6 fun r z' hr => ?_
      cases r with
      | ok f => first | exact wpAny_pure ⟨rfl, hr⟩ | exact wpAny_bind (wpAny_pure (wpAny_pure ⟨rfl, hr⟩))
      | error e => exact hr.elim
theorem loop_in (I : Nat → Shared → Prop)
    (turn : ∀ n z, I n z → wpAny (model prog w) A (pyNext it) (fun r z1 => match r with
      | none => R (.ok .next) z1
      | some v => wpAny (model prog w) A (letOwnedTupleGo t1 it v) (fun _ z2 => wpAny (model prog w) A (assign t1 env v) (fun _ z3 => wpAny (model prog w) A (tests if1 env) (fun yes z4 =>
          if yes = true then wpAny (model prog w) A (eval kx env) (fun kv z5 => wpAny (model prog w) A (eval vx env) (fun vv z6 => wpAny (model prog w) A (dictSet d kv vv) (fun _ z7 => ∃ m, m < n ∧ I m z7) (Nt prog w A env R) z6) (Nt prog w A env R) z5) (Nt prog w A env R) z4
          else ∃ m, m < n ∧ I m z4) (Nt prog w A env R) z3) (Nt prog w A env R) z2) (Nt prog w A env R) z1) (Nt prog w A env R) z)
    (n : Nat) (h : I n z) : codeAny (model prog w) A (.compLoop (two kx vx t0 i0 t1 i1 if0 if1 scope pos) 1 it (.ref d) env) R z := by
  refine codeAny_loop rfl I (fun n z hI => ?_) n h
  show wpAny _ A ((compTurn (two kx vx t0 i0 t1 i1 if0 if1 scope pos) 1 it (.ref d) env).onRaise (fun x => do noteFrame x env; theTreesLotGoes x)) _ _ z
  refine wpAny_noted ?_
  rw [turn_in]
  refine wpAny_bind (wpAny_standAt (wpAny_bind (wpAny_mono (turn n z hI) (fun r z1 h1 => ?_) fun _ _ q => q)))
  cases r with
  | none => exact wpAny_pure h1
  | some v =>
    refine wpAny_bind (wpAny_mono h1 (fun _ z2 h2 => wpAny_bind (wpAny_mono h2 (fun _ z3 h3 => wpAny_bind (wpAny_mono h3 (fun yes z4 h4 => ?_) fun _ _ q => q)) fun _ _ q => q)) fun _ _ q => q)
    cases yes with
    | false => exact wpAny_pure ⟨rfl, h4⟩
    | true => exact wpAny_bind (wpAny_bind (wpAny_mono h4 (fun kv z5 h5 => wpAny_bind (wpAny_holding (wpAny_mono h5 (fun vv z6 h6 => wpAny_bind (wpAny_standAt (wpAny_holding (wpAny_mono h6 (fun _ z7 h7 => wpAny_pure ⟨rfl, h7⟩) fun _ _ q => q)))) fun _ _ q => q))) fun _ _ q => q))
theorem start1 (h0 : codeAny (model prog w) A (.compLoop (two kx vx t0 i0 t1 i1 if0 if1 scope pos) 1 it acc env) R z)
    (h : wpAny (model prog w) A (pyIter it) (fun jt z' => codeAny (model prog w) A (.compLoop (two kx vx t0 i0 t1 i1 if0 if1 scope pos) 1 jt acc env) R z') (Nt prog w A env R) z) :
    codeAny (model prog w) A (.compStart (two kx vx t0 i0 t1 i1 if0 if1 scope pos) 1 it acc env) R z := by
  refine codeAny_of_tree ?_
  show wpAny _ _ ((compStart (two kx vx t0 i0 t1 i1 if0 if1 scope pos) 1 it acc env).onRaise (fun x => do noteFrame x env; standAt theWindowsPlace)) _ _ z
  refine wpAny_notedAt ?_
  unfold compStart
  show wpAny _ _ (ask >>= fun _ => _) _ _ z
  refine wpAny_bind (wpAny_askSetting (wpAny_ite ?_))
  split
  · first | exact wpAny_bind (wpAny_pure (wpAny_pure ⟨rfl, h0⟩)) | exact wpAny_pure ⟨rfl, h0⟩
  · first
      | exact wpAny_bind (wpAny_rule (wpAny_bind (wpAny_standAt (wpAny_bind (wpAny_mono h (fun jt zz q => wpAny_pure ⟨rfl, q⟩) fun _ _ q => q)))))
      | (refine wpAny_bind (wpAny_rule ?_); show wpAny _ _ (standAt i1.pos >>= fun _ => _) _ _ z; exact wpAny_bind (wpAny_standAt (wpAny_bind (wpAny_mono h (fun jt zz q => wpAny_pure ⟨rfl, q⟩) fun _ _ q => q))))
end
def tDcK2 (DK : DKind) (wi : TI) (g : TG) (tt : TT) (wj : TI) (gj : TG) (tj : TT) (tk tv : TE) (vs ws : List Nat) : TE := fun σ H Q => wi σ H fun J Ha => ∀ d, Ha d = none → ∃ W : Nat → Nat → Hp → Prop, (∃ m, W 0 m (upd Ha d (DK.e0 d))) ∧ ∀ i m Hb, W i m Hb →
  (J.stop i Hb ∧ Q (.ref d) Hb) ∨ (J.go i Hb ∧ ∃ Nx : Hp → Prop, (∀ H', Nx H' → ∃ m', m' < m ∧ W (i + 1) m' H') ∧ ∀ x H', J.yld i Hb x H' → g x (wipe σ vs) H' fun τ Hc => wipe τ vs = wipe σ vs ∧ tt τ Hc fun b Hd =>
    if b = true then wj τ Hd fun L He => ∃ V1 : Nat → Nat → Hp → Prop, (∃ m, V1 0 m He) ∧ ∀ j k Hf, V1 j k Hf →
      (L.stop j Hf ∧ Nx Hf) ∨ (L.go j Hf ∧ ∃ Ny : Hp → Prop, (∀ H', Ny H' → ∃ k', k' < k ∧ V1 (j + 1) k' H') ∧ ∀ x H', L.yld j Hf x H' → gj x (wipe τ ws) H' fun ρ Hg => wipe ρ ws = wipe τ ws ∧ tj ρ Hg fun b Hh =>
        if b = true then tk ρ Hh fun y Hi => tv ρ Hi fun v Hj => ∃ o, DK.put Hj d y v o ∧ Ny (upd Hj d o) else Ny Hh)
    else Nx Hd)
section
variable {X : Cx}
theorem core2 {DK : DKind} {pins : List (Addr × Obj)} {z : Shared} {σ : L2.St} {H : Hp} {Q : VK} {kx vx tg iter th jter : Expr} {ifs jfs : List Expr} {scope : Scope} {own : List (Str × Nat)} {ws : List Nat} {pos pos' : Pos} {wi wj : TI} {g gj : TG} {tt tj : TT} {tk tv : TE} {use : Option (Value → Sem Unit)} {Qf : Value → Shared → Prop}
    (KO : KOk X.prog X.w DK) (hu : X.A.units + 1 < cLine) (calm : X.calm = true) (ndN : X.N.Nodup) (I : Inv X pins σ H z) (hi : PI X tg iter wi) (ok : BlkOk X.N X.env.scope scope own) (hw : ∀ i ∈ ws, i ∈ own.map (·.2))
    (Hg : ∀ (z : Shared) (H : Hp) (C : Addr) (cl : List (Str × Addr)) (fp : List Addr), PG (X.blk z H scope (compEnvC scope cl C X.env) fp) tg g)
    (Ht : ∀ (z : Shared) (H : Hp) (C : Addr) (cl : List (Str × Addr)) (fp : List Addr), PTs (X.blk z H scope (compEnvC scope cl C X.env) fp) ifs tt)
    (Hj : ∀ (z : Shared) (H : Hp) (C : Addr) (cl : List (Str × Addr)) (fp : List Addr), PI (X.blk z H scope (compEnvC scope cl C X.env) fp) th jter wj)
    (Hh : ∀ (z : Shared) (H : Hp) (C : Addr) (cl : List (Str × Addr)) (fp : List Addr), PG (X.blk z H scope (compEnvC scope cl C X.env) fp) th gj)
    (Hu : ∀ (z : Shared) (H : Hp) (C : Addr) (cl : List (Str × Addr)) (fp : List Addr), PTs (X.blk z H scope (compEnvC scope cl C X.env) fp) jfs tj)
    (Hk : ∀ (z : Shared) (H : Hp) (C : Addr) (cl : List (Str × Addr)) (fp : List Addr), PE (X.blk z H scope (compEnvC scope cl C X.env) fp) kx tk)
    (Hv : ∀ (z : Shared) (H : Hp) (C : Addr) (cl : List (Str × Addr)) (fp : List Addr), PE (X.blk z H scope (compEnvC scope cl C X.env) fp) vx tv)
    (fol : ∀ x, foldedSetIterable iter X.env x = pure x) (fol2 : ∀ env x, foldedSetIterable jter env x = pure x) (h : tDcK2 DK wi g tt wj gj tj tk tv (own.map (·.2)) ws σ H Q)
    (back : ∀ d C z' m H', Inv X pins σ H' z' → Q (.ref d) H' → z'.heap.Ns C m → FpOk X pins H' C → compPost (model X.prog X.w) X.A X.xe use Qf (.ref d) C (.ok .next) z') :
    wpAny (model X.prog X.w) X.A (comprehension (two kx vx tg iter th jter ifs jfs scope pos) scope X.env pos' newDict false (eval iter X.env) use) Qf X.xe z := by
  have fr : ∀ y ∈ scope.names, y.2 = .free → ∃ c, X.env.cells.lookup y.1 = some c := fun y hy e => (ok.free y hy e).elim (fun k => I.ok.has _ (.inl k)) fun k => I.ok.has _ (.inr k)
  refine wpAny_comprehension_free (use := use) rfl fol (closure_ok fr) ok.kind (fun y hy e => by rw [ok.uniq y hy, e]) (thn (hi.run pins z σ H _ I h) ?_)
  refine fun xv z1 hx => thn hx ?_
  rintro itv z2 ⟨it, fp, tn, J, Ha, rfl, Ia, T, sta, fa, q⟩
  refine wpAny_newObj_type (newEnv_comp ?_)
  obtain ⟨d, ed⟩ : ∃ d, d = z2.heap.objs.size := ⟨_, rfl⟩
  have nd : Ha d = none := Ia.hok.fresh (Nat.le_of_eq ed.symm)
  obtain ⟨W, ⟨m0, w0⟩, turn⟩ := q d nd
  obtain ⟨z3, ez3⟩ : ∃ z3 : Shared, z3 = { z2 with heap := z2.heap.push newD } := ⟨_, rfl⟩
  have hz3 : z3.heap = z2.heap.push newD := by rw [ez3]
  have Ib : Inv X pins σ (upd Ha d (DK.e0 d)) z3 := by
    rw [ez3]
    refine Ia.laid (t' := z2.toks) (fun b o e => Heap.get?_push_of_some _ e) (Nat.le_of_eq ed.symm) ?_
    rw [ed]
    exact KO.new z2.heap _ Ia.big
  have low : ∀ b ∈ fp, b < z2.heap.objs.size := fun b hb => by
    obtain ⟨o, e, _⟩ := T.obj _ _ sta b hb
    exact Heap.lt_size e
  have fb : ∀ b ∈ fp, FpOk X pins (upd Ha d (DK.e0 d)) b ∧ b < z3.heap.objs.size := fun b hb => by
    have lb := low b hb
    have nb : b ≠ d := by rw [ed]; exact Nat.ne_of_lt lb
    exact ⟨⟨(upd_ne nb).trans (fa b hb).1, (fa b hb).2⟩, by rw [hz3, Heap.size_push]; exact Nat.lt_succ_of_lt lb⟩
  have stb : tn 0 z3.heap := T.keep _ _ _ sta fun b _ o e => by rw [hz3]; exact Heap.get?_push_of_some _ e
  have Ic := block_start Ib ok ndN fb
  have PGh := Hg z3 (upd Ha d (DK.e0 d)) z3.heap.objs.size (cellsFrom (z3.heap.objs.size + 1) scope.names (cloFrom X.env.cells scope.names [])) fp
  have PTh := Ht z3 (upd Ha d (DK.e0 d)) z3.heap.objs.size (cellsFrom (z3.heap.objs.size + 1) scope.names (cloFrom X.env.cells scope.names [])) fp
  have PJh := Hj z3 (upd Ha d (DK.e0 d)) z3.heap.objs.size (cellsFrom (z3.heap.objs.size + 1) scope.names (cloFrom X.env.cells scope.names [])) fp
  have PHh := Hh z3 (upd Ha d (DK.e0 d)) z3.heap.objs.size (cellsFrom (z3.heap.objs.size + 1) scope.names (cloFrom X.env.cells scope.names [])) fp
  have PUh := Hu z3 (upd Ha d (DK.e0 d)) z3.heap.objs.size (cellsFrom (z3.heap.objs.size + 1) scope.names (cloFrom X.env.cells scope.names [])) fp
  have PKh := Hk z3 (upd Ha d (DK.e0 d)) z3.heap.objs.size (cellsFrom (z3.heap.objs.size + 1) scope.names (cloFrom X.env.cells scope.names [])) fp
  have PVh := Hv z3 (upd Ha d (DK.e0 d)) z3.heap.objs.size (cellsFrom (z3.heap.objs.size + 1) scope.names (cloFrom X.env.cells scope.names [])) fp
  have nfp : ∀ b ∈ fp, (upd Ha d (DK.e0 d)) b = none := fun b hb => (fb b hb).1.1
  rw [← ed, ← ez3]
  show codeAny _ _ (.compStart (two kx vx tg iter th jter ifs jfs scope pos) 0 (.ref it) (.ref d) (compEnvC scope (cellsFrom (z3.heap.objs.size + 1) scope.names (cloFrom X.env.cells scope.names [])) z3.heap.objs.size X.env)) _ { z3 with heap := pushCells (z3.heap.push newD) scope.names }
  generalize ece : compEnvC scope (cellsFrom (z3.heap.objs.size + 1) scope.names (cloFrom X.env.cells scope.names [])) z3.heap.objs.size X.env = ce at Ic PGh PTh PJh PHh PUh PKh PVh ⊢
  have ceL : ce.locals = z3.heap.objs.size := by rw [← ece]; rfl
  generalize upd Ha d (DK.e0 d) = Hc at Ib Ic PGh PTh PJh PHh PUh PKh PVh w0 nfp fb
  generalize ez4 : ({ z3 with heap := pushCells (z3.heap.push newD) scope.names } : Shared) = z4 at Ic ⊢
  have stc : tn 0 z4.heap := T.keep _ _ _ stb fun b _ o e => by rw [← ez4]; exact pushCells_keeps _ _ _ _ (Heap.get?_push_of_some _ e)
  have still : ∀ {σ' : L2.St} {H' : Hp} {z' : Shared}, Inv (X.blk z3 Hc scope ce fp) [] σ' H' z' → (∀ b ∈ fp, H' b = none) → ∀ b ∈ fp, FpOk (X.blk z3 Hc scope ce fp) [] H' b := fun I' hn b hb =>
    ⟨hn b hb, (I'.ok.exf b hb).1, I'.ok.exfs b hb, .inl hb, fun x c e => (I'.ok.exf b hb).2 x c e, fun p hp => absurd (show p ∈ ([] : List (Addr × Obj)) ++ [] from hp) (by simp)⟩
  have lp : codeAny (model X.prog X.w) X.A (.compLoop (two kx vx tg iter th jter ifs jfs scope pos) 0 (.ref it) (.ref d) ce) (compPost (model X.prog X.w) X.A X.xe use Qf (.ref d) z3.heap.objs.size) z4 := by
    refine loop_out (fol2 ce) (fun n z' => ∃ i H', Inv (X.blk z3 Hc scope ce fp) [] (wipe σ (own.map (·.2))) H' z' ∧ tn i z'.heap ∧ (∀ b ∈ fp, H' b = none) ∧ W i n H') ?_ m0 ⟨0, Hc, Ic, stc, nfp, w0⟩
    rintro n z5 ⟨i, He, Ie, ste, ne, we⟩
    rcases turn i n He we with ⟨stop, qq⟩ | ⟨go, Nx, hNx, step⟩
    · refine thnF (T.done (X.blk z3 Hc scope ce fp) rfl rfl rfl calm i [] z5 _ He (fun _ _ => False) Ie (still Ie ne) ste stop) ?_
      rintro r z6 ⟨rfl, If⟩
      have Ig : Inv X pins σ He z6 := Ib.call' (ch := fp) If.os If.base If.hok If.bare fun b hb => by
        obtain ⟨⟨p0, p1, p2, p3, p4, p5⟩, _⟩ := fb b hb
        exact ⟨p3, p1, p4, p5⟩
      have nL : He z3.heap.objs.size = none := by rw [← ceL]; exact If.free
      obtain ⟨m, hm, _⟩ := If.loc
      have hm' : z6.heap.Ns z3.heap.objs.size m := by rw [← ceL]; exact hm
      exact back d z3.heap.objs.size z6 m He Ig qq hm' (Ib.fpOk (Nat.le_refl _) nL)
    · refine thnF (T.item (X.blk z3 Hc scope ce fp) rfl rfl rfl calm i [] z5 _ He (fun _ _ => False) Ie (still Ie ne) ste go) ?_
      rintro r z6 ⟨u, rfl, h6⟩
      refine thnF h6 ?_
      rintro _ z7 ⟨x, Hg7, I7, r7, y7, st7, n7⟩
      refine thnF (PGh.run _ z7 _ Hg7 x u _ (I7.pinned (still I7 n7) (T.obj _ _ st7)) r7 (step x Hg7 y7)) ?_
      rintro _ z8 ⟨τ, H8, I8, w8, q8⟩
      refine thnF (PTh.run _ z8 τ H8 _ I8 q8) ?_
      rintro b z9 ⟨H9, I9, q9⟩
      have fin : ∀ {τ' : L2.St} {z' : Shared} {H' : Hp}, Inv (X.blk z3 Hc scope ce fp) ([] ++ pinsAt fp z7.heap) τ' H' z' → (wipe σ (own.map (·.2))).length = τ'.length → (∀ (j : Nat) v, (wipe σ (own.map (·.2)))[j]? = some (some v) → τ'[j]? = some (some v)) → Nx H' →
          ∃ m, m < n ∧ ∃ i H', Inv (X.blk z3 Hc scope ce fp) [] (wipe σ (own.map (·.2))) H' z' ∧ tn i z'.heap ∧ (∀ b ∈ fp, H' b = none) ∧ W i m H' := fun {τ' z' H'} I' le kn nx => by
        obtain ⟨m', hm, w'⟩ := hNx H' nx
        have pn : ∀ b ∈ fp, ∀ o, z7.heap.get? b = some o → z'.heap.get? b = some o ∧ H' b = none := fun b hb o e => by
          have zz := I'.pin (b, o) (List.mem_append_right _ (List.mem_append_right _ (mem_pinsAt hb e)))
          exact ⟨zz.1, zz.2.1⟩
        refine ⟨m', hm, i + 1, H', (I'.unpinned (pins := [])).weak le kn, T.keep _ _ _ st7 fun b hb o e => (pn b hb o e).1, fun b hb => ?_, w'⟩
        obtain ⟨o, e, _⟩ := T.obj _ _ st7 b hb
        exact (pn b hb o e).2
      have le8 : (wipe σ (own.map (·.2))).length = τ.length := by rw [← w8, wipe_length]
      have kn8 : ∀ (j : Nat) v, (wipe σ (own.map (·.2)))[j]? = some (some v) → τ[j]? = some (some v) ∧ j ∉ own.map (·.2) := fun j v e => by
        rw [← w8] at e
        exact wipe_some e
      cases b with
      | false => exact fin I9 le8 (fun j v e => (kn8 j v e).1) q9
      | true =>
        refine thnF (PJh.run _ z9 τ H9 _ I9 q9) fun xw z10 hxw => thnF hxw ?_
        rintro jtv z11 ⟨jt, gp, tm, L, Hl, rfl, Il, T1, stl, fl, V1, ⟨k0, v0⟩, turn1⟩
        have still1 : ∀ {H' : Hp}, (∀ b ∈ gp, H' b = none) → ∀ b ∈ gp, FpOk (X.blk z3 Hc scope ce fp) ([] ++ pinsAt fp z7.heap) H' b := fun hn b hb => ⟨hn b hb, (fl b hb).2⟩
        have lq : codeAny (model X.prog X.w) X.A (.compLoop (two kx vx tg iter th jter ifs jfs scope pos) 1 (.ref jt) (.ref d) ce) (fun r z' => match r with
            | .ok _ => ∃ m, m < n ∧ ∃ i H', Inv (X.blk z3 Hc scope ce fp) [] (wipe σ (own.map (·.2))) H' z' ∧ tn i z'.heap ∧ (∀ b ∈ fp, H' b = none) ∧ W i m H'
            | .error _ => False) z11 := by
          refine loop_in (fun k z' => ∃ j H', Inv (X.blk z3 Hc scope ce fp) ([] ++ pinsAt fp z7.heap) (wipe τ ws) H' z' ∧ tm j z'.heap ∧ (∀ b ∈ gp, H' b = none) ∧ V1 j k H') ?_ k0 ⟨0, Hl, Il.weak (wipe_length _ _) (fun j v e => (wipe_some e).1), stl, fun b hb => (fl b hb).1, v0⟩
          rintro k z12 ⟨j, Hm, Im, stm, nm, vm⟩
          rcases turn1 j k Hm vm with ⟨stop1, nx1⟩ | ⟨go1, Ny, hNy, step1⟩
          · refine thnF (T1.done (X.blk z3 Hc scope ce fp) rfl rfl rfl calm j _ z12 (wipe τ ws) Hm (fun _ _ => False) Im (still1 nm) stm stop1) ?_
            rintro r z13 ⟨rfl, In⟩
            refine fin In (le8.trans (wipe_length τ ws).symm) (fun j v e => ?_) nx1
            rw [wipe_out fun y => (kn8 j v e).2 (hw j y)]
            exact (kn8 j v e).1
          · refine thnF (T1.item (X.blk z3 Hc scope ce fp) rfl rfl rfl calm j _ z12 (wipe τ ws) Hm (fun _ _ => False) Im (still1 nm) stm go1) ?_
            rintro r z13 ⟨u1, rfl, h13⟩
            refine thnF h13 ?_
            rintro _ z14 ⟨x1, Ho, Io, ro, yo, sto, no⟩
            refine thnF (PHh.run _ z14 (wipe τ ws) Ho x1 u1 _ (Io.pinned (still1 no) (T1.obj _ _ sto)) ro (step1 x1 Ho yo)) ?_
            rintro _ z15 ⟨ρ, Hp15, I15, w15, q15⟩
            refine thnF (PUh.run _ z15 ρ Hp15 _ I15 q15) ?_
            rintro b1 z16 ⟨H16, I16, q16⟩
            have fin1 : ∀ {z' : Shared} {H' : Hp}, Inv (X.blk z3 Hc scope ce fp) (([] ++ pinsAt fp z7.heap) ++ pinsAt gp z14.heap) ρ H' z' → Ny H' → ∃ m, m < k ∧ ∃ j H', Inv (X.blk z3 Hc scope ce fp) ([] ++ pinsAt fp z7.heap) (wipe τ ws) H' z' ∧ tm j z'.heap ∧ (∀ b ∈ gp, H' b = none) ∧ V1 j m H' := fun {z' H'} I' ny => by
              obtain ⟨m', hm, v'⟩ := hNy H' ny
              have pn : ∀ b ∈ gp, ∀ o, z14.heap.get? b = some o → z'.heap.get? b = some o ∧ H' b = none := fun b hb o e => by
                have zz := I'.pin (b, o) (List.mem_append_right _ (List.mem_append_right _ (mem_pinsAt hb e)))
                exact ⟨zz.1, zz.2.1⟩
              refine ⟨m', hm, j + 1, H', I'.unpinned.weak (by rw [← w15, wipe_length]) (fun j v e => ?_), T1.keep _ _ _ sto fun b hb o e => (pn b hb o e).1, fun b hb => ?_, v'⟩
              · rw [← w15] at e
                exact (wipe_some e).1
              · obtain ⟨o, e, _⟩ := T1.obj _ _ sto b hb
                exact (pn b hb o e).2
            cases b1 with
            | false => exact fin1 I16 q16
            | true =>
              refine thnF (PKh.run _ z16 ρ H16 _ I16 q16) ?_
              rintro uk z17 ⟨yk, H17, I17, r17, q17⟩
              refine thnF (PVh.run _ z17 ρ H17 _ I17 q17) ?_
              rintro uv z18 ⟨yv, H18, I18, r18, o, pu, ny⟩
              exact KO.st (X.blk z3 Hc scope ce fp) _ ρ H18 z18 d yk yv o uk uv _ _ rfl rfl hu I18 pu r17 r18 fun z19 I19 => fin1 I19 ny
        exact start1 lq (T1.self X.A 0 _ _ _ stl lq)
  exact codeAny_compStart_dict lp (T.self X.A 0 _ _ _ stc lp)
theorem pe_dcK2 {DK : DKind} {kx vx tg iter th jter : Expr} {ifs jfs : List Expr} {scope : Scope} {own : List (Str × Nat)} {ws : List Nat} {pos : Pos} {wi wj : TI} {g gj : TG} {tt tj : TT} {tk tv : TE} (KO : KOk X.prog X.w DK) (hu : X.A.units + 1 < cLine) (calm : X.calm = true) (ndN : X.N.Nodup) (hi : PI X tg iter wi) (ok : BlkOk X.N X.env.scope scope own) (hw : ∀ i ∈ ws, i ∈ own.map (·.2))
    (Hg : ∀ (z : Shared) (H : Hp) (C : Addr) (cl : List (Str × Addr)) (fp : List Addr), PG (X.blk z H scope (compEnvC scope cl C X.env) fp) tg g)
    (Ht : ∀ (z : Shared) (H : Hp) (C : Addr) (cl : List (Str × Addr)) (fp : List Addr), PTs (X.blk z H scope (compEnvC scope cl C X.env) fp) ifs tt)
    (Hj : ∀ (z : Shared) (H : Hp) (C : Addr) (cl : List (Str × Addr)) (fp : List Addr), PI (X.blk z H scope (compEnvC scope cl C X.env) fp) th jter wj)
    (Hh : ∀ (z : Shared) (H : Hp) (C : Addr) (cl : List (Str × Addr)) (fp : List Addr), PG (X.blk z H scope (compEnvC scope cl C X.env) fp) th gj)
    (Hu : ∀ (z : Shared) (H : Hp) (C : Addr) (cl : List (Str × Addr)) (fp : List Addr), PTs (X.blk z H scope (compEnvC scope cl C X.env) fp) jfs tj)
    (Hk : ∀ (z : Shared) (H : Hp) (C : Addr) (cl : List (Str × Addr)) (fp : List Addr), PE (X.blk z H scope (compEnvC scope cl C X.env) fp) kx tk)
    (Hv : ∀ (z : Shared) (H : Hp) (C : Addr) (cl : List (Str × Addr)) (fp : List Addr), PE (X.blk z H scope (compEnvC scope cl C X.env) fp) vx tv) (fol : ∀ x, foldedSetIterable iter X.env x = pure x := by intro _; rfl) (fol2 : ∀ env x, foldedSetIterable jter env x = pure x := by intro _ _; rfl) :
    PE X (two kx vx tg iter th jter ifs jfs scope pos) (tDcK2 DK wi g tt wj gj tj tk tv (own.map (·.2)) ws) := by
  constructor
  intro pins z σ H Q I h
  rw [arm_eval_DictComp]
  refine core2 KO hu calm ndN I hi ok hw Hg Ht Hj Hh Hu Hk Hv fol fol2 h ?_
  rintro d C z' m H' I' q hm ⟨p0, p1, p2, p3, p4, p5⟩
  exact ⟨m, hm, fun hn sb => ⟨.ref d, H', I'.turned (t' := z'.toks) (fun b o hb e => (sb.2 b hb).trans e) p0 p1 p3 p4 p5, rfl, q⟩⟩
end
end DcG
/-! ### name = {.. for .. for ..} on one row, the name a local -/
namespace DcG
theorem swaps_dict {kx vx : Expr} {cs : List Comprehension} {scope : Scope} {pos py : Pos} {y : Str} {l : Nat} {env : Env} (hk : env.scope.kind = .function) (hy : env.scope.names.lookup y = some .local) (hl : (py.line == pos.line) = true)
    (ha : (scope.names.any fun (n, k) => n == y && (k == .local || k == .cell)) = false) : swapsWith (.DictComp kx vx cs scope pos) (some (.Name y py)) l env = pure true := by
  have e1 : env.kindOf y = some .local := hy
  have e2 : env.blockKind = .function := by
    unfold Env.blockKind
    rw [hk]
    rfl
  unfold swapsWith
  simp only [e2, e1, ha, Expr.pos, hl]
  rfl
theorem ps_setD2 {X : Cx} {n : Nat} {y : Str} {py spos : Pos} {DK : DKind} {kx vx tg iter th jter : Expr} {ifs jfs : List Expr} {scope : Scope} {own : List (Str × Nat)} {ws : List Nat} {pos : Pos} {wi wj : TI} {g gj : TG} {tt tj : TT} {tk tv : TE} (KO : KOk X.prog X.w DK) (hu : X.A.units + 1 < cLine) (calm : X.calm = true) (ndN : X.N.Nodup)
    (iy : X.N[n]? = some y) (ly : X.env.scope.names.lookup y = some .local) (sw : swapsWith (two kx vx tg iter th jter ifs jfs scope pos) (some (.Name y py)) spos.line X.env = pure true) (hi : PI X tg iter wi) (ok : BlkOk X.N X.env.scope scope own) (hw : ∀ i ∈ ws, i ∈ own.map (·.2))
    (Hg : ∀ (z : Shared) (H : Hp) (C : Addr) (cl : List (Str × Addr)) (fp : List Addr), PG (X.blk z H scope (compEnvC scope cl C X.env) fp) tg g)
    (Ht : ∀ (z : Shared) (H : Hp) (C : Addr) (cl : List (Str × Addr)) (fp : List Addr), PTs (X.blk z H scope (compEnvC scope cl C X.env) fp) ifs tt)
    (Hj : ∀ (z : Shared) (H : Hp) (C : Addr) (cl : List (Str × Addr)) (fp : List Addr), PI (X.blk z H scope (compEnvC scope cl C X.env) fp) th jter wj)
    (Hh : ∀ (z : Shared) (H : Hp) (C : Addr) (cl : List (Str × Addr)) (fp : List Addr), PG (X.blk z H scope (compEnvC scope cl C X.env) fp) th gj)
    (Hu : ∀ (z : Shared) (H : Hp) (C : Addr) (cl : List (Str × Addr)) (fp : List Addr), PTs (X.blk z H scope (compEnvC scope cl C X.env) fp) jfs tj)
    (Hk : ∀ (z : Shared) (H : Hp) (C : Addr) (cl : List (Str × Addr)) (fp : List Addr), PE (X.blk z H scope (compEnvC scope cl C X.env) fp) kx tk)
    (Hv : ∀ (z : Shared) (H : Hp) (C : Addr) (cl : List (Str × Addr)) (fp : List Addr), PE (X.blk z H scope (compEnvC scope cl C X.env) fp) vx tv) (fol : ∀ x, foldedSetIterable iter X.env x = pure x := by intro _; rfl) (fol2 : ∀ env x, foldedSetIterable jter env x = pure x := by intro _ _; rfl) :
    PS X (.Assign [.Name y py] (two kx vx tg iter th jter ifs jfs scope pos) spos) (tAsg (tDcK2 DK wi g tt wj gj tj tk tv (own.map (·.2)) ws) (gName n)) := by
  constructor
  intro pins z σ H D I h
  rw [exec_Assign_Name_used _ _ _ _ sw]
  refine wpAny_bind (wpAny_standAt (wpAny_bind ?_))
  show wpAny _ X.A (do let _ ← comprehension (two kx vx tg iter th jter ifs jfs scope pos) scope X.env (firstIterPos [⟨tg, iter, ifs, 0⟩, ⟨th, jter, jfs, 0⟩] pos) newDict false (eval iter X.env) (some (assign (.Name y py) X.env))) _ _ z
  have h' : tDcK2 DK wi g tt wj gj tj tk tv (own.map (·.2)) ws σ H (fun x H1 => gName n x σ H1 D.nx) := h
  refine wpAny_bind (thn (core2 (Qf := fun _ z' => SP X pins D .next z') KO hu calm ndN I hi ok hw Hg Ht Hj Hh Hu Hk Hv fol fol2 h' ?_) fun _ z' hq => wpAny_pure (wpAny_pure hq))
  rintro d C z' m H' I' q hm ⟨p0, p1, p2, p3, p4, p5⟩
  show wpAny _ _ (assign (.Name y py) X.env (.ref d)) _ _ _
  refine wpAny_assign_Name (store_ok2 (v := V.ref d) I' ndN iy (.inl ly) rfl ?_ (.inr ly))
  rintro z2 I2 ⟨a, sb, ha⟩
  have na : C ≠ a := by
    rcases ha with e | e
    · rw [e]
      exact p1
    · exact fun t => p4 y a e t.symm
  refine ⟨m, hm.sameBut sb na, fun h3 sb3 => ⟨_, H', I2.turned (t' := z2.toks) (fun b o hb e => (sb3.2 b hb).trans e) p0 p1 p3 p4 p5, q⟩⟩
end DcG
/-- a walk with any body -/
theorem walk_any {J : It} {n : Nat} {G : Hp → Prop} {Y : Nat → Hp → V → Hp → Prop} (w : Walk J n G Y) {B : (Hp → Prop) → V → Hp → Prop} {H1 : Hp} {Qd : Hp → Prop} (Pv : Nat → Hp → Prop) (h0 : Pv 0 H1) (hG : ∀ i H, i ≤ n → Pv i H → G H)
    (hs : ∀ i x H H', i < n → Pv i H → Y i H x H' → B (Pv (i + 1)) x H') (hd : ∀ H, Pv n H → Qd H) :
    ∃ W : Nat → Nat → Hp → Prop, (∃ m, W 0 m H1) ∧ ∀ i m H, W i m H → (J.stop i H ∧ Qd H) ∨ (J.go i H ∧ ∃ Nx : Hp → Prop, (∀ H', Nx H' → ∃ m', m' < m ∧ W (i + 1) m' H') ∧ ∀ x H', J.yld i H x H' → B Nx x H') := by
  refine ⟨fun i m H => m = n - i ∧ i ≤ n ∧ Pv i H, ⟨n, (Nat.sub_zero n).symm, Nat.zero_le _, h0⟩, fun i m H h => ?_⟩
  obtain ⟨rfl, hi, p⟩ := h
  rcases Nat.lt_or_ge i n with lt | ge
  · exact .inr ⟨w.goes i H lt (hG i H hi p), Pv (i + 1), fun H' p' => ⟨n - (i + 1), by omega, rfl, lt, p'⟩, fun x H' y => hs i x H H' lt p (w.yields i H x H' lt (hG i H hi p) y)⟩
  · obtain rfl : i = n := Nat.le_antisymm hi ge
    exact .inl ⟨w.stops H (hG i H hi p), hd H p⟩
/-! ### ties -/
structure Tie where
  w : Str
  n : Str
  out : Option (Str × Nat)
  into : Option (Str × Nat)
def PcO (H : Hp) (v : V) : Option (Str × Nat) → Prop
  | none => v = .non
  | some p => ∃ a, v = .ref a ∧ H a = some (.tup [.str p.1, .int (p.2 : Nat)])
theorem PcO.on {H H' : Hp} (k : TK H H') {v : V} {o : Option (Str × Nat)} (h : PcO H v o) : PcO H' v o := by
  cases o with
  | none => exact h
  | some p =>
    obtain ⟨a, h1, h2⟩ := h
    exact ⟨a, h1, k _ _ h2⟩
structure TieAt (H : Hp) (t : Addr) (x : Tie) : Prop where
  ex : ∃ (k : Addr) (vo vi : V), H t = some (.tup [.ref k, vo, vi]) ∧ H k = some (.tup [.str x.w, .str x.n]) ∧ PcO H vo x.out ∧ PcO H vi x.into
theorem TieAt.on {H H' : Hp} (k : TK H H') {t : Addr} {x : Tie} (h : TieAt H t x) : TieAt H' t x := by
  obtain ⟨c, vo, vi, h1, h2, h3, h4⟩ := h.ex
  exact ⟨c, vo, vi, k _ _ h1, k _ _ h2, h3.on k, h4.on k⟩
def TiesAt (H : Hp) : List Addr → List Tie → Prop := Paired (TieAt H)
theorem TiesAt.on {H H' : Hp} (k : TK H H') {ts : List Addr} {xs : List Tie} (h : TiesAt H ts xs) : TiesAt H' ts xs := Paired.mapP h fun _ _ z => z.on k
theorem TiesAt.snoc {H : Hp} {ts : List Addr} {xs : List Tie} {t : Addr} {x : Tie} (h : TiesAt H ts xs) (q : TieAt H t x) : TiesAt H (ts ++ [t]) (xs ++ [x]) := Paired.snoc h q
theorem TiesAt.len {H : Hp} {ts : List Addr} {xs : List Tie} (h : TiesAt H ts xs) : ts.length = xs.length := Paired.length h
theorem TiesAt.app {H : Hp} {ts us : List Addr} {xs ys : List Tie} (a : TiesAt H ts xs) (b : TiesAt H us ys) : TiesAt H (ts ++ us) (xs ++ ys) := by
  induction a with
  | nil => exact b
  | cons h _ ih => exact .cons h ih
def beginT (x : Row) : List Tie := match x.op with
  | none => [⟨"begin", x.tr, none, some (x.tr, x.k)⟩]
  | some _ => []
def nowT (x : Row) : List Tie := match x.cl with
  | none => [⟨"now", x.tr, some (x.tr, x.k), none⟩]
  | some _ => []
def endsOf (x : Row) : List Tie := beginT x ++ nowT x
theorem ends_le (x : Row) : (beginT x).length ≤ 1 ∧ (nowT x).length ≤ 1 := by
  unfold beginT nowT
  constructor
  · split <;> simp
  · split <;> simp
theorem ends_len : ∀ xs : List Row, (xs.flatMap endsOf).length ≤ 2 * xs.length
  | [] => Nat.zero_le _
  | x :: r => by
    have h1 := ends_len r
    obtain ⟨h2, h3⟩ := ends_le x
    rw [List.flatMap_cons, List.length_append, List.length_cons]
    unfold endsOf
    rw [List.length_append]
    unfold endsOf at h1
    omega
def spEnds : Sp := fun vs H Q _ => ∃ (R : Addr) (rs : List Addr) (xs : List Row), vs = [.ref R] ∧ H R = some (.lst (rs.map V.ref)) ∧ RowsAt H rs xs ∧ xs.length ≤ 400 ∧
  ∀ (l : Addr) (ts : List Addr) (H' : Hp), Same H H' → H l = none → H' l = some (.lst (ts.map V.ref)) → TiesAt H' ts (xs.flatMap endsOf) → Q (.ref l) H'
section
variable {P : Program} {w : World} {K : PySem.W.Frag} {mg : Str → Option Value} {base : Heap}
abbrev sEndTN : List Str := ["rows", "found", "piece", "opened", "closed", "inside", "balance"]
theorem sc_sEndT : FnScope sEndTN ["rows"] (defScope sEndT) := ⟨rfl, rfl, rfl, by decide +kernel, rfl, by decide +kernel, by decide +kernel⟩
set_option maxHeartbeats 4000000 in
theorem ok_ends {f : Addr} {fd : FuncData} (F : Fun K "end_ties" "end_ties" sEndT f fd) : FnOk P w K mg base CX0 1 f fd ["rows"] spEnds := by
  refine F.ok sc_sEndT (fun vs H Q E h => ?_) (fun cdv A outer s H vs Q E hr h => ?_)
  · obtain ⟨R, rs, xs, rfl, _⟩ := h
    rfl
  · obtain ⟨R, rs, xs, rfl, hR, ro, lx, q⟩ := h
    have nd := sc_sEndT.nd
    refine ⟨_, pss_cons (ps_set (i := 1) nd rfl (Or.inl rfl) (pe_lst pa_nil))
      (pss_cons (ps_for PassesOwn.never rfl (pi_list (pv 0)) (pg_tup (by rfl) (pgs_cons (pg_name (i := 2) nd rfl (Or.inl rfl)) (pgs_cons (pg_name (i := 3) nd rfl (Or.inl rfl)) (pgs_cons (pg_name (i := 4) nd rfl (Or.inl rfl)) (pgs_cons (pg_name (i := 5) nd rfl (Or.inl rfl)) (pgs_cons (pg_name (i := 6) nd rfl (Or.inl rfl)) pgs_nil))))))
        (C8.pss_cut (ps_if (pt_cmpR op_isN (pv 3) pe_non (by rfl)) (pss_one (ps_expr (pe_bm PySem.F.plainAttrs_list PySem.F.slot_list_append PySem.F.type_list_append mt_append (pv 1) (pa_cons (pe_tup (pa_cons (pe_tup (pa_cons pe_str (pa_cons (pe_ix ix_tup (pv 2) pe_int (fun _ _ => rfl)) pa_nil))) (pa_cons pe_non (pa_cons (pv 2) pa_nil)))) pa_nil)))) pss_nil)
        (pss_one (ps_if (pt_cmpR op_isN (pv 4) pe_non (by rfl)) (pss_one (ps_expr (pe_bm PySem.F.plainAttrs_list PySem.F.slot_list_append PySem.F.type_list_append mt_append (pv 1) (pa_cons (pe_tup (pa_cons (pe_tup (pa_cons pe_str (pa_cons (pe_ix ix_tup (pv 2) pe_int (fun _ _ => rfl)) pa_nil))) (pa_cons (pv 2) (pa_cons pe_non pa_nil)))) pa_nil)))) pss_nil))))
      (pss_one (ps_ret (pv 1)))), ?_⟩
    refine ⟨Nat.zero_le _, fun D nD => ?_⟩
    have s1 := @same_new _ _ (.lst []) nD
    have hD1 : (upd H D (.lst [])) D = some (.lst (([] : List Addr).map V.ref)) := upd_same
    generalize upd H D (.lst []) = H1 at s1 hD1
    have lr := Paired.length ro
    refine ⟨_, rfl, R, rfl, ⟨_, SqL.of (s1 _ _ hR)⟩, ?_⟩
    refine for_list (K := K) (a := R) (xs := rs.map V.ref) (fun j σ H' => ∃ y2 y3 y4 y5 y6, ∃ ts : List Addr, σ = [some (.ref R), some (.ref D), y2, y3, y4, y5, y6] ∧ Same H H' ∧ H' D = some (.lst (ts.map V.ref)) ∧ TiesAt H' ts ((xs.take j).flatMap endsOf))
      ⟨_, _, _, _, _, [], rfl, s1, hD1, .nil⟩ (fun j σ H' _ z => by obtain ⟨_, _, _, _, _, _, _, z, _⟩ := z; exact SqL.of (z _ _ hR)) ?_ ?_
    · rintro j v σ H2 hv ⟨y2, y3, y4, y5, y6, ts, rfl, s2, hD2, ti⟩
      rw [List.getElem?_map] at hv
      obtain ⟨r, hrj, rfl⟩ := Option.map_eq_some_iff.mp hv
      obtain ⟨x, hxj, rat⟩ := paired_get (RowsAt.on (TK.of s2) ro) hrj
      obtain ⟨pc, it, r1, r2, r3⟩ := rat.ex
      have ltj : j < xs.length := (List.getElem?_eq_some_iff.mp hxj).1
      have lt2 : ts.length ≤ 2 * j := by
        have h1 := ends_len (xs.take j)
        rw [List.length_take] at h1
        rw [ti.len]
        omega
      refine ⟨r, _, rfl, SqT.of r1, rfl, _, _, rfl, _, _, rfl, _, _, rfl, _, _, rfl, _, _, rfl, rfl, ?_⟩
      refine ⟨fun σ' H' => ∃ ts : List Addr, σ' = [some (.ref R), some (.ref D), some (.ref pc), some (optS x.op), some (optS x.cl), some (.ref it), some (.int x.bal)] ∧ Same H H' ∧ (∀ b o, b ≠ D → H2 b = some o → H' b = some o) ∧ H' D = some (.lst (ts.map V.ref)) ∧ ts.length ≤ 2 * j + 1 ∧ TiesAt H' ts ((xs.take j).flatMap endsOf ++ beginT x), ?_, ?_⟩
      · refine ⟨_, rfl, rfl, _, rfl, ?_⟩
        cases hop : x.op with
        | none =>
          refine iteT ?_
          refine ⟨_, rfl, .inl ⟨rfl, _, SqL.of hD2⟩, _, rfl, pc, _, 0, _, rfl, rfl, SqT.of r2, atI_nat (j := 0) rfl, (by show 2 ≤ sizeLine; decide), fun k nk => ?_⟩
          have s3 := @same_new _ _ (.tup [V.str "begin", .str x.tr]) nk
          have hk : (upd H2 k (.tup [V.str "begin", .str x.tr])) k = some (.tup [V.str "begin", .str x.tr]) := upd_same
          generalize upd H2 k (.tup [V.str "begin", .str x.tr]) = H3 at s3 hk
          refine ⟨_, rfl, (by show 3 ≤ sizeLine; decide), fun t nt => ?_⟩
          have s4 := @same_new _ _ (.tup [V.ref k, .non, .ref pc]) nt
          have ht : (upd H3 t (.tup [V.ref k, .non, .ref pc])) t = some (.tup [V.ref k, .non, .ref pc]) := upd_same
          generalize upd H3 t (.tup [V.ref k, .non, .ref pc]) = H4 at s4 ht
          have s24 := s3.trans s4
          have hD4 := s24 _ _ hD2
          have k5 : TK H4 (upd H4 D (.lst (ts.map V.ref ++ [V.ref t]))) := TK.upd fun xs e => by rw [hD4] at e; cases e
          refine ⟨D, _, _, rfl, rfl, hD4, (by rw [List.length_map]; exact small1000 (by omega)), ts ++ [t], rfl, fun b o e => (upd_ne (ne_of_none e nD)).trans (s24 _ _ (s2 b o e)), fun b o z e => (upd_ne z).trans (s24 _ _ e), ?_, ?_, ?_⟩
          · rw [upd_same, List.map_append]
            rfl
          · rw [List.length_append]
            exact Nat.succ_le_succ lt2
          · have eb : beginT x = [⟨"begin", x.tr, none, some (x.tr, x.k)⟩] := by
              unfold beginT
              rw [hop]
            rw [eb]
            exact TiesAt.snoc ((ti.on (TK.of s24)).on k5) ⟨k, _, _, k5 _ _ ht, k5 _ _ (s4 _ _ hk), rfl, pc, rfl, k5 _ _ (s24 _ _ r2)⟩
        | some n =>
          have eb : beginT x = [] := by
            unfold beginT
            rw [hop]
          refine iteF ⟨ts, rfl, s2, fun b o _ e => e, hD2, Nat.le_succ_of_le lt2, ?_⟩
          rw [eb, List.append_nil]
          exact ti
      · rintro σ' H3 ⟨ts, rfl, s3, o3, hD3, lt3, ti3⟩
        have r2' : H3 pc = some (.tup [.str x.tr, .int (x.k : Nat)]) := o3 _ _ (ne_of r2 hD2 (by intro z; cases z)) r2
        have sn : (xs.take (j + 1)).flatMap endsOf = (xs.take j).flatMap endsOf ++ beginT x ++ nowT x := by
          rw [take_snoc hxj, List.flatMap_append]
          simp only [List.flatMap_cons, List.flatMap_nil, List.append_nil, List.append_assoc]
          rfl
        refine ⟨_, rfl, rfl, _, rfl, ?_⟩
        cases hcl : x.cl with
        | none =>
          refine iteT ?_
          refine ⟨_, rfl, .inl ⟨rfl, _, SqL.of hD3⟩, _, rfl, pc, _, 0, _, rfl, rfl, SqT.of r2', atI_nat (j := 0) rfl, (by show 2 ≤ sizeLine; decide), fun k nk => ?_⟩
          have s4 := @same_new _ _ (.tup [V.str "now", .str x.tr]) nk
          have hk : (upd H3 k (.tup [V.str "now", .str x.tr])) k = some (.tup [V.str "now", .str x.tr]) := upd_same
          generalize upd H3 k (.tup [V.str "now", .str x.tr]) = H4 at s4 hk
          refine ⟨_, rfl, (by show 3 ≤ sizeLine; decide), fun t nt => ?_⟩
          have s5 := @same_new _ _ (.tup [V.ref k, .ref pc, .non]) nt
          have ht : (upd H4 t (.tup [V.ref k, .ref pc, .non])) t = some (.tup [V.ref k, .ref pc, .non]) := upd_same
          generalize upd H4 t (.tup [V.ref k, .ref pc, .non]) = H5 at s5 ht
          have s35 := s4.trans s5
          have hD5 := s35 _ _ hD3
          have k6 : TK H5 (upd H5 D (.lst (ts.map V.ref ++ [V.ref t]))) := TK.upd fun xs e => by rw [hD5] at e; cases e
          refine ⟨D, _, _, rfl, rfl, hD5, (by rw [List.length_map]; exact small1000 (by omega)), ⟨_, _, _, _, _, ts ++ [t], rfl, fun b o e => (upd_ne (ne_of_none e nD)).trans (s35 _ _ (s3 b o e)), ?_, ?_⟩⟩
          · rw [upd_same, List.map_append]
            rfl
          · have eb : nowT x = [⟨"now", x.tr, some (x.tr, x.k), none⟩] := by
              unfold nowT
              rw [hcl]
            rw [sn, eb]
            exact TiesAt.snoc ((ti3.on (TK.of s35)).on k6) ⟨k, _, _, k6 _ _ ht, k6 _ _ (s5 _ _ hk), ⟨pc, rfl, k6 _ _ (s35 _ _ r2')⟩, rfl⟩
        | some n =>
          have eb : nowT x = [] := by
            unfold nowT
            rw [hcl]
          refine iteF ⟨_, _, _, _, _, ts, rfl, s3, hD3, ?_⟩
          rw [sn, eb, List.append_nil]
          exact ti3
    · rintro σ H2 ⟨y2, y3, y4, y5, y6, ts, rfl, s2, hD2, ti⟩
      rw [List.length_map, lr, List.take_length] at ti
      exact ⟨_, rfl, q D ts H2 s2 nD hD2 ti⟩
end
/-! ### ties of looks -/
def optL : Option Str → Leaf
  | none => .none
  | some x => .text x
theorem optL_V (o : Option Str) : DcG.lfV (optL o) = optS o := by cases o <;> rfl
/-- a dict from what rows are opened or closed by to their pieces -/
structure DSt (H : Hp) (kvs : List (Leaf × V)) (f : Row → Option Str) (xs : List Row) : Prop where
  has : ∀ x ∈ xs, (valV kvs (optL (f x))).isSome = true
  of : ∀ k v, valV kvs k = some v → ∃ x ∈ xs, optL (f x) = k ∧ ∃ pc, v = .ref pc ∧ H pc = some (.tup [.str x.tr, .int (x.k : Nat)])
theorem DSt.on {H H' : Hp} (t : TK H H') {kvs : List (Leaf × V)} {f : Row → Option Str} {xs : List Row} (h : DSt H kvs f xs) : DSt H' kvs f xs := by
  refine ⟨h.has, fun k v e => ?_⟩
  obtain ⟨x, hx, e1, pc, e2, e3⟩ := h.of k v e
  exact ⟨x, hx, e1, pc, e2, t _ _ e3⟩
theorem DSt.put {H : Hp} {kvs : List (Leaf × V)} {f : Row → Option Str} {xs : List Row} (h : DSt H kvs f xs) {x : Row} {pc : Addr} (hp : H pc = some (.tup [.str x.tr, .int (x.k : Nat)])) : DSt H (putK kvs (optL (f x)) (.ref pc)) f (xs ++ [x]) := by
  refine ⟨fun y hy => ?_, fun k v e => ?_⟩
  · rw [valV_put]
    split
    · rfl
    · rename_i ne
      rcases List.mem_append.mp hy with hy | hy
      · exact h.has y hy
      · rw [List.mem_singleton.mp hy] at ne
        exact absurd rfl ne
  · rw [valV_put] at e
    split at e
    · rename_i ek
      exact ⟨x, List.mem_append_right _ (List.mem_singleton.mpr rfl), ek.symm, pc, (Option.some.inj e).symm, hp⟩
    · obtain ⟨y, hy, r⟩ := h.of k v e
      exact ⟨y, List.mem_append_left _ hy, r⟩
theorem DSt.nil {H : Hp} {f : Row → Option Str} : DSt H [] f [] := ⟨fun x hx => absurd hx List.not_mem_nil, fun k v e => by cases e⟩
/-- what such a dict tells of a name -/
theorem DSt.get {H : Hp} {kvs : List (Leaf × V)} {f : Row → Option Str} {xs : List Row} (h : DSt H kvs f xs) {n : Str} {p : Str × Nat} (hx : ∃ x ∈ xs, f x = some n) (hu : ∀ x ∈ xs, f x = some n → (x.tr, x.k) = p) : ∃ v, valV kvs (.text n) = some v ∧ PcO H v (some p) := by
  obtain ⟨x, hx, e⟩ := hx
  have h1 := h.has x hx
  rw [e] at h1
  obtain ⟨v, hv⟩ := Option.isSome_iff_exists.mp h1
  obtain ⟨y, hy, e1, pc, e2, e3⟩ := h.of _ _ hv
  have fy : f y = some n := by
    cases hfy : f y with
    | none =>
      rw [hfy] at e1
      cases e1
    | some z =>
      rw [hfy] at e1
      exact congrArg some (Leaf.text.inj e1)
  refine ⟨v, hv, pc, e2, ?_⟩
  rw [← hu y hy fy]
  exact e3
def lookT (C O : Str → Str × Nat) : Ent → List Tie
  | .look n _ _ _ => [⟨"look", n, some (C n), some (O n)⟩]
  | _ => []
theorem lookT_yes {C O : Str → Str × Nat} {e : Ent} (h : e.word = "look") : lookT C O e = [⟨"look", e.name, some (C e.name), some (O e.name)⟩] := by
  cases e with
  | look n m g p => rfl
  | come => exact absurd (show ("come" : Str) = "look" from h) (by decide +kernel)
  | go => exact absurd (show ("go" : Str) = "look" from h) (by decide +kernel)
  | move => exact absurd (show ("move" : Str) = "look" from h) (by decide +kernel)
  | some_ => exact absurd (show ("some" : Str) = "look" from h) (by decide +kernel)
  | swap => exact absurd (show ("swap" : Str) = "look" from h) (by decide +kernel)
  | count => exact absurd (show ("count" : Str) = "look" from h) (by decide +kernel)
theorem lookT_no {C O : Str → Str × Nat} {e : Ent} (h : e.word ≠ "look") : lookT C O e = [] := by
  cases e with
  | look n m g p => exact absurd rfl h
  | _ => rfl
theorem looks_len (C O : Str → Str × Nat) : ∀ es : List Ent, (es.flatMap (lookT C O)).length ≤ es.length
  | [] => Nat.le_refl _
  | e :: r => by
    rw [List.flatMap_cons, List.length_append, List.length_cons]
    have h1 := looks_len C O r
    have h2 : (lookT C O e).length ≤ 1 := by
      cases e <;> simp [lookT]
    omega
theorem big1000 {n : Nat} (h : n ≤ 20000) : n < sizeLine := Nat.lt_of_le_of_lt h (by decide)
def spLooks : Sp := fun vs H Q _ => ∃ (R L : Addr) (rs as : List Addr) (xs : List Row) (es : List Ent) (C O : Str → Str × Nat), vs = [.ref R, .ref L] ∧ H R = some (.lst (rs.map V.ref)) ∧ RowsAt H rs xs ∧ xs.length ≤ 400 ∧ H L = some (.lst (as.map V.ref)) ∧ EntsAt H as es ∧ es.length ≤ 30 ∧
  (∀ e ∈ es, e.word = "look" → (∃ x ∈ xs, x.cl = some e.name) ∧ ∃ x ∈ xs, x.op = some e.name) ∧ (∀ x ∈ xs, ∀ n, (x.cl = some n → (x.tr, x.k) = C n) ∧ (x.op = some n → (x.tr, x.k) = O n)) ∧
  ∀ (l : Addr) (ts : List Addr) (H' : Hp), Same H H' → H l = none → H' l = some (.lst (ts.map V.ref)) → TiesAt H' ts (es.flatMap (lookT C O)) → Q (.ref l) H'
section
variable {P : Program} {w : World} {K : PySem.W.Frag} {mg : Str → Option Value} {base : Heap}
abbrev sLookTN : List Str := ["rows", "told", "closing", "row", "opening", "entry"]
theorem sc_sLookT : FnScope sLookTN ["rows", "told"] (defScope sLookT) := ⟨rfl, rfl, rfl, by decide +kernel, rfl, by decide +kernel, by decide +kernel⟩
set_option maxHeartbeats 4000000 in
theorem ok_looks {f : Addr} {fd : FuncData} (F : Fun K "look_ties" "look_ties" sLookT f fd) : FnOk P w K mg base CX0 1 f fd ["rows", "told"] spLooks := by
  refine F.ok sc_sLookT (fun vs H Q E h => ?_) (fun cdv A outer s H vs Q E hr h => ?_)
  · obtain ⟨R, L, rs, as, xs, es, C, O, rfl, _⟩ := h
    rfl
  · obtain ⟨R, L, rs, as, xs, es, C, O, rfl, hR, ro, lx, hL, en, le, hex, hun, q⟩ := h
    have nd := sc_sLookT.nd
    have hu := hu_of hr
    refine ⟨_, pss_cons (ps_set (i := 2) nd rfl (Or.inr rfl) (DcG.pe_dcK (DK := DcG.lfK P w) (own := [("row", 3)]) (g := gName 3) (tt := tYes) (tk := tOp (rIxT K) (tVar 3) (tC (V.int 2))) (tv := tOp (rIxT K) (tVar 3) (tC (V.int 0))) (DcG.lfK_ok P w) hu rfl nd (pi_list (pv 0)) (blkOk_by (N := sLookTN) (sc := defScope sLookT) (by decide +kernel))
        (fun _ _ _ _ _ => pg_name (i := 3) nd rfl (Or.inl rfl)) (fun _ _ _ _ _ => pts_nil) (fun _ _ _ _ _ => pe_ix ix_tup (pv 3) pe_int (fun _ _ => rfl)) (fun _ _ _ _ _ => pe_ix ix_tup (pv 3) pe_int (fun _ _ => rfl))))
      (pss_cons (ps_set (i := 4) nd rfl (Or.inr rfl) (DcG.pe_dcK (DK := DcG.lfK P w) (own := [("row", 3)]) (g := gName 3) (tt := tYes) (tk := tOp (rIxT K) (tVar 3) (tC (V.int 1))) (tv := tOp (rIxT K) (tVar 3) (tC (V.int 0))) (DcG.lfK_ok P w) hu rfl nd (pi_list (pv 0)) (blkOk_by (N := sLookTN) (sc := defScope sLookT) (by decide +kernel))
        (fun _ _ _ _ _ => pg_name (i := 3) nd rfl (Or.inl rfl)) (fun _ _ _ _ _ => pts_nil) (fun _ _ _ _ _ => pe_ix ix_tup (pv 3) pe_int (fun _ _ => rfl)) (fun _ _ _ _ _ => pe_ix ix_tup (pv 3) pe_int (fun _ _ => rfl))))
      (pss_one (ps_ret (pe_lc (own := [("entry", 5)]) (g := gName 5) (tt := tTest (tOp rEq (tOp (rIxT K) (tVar 5) (tC (V.int 0))) (tC (V.str "look"))))
        (te := tTup (tCons (tTup (tCons (tC (V.str "look")) (tCons (tOp (rIxT K) (tVar 5) (tC (V.int 1))) tNil))) (tCons (DcG.tLfG P w (tVar 2) (tOp (rIxT K) (tVar 5) (tC (V.int 1)))) (tCons (DcG.tLfG P w (tVar 4) (tOp (rIxT K) (tVar 5) (tC (V.int 1)))) tNil)))) rfl nd (pi_list (pv 1)) (blkOk_by (N := sLookTN) (sc := defScope sLookT) (by decide +kernel))
        (fun _ _ _ _ _ => (pg_name (i := 5) nd rfl (Or.inl rfl))) (fun _ _ _ _ _ => (pts_one (pt_cmpR op_eq (pe_ix ix_tup (pv 5) pe_int (fun _ _ => rfl)) pe_str (nomark _))))
        (fun _ _ _ _ _ => (pe_tup (pa_cons (pe_tup (pa_cons pe_str (pa_cons (pe_ix ix_tup (pv 5) pe_int (fun _ _ => rfl)) pa_nil))) (pa_cons (DcG.pe_lfget (pv 2) (pe_ix ix_tup (pv 5) pe_int (fun _ _ => rfl)) (fun _ _ => rfl)) (pa_cons (DcG.pe_lfget (pv 4) (pe_ix ix_tup (pv 5) pe_int (fun _ _ => rfl)) (fun _ _ => rfl)) pa_nil))))))))), ?_⟩
    have lr := Paired.length ro
    refine ⟨_, rfl, R, rfl, ⟨_, SqL.of hR⟩, fun d nd1 => ?_⟩
    refine walk_any (walk_list (K := K) (a := R) (xs := rs.map V.ref)) (fun j H' => Same H H' ∧ ∃ kvs, H' d = some (DcG.LfO P w d kvs) ∧ kvs.length ≤ j ∧ DSt H' kvs Row.cl (xs.take j)) ⟨same_new nd1, [], upd_same, Nat.le_refl _, .nil⟩ (fun j H' _ z => SqL.of (z.1 _ _ hR)) ?_ ?_
    · rintro j v H1 H1' _ ⟨s1, kvs, hd, lk, ds⟩ ⟨rfl, hv⟩
      rw [List.getElem?_map] at hv
      obtain ⟨r, hrj, rfl⟩ := Option.map_eq_some_iff.mp hv
      obtain ⟨x, hxj, rat⟩ := paired_get (RowsAt.on (TK.of s1) ro) hrj
      obtain ⟨pc, it, r1, r2, r3⟩ := rat.ex
      have ltj : j < xs.length := (List.getElem?_eq_some_iff.mp hxj).1
      have k2 : TK H1' (upd H1' d (DcG.LfO P w d (putK kvs (optL x.cl) (.ref pc)))) := TK.upd fun ys e => by rw [hd] at e; unfold DcG.LfO at e; cases e
      refine ⟨rfl, yesT ⟨_, rfl, r, _, 2, _, rfl, rfl, SqT.of r1, atI_nat (j := 2) rfl, _, rfl, r, _, 0, _, rfl, rfl, SqT.of r1, atI_nat (j := 0) rfl, _, ⟨kvs, optL x.cl, hd, (optL_V x.cl).symm, big1000 (by omega), rfl⟩, fun b o e => (upd_ne (ne_of_none e nd1)).trans (s1 b o e), _, upd_same, Nat.le_trans (length_putK ..) (Nat.succ_le_succ lk), ?_⟩⟩
      rw [take_snoc hxj]
      exact ((ds.put r2).on k2)
    rintro H1 ⟨s1, kc, hc, _, dc⟩
    rw [List.length_map, lr, List.take_length] at dc
    have ro1 := RowsAt.on (TK.of s1) ro
    have hR1 := s1 _ _ hR
    refine ⟨_, rfl, R, rfl, ⟨_, SqL.of hR1⟩, fun d2 nd2 => ?_⟩
    refine walk_any (walk_list (K := K) (a := R) (xs := rs.map V.ref)) (fun j H' => Same H1 H' ∧ ∃ kvs, H' d2 = some (DcG.LfO P w d2 kvs) ∧ kvs.length ≤ j ∧ DSt H' kvs Row.op (xs.take j)) ⟨same_new nd2, [], upd_same, Nat.le_refl _, .nil⟩ (fun j H' _ z => SqL.of (z.1 _ _ hR1)) ?_ ?_
    · rintro j v H2 H2' _ ⟨s2, kvs, hd, lk, ds⟩ ⟨rfl, hv⟩
      rw [List.getElem?_map] at hv
      obtain ⟨r, hrj, rfl⟩ := Option.map_eq_some_iff.mp hv
      obtain ⟨x, hxj, rat⟩ := paired_get (RowsAt.on (TK.of s2) ro1) hrj
      obtain ⟨pc, it, r1, r2, r3⟩ := rat.ex
      have ltj : j < xs.length := (List.getElem?_eq_some_iff.mp hxj).1
      have k2 : TK H2' (upd H2' d2 (DcG.LfO P w d2 (putK kvs (optL x.op) (.ref pc)))) := TK.upd fun ys e => by rw [hd] at e; unfold DcG.LfO at e; cases e
      refine ⟨rfl, yesT ⟨_, rfl, r, _, 1, _, rfl, rfl, SqT.of r1, atI_nat (j := 1) rfl, _, rfl, r, _, 0, _, rfl, rfl, SqT.of r1, atI_nat (j := 0) rfl, _, ⟨kvs, optL x.op, hd, (optL_V x.op).symm, big1000 (by omega), rfl⟩, fun b o e => (upd_ne (ne_of_none e nd2)).trans (s2 b o e), _, upd_same, Nat.le_trans (length_putK ..) (Nat.succ_le_succ lk), ?_⟩⟩
      rw [take_snoc hxj]
      exact ((ds.put r2).on k2)
    rintro H2 ⟨s2, ko, ho, _, dO⟩
    rw [List.length_map, lr, List.take_length] at dO
    have s02 := s1.trans s2
    have hL2 := s02 _ _ hL
    have en2 := en.on (TK.of s02)
    have hc2 := s2 _ _ hc
    have dc2 := dc.on (TK.of s2)
    have la := en.len
    refine ⟨_, rfl, L, rfl, ⟨_, SqL.of hL2⟩, fun D nD => ?_⟩
    refine lc_list (K := K) (a := L) (xs := as.map V.ref) (fun i H' => Same H2 H' ∧ ∃ ts : List Addr, H' D = some (.lst (ts.map V.ref)) ∧ TiesAt H' ts ((es.take i).flatMap (lookT C O))) ⟨same_new nD, [], upd_same, .nil⟩ (fun i H' _ z => SqL.of (z.1 _ _ hL2)) ?_ ?_
    · rintro i v H3 hv ⟨s3, ts, hD3, ti⟩
      rw [List.getElem?_map] at hv
      obtain ⟨a, ha, rfl⟩ := Option.map_eq_some_iff.mp hv
      obtain ⟨e, hes, hae⟩ := (en2.on (TK.of s3)).get ha
      have lti : i < es.length := (List.getElem?_eq_some_iff.mp hes).1
      have sn : (es.take (i + 1)).flatMap (lookT C O) = (es.take i).flatMap (lookT C O) ++ lookT C O e := by
        rw [take_snoc hes, List.flatMap_append]
        simp only [List.flatMap_cons, List.flatMap_nil, List.append_nil]
      have lts : ts.length ≤ i := by
        have h1 := looks_len C O (es.take i)
        rw [List.length_take] at h1
        rw [ti.len]
        omega
      refine ⟨rfl, _, rfl, a, _, 0, _, rfl, rfl, SqT.of hae, at0 e, rfl, _, rfl, ite2 (fun ew => ?_) (fun nw => ?_)⟩
      · have ew' : e.word = "look" := V.str.inj (of_decide_eq_true ew)
        obtain ⟨x1, x2⟩ := hex e (List.mem_of_getElem? hes) ew'
        obtain ⟨v1, g1, p1⟩ := (dc2.on (TK.of s3)).get x1 fun x hx => (hun x hx e.name).1
        obtain ⟨v2, g2, p2⟩ := (dO.on (TK.of s3)).get x2 fun x hx => (hun x hx e.name).2
        refine ⟨_, rfl, a, _, 1, _, rfl, rfl, SqT.of hae, at1 e, (by show 2 ≤ sizeLine; decide), fun k nk => ?_⟩
        have s4 := @same_new _ _ (.tup [V.str "look", .str e.name]) nk
        have hk : (upd H3 k (.tup [V.str "look", .str e.name])) k = some (.tup [V.str "look", .str e.name]) := upd_same
        generalize upd H3 k (.tup [V.str "look", .str e.name]) = H4 at s4 hk
        have s24 := s3.trans s4
        refine ⟨_, rfl, _, rfl, a, _, 1, _, rfl, rfl, SqT.of (s4 _ _ hae), at1 e, d, kc, .text e.name, v1, rfl, s24 _ _ hc2, rfl, g1, _, rfl, _, rfl, a, _, 1, _, rfl, rfl, SqT.of (s4 _ _ hae), at1 e, d2, ko, .text e.name, v2, rfl, s24 _ _ ho, rfl, g2, (by show 3 ≤ sizeLine; decide), fun t nt => ?_⟩
        have s5 := @same_new _ _ (.tup [V.ref k, v1, v2]) nt
        have ht : (upd H4 t (.tup [V.ref k, v1, v2])) t = some (.tup [V.ref k, v1, v2]) := upd_same
        generalize upd H4 t (.tup [V.ref k, v1, v2]) = H5 at s5 ht
        have s35 := s4.trans s5
        have hD5 := s35 _ _ hD3
        have k6 : TK H5 (upd H5 D (.lst (ts.map V.ref ++ [V.ref t]))) := TK.upd fun xs e => by rw [hD5] at e; cases e
        refine ⟨_, hD5, (by rw [List.length_map]; exact small1000 (by omega)), fun b o e => (upd_ne (ne_of_none e nD)).trans (s35 _ _ (s3 b o e)), ts ++ [t], ?_, ?_⟩
        · rw [upd_same, List.map_append]
          rfl
        · rw [sn, lookT_yes ew']
          exact TiesAt.snoc ((ti.on (TK.of s35)).on k6) ⟨k, _, _, k6 _ _ ht, k6 _ _ (s5 _ _ hk), (p1.on (TK.of s35)).on k6, (p2.on (TK.of s35)).on k6⟩
      · refine ⟨s3, ts, hD3, ?_⟩
        rw [sn, lookT_no fun z => nw (decide_eq_true (congrArg V.str z)), List.append_nil]
        exact ti
    · rintro H3 ⟨s3, ts, hD3, ti⟩
      rw [List.length_map, la, List.take_length] at ti
      exact q D ts H3 (s02.trans s3) (s02.free nD) hD3 ti
end
/-! ### ties of somes -/
abbrev kTN (t n : Str) : List Key := [.inr t, .inr n]
def prs (x : Row) : List (Row × Str) := x.ins.map fun n => (x, n)
/-- a dict from tracks and names inside to the pieces -/
structure HSt (H : Hp) (kvs : List (List Key × V)) (ps : List (Row × Str)) : Prop where
  has : ∀ p ∈ ps, (valV kvs (kTN p.1.tr p.2)).isSome = true
  of : ∀ k v, valV kvs k = some v → ∃ p ∈ ps, k = kTN p.1.tr p.2 ∧ ∃ pc, v = .ref pc ∧ H pc = some (.tup [.str p.1.tr, .int (p.1.k : Nat)])
  len : kvs.length ≤ ps.length
theorem HSt.on {H H' : Hp} (t : TK H H') {kvs : List (List Key × V)} {ps : List (Row × Str)} (h : HSt H kvs ps) : HSt H' kvs ps := by
  refine ⟨h.has, fun k v e => ?_, h.len⟩
  obtain ⟨p, hp, e1, pc, e2, e3⟩ := h.of k v e
  exact ⟨p, hp, e1, pc, e2, t _ _ e3⟩
theorem HSt.put {H : Hp} {kvs : List (List Key × V)} {ps : List (Row × Str)} (h : HSt H kvs ps) {x : Row} {n : Str} {pc : Addr} (hp : H pc = some (.tup [.str x.tr, .int (x.k : Nat)])) : HSt H (putK kvs (kTN x.tr n) (.ref pc)) (ps ++ [(x, n)]) := by
  refine ⟨fun y hy => ?_, fun k v e => ?_, ?_⟩
  · rw [valV_put]
    split
    · rfl
    · rename_i ne
      rcases List.mem_append.mp hy with hy | hy
      · exact h.has y hy
      · rw [List.mem_singleton.mp hy] at ne
        exact absurd rfl ne
  · rw [valV_put] at e
    split at e
    · rename_i ek
      exact ⟨(x, n), List.mem_append_right _ (List.mem_singleton.mpr rfl), ek, pc, (Option.some.inj e).symm, hp⟩
    · obtain ⟨y, hy, r⟩ := h.of k v e
      exact ⟨y, List.mem_append_left _ hy, r⟩
  · rw [List.length_append]
    exact Nat.le_trans (length_putK ..) (Nat.succ_le_succ h.len)
theorem HSt.nil {H : Hp} : HSt H [] [] := ⟨fun x hx => absurd hx List.not_mem_nil, (fun k v e => by cases e), Nat.le_refl _⟩
theorem HSt.get {H : Hp} {kvs : List (List Key × V)} {xs : List Row} (h : HSt H kvs (xs.flatMap prs)) {D : Str → Str → Str × Nat} {t n : Str} (hx : ∃ x ∈ xs, x.tr = t ∧ n ∈ x.ins) (hu : ∀ x ∈ xs, ∀ n ∈ x.ins, (x.tr, x.k) = D x.tr n) : ∃ v, valV kvs (kTN t n) = some v ∧ PcO H v (some (D t n)) := by
  obtain ⟨x, hx, e, hn⟩ := hx
  have h1 := h.has (x, n) (List.mem_flatMap.mpr ⟨x, hx, List.mem_map.mpr ⟨n, hn, rfl⟩⟩)
  dsimp only at h1
  rw [e] at h1
  obtain ⟨v, hv⟩ := Option.isSome_iff_exists.mp h1
  obtain ⟨p, hp, e1, pc, e2, e3⟩ := h.of _ _ hv
  obtain ⟨y, hy, hp⟩ := List.mem_flatMap.mp hp
  obtain ⟨n', hn', rfl⟩ := List.mem_map.mp hp
  have e4 : t = y.tr := Sum.inr.inj (List.cons.inj e1).1
  have e5 : n = n' := Sum.inr.inj (List.cons.inj (List.cons.inj e1).2).1
  refine ⟨v, hv, pc, e2, ?_⟩
  rw [e4, e5, ← hu y hy n' hn']
  exact e3
theorem prs_len {xs : List Row} (h : ∀ x ∈ xs, x.ins.length ≤ 30) : (xs.flatMap prs).length ≤ 30 * xs.length := by
  induction xs with
  | nil => exact Nat.zero_le _
  | cons x r ih =>
    rw [List.flatMap_cons, List.length_append, List.length_cons]
    have h1 := ih fun y hy => h y (List.mem_cons_of_mem _ hy)
    have h2 := h x List.mem_cons_self
    have h3 : (prs x).length = x.ins.length := List.length_map ..
    omega
def someT (D : Str → Str → Str × Nat) : Ent → List Tie
  | .some_ n _ _ o t => [⟨"some", n, some (D o n), if t = "" then none else some (D t n)⟩]
  | _ => []
theorem someT_no {D : Str → Str → Str × Nat} {e : Ent} (h : e.word ≠ "some") : someT D e = [] := by
  cases e with
  | some_ n m g o t => exact absurd rfl h
  | _ => rfl
theorem somes_len (D : Str → Str → Str × Nat) : ∀ es : List Ent, (es.flatMap (someT D)).length ≤ es.length
  | [] => Nat.le_refl _
  | e :: r => by
    rw [List.flatMap_cons, List.length_append, List.length_cons]
    have h1 := somes_len D r
    have h2 : (someT D e).length ≤ 1 := by
      cases e <;> simp [someT]
    omega
theorem an_some {e : Ent} (h : e.word = "some") : ∃ n m g o t, e = .some_ n m g o t := by
  cases e with
  | some_ n m g o t => exact ⟨n, m, g, o, t, rfl⟩
  | look => exact absurd (show ("look" : Str) = "some" from h) (by decide +kernel)
  | come => exact absurd (show ("come" : Str) = "some" from h) (by decide +kernel)
  | go => exact absurd (show ("go" : Str) = "some" from h) (by decide +kernel)
  | move => exact absurd (show ("move" : Str) = "some" from h) (by decide +kernel)
  | swap => exact absurd (show ("swap" : Str) = "some" from h) (by decide +kernel)
  | count => exact absurd (show ("count" : Str) = "some" from h) (by decide +kernel)
def spSomes : Sp := fun vs H Q _ => ∃ (R L : Addr) (rs as : List Addr) (xs : List Row) (es : List Ent) (D : Str → Str → Str × Nat), vs = [.ref R, .ref L] ∧ H R = some (.lst (rs.map V.ref)) ∧ RowsAt H rs xs ∧ xs.length ≤ 400 ∧ (∀ x ∈ xs, x.ins.length ≤ 30) ∧ H L = some (.lst (as.map V.ref)) ∧ EntsAt H as es ∧ es.length ≤ 30 ∧
  (∀ n m g o t, Ent.some_ n m g o t ∈ es → (∃ x ∈ xs, x.tr = o ∧ n ∈ x.ins) ∧ (t ≠ "" → ∃ x ∈ xs, x.tr = t ∧ n ∈ x.ins)) ∧ (∀ x ∈ xs, ∀ n ∈ x.ins, (x.tr, x.k) = D x.tr n) ∧
  ∀ (l : Addr) (ts : List Addr) (H' : Hp), Same H H' → H l = none → H' l = some (.lst (ts.map V.ref)) → TiesAt H' ts (es.flatMap (someT D)) → Q (.ref l) H'
section
variable {P : Program} {w : World} {K : PySem.W.Frag} {mg : Str → Option Value} {base : Heap}
abbrev sSomeTN : List Str := ["rows", "told", "holding", "row", "name", "found", "entry", "out", "into"]
theorem sc_sSomeT : FnScope sSomeTN ["rows", "told"] (defScope sSomeT) := ⟨rfl, rfl, rfl, by decide +kernel, rfl, by decide +kernel, by decide +kernel⟩
set_option maxHeartbeats 4000000 in
theorem ok_somes {f : Addr} {fd : FuncData} (F : Fun K "some_ties" "some_ties" sSomeT f fd) : FnOk P w K mg base CX0 1 f fd ["rows", "told"] spSomes := by
  refine F.ok sc_sSomeT (fun vs H Q E h => ?_) (fun cdv A outer s H vs Q E hr h => ?_)
  · obtain ⟨R, L, rs, as, xs, es, D, rfl, _⟩ := h
    rfl
  · obtain ⟨R, L, rs, as, xs, es, D, rfl, hR, ro, lx, li, hL, en, le, hex, hun, q⟩ := h
    have nd := sc_sSomeT.nd
    have hu := hu_of hr
    refine ⟨_, pss_cons (DcG.ps_setD2 (n := 2) (DK := DcG.tupK) (own := [("row", 3), ("name", 4)]) (ws := [4]) (g := gName 3) (gj := gName 4) (tt := tYes) (tj := tYes) (wj := iTup K (tOp (rIxT K) (tVar 3) (tC (V.int 3)))) (tk := tTup (tCons (tOp (rIxT K) (tOp (rIxT K) (tVar 3) (tC (V.int 0))) (tC (V.int 0))) (tCons (tVar 4) tNil))) (tv := tOp (rIxT K) (tVar 3) (tC (V.int 0)))
        (DcG.tupK_ok P w) hu rfl nd rfl rfl (DcG.swaps_dict rfl rfl rfl (by decide +kernel)) (pi_list (pv 0)) (blkOk_by (N := sSomeTN) (sc := defScope sSomeT) (by decide +kernel)) (by decide) (fun _ _ _ _ _ => pg_name (i := 3) nd rfl (Or.inl rfl)) (fun _ _ _ _ _ => pts_nil)
        (fun _ _ _ _ _ => pi_tup (pe_ix ix_tup (pv 3) pe_int (fun _ _ => rfl))) (fun _ _ _ _ _ => pg_name (i := 4) nd rfl (Or.inl rfl)) (fun _ _ _ _ _ => pts_nil)
        (fun _ _ _ _ _ => pe_tup (pa_cons (pe_ix ix_tup (pe_ix ix_tup (pv 3) pe_int (fun _ _ => rfl)) pe_int (fun _ _ => rfl)) (pa_cons (pv 4) pa_nil))) (fun _ _ _ _ _ => pe_ix ix_tup (pv 3) pe_int (fun _ _ => rfl)))
      (pss_cons (ps_set (i := 5) nd rfl (Or.inl rfl) (pe_lst pa_nil))
      (pss_cons (ps_for PassesOwn.never rfl (pi_list (pv 1)) (pg_name (i := 6) nd rfl (Or.inl rfl))
        (pss_one (ps_if (pt_cmpR op_eq (pe_ix ix_tup (pv 6) pe_int (fun _ _ => rfl)) pe_str (nomark _)) (pss_cons (ps_set (i := 7) nd rfl (Or.inl rfl) (pe_dget hu (pv 2) (pe_tup (pa_cons (pe_ix ix_tup (pv 6) pe_int (fun _ _ => rfl)) (pa_cons (pe_ix ix_tup (pv 6) pe_int (fun _ _ => rfl)) pa_nil))) (fun _ _ => rfl)))
          (C8.pss_cut (ps_set (i := 8) nd rfl (Or.inl rfl) (pe_ifExp (pt_cmpR op_eq (pe_ix ix_tup (pv 6) pe_int (fun _ _ => rfl)) pe_str (nomark _)) pe_non (pe_dget hu (pv 2) (pe_tup (pa_cons (pe_ix ix_tup (pv 6) pe_int (fun _ _ => rfl)) (pa_cons (pe_ix ix_tup (pv 6) pe_int (fun _ _ => rfl)) pa_nil))) (fun _ _ => rfl))))
          (pss_one (ps_expr (pe_bm PySem.F.plainAttrs_list PySem.F.slot_list_append PySem.F.type_list_append mt_append (pv 5) (pa_cons (pe_tup (pa_cons (pe_tup (pa_cons pe_str (pa_cons (pe_ix ix_tup (pv 6) pe_int (fun _ _ => rfl)) pa_nil))) (pa_cons (pv 7) (pa_cons (pv 8) pa_nil)))) pa_nil)))))) pss_nil)))
      (pss_one (ps_ret (pv 5))))), ?_⟩
    have lr := Paired.length ro
    refine ⟨_, rfl, R, rfl, ⟨_, SqL.of hR⟩, fun d nd1 => ?_⟩
    refine walk_any (walk_list (K := K) (a := R) (xs := rs.map V.ref)) (fun j H' => Same H H' ∧ ∃ kvs, H' d = some (.dT kvs) ∧ HSt H' kvs ((xs.take j).flatMap prs)) ⟨same_new nd1, [], upd_same, .nil⟩ (fun j H' _ z => SqL.of (z.1 _ _ hR)) ?_ ?_
    · rintro j v H1 H1' _ ⟨s1, kvs, hd, hs⟩ ⟨rfl, hv⟩
      rw [List.getElem?_map] at hv
      obtain ⟨r, hrj, rfl⟩ := Option.map_eq_some_iff.mp hv
      obtain ⟨x, hxj, rat⟩ := paired_get ro hrj
      obtain ⟨pc, it, r1, r2, r3⟩ := rat.ex
      have ltj : j < xs.length := (List.getElem?_eq_some_iff.mp hxj).1
      have sn : (xs.take (j + 1)).flatMap prs = (xs.take j).flatMap prs ++ prs x := by
        rw [take_snoc hxj, List.flatMap_append]
        simp only [List.flatMap_cons, List.flatMap_nil, List.append_nil]
      have lp : ((xs.take j).flatMap prs).length ≤ 12000 := by
        have h1 := prs_len (xs := xs.take j) fun y hy => li y (List.mem_of_mem_take hy)
        rw [List.length_take] at h1
        omega
      have lxi := li x (List.mem_of_getElem? hxj)
      refine ⟨rfl, yesT ⟨_, rfl, r, _, 3, _, rfl, rfl, SqT.of (s1 _ _ r1), atI_nat (j := 3) rfl, it, rfl, ⟨_, SqT.of (s1 _ _ r3)⟩, ?_⟩⟩
      refine walk_any (walk_tup (K := K) (a := it) (xs := x.ins.map V.str)) (fun i H' => Same H H' ∧ ∃ kvs, H' d = some (.dT kvs) ∧ HSt H' kvs ((xs.take j).flatMap prs ++ (x.ins.take i).map fun n => (x, n))) ⟨s1, kvs, hd, (by rw [List.take_zero, List.map_nil, List.append_nil]; exact hs)⟩ (fun i H' _ z => SqT.of (z.1 _ _ r3)) ?_ ?_
      · rintro i v H2 H2' _ ⟨s2, kvs2, hd2, hs2⟩ ⟨rfl, hv⟩
        rw [List.getElem?_map] at hv
        obtain ⟨n, hni, rfl⟩ := Option.map_eq_some_iff.mp hv
        have lti : i < x.ins.length := (List.getElem?_eq_some_iff.mp hni).1
        refine ⟨rfl, yesT ⟨_, rfl, r, _, 0, _, rfl, rfl, SqT.of (s2 _ _ r1), atI_nat (j := 0) rfl, pc, _, 0, _, rfl, rfl, SqT.of (s2 _ _ r2), atI_nat (j := 0) rfl, _, rfl, (by show 2 ≤ sizeLine; decide), fun b nb => ?_⟩⟩
        have s3 := @same_new _ _ (.tup [V.str x.tr, .str n]) nb
        have hb : (upd H2' b (.tup [V.str x.tr, .str n])) b = some (.tup ((kTN x.tr n).map kV)) := upd_same
        generalize upd H2' b (.tup [V.str x.tr, .str n]) = H3 at s3 hb
        have s03 := s2.trans s3
        have hd3 := s3 _ _ hd2
        have k4 : TK H3 (upd H3 d (.dT (putK kvs2 (kTN x.tr n) (.ref pc)))) := TK.upd fun ys e => by rw [hd3] at e; cases e
        have ll := hs2.len
        rw [List.length_append, List.length_map, List.length_take] at ll
        refine ⟨_, rfl, r, _, 0, _, rfl, rfl, SqT.of (s03 _ _ r1), atI_nat (j := 0) rfl, _, ⟨kvs2, kTN x.tr n, b, hd3, rfl, hb, big1000 (by omega), rfl⟩, fun b o e => (upd_ne (ne_of_none e nd1)).trans (s03 b o e), _, upd_same, ?_⟩
        rw [take_snoc hni, List.map_append, ← List.append_assoc]
        exact ((hs2.on (TK.of s3)).put (s03 _ _ r2)).on k4
      · rintro H2 ⟨s2, kvs2, hd2, hs2⟩
        rw [List.length_map, List.take_length] at hs2
        refine ⟨s2, kvs2, hd2, ?_⟩
        rw [sn]
        exact hs2
    rintro H1 ⟨s1, kvs, hd, hs⟩
    rw [List.length_map, lr, List.take_length] at hs
    refine ⟨Nat.zero_le _, fun F nF => ?_⟩
    have s2 := @same_new _ _ (.lst []) nF
    have hF2 : (upd H1 F (.lst [])) F = some (.lst (([] : List Addr).map V.ref)) := upd_same
    generalize upd H1 F (.lst []) = H2 at s2 hF2
    have s02 := s1.trans s2
    have nF0 : H F = none := s1.free nF
    have hd2 := s2 _ _ hd
    have hs2 := hs.on (TK.of s2)
    have la := en.len
    have ndF : d ≠ F := ne_of_none hd nF
    refine ⟨_, rfl, L, rfl, ⟨_, SqL.of (s02 _ _ hL)⟩, ?_⟩
    refine for_list (K := K) (a := L) (xs := as.map V.ref) (fun i σ H' => ∃ y6 y7 y8, ∃ ts : List Addr, σ = [some (.ref R), some (.ref L), some (.ref d), none, none, some (.ref F), y6, y7, y8] ∧ Same H H' ∧ H' d = some (.dT kvs) ∧ HSt H' kvs (xs.flatMap prs) ∧ H' F = some (.lst (ts.map V.ref)) ∧ TiesAt H' ts ((es.take i).flatMap (someT D)))
      ⟨_, _, _, [], rfl, s02, hd2, hs2, hF2, .nil⟩ (fun i σ H' _ z => by obtain ⟨_, _, _, _, _, z, _⟩ := z; exact SqL.of (z _ _ hL)) ?_ ?_
    · rintro i v σ H3 hv ⟨y6, y7, y8, ts, rfl, s3, hd3, hs3, hF3, ti⟩
      rw [List.getElem?_map] at hv
      obtain ⟨a, ha, rfl⟩ := Option.map_eq_some_iff.mp hv
      obtain ⟨e, hes, hae⟩ := (en.on (TK.of s3)).get ha
      have lti : i < es.length := (List.getElem?_eq_some_iff.mp hes).1
      have sn : (es.take (i + 1)).flatMap (someT D) = (es.take i).flatMap (someT D) ++ someT D e := by
        rw [take_snoc hes, List.flatMap_append]
        simp only [List.flatMap_cons, List.flatMap_nil, List.append_nil]
      have lts : ts.length ≤ i := by
        have h1 := somes_len D (es.take i)
        rw [List.length_take] at h1
        rw [ti.len]
        omega
      refine ⟨_, rfl, a, _, 0, _, rfl, rfl, SqT.of hae, at0 e, rfl, _, rfl, ite2 (fun ew => ?_) (fun nw => ?_)⟩
      · obtain ⟨n, m, g, o, t, rfl⟩ := an_some (V.str.inj (of_decide_eq_true ew))
        obtain ⟨x1, x2⟩ := hex n m g o t (List.mem_of_getElem? hes)
        obtain ⟨v1, g1, p1⟩ := hs3.get x1 hun
        refine ⟨_, rfl, _, rfl, a, _, 4, _, rfl, rfl, SqT.of hae, atI_nat (j := 4) rfl, _, rfl, a, _, 1, V.str n, rfl, rfl, SqT.of hae, atI_nat (j := 1) rfl, (by show 2 ≤ sizeLine; decide), fun b nb => ?_⟩
        have s4 := @same_new _ _ (.tup [V.str o, .str n]) nb
        have hb : (upd H3 b (.tup [V.str o, .str n])) b = some (.tup ((kTN o n).map kV)) := upd_same
        generalize upd H3 b (.tup [V.str o, .str n]) = H4 at s4 hb
        have hae4 := s4 _ _ hae
        have hd4 := s4 _ _ hd3
        refine ⟨d, v1, rfl, (by rw [← g1]; exact DGet.t hd4 hb), ?_⟩
        refine ⟨fun σ' H' => ∃ v2 : V, σ' = [some (.ref R), some (.ref L), some (.ref d), none, none, some (.ref F), some (.ref a), some v1, some v2] ∧ Same H4 H' ∧ PcO H' v2 (if t = "" then none else some (D t n)), ?_, ?_⟩
        · refine ⟨_, rfl, a, _, 5, V.str t, rfl, rfl, SqT.of hae4, atI_nat (j := 5) rfl, rfl, _, rfl, ite2 (fun et => ?_) (fun nt => ?_)⟩
          · have et' : t = "" := V.str.inj (of_decide_eq_true et)
            exact ⟨.non, rfl, fun _ _ e => e, by rw [if_pos et']; rfl⟩
          · have nt' : t ≠ "" := fun z => nt (decide_eq_true (congrArg V.str z))
            obtain ⟨v2, g2, p2⟩ := (hs3.on (TK.of s4)).get (x2 nt') hun
            refine ⟨_, rfl, _, rfl, a, _, 5, V.str t, rfl, rfl, SqT.of hae4, atI_nat (j := 5) rfl, _, rfl, a, _, 1, V.str n, rfl, rfl, SqT.of hae4, atI_nat (j := 1) rfl, (by show 2 ≤ sizeLine; decide), fun b2 nb2 => ?_⟩
            have s5 := @same_new _ _ (.tup [V.str t, .str n]) nb2
            have hb2 : (upd H4 b2 (.tup [V.str t, .str n])) b2 = some (.tup ((kTN t n).map kV)) := upd_same
            generalize upd H4 b2 (.tup [V.str t, .str n]) = H5 at s5 hb2
            exact ⟨d, v2, rfl, (by rw [← g2]; exact DGet.t (s5 _ _ hd4) hb2), v2, rfl, s5, (by rw [if_neg nt']; exact p2.on (TK.of s5))⟩
        · rintro σ' H5 ⟨v2, rfl, s5, p2⟩
          have s35 := s4.trans s5
          have hae5 := s35 _ _ hae
          have hF5 := s35 _ _ hF3
          refine ⟨_, rfl, .inl ⟨rfl, _, SqL.of hF5⟩, _, rfl, a, _, 1, V.str n, rfl, rfl, SqT.of hae5, atI_nat (j := 1) rfl, (by show 2 ≤ sizeLine; decide), fun k nk => ?_⟩
          have s6 := @same_new _ _ (.tup [V.str "some", .str n]) nk
          have hk : (upd H5 k (.tup [V.str "some", .str n])) k = some (.tup [V.str "some", .str n]) := upd_same
          generalize upd H5 k (.tup [V.str "some", .str n]) = H6 at s6 hk
          refine ⟨_, rfl, _, rfl, (by show 3 ≤ sizeLine; decide), fun u nu => ?_⟩
          have s7 := @same_new _ _ (.tup [V.ref k, v1, v2]) nu
          have hu7 : (upd H6 u (.tup [V.ref k, v1, v2])) u = some (.tup [V.ref k, v1, v2]) := upd_same
          generalize upd H6 u (.tup [V.ref k, v1, v2]) = H7 at s7 hu7
          have s57 := s6.trans s7
          have s37 := s35.trans s57
          have hF7 := s37 _ _ hF3
          have k8 : TK H7 (upd H7 F (.lst (ts.map V.ref ++ [V.ref u]))) := TK.upd fun xs e => by rw [hF7] at e; cases e
          refine ⟨F, _, _, rfl, rfl, hF7, (by rw [List.length_map]; exact small1000 (by omega)), ⟨_, _, _, ts ++ [u], rfl, fun b o e => (upd_ne (ne_of_none e nF0)).trans (s37 _ _ (s3 b o e)), (upd_ne ndF).trans (s37 _ _ hd3), (hs3.on (TK.of s37)).on k8, ?_, ?_⟩⟩
          · rw [upd_same, List.map_append]
            rfl
          · rw [sn]
            exact TiesAt.snoc ((ti.on (TK.of s37)).on k8) ⟨k, _, _, k8 _ _ hu7, k8 _ _ (s7 _ _ hk), (p1.on (TK.of s37)).on k8, (p2.on (TK.of s57)).on k8⟩
      · refine ⟨_, _, _, ts, rfl, s3, hd3, hs3, hF3, ?_⟩
        rw [sn, someT_no fun z => nw (decide_eq_true (congrArg V.str z)), List.append_nil]
        exact ti
    · rintro σ H3 ⟨y6, y7, y8, ts, rfl, s3, hd3, hs3, hF3, ti⟩
      rw [List.length_map, la, List.take_length] at ti
      exact ⟨_, rfl, q F ts H3 s3 nF0 hF3 ti⟩
end
/-! ### pieces by their numbers -/
def marks (L : List Ent) : Nat := (L.filter Ent.mark).length
def numb : List Ent → Str → Nat
  | [], _ => 0
  | e :: r, n => if e.name = n then 0 else (if e.mark = true then 1 else 0) + numb r n
theorem numb_at {e : Ent} {r : List Ent} : numb (e :: r) e.name = 0 := if_pos rfl
theorem numb_mark {e : Ent} {r : List Ent} {n : Str} (h : e.name ≠ n) (m : e.mark = true) : numb (e :: r) n = 1 + numb r n := by
  rw [show numb (e :: r) n = (if e.name = n then 0 else (if e.mark = true then 1 else 0) + numb r n) from rfl, if_neg h, if_pos m]
theorem numb_in {e : Ent} {r : List Ent} {n : Str} (h : e.name ≠ n) (m : ¬ e.mark = true) : numb (e :: r) n = numb r n := by
  rw [show numb (e :: r) n = (if e.name = n then 0 else (if e.mark = true then 1 else 0) + numb r n) from rfl, if_neg h, if_neg m, Nat.zero_add]
theorem cut_yes {tr : Str} {e : Ent} {r : List Ent} {rows : List Row} {op : Option Ent} {ins : List Ent} (m : e.mark = true) : cutRows tr (e :: r) rows op ins = cutRows tr r (rows ++ [mkRow tr rows.length op (some e) ins]) (some e) [] := by
  rw [cutRows, if_pos m]
theorem cut_no {tr : Str} {e : Ent} {r : List Ent} {rows : List Row} {op : Option Ent} {ins : List Ent} (m : ¬ e.mark = true) : cutRows tr (e :: r) rows op ins = cutRows tr r rows op (ins ++ [e]) := by
  rw [cutRows, if_neg m]
theorem cut_facts {tr : Str} {x : Row} : ∀ (L : List Ent) (rows : List Row) (op : Option Ent) (ins : List Ent), (L.map Ent.name).Nodup → x ∈ cutRows tr L rows op ins → x ∈ rows ∨ (x.tr = tr ∧ (∀ n, x.cl = some n → ∃ e ∈ L, e.mark = true ∧ e.name = n ∧ x.k = rows.length + numb L n) ∧
    (∀ n, x.op = some n → (op.map Ent.name = some n ∧ x.k = rows.length) ∨ ∃ e ∈ L, e.mark = true ∧ e.name = n ∧ x.k = rows.length + numb L n + 1) ∧ (∀ n ∈ x.ins, (n ∈ ins.map Ent.name ∧ x.k = rows.length) ∨ ∃ e ∈ L, ¬ e.mark = true ∧ e.name = n ∧ x.k = rows.length + numb L n) ∧ x.ins.length ≤ ins.length + L.length)
  | [], rows, op, ins, _, h => by
    rcases List.mem_append.mp h with h | h
    · exact .inl h
    · rw [List.mem_singleton.mp h]
      exact .inr ⟨rfl, (fun n e => by cases e), fun n e => .inl ⟨e, rfl⟩, fun n hn => .inl ⟨hn, rfl⟩, (Nat.le_of_eq (List.length_map ..) : (ins.map Ent.name).length ≤ ins.length)⟩
  | e :: r, rows, op, ins, nd, h => by
    obtain ⟨ne, nd'⟩ := List.nodup_cons.mp nd
    have off : ∀ e' ∈ r, e.name ≠ e'.name := fun e' he z => ne (List.mem_map.mpr ⟨e', he, z.symm⟩)
    by_cases m : e.mark = true
    · rw [cut_yes m] at h
      have ll : (rows ++ [mkRow tr rows.length op (some e) ins]).length = rows.length + 1 := by rw [List.length_append]; rfl
      rcases cut_facts r _ _ _ nd' h with h | ⟨h1, h2, h3, h4, h5⟩
      · rcases List.mem_append.mp h with h | h
        · exact .inl h
        · rw [List.mem_singleton.mp h]
          refine .inr ⟨rfl, fun n z => ?_, fun n z => .inl ⟨z, rfl⟩, fun n hn => .inl ⟨hn, rfl⟩, ?_⟩
          · have z' : e.name = n := Option.some.inj z
            refine ⟨e, List.mem_cons_self, m, z', ?_⟩
            rw [← z', numb_at]
            rfl
          · have : (mkRow tr rows.length op (some e) ins).ins.length = ins.length := List.length_map ..
            omega
      · rw [ll] at h2 h3 h4
        refine .inr ⟨h1, fun n z => ?_, fun n z => ?_, fun n hn => ?_, ?_⟩
        · obtain ⟨e', q1, q2, q3, q4⟩ := h2 n z
          refine ⟨e', List.mem_cons_of_mem _ q1, q2, q3, ?_⟩
          rw [numb_mark (by rw [← q3]; exact off e' q1) m]
          omega
        · rcases h3 n z with ⟨q1, q2⟩ | ⟨e', q1, q2, q3, q4⟩
          · have q1' : e.name = n := Option.some.inj q1
            refine .inr ⟨e, List.mem_cons_self, m, q1', ?_⟩
            rw [← q1', numb_at]
            exact q2
          · refine .inr ⟨e', List.mem_cons_of_mem _ q1, q2, q3, ?_⟩
            rw [numb_mark (by rw [← q3]; exact off e' q1) m]
            omega
        · rcases h4 n hn with ⟨q1, _⟩ | ⟨e', q1, q2, q3, q4⟩
          · exact absurd q1 List.not_mem_nil
          · refine .inr ⟨e', List.mem_cons_of_mem _ q1, q2, q3, ?_⟩
            rw [numb_mark (by rw [← q3]; exact off e' q1) m]
            omega
        · rw [List.length_cons]
          simp only [List.length_nil] at h5
          omega
    · rw [cut_no m] at h
      rcases cut_facts r _ _ _ nd' h with h | ⟨h1, h2, h3, h4, h5⟩
      · exact .inl h
      · refine .inr ⟨h1, fun n z => ?_, fun n z => ?_, fun n hn => ?_, ?_⟩
        · obtain ⟨e', q1, q2, q3, q4⟩ := h2 n z
          refine ⟨e', List.mem_cons_of_mem _ q1, q2, q3, ?_⟩
          rw [numb_in (by rw [← q3]; exact off e' q1) m]
          exact q4
        · rcases h3 n z with q | ⟨e', q1, q2, q3, q4⟩
          · exact .inl q
          · refine .inr ⟨e', List.mem_cons_of_mem _ q1, q2, q3, ?_⟩
            rw [numb_in (by rw [← q3]; exact off e' q1) m]
            exact q4
        · rcases h4 n hn with ⟨q1, q2⟩ | ⟨e', q1, q2, q3, q4⟩
          · rw [List.map_append] at q1
            rcases List.mem_append.mp q1 with q1 | q1
            · exact .inl ⟨q1, q2⟩
            · have q3 : n = e.name := List.mem_singleton.mp q1
              refine .inr ⟨e, List.mem_cons_self, m, q3.symm, ?_⟩
              rw [q3, numb_at]
              exact q2
          · refine .inr ⟨e', List.mem_cons_of_mem _ q1, q2, q3, ?_⟩
            rw [numb_in (by rw [← q3]; exact off e' q1) m]
            exact q4
        · rw [List.length_append] at h5
          rw [List.length_cons]
          simp only [List.length_cons, List.length_nil] at h5
          omega
theorem cut_keep {tr : Str} {x : Row} : ∀ (L : List Ent) (rows : List Row) (op : Option Ent) (ins : List Ent), x ∈ rows → x ∈ cutRows tr L rows op ins
  | [], _, _, _, h => List.mem_append_left _ h
  | e :: r, rows, op, ins, h => by
    by_cases m : e.mark = true
    · rw [cut_yes m]
      exact cut_keep r _ _ _ (List.mem_append_left _ h)
    · rw [cut_no m]
      exact cut_keep r _ _ _ h
theorem cut_op {tr : Str} {e0 : Ent} : ∀ (L : List Ent) (rows : List Row) (ins : List Ent), ∃ x ∈ cutRows tr L rows (some e0) ins, x.op = some e0.name
  | [], rows, ins => ⟨_, List.mem_append_right _ (List.mem_singleton.mpr rfl), rfl⟩
  | e :: r, rows, ins => by
    by_cases m : e.mark = true
    · rw [cut_yes m]
      exact ⟨_, cut_keep r _ _ _ (List.mem_append_right _ (List.mem_singleton.mpr rfl)), rfl⟩
    · rw [cut_no m]
      exact cut_op r _ _
theorem cut_ins {tr n : Str} : ∀ (L : List Ent) (rows : List Row) (op : Option Ent) (ins : List Ent), n ∈ ins.map Ent.name → ∃ x ∈ cutRows tr L rows op ins, x.tr = tr ∧ n ∈ x.ins
  | [], rows, op, ins, h => ⟨_, List.mem_append_right _ (List.mem_singleton.mpr rfl), rfl, h⟩
  | e :: r, rows, op, ins, h => by
    by_cases m : e.mark = true
    · rw [cut_yes m]
      exact ⟨_, cut_keep r _ _ _ (List.mem_append_right _ (List.mem_singleton.mpr rfl)), rfl, h⟩
    · rw [cut_no m]
      exact cut_ins r _ _ _ (by rw [List.map_append]; exact List.mem_append_left _ h)
theorem cut_mark {tr : Str} {e : Ent} (me : e.mark = true) : ∀ (L : List Ent) (rows : List Row) (op : Option Ent) (ins : List Ent), e ∈ L → (∃ x ∈ cutRows tr L rows op ins, x.cl = some e.name) ∧ ∃ x ∈ cutRows tr L rows op ins, x.op = some e.name
  | [], _, _, _, h => absurd h List.not_mem_nil
  | e' :: r, rows, op, ins, h => by
    by_cases m : e'.mark = true
    · rw [cut_yes m]
      rcases List.mem_cons.mp h with rfl | h
      · exact ⟨⟨_, cut_keep r _ _ _ (List.mem_append_right _ (List.mem_singleton.mpr rfl)), rfl⟩, cut_op r _ _⟩
      · exact cut_mark me r _ _ _ h
    · rw [cut_no m]
      rcases List.mem_cons.mp h with rfl | h
      · exact absurd me m
      · exact cut_mark me r _ _ _ h
theorem cut_in {tr : Str} {e : Ent} (me : ¬ e.mark = true) : ∀ (L : List Ent) (rows : List Row) (op : Option Ent) (ins : List Ent), e ∈ L → ∃ x ∈ cutRows tr L rows op ins, x.tr = tr ∧ e.name ∈ x.ins
  | [], _, _, _, h => absurd h List.not_mem_nil
  | e' :: r, rows, op, ins, h => by
    by_cases m : e'.mark = true
    · rw [cut_yes m]
      rcases List.mem_cons.mp h with rfl | h
      · exact absurd m me
      · exact cut_in me r _ _ _ h
    · rw [cut_no m]
      rcases List.mem_cons.mp h with rfl | h
      · exact cut_ins r _ _ _ (by rw [List.map_append]; exact List.mem_append_right _ (List.mem_singleton.mpr rfl))
      · exact cut_in me r _ _ _ h
def bgT (t : Str) (k : Nat) : Tie := ⟨"begin", t, none, some (t, k)⟩
def nwT (t : Str) (k : Nat) : Tie := ⟨"now", t, some (t, k), none⟩
theorem cut_ends {tr : Str} : ∀ (L : List Ent) (rows : List Row) (op : Option Ent) (ins : List Ent), (cutRows tr L rows op ins).flatMap endsOf = rows.flatMap endsOf ++ (match op with | none => [bgT tr rows.length] | some _ => []) ++ [nwT tr (rows.length + marks L)]
  | [], rows, op, ins => by
    rw [cutRows, List.flatMap_append, List.append_assoc]
    refine congrArg _ ?_
    cases op <;> rfl
  | e :: r, rows, op, ins => by
    by_cases m : e.mark = true
    · have ll : (rows ++ [mkRow tr rows.length op (some e) ins]).length = rows.length + 1 := by rw [List.length_append]; rfl
      have lm : marks (e :: r) = marks r + 1 := by
        unfold marks
        rw [List.filter_cons_of_pos m]
        rfl
      rw [cut_yes m, cut_ends r, List.flatMap_append, ll, lm, List.append_nil, show rows.length + (marks r + 1) = rows.length + 1 + marks r by omega]
      refine congrArg (· ++ _) (congrArg _ ?_)
      cases op <;> rfl
    · have lm : marks (e :: r) = marks r := by
        unfold marks
        rw [List.filter_cons_of_neg m]
      rw [cut_no m, cut_ends r, lm]
/-! ### the ties of a good -/
def trk (T : List Ent) (n : Str) : Str := ((T.find? fun e => decide (e.name = n)).map fun e => e.places.headD "").getD ""
def clP (T : List Ent) (n : Str) : Str × Nat := (trk T n, numb (onTrack (trk T n) T) n)
def opP (T : List Ent) (n : Str) : Str × Nat := (trk T n, numb (onTrack (trk T n) T) n + 1)
def inP (T : List Ent) (t n : Str) : Str × Nat := (t, numb (onTrack t T) n)
def endT (T : List Ent) (t : Str) : List Tie := [bgT t 0, nwT t (marks (onTrack t T))]
def tiesM (P : List Str) (es : List Ent) (g : Str) : List Tie := (P.flatMap (endT (toldOf g es)) ++ (toldOf g es).flatMap (lookT (clP (toldOf g es)) (opP (toldOf g es)))) ++ (toldOf g es).flatMap (someT (inP (toldOf g es)))
theorem ends_all (P : List Str) (es : List Ent) (g : Str) : (piecesM P es g).flatMap endsOf = P.flatMap (endT (toldOf g es)) := by
  unfold piecesM
  rw [List.flatMap_assoc]
  refine congrArg (fun f => P.flatMap f) (funext fun t => ?_)
  rw [cut_ends, List.length_nil, Nat.zero_add]
  rfl
theorem mark_one {e : Ent} (h : e.mark = true) : ∃ p, e.places = [p] := by
  cases e with
  | count n m g p k hd => exact ⟨p, rfl⟩
  | look n m g p => exact ⟨p, rfl⟩
  | _ => cases h
theorem find_name {T : List Ent} {e : Ent} (nd : (T.map Ent.name).Nodup) (he : e ∈ T) : T.find? (fun x => decide (x.name = e.name)) = some e := by
  induction T with
  | nil => exact absurd he List.not_mem_nil
  | cons x r ih =>
    obtain ⟨ne, nd'⟩ := List.nodup_cons.mp nd
    rcases List.mem_cons.mp he with rfl | he
    · exact List.find?_cons_of_pos (decide_eq_true rfl)
    · rw [List.find?_cons_of_neg (by rw [decide_eq_true_eq]; exact fun z => ne (List.mem_map.mpr ⟨e, he, z.symm⟩))]
      exact ih nd' he
theorem trk_of {T : List Ent} {e : Ent} {p : Str} (nd : (T.map Ent.name).Nodup) (he : e ∈ T) (hp : e.places = [p]) : trk T e.name = p := by
  unfold trk
  rw [find_name nd he]
  show e.places.headD "" = p
  rw [hp]
  rfl
theorem along_name (es : List Ent) : (along es).map Ent.name = es.map Ent.name := by
  refine List.ext_getElem? fun i => ?_
  rw [List.getElem?_map, List.getElem?_map]
  cases h : es[i]? with
  | none =>
    rw [List.getElem?_eq_none (by rw [along_len]; exact List.getElem?_eq_none_iff.mp h)]
  | some e =>
    rw [along_at h]
    show some (Ent.name (e.mp _)) = some e.name
    cases e <;> rfl
theorem told_nd {g : Str} {es : List Ent} (nd : (es.map Ent.name).Nodup) : ((toldOf g es).map Ent.name).Nodup := by
  have h : ((along es).map Ent.name).Nodup := by rw [along_name]; exact nd
  exact (List.Sublist.map _ List.filter_sublist).nodup h
theorem on_nd {t : Str} {T : List Ent} (nd : (T.map Ent.name).Nodup) : ((onTrack t T).map Ent.name).Nodup := (List.Sublist.map _ List.filter_sublist).nodup nd
theorem on_mem {t : Str} {T : List Ent} {e : Ent} : e ∈ onTrack t T ↔ e ∈ T ∧ t ∈ e.places := by
  unfold onTrack
  rw [List.mem_filter, decide_eq_true_eq]
theorem told_in {P G : List Str} {es : List Ent} {m : Nat} {g : Str} (gd : Good P G es m) {e : Ent} (he : e ∈ toldOf g es) : ∀ y ∈ e.places, y ∈ P := by
  have h1 : e ∈ along es := (List.mem_filter.mp he).1
  obtain ⟨i, hi⟩ := List.getElem?_of_mem h1
  have li : i < es.length := by
    have := (List.getElem?_eq_some_iff.mp hi).1
    rw [along_len] at this
    exact this
  have ha := along_at (List.getElem?_eq_getElem li)
  obtain rfl : e = es[i].mp (tau (es.take i)) := Option.some.inj (hi.symm.trans ha)
  intro y hy
  rw [mp_places (gd.full (List.getElem_mem li) (Nat.le_of_lt li))] at hy
  obtain ⟨z, hz, rfl⟩ := List.mem_map.mp hy
  exact (in_n gd.inn i (Nat.le_of_lt li) z (gd.placesIn (List.getElem_mem li) z hz)).1
theorem some_not {n : Str} {m : Int} {g o t : Str} : ¬ (Ent.some_ n m g o t).mark = true := fun z => by cases z
section
variable {P G : List Str} {es : List Ent} {m : Nat} {g : Str}
theorem pieces_of_mem {x : Row} (h : x ∈ piecesM P es g) : ∃ t ∈ P, x ∈ cutRows t (onTrack t (toldOf g es)) [] none [] := List.mem_flatMap.mp h
theorem pieces_uni (gd : Good P G es m) : ∀ x ∈ piecesM P es g, ∀ n, (x.cl = some n → (x.tr, x.k) = clP (toldOf g es) n) ∧ (x.op = some n → (x.tr, x.k) = opP (toldOf g es) n) := by
  intro x hx n
  have nd := told_nd (g := g) gd.nms
  obtain ⟨t, ht, hx⟩ := pieces_of_mem hx
  rcases cut_facts _ _ _ _ (on_nd nd) hx with z | ⟨h1, h2, h3, _⟩
  · exact absurd z List.not_mem_nil
  refine ⟨fun e => ?_, fun e => ?_⟩
  · obtain ⟨e', q1, q2, q3, q4⟩ := h2 n e
    obtain ⟨q1, q5⟩ := on_mem.mp q1
    obtain ⟨p, hp⟩ := mark_one q2
    have e1 : trk (toldOf g es) n = t := by
      rw [← q3, trk_of nd q1 hp]
      rw [hp] at q5
      exact (List.mem_singleton.mp q5).symm
    unfold clP
    rw [e1, h1, q4, List.length_nil, Nat.zero_add]
  · rcases h3 n e with ⟨z, _⟩ | ⟨e', q1, q2, q3, q4⟩
    · cases z
    obtain ⟨q1, q5⟩ := on_mem.mp q1
    obtain ⟨p, hp⟩ := mark_one q2
    have e1 : trk (toldOf g es) n = t := by
      rw [← q3, trk_of nd q1 hp]
      rw [hp] at q5
      exact (List.mem_singleton.mp q5).symm
    unfold opP
    rw [e1, h1, q4, List.length_nil, Nat.zero_add]
theorem pieces_uni2 (gd : Good P G es m) : ∀ x ∈ piecesM P es g, ∀ n ∈ x.ins, (x.tr, x.k) = inP (toldOf g es) x.tr n := by
  intro x hx n hn
  obtain ⟨t, ht, hx⟩ := pieces_of_mem hx
  rcases cut_facts _ _ _ _ (on_nd (told_nd (g := g) gd.nms)) hx with z | ⟨h1, _, _, h4, _⟩
  · exact absurd z List.not_mem_nil
  rcases h4 n hn with ⟨z, _⟩ | ⟨e', q1, q2, q3, q4⟩
  · exact absurd z List.not_mem_nil
  unfold inP
  rw [q4, h1, List.length_nil, Nat.zero_add]
theorem pieces_ins (gd : Good P G es m) (m30 : m ≤ 30) : ∀ x ∈ piecesM P es g, x.ins.length ≤ 30 := by
  intro x hx
  obtain ⟨t, ht, hx⟩ := pieces_of_mem hx
  rcases cut_facts _ _ _ _ (on_nd (told_nd (g := g) gd.nms)) hx with z | ⟨_, _, _, _, h5⟩
  · exact absurd z List.not_mem_nil
  have h1 := on_len t (toldOf g es)
  have h2 := told_len g es
  have h3 := gd.many
  simp only [List.length_nil] at h5
  omega
theorem pieces_looks (gd : Good P G es m) : ∀ e ∈ toldOf g es, e.word = "look" → (∃ x ∈ piecesM P es g, x.cl = some e.name) ∧ ∃ x ∈ piecesM P es g, x.op = some e.name := by
  intro e he ew
  have me : e.mark = true := by
    cases e with
    | look n m g p => rfl
    | count n m g p k hd => rfl
    | come => exact absurd (show ("come" : Str) = "look" from ew) (by decide +kernel)
    | go => exact absurd (show ("go" : Str) = "look" from ew) (by decide +kernel)
    | move => exact absurd (show ("move" : Str) = "look" from ew) (by decide +kernel)
    | some_ => exact absurd (show ("some" : Str) = "look" from ew) (by decide +kernel)
    | swap => exact absurd (show ("swap" : Str) = "look" from ew) (by decide +kernel)
  obtain ⟨p, hp⟩ := mark_one me
  have pP : p ∈ P := told_in gd he p (by rw [hp]; exact List.mem_singleton.mpr rfl)
  obtain ⟨⟨x, hx, e1⟩, ⟨y, hy, e2⟩⟩ := cut_mark (tr := p) me (onTrack p (toldOf g es)) [] none [] (on_mem.mpr ⟨he, by rw [hp]; exact List.mem_singleton.mpr rfl⟩)
  exact ⟨⟨x, List.mem_flatMap.mpr ⟨p, pP, hx⟩, e1⟩, ⟨y, List.mem_flatMap.mpr ⟨p, pP, hy⟩, e2⟩⟩
theorem pieces_somes (gd : Good P G es m) : ∀ n mo gg o t, Ent.some_ n mo gg o t ∈ toldOf g es → (∃ x ∈ piecesM P es g, x.tr = o ∧ n ∈ x.ins) ∧ (t ≠ "" → ∃ x ∈ piecesM P es g, x.tr = t ∧ n ∈ x.ins) := by
  intro n mo gg o t he
  have go : ∀ p, p ∈ Ent.places (.some_ n mo gg o t) → ∃ x ∈ piecesM P es g, x.tr = p ∧ n ∈ x.ins := fun p hp => by
    obtain ⟨x, hx, e1, e2⟩ := cut_in (tr := p) (e := .some_ n mo gg o t) some_not (onTrack p (toldOf g es)) [] none [] (on_mem.mpr ⟨he, hp⟩)
    exact ⟨x, List.mem_flatMap.mpr ⟨p, told_in gd he p hp, hx⟩, e1, e2⟩
  refine ⟨go o ?_, fun nt => go t ?_⟩
  · by_cases z : t = ""
    · rw [show Ent.places (.some_ n mo gg o t) = [o] from if_pos z]
      exact List.mem_singleton.mpr rfl
    · rw [show Ent.places (.some_ n mo gg o t) = [o, t] from if_neg z]
      exact List.mem_cons_self
  · rw [show Ent.places (.some_ n mo gg o t) = [o, t] from if_neg nt]
    exact List.mem_cons_of_mem _ (List.mem_singleton.mpr rfl)
end
/-! ### ties, sorted -/
def tieK (x : Tie) : PyData := .tuple [.str x.w, .str x.n]
def sortT (xs : List Tie) : List Tie := xs.mergeSort (PySem.W.dataLe false tieK)
theorem tie_alike (x y : Tie) : PySem.W.alike (tieK x) (tieK y) = true := rfl
theorem sort_pairs (zs : List (Addr × Tie)) : (keyed (zs.map fun z => (V.ref z.1, tieK z.2))).map (·.1) = ((zs.mergeSort (PySem.W.dataLe false fun z => tieK z.2)).map (·.1)).map V.ref := by
  have h : (zs.mergeSort (PySem.W.dataLe false fun z => tieK z.2)).map (fun z => (V.ref z.1, tieK z.2)) = keyed (zs.map fun z => (V.ref z.1, tieK z.2)) := List.map_mergeSort fun _ _ _ _ => rfl
  rw [← h, List.map_map, List.map_map]
  rfl
theorem sort_seconds (zs : List (Addr × Tie)) : (zs.mergeSort (PySem.W.dataLe false fun z => tieK z.2)).map (·.2) = sortT (zs.map (·.2)) := List.map_mergeSort fun _ _ _ _ => rfl
theorem ties_zip {H : Hp} {ts : List Addr} {xs : List Tie} (h : TiesAt H ts xs) : (ts.zip xs).map (·.1) = ts ∧ (ts.zip xs).map (·.2) = xs ∧ ∀ z ∈ ts.zip xs, TieAt H z.1 z.2 := by
  induction h with
  | nil => exact ⟨rfl, rfl, fun z hz => absurd hz List.not_mem_nil⟩
  | cons a r ih =>
    obtain ⟨h1, h2, h3⟩ := ih
    refine ⟨congrArg (List.cons _) h1, congrArg (List.cons _) h2, fun z hz => ?_⟩
    rcases List.mem_cons.mp hz with rfl | hz
    · exact a
    · exact h3 z hz
theorem ties_of {H : Hp} : ∀ zs : List (Addr × Tie), (∀ z ∈ zs, TieAt H z.1 z.2) → TiesAt H (zs.map (·.1)) (zs.map (·.2))
  | [], _ => .nil
  | z :: r, h => .cons (h z List.mem_cons_self) (ties_of r fun y hy => h y (List.mem_cons_of_mem _ hy))
/-- the sorted addresses hold the sorted ties -/
theorem ties_sorted {H : Hp} {ts : List Addr} {xs : List Tie} (h : TiesAt H ts xs) : TiesAt H (((ts.zip xs).mergeSort (PySem.W.dataLe false fun z => tieK z.2)).map (·.1)) (sortT xs) := by
  obtain ⟨_, h2, h3⟩ := ties_zip h
  have e : ((ts.zip xs).mergeSort (PySem.W.dataLe false fun z => tieK z.2)).map (·.2) = sortT xs := (sort_seconds _).trans (by rw [h2])
  rw [← e]
  exact ties_of _ fun z hz => h3 z ((List.mergeSort_perm _ _).mem_iff.mp hz)
/-! the table of the lambda among the others -/
theorem tabS_by {Ts : List Addr} {H H' : Hp} {Pt : Addr} {q : Str} (t : TB1 Ts H H') (n : Pt ∉ Ts) (h : LamX.TabS H Pt q) : LamX.TabS H' Pt q := by
  obtain ⟨ps, h1, h2, h3⟩ := h
  refine ⟨ps, t.oth _ _ h1 n, h2, fun at' cv e => ?_⟩
  obtain ⟨c, e1, e2⟩ := h3 at' cv e
  exact ⟨c, e1, t.kp _ _ e2 LamX.codeO_ne⟩
theorem tabS_g {H : Hp} {Pt : Addr} {q : Str} (h : LamX.TabS H Pt q) : GxR.TabG H Pt := by
  obtain ⟨ps, h1, h2, _⟩ := h
  exact ⟨ps, h1, h2⟩
theorem tabs_cons {H : Hp} {Ts : List Addr} {Pt : Addr} (a : GxR.TabG H Pt) (b : TabsG Ts H) : TabsG (Pt :: Ts) H := fun T hT => by
  rcases List.mem_cons.mp hT with rfl | hT
  · exact a
  · exact b T hT
theorem TB1.wide {Ts : List Addr} {H H' : Hp} {Pt : Addr} {q : Str} (t : TB1 Ts H H') (h : LamX.TabS H' Pt q) : TB1 (Pt :: Ts) H H' := ⟨tabs_cons (tabS_g h) t.tg, t.kp, t.free, fun a o e n => t.oth a o e fun z => n (List.mem_cons_of_mem _ z)⟩
theorem LamD.tb {Ts : List Addr} {H H' : Hp} {Pt : Addr} {q : Str} (d : LamD Pt q H H') (g : TabsG Ts H) (n : Pt ∉ Ts) (h : LamX.TabS H Pt q) : TB1 (Pt :: Ts) H H' := by
  refine ⟨tabs_cons (tabS_g d.tab) fun T hT => ?_, fun a o e nt => d.kp a o (fun z => ?_) e, d.free, fun a o e na => d.kp a o (fun z => na (z ▸ List.mem_cons_self)) e⟩
  · obtain ⟨ps, e, ok⟩ := g T hT
    exact ⟨ps, d.kp _ _ (fun z => n (z ▸ hT)) e, ok⟩
  · obtain ⟨ps, e', _⟩ := h
    rw [z, e'] at e
    exact nt ps (Option.some.inj e).symm
abbrev qTies : Str := (("ties" : Str) ++ ".<locals>.") ++ "<lambda>"
def spTies (Ts : List Addr) (Pt : Addr) : Sp := fun vs H Q _ => ∃ (h : Addr) (P G : List Str) (es : List Ent) (m : Nat) (g : Str), vs = [.ref h, .str g] ∧ HouseAt H h P G es ∧ Good P G es m ∧ m ≤ 30 ∧ TabsG Ts H ∧ LamX.TabS H Pt qTies ∧
  ∀ (l : Addr) (ts : List Addr) (H' : Hp), TB1 (Pt :: Ts) H H' → LamX.TabS H' Pt qTies → H l = none → H' l = some (.lst (ts.map V.ref)) → TiesAt H' ts (sortT (tiesM P es g)) → Q (.ref l) H'
theorem ties_len {P G : List Str} {es : List Ent} {m : Nat} (gd : Good P G es m) (m30 : m ≤ 30) (g : Str) : (tiesM P es g).length ≤ 1000 ∧ (P.flatMap (endT (toldOf g es))).length ≤ 400 := by
  have h1 : ∀ P : List Str, (P.flatMap (endT (toldOf g es))).length = 2 * P.length := fun P => by
    induction P with
    | nil => rfl
    | cons p r ih =>
      rw [List.flatMap_cons, List.length_append, ih, List.length_cons]
      show 2 + 2 * r.length = _
      omega
  have h2 := looks_len (clP (toldOf g es)) (opP (toldOf g es)) (toldOf g es)
  have h3 := somes_len (inP (toldOf g es)) (toldOf g es)
  have h4 := told_len g es
  have h5 := gd.many
  have h6 := gd.le
  have h7 := h1 P
  unfold tiesM
  rw [List.length_append, List.length_append]
  omega
section
variable {P : Program} {w : World} {K : PySem.W.Frag} {mg : Str → Option Value} {base : Heap}
abbrev sTiesN : List Str := ["house", "good", "rows", "told", "entry", "found"]
theorem sc_sTies : FnScope sTiesN ["house", "good"] (defScope sTies) := ⟨rfl, rfl, rfl, by decide +kernel, rfl, by decide +kernel, by decide +kernel⟩
set_option maxHeartbeats 4000000 in
theorem ok_ties {f cA Pt fP fA fG fE fL fS : Addr} {dP dA dG dE dL dS : FuncData} {oc kV doc pm ct : Value} {od an : Option Addr} {osl : Array (Option Value)} {Ts : List Addr}
    (lk : K.lookup f = some ⟨oc, od, .func (PySem.W.fnOf "ties" "ties" (defArgs sTies) (defBody sTies) (defScope sTies) .none kV doc pm an (.ref cA) ct), osl⟩) (cd : PySem.W.codeIn K (.ref cA) "ties" = true) (TB : LamX.TabB base mg cA Pt) (nPt : Pt ∉ Ts)
    (PI : DefT P w K mg base "pieces" 5 fP dP ["house", "good"] (spPieces Ts)) (AL : DefT P w K mg base "along_tracks" 3 fA dA ["house"] (spAlong Ts)) (GO : DefT P w K mg base "good_of" 1 fG dG ["entry"] spGood)
    (ET : DefT P w K mg base "end_ties" 1 fE dE ["rows"] spEnds) (LT : DefT P w K mg base "look_ties" 1 fL dL ["rows", "told"] spLooks) (ST : DefT P w K mg base "some_ties" 1 fS dS ["rows", "told"] spSomes) (ms : mg "sorted" = none) :
    FnOk P w K mg base CX0 6 f (PySem.W.fnOf "ties" "ties" (defArgs sTies) (defBody sTies) (defScope sTies) .none kV doc pm an (.ref cA) ct) ["house", "good"] (spTies Ts Pt) := by
  refine fn_of lk cd sc_sTies (fun vs H Q E h => ?_) (fun A outer s H vs Q E hr h => ?_)
  · obtain ⟨h, Ps, G, es, m, g, rfl, _⟩ := h
    rfl
  · obtain ⟨h, Ps, G, es, m, g, rfl, ho, gd, m30, tg, tl, q⟩ := h
    have nd := sc_sTies.nd
    have hr1 : Room 1 _ := hr.mono (by decide)
    have hr3 : Room 3 _ := hr.mono (by decide)
    have hr5 : Room 5 _ := hr.mono (by decide)
    refine ⟨_, PSs.nox (pss_cons (ps_set (i := 2) nd rfl (Or.inl rfl) (pe_call PI.ok hr5 (by rfl) PI.g PI.kp PI.b .nil pass0 (pa_cons (pv 0) (pa_cons (pv 1) pa_nil))))
      (pss_cons (ps_setLc (i := 3) (own := [("entry", 4)]) (g := gName 4) (te := tVar 4) rfl nd rfl rfl (sw_true rfl rfl rfl (by decide +kernel)) (pi_list (pe_call AL.ok hr3 (by rfl) AL.g AL.kp AL.b .nil pass0 (pa_cons (pv 0) pa_nil))) (blkOk_by (N := sTiesN) (sc := defScope sTies) (by decide +kernel)) (fun _ _ _ _ _ => (pg_name (i := 4) nd rfl (Or.inl rfl))) (fun _ _ _ _ _ => (pts_one (pt_cmpR op_eq (pe_call GO.ok hr1 (by rfl) GO.g GO.kp GO.b .nil pass0 (pa_cons (pv 4) pa_nil)) (pv 1) (nomark _)))) (fun _ _ _ _ _ => (pv 4)))
      (pss_cons (ps_set (i := 5) nd rfl (Or.inl rfl) (pe_op op_cat (pe_op op_cat (pe_call ET.ok hr1 (by rfl) ET.g ET.kp ET.b .nil pass0 (pa_cons (pv 2) pa_nil)) (pe_call LT.ok hr1 (by rfl) LT.g LT.kp LT.b .nil pass0 (pa_cons (pv 2) (pa_cons (pv 3) pa_nil)))) (pe_call ST.ok hr1 (by rfl) ST.g ST.kp ST.b .nil pass0 (pa_cons (pv 2) (pa_cons (pv 3) pa_nil)))))
      (pss_one (ps_ret (pe_sortLam (c := cA) (P := Pt) (k := 0) (a := "row") (te := tVar 5) (tb := tOp (rIxT K) (tVar 0) (tC (V.int 0))) (by rfl) ms (pv 5) TB rfl (by rfl) (by intro _; rfl) (by exact ⟨rfl, rfl, rfl, by decide +kernel, rfl, by decide +kernel, by decide +kernel⟩) hr3 (by intros; rfl)
        (fun _ _ _ _ _ _ _ _ => pe_ix ix_tup (pv 0) pe_int (fun _ _ => rfl)))))))), ?_⟩
    refine ⟨_, rfl, _, rfl, h, Ps, G, es, m, g, rfl, ho, gd, m30, tg, fun R rs H1 t1 nR hR ro => ?_⟩
    refine ⟨_, rfl, h, Ps, G, es, m, rfl, ho.on t1.tk, gd, m30, t1.1, fun l as H2 t2 nl hl en => ⟨l, rfl, ⟨_, SqL.of hl⟩, fun D nD => ?_⟩⟩
    have t12 := t1.tr t2
    have la := en.len
    rw [along_len] at la
    have lm : es.length = m := gd.many
    refine lc_list (K := K) (a := l) (xs := as.map V.ref) (fun i H' => Same H2 H' ∧ ∃ ts : List Addr, H' D = some (.lst (ts.map V.ref)) ∧ EntsAt H' ts (((along es).take i).filter fun e => decide (e.goodV = .str g)))
      ⟨same_new nD, [], upd_same, .nil⟩ (fun i H' _ z => SqL.of (z.1 _ _ hl)) ?_ ?_
    · rintro i x H3 hx ⟨s3, ts, hD3, en3⟩
      rw [List.getElem?_map] at hx
      obtain ⟨a, ha, rfl⟩ := Option.map_eq_some_iff.mp hx
      obtain ⟨e, hes, hae⟩ := (en.on (TK.of s3)).get ha
      have lt : i < as.length := (List.getElem?_eq_some_iff.mp ha).1
      refine ⟨rfl, _, rfl, a, e, rfl, hae, _, rfl, scal_good e g, _, rfl, ite2 (fun z => ?_) (fun z => ?_)⟩
      · have k4 : TK H3 (upd H3 D (.lst (ts.map V.ref ++ [V.ref a]))) := TK.upd fun xs e => by rw [hD3] at e; cases e
        refine ⟨_, rfl, _, hD3, ?_, fun b o e => (upd_ne (ne_of_none e nD)).trans (s3 b o e), ts ++ [a], ?_, ?_⟩
        · rw [List.length_map, en3.len]
          exact small1000 (by have := List.length_filter_le (fun e => decide (Ent.goodV e = .str g)) ((along es).take i); rw [List.length_take, along_len] at this; omega)
        · rw [upd_same, List.map_append]
          rfl
        · rw [take_snoc hes, List.filter_append, show [e].filter (fun e => decide (e.goodV = .str g)) = [e] from List.filter_cons_of_pos z]
          exact EntsAt.snoc (en3.on k4) (k4 _ _ hae)
      · refine ⟨s3, ts, hD3, ?_⟩
        rw [take_snoc hes, List.filter_append, show [e].filter (fun e => decide (e.goodV = .str g)) = [] from List.filter_cons_of_neg z, List.append_nil]
        exact en3
    · rintro H3 ⟨s3, ts, hD3, en3⟩
      rw [List.length_map, la, ← along_len es, List.take_length] at en3
      have en3' : EntsAt H3 ts (toldOf g es) := en3
      have t3 := t12.tr (.same t12.1 s3)
      have hR3 := s3 _ _ (t2.lst hR)
      have ro3 := RowsAt.on (TK.of s3) (RowsAt.on t2.tk ro)
      have rl : (piecesM Ps es g).length ≤ 400 := by
        unfold piecesM
        have h1 := flat_len (P := Ps) (f := fun t => cutRows t (onTrack t (toldOf g es)) [] none []) (n := 31) (fun t => by
          have h1 := cut_len t (onTrack t (toldOf g es)) [] none []
          have h2 := on_len t (toldOf g es)
          have h3 := told_len g es
          simp only [List.length_nil] at h1
          omega) Ps.length
        rw [List.take_length] at h1
        have h2 := gd.le
        omega
      have tl30 : (toldOf g es).length ≤ 30 := by
        have := told_len g es
        omega
      obtain ⟨ln1, ln2⟩ := ties_len gd m30 g
      refine ⟨_, rfl, R, rs, _, rfl, hR3, ro3, rl, fun a1 ts1 H4 s4 n1 h1 ti1 => ?_⟩
      rw [ends_all] at ti1
      refine ⟨_, rfl, _, rfl, R, D, rs, ts, _, _, clP (toldOf g es), opP (toldOf g es), rfl, s4 _ _ hR3, RowsAt.on (TK.of s4) ro3, rl, s4 _ _ hD3, en3'.on (TK.of s4), tl30, pieces_looks gd, pieces_uni gd, fun a2 ts2 H5 s5 n2 h2 ti2 => ?_⟩
      have l1 := ti1.len
      have l2 := ti2.len
      have lk2 := looks_len (clP (toldOf g es)) (opP (toldOf g es)) (toldOf g es)
      refine ⟨a1, a2, _, _, rfl, rfl, s5 _ _ h1, h2, (by rw [List.length_map, List.length_map]; exact Nat.le_of_lt (small1000 (by omega))), fun c1 nc1 => ?_⟩
      have s6 := @same_new _ _ (.lst (ts1.map V.ref ++ ts2.map V.ref)) nc1
      have hc1 : (upd H5 c1 (.lst (ts1.map V.ref ++ ts2.map V.ref))) c1 = some (.lst ((ts1 ++ ts2).map V.ref)) := by rw [upd_same, List.map_append]
      generalize upd H5 c1 (.lst (ts1.map V.ref ++ ts2.map V.ref)) = H6 at s6 hc1
      have s36 := s4.trans (s5.trans s6)
      refine ⟨_, rfl, _, rfl, R, D, rs, ts, _, _, inP (toldOf g es), rfl, s36 _ _ hR3, RowsAt.on (TK.of s36) ro3, rl, pieces_ins gd m30, s36 _ _ hD3, en3'.on (TK.of s36), tl30, pieces_somes gd, pieces_uni2 gd, fun a3 ts3 H7 s7 n3 h3 ti3 => ?_⟩
      have l3 := ti3.len
      have lk3 := somes_len (inP (toldOf g es)) (toldOf g es)
      refine ⟨c1, a3, _, _, rfl, rfl, s7 _ _ hc1, h3, (by rw [List.length_map, List.length_map, List.length_append]; exact Nat.le_of_lt (small1000 (by omega))), fun c2 nc2 => ?_⟩
      have s8 := @same_new _ _ (.lst ((ts1 ++ ts2).map V.ref ++ ts3.map V.ref)) nc2
      have hc2 : (upd H7 c2 (.lst ((ts1 ++ ts2).map V.ref ++ ts3.map V.ref))) c2 = some (.lst ((ts1 ++ ts2 ++ ts3).map V.ref)) := by rw [upd_same, ← List.map_append]
      generalize upd H7 c2 (.lst ((ts1 ++ ts2).map V.ref ++ ts3.map V.ref)) = H8 at s8 hc2
      have s48 := s5.trans (s6.trans (s7.trans s8))
      have s58 := s6.trans (s7.trans s8)
      have ti : TiesAt H8 (ts1 ++ ts2 ++ ts3) (tiesM Ps es g) := ((ti1.on (TK.of s48)).app (ti2.on (TK.of s58))).app (ti3.on (TK.of s8))
      have t8 := t3.tr (.same t3.1 (s36.trans (s7.trans s8)))
      have tl8 := tabS_by t8 nPt tl
      generalize tiesM Ps es g = xs at ti q ln1
      generalize ts1 ++ ts2 ++ ts3 = us at ti hc2
      clear ti1 ti2 ti3 h1 h2 h3 l1 l2 l3
      refine ⟨_, rfl, tl8, fun H9 d9 => ?_⟩
      have t9 := d9.tb t8.1 nPt tl8
      have hc9 := t9.lst hc2
      have ti9 := ti.on t9.tk
      obtain ⟨z1, z2, z3⟩ := ties_zip ti9
      have e1 : ((us.zip xs).map fun z => (V.ref z.1, tieK z.2)).map (·.1) = us.map V.ref := by
        rw [List.map_map, ← z1, List.map_map, z1]
        rfl
      have e2 : ((us.zip xs).map fun z => (V.ref z.1, tieK z.2)).map (·.2) = xs.map tieK := by
        rw [List.map_map]
        conv => rhs; rw [← z2]
        rw [List.map_map]
        rfl
      refine ⟨c2, (us.zip xs).map fun z => (V.ref z.1, tieK z.2), rfl, (by rw [e1]; exact SqL.of hc9), (by rw [e2]; exact PySem.W.AllAlike.of tie_alike), (by
        rw [e2]
        refine .inl fun d hd => ?_
        obtain ⟨x, _, rfl⟩ := List.mem_map.mp hd
        exact ⟨_, _, rfl⟩), fun e he => ?_, fun e he H10 s10 Q1 q1 => ?_, fun p H10 np s10 hp => ?_⟩
      · obtain ⟨z, _, rfl⟩ := List.mem_map.mp he
        show (tieK z.2).depth ≤ 60
        simp [tieK, PyData.depth, PyData.depthAll]
      · obtain ⟨z, hz, rfl⟩ := List.mem_map.mp he
        obtain ⟨k, vo, vi, w1, w2, _, _⟩ := ((z3 z hz).on (TK.of s10)).ex
        exact ⟨_, rfl, z.1, _, 0, _, rfl, rfl, SqT.of w1, atI_nat (j := 0) rfl, q1 _ _ (fun _ _ e => e) (.tup (SqT.of w2) (.cons (.str _) (.cons (.str _) .nil)))⟩
      · rw [sort_pairs] at hp
        have tl10 := d9.tab.ext s10
        exact q p _ H10 ((t8.wide tl8).tr (t9.tr (.same t9.1 s10))) tl10 (t8.free _ (t9.free _ np)) hp ((ties_sorted ti9).on (TK.of s10))
end
/-! ### the law's house -/
def spHouse : Sp := fun vs H Q _ => ∃ (p c : Addr) (n m : Nat), vs = [.ref p, .int m] ∧ PenAt H p c n ∧ n ≤ 30000 ∧ m ≤ 30 ∧
  ∀ (h : Addr) (P G : List Str) (es : List Ent) (H' : Hp), HouseAt H' h P G es → Good P G es m → PenAt H' p c (n + 1500) → But p H H' → Q (.ref h) H'
theorem ents_pairs {H : Hp} : ∀ {pr : List (Addr × Ent)}, (∀ x ∈ pr, H x.1 = some (.tup x.2.vals)) → EntsAt H (pr.map (·.1)) (pr.map (·.2))
  | [], _ => .nil
  | x :: r, h => .cons (h x List.mem_cons_self) (ents_pairs fun y hy => h y (List.mem_cons_of_mem _ hy))
def prV (x : Addr × Ent) : V × PyData := (.ref x.1, ordD x.2)
section
variable {P : Program} {w : World} {K : PySem.W.Frag} {mg : Str → Option Value} {base : Heap}
theorem take_snoc' {α : Type} {l : List α} {i : Nat} {x : α} (h : l[i]? = some x) : l.take (i + 1) = l.take i ++ [x] := by
  rw [List.take_add_one, h]
  rfl
abbrev houseN : List Str := ["_law_pen_here", "_law_many_here", "_law_places", "_law_goods", "_law_hands", "_law_names_here", "_law_moments_here", "_law_entries", "_law_k"]
theorem scHouse : FnScope houseN ["_law_pen_here", "_law_many_here"] (defScope sHouse) := ⟨rfl, rfl, rfl, by decide +kernel, rfl, by decide +kernel, by decide +kernel⟩
set_option maxHeartbeats 4000000 in
theorem ok_house {f : Addr} {fd : FuncData} (F : Fun K "_law_house" "_law_house" sHouse f fd)
    {fT fW fM fE fO : Addr} {dT dW dM dE dO : FuncData} (T : TakeT P w K mg base fT dT)
    (W : DefT P w K mg base "_law_words" 3 fW dW ["_law_pen_here", "_law_places", "_law_goods", "_law_entries"] spWords)
    (M : DefT P w K mg base "_law_moments" 2 fM dM ["_law_pen_here", "_law_many_here"] spMoments)
    (EN : DefT P w K mg base "_law_entry" 4 fE dE ["_law_pen_here", "_law_name", "_law_moment", "_law_places", "_law_goods", "_law_hands"] spEntry)
    (O : DefT P w K mg base "_law_order" 1 fO dO ["_law_entry_here"] spOrd) (mr : mg "range" = none) (ms : mg "sorted" = none) (mt : mg "tuple" = none) : FnOk P w K mg base CX0 5 f fd ["_law_pen_here", "_law_many_here"] spHouse := by
  refine F.ok scHouse (fun vs H Q E h => ?_) (fun cdv A outer s H vs Q E hr h => ?_)
  · obtain ⟨p, c, n, m, rfl, _⟩ := h
    rfl
  · obtain ⟨p, c, n, m, rfl, pen, hn, hm, q⟩ := h
    have nd := scHouse.nd
    have hr1 : Room 1 _ := hr.mono (by decide)
    have hr2 : Room 2 _ := hr.mono (by decide)
    have hr3 : Room 3 _ := hr.mono (by decide)
    refine ⟨_, pss_cons (ps_asg (pe_call W.ok hr3 (by rfl) W.g W.kp W.b .nil pass0 (pa_cons (pv 0) (pa_cons (pe_op op_add pe_int (pe_call T.ok hr1 (by rfl) T.g T.kp T.b .nil pass0 (pa_cons (pv 0) (pa_cons pe_int pa_nil)))) (pa_cons (pe_op op_add pe_int (pe_call T.ok hr1 (by rfl) T.g T.kp T.b .nil pass0 (pa_cons (pv 0) (pa_cons pe_int pa_nil)))) (pa_cons (pv 1) pa_nil)))))
        (pg_tup (by rfl) (pgs_cons (pg_name (i := 2) nd rfl (Or.inr rfl)) (pgs_cons (pg_name (i := 3) nd rfl (Or.inr rfl)) (pgs_cons (pg_name (i := 4) nd rfl (Or.inr rfl)) (pgs_cons (pg_name (i := 5) nd rfl (Or.inr rfl)) pgs_nil))))))
      (pss_cons (ps_set (i := 6) nd rfl (Or.inr rfl) (pe_call M.ok hr2 (by rfl) M.g M.kp M.b .nil pass0 (pa_cons (pv 0) (pa_cons (pv 1) pa_nil))))
      (pss_cons (ps_setLc (i := 7) (own := [("_law_k", 8)]) (g := gName 8) (tt := tYes) (te := tCall spEntry [] E0 (tCons (tVar 0) (tCons (tOp (rIxL K) (tVar 5) (tVar 8)) (tCons (tOp (rIxL K) (tVar 6) (tVar 8)) (tCons (tVar 2) (tCons (tVar 3) (tCons (tVar 4) tNil))))))) rfl nd rfl rfl (sw_true rfl rfl rfl (by decide +kernel))
          (pi_range1 rfl mr (pa_cons (pv 1) pa_nil)) (blkOk_by (N := houseN) (sc := defScope sHouse) (by decide +kernel)) (fun _ _ _ _ _ => pg_name (i := 8) nd rfl (Or.inl rfl)) (fun _ _ _ _ _ => pts_nil)
          (fun _ _ _ _ _ => pe_call EN.ok hr (by rfl) EN.g EN.kp EN.b .nil pass0 (pa_cons (pv 0) (pa_cons (pe_ix ix_list (pv 5) (pv 8) (fun _ _ => rfl)) (pa_cons (pe_ix ix_list (pv 6) (pv 8) (fun _ _ => rfl)) (pa_cons (pv 2) (pa_cons (pv 3) (pa_cons (pv 4) pa_nil))))))))
      (pss_one (ps_ret (pe_tup (pa_cons (pe_callTy call_tuple_of (by rfl) mt (by decide +kernel) (pa_cons (pe_callB cr_sortedS (by rfl) ms (by decide +kernel) (pa_cons (pv 2) pa_nil)) pa_nil))
        (pa_cons (pe_callTy call_tuple_of (by rfl) mt (by decide +kernel) (pa_cons (pe_callB cr_sortedS (by rfl) ms (by decide +kernel) (pa_cons (pv 3) pa_nil)) pa_nil))
        (pa_cons (pe_callTy call_tuple_of (by rfl) mt (by decide +kernel) (pa_cons (pe_callBK (cr_sortK O.ok hr3 O.b) (by rfl) ms (by decide +kernel) (pa_cons (pv 7) pa_nil) (pk_cons (pe_glob (v := .ref fO) (by rfl) O.g rfl) pk_nil)) pa_nil)) pa_nil)))))))), ?_⟩
    refine ⟨_, rfl, _, rfl, p, c, n, 6, rfl, pen, by omega, by decide, by decide, fun r1 H2 b1 d1 pen2 bt2 => ?_⟩
    refine ⟨1, r1, rfl, rfl, _, rfl, p, c, n + 1, 3, rfl, pen2, by omega, by decide, by decide, fun r2 H3 b2 d2 pen3 bt3 => ?_⟩
    refine ⟨1, r2, rfl, rfl, _, rfl, p, c, n + 2, (1 + r1).toNat, (1 + r2).toNat, m, ?_, pen3, by omega, by omega, by omega, by omega, fun tp l1 l2 l3 l4 PL GL HL EL H4 ntp ht h1 h2 h3 h4 n1 n2 n3 n4 pen4 bt4 => ?_⟩
    · rw [Int.toNat_of_nonneg (by omega), Int.toNat_of_nonneg (by omega)]
      rfl
    refine ⟨tp, _, rfl, SqT.of ht, rfl, _, _, rfl, _, _, rfl, _, _, rfl, _, _, rfl, rfl, ?_⟩
    refine ⟨_, rfl, _, rfl, p, c, n + 52, m, rfl, pen4, by omega, by omega, fun l5 mos H5 nl5 h5 lm bm pen5 bt5 => ?_⟩
    have k1 := pen_strs pen4 bt5 h1
    have k2 := pen_strs pen4 bt5 h2
    have k3 := pen_strs pen4 bt5 h3
    have k4 := pen_strs pen4 bt5 h4
    have z1 : PL.length = (1 + r1).toNat := n1.len
    have z2 : GL.length = (1 + r2).toNat := n2.len
    have z3 : HL.length = 3 := n3.len
    have z4 : EL.length = m := n4.len
    have np5 : ∀ {H' : Hp} {n : Nat} {l : Addr} {xs : List V}, PenAt H' p c n → H' l = some (.lst xs) → l ≠ p := fun pen h => by
      obtain ⟨kvs, ns', a', x', g1, _⟩ := pen.ex
      exact ne_of h g1 (by intro z; cases z)
    refine ⟨_, rfl, m, rfl, by omega, by omega, fun D nD => ?_⟩
    have sD := @same_new _ _ (.lst []) nD
    have nDp : D ≠ p := fun z => pen5.there (z ▸ nD)
    have nDc : D ≠ c := fun z => pen5.cells (z ▸ nD)
    have d1' : l1 ≠ D := ne_of_none k1 nD
    have d2' : l2 ≠ D := ne_of_none k2 nD
    have d3' : l3 ≠ D := ne_of_none k3 nD
    have d4' : l4 ≠ D := ne_of_none k4 nD
    have d5' : l5 ≠ D := ne_of_none h5 nD
    have bt0 : But p H (upd H5 D (.lst [])) := bt2.tr (bt3.tr (bt4.tr (bt5.tr (But.of sD))))
    have hDn : H D = none := by
      cases e : H D with
      | none => rfl
      | some o =>
        have := (bt2.tr (bt3.tr (bt4.tr bt5))) D o e nDp
        rw [nD] at this
        cases this
    refine lc_range (lo := 0) (n := m) (fun j H' => PenAt H' p c (n + 153 + 30 * j) ∧ But p H H' ∧ StrsAt H' l1 PL ∧ StrsAt H' l2 GL ∧ StrsAt H' l3 HL ∧ StrsAt H' l4 EL ∧ H' l5 = some (.lst (mos.map V.int)) ∧ ∃ pr : List (Addr × Ent), (pr.length = j ∧ pr.map (fun x => x.2.name) = EL.take j) ∧ H' D = some (.lst (pr.map fun x => V.ref x.1)) ∧
        ∀ x ∈ pr, H' x.1 = some (.tup x.2.vals) ∧ nameB x.2.name = true ∧ 0 ≤ x.2.moment ∧ x.2.moment ≤ 9999 ∧ x.2.From PL GL HL)
      ⟨(pen5.same sD).mono (by omega), bt0, sD _ _ k1, sD _ _ k2, sD _ _ k3, sD _ _ k4, sD _ _ h5, [], ⟨rfl, rfl⟩, upd_same, fun y hy => nomatch hy⟩ ?_ ?_
    · rintro j H7 hj ⟨pen7, bt7, g1, g2, g3, g4, g5, pr, ⟨gl, gm⟩, gD, gE⟩
      have lj : j < EL.length := by omega
      obtain ⟨nme, hnj, hn3⟩ : ∃ nme, EL[j]? = some nme ∧ nme ∈ EL := ⟨EL[j], List.getElem?_eq_getElem lj, List.getElem_mem lj⟩
      have hn1 : atI (EL.map V.str) (0 + (j : Int)) = some (.str nme) := by
        rw [Int.zero_add]
        exact atI_nat (by rw [List.getElem?_map, hnj]; rfl)
      obtain ⟨mo, hm1, hm2⟩ := at_ints (ns := mos) (r := 0 + (j : Int)) (by omega) (by omega)
      refine ⟨rfl, yesT ?_⟩
      refine ⟨_, rfl, _, rfl, _, rfl, l4, _, _, _, rfl, rfl, SqL.of g4, hn1, _, rfl, _, rfl, l5, _, _, _, rfl, rfl, SqL.of g5, hm1, _, rfl, _, rfl, _, rfl, p, c, _, nme, mo, l1, l2, l3, PL, GL, HL, rfl, pen7, by omega, g1, g2, g3,
        (fun z => by subst z; simp at z1; omega), (fun z => by subst z; simp at z2; omega), (fun z => by subst z; simp at z3), by omega, by omega, by omega, fun te e H10 nte hte en em ef pen10 btA => ?_⟩
      have gD10 := btA D _ gD nDp
      have nteD : te ≠ D := fun z => by
        subst z
        exact nomatch gD.symm.trans nte
      have neD : ∀ x ∈ pr, x.1 ≠ D := fun x hx z => by
        have he' := (gE x hx).1
        rw [z, gD] at he'
        cases he'
      refine ⟨_, gD10, (by rw [List.length_map]; exact small1000 (by omega)), (pen10.mono (by omega)).upd nDp nDc, fun b o eb nb => (upd_ne (ne_of_none eb hDn)).trans ((bt7.tr btA) b o eb nb),
        (upd_ne d1').trans (btA _ _ g1 (np5 pen7 g1)), (upd_ne d2').trans (btA _ _ g2 (np5 pen7 g2)), (upd_ne d3').trans (btA _ _ g3 (np5 pen7 g3)), (upd_ne d4').trans (btA _ _ g4 (np5 pen7 g4)), (upd_ne d5').trans (btA _ _ g5 (np5 pen7 g5)), pr ++ [(te, e)], ⟨by simp [gl], by rw [List.map_append, gm, take_snoc' hnj]; exact congrArg (fun z => EL.take j ++ [z]) en⟩, ?_, ?_⟩
      · rw [upd_same, List.map_append]
        rfl
      · intro x hx
        rcases List.mem_append.mp hx with h | h
        · obtain ⟨he', r'⟩ := gE x h
          have nxp : x.1 ≠ p := by
            obtain ⟨kvs, ns', a', x', gg, _⟩ := pen7.ex
            exact ne_of he' gg (by intro z; cases z)
          exact ⟨(upd_ne (neD x h)).trans (btA x.1 _ he' nxp), r'⟩
        · rw [List.mem_singleton.mp h]
          exact ⟨(upd_ne nteD).trans hte, en ▸ n4.names (by omega) nme hn3, em ▸ (bm mo hm2).1, em ▸ (bm mo hm2).2, ef⟩
    · rintro H7 ⟨pen7, bt7, g1, g2, g3, g4, g5, pr, ⟨gl, gm⟩, gD, gE⟩
      refine ⟨_, rfl, l1, PL, rfl, SqL.of g1, by omega, fun P1 a1 pm1 so1 na1 => ⟨a1, _, rfl, .inl ⟨SqL.of upd_same, fun t1 nt1 => ?_⟩⟩⟩
      have s1 : Same H7 (upd (upd H7 a1 (.lst (P1.map V.str))) t1 (.tup (P1.map V.str))) := (same_new na1).trans (same_new nt1)
      have hp1 : (upd (upd H7 a1 (.lst (P1.map V.str))) t1 (.tup (P1.map V.str))) t1 = some (.tup (P1.map V.str)) := upd_same
      generalize upd (upd H7 a1 (.lst (P1.map V.str))) t1 (.tup (P1.map V.str)) = H8 at s1 hp1
      refine ⟨_, rfl, l2, GL, rfl, SqL.of (s1 _ _ g2), by omega, fun G1 a2 pm2 so2 na2 => ⟨a2, _, rfl, .inl ⟨SqL.of upd_same, fun t2 nt2 => ?_⟩⟩⟩
      have s2 : Same H8 (upd (upd H8 a2 (.lst (G1.map V.str))) t2 (.tup (G1.map V.str))) := (same_new na2).trans (same_new nt2)
      have hp2 : (upd (upd H8 a2 (.lst (G1.map V.str))) t2 (.tup (G1.map V.str))) t2 = some (.tup (G1.map V.str)) := upd_same
      generalize upd (upd H8 a2 (.lst (G1.map V.str))) t2 (.tup (G1.map V.str)) = H9 at s2 hp2
      have s12 := s1.trans s2
      have eD : H9 D = some (.lst (((pr.map prV).map (·.1)))) := by
        rw [s12 _ _ gD, List.map_map]
        rfl
      refine ⟨_, rfl, D, pr.map prV, rfl, rfl, SqL.of eD, ?_, .inl ?_, ?_, ?_, fun a3 H10 na3 s3 h3 => ⟨a3, _, rfl, .inl ⟨SqL.of h3, fun t3 nt3 => ?_⟩⟩⟩
      · intro d hd d' hd'
        rw [List.map_map] at hd hd'
        obtain ⟨x, _, rfl⟩ := List.mem_map.mp hd
        obtain ⟨y, _, rfl⟩ := List.mem_map.mp hd'
        exact ord_alike x.2 y.2
      · intro d hd
        rw [List.map_map] at hd
        obtain ⟨x, _, rfl⟩ := List.mem_map.mp hd
        exact ⟨_, _, rfl⟩
      · intro e he
        obtain ⟨x, _, rfl⟩ := List.mem_map.mp he
        show 1 ≤ 60
        decide
      · intro e he H1 sm Q1 hq
        obtain ⟨x, hx, rfl⟩ := List.mem_map.mp he
        exact ⟨x.1, x.2, rfl, sm _ _ (s12 _ _ (gE x hx).1), fun tp H2 sm2 h2 => hq _ _ sm2 (ord_dp h2)⟩
      · -- the sorted entries
        have key : keyed (pr.map prV) = (pr.mergeSort fun a b => PySem.W.dataLe false (fun e : V × PyData => e.2) (prV a) (prV b)).map prV := (List.map_mergeSort (f := prV) (s := PySem.W.dataLe false fun e : V × PyData => e.2) (r := fun a b => PySem.W.dataLe false (fun e : V × PyData => e.2) (prV a) (prV b)) (l := pr) fun a _ b _ => rfl).symm
        have pm3 : (pr.mergeSort fun a b => PySem.W.dataLe false (fun e : V × PyData => e.2) (prV a) (prV b)).Perm pr := List.mergeSort_perm _ _
        rw [key]
        generalize (pr.mergeSort fun a b => PySem.W.dataLe false (fun e : V × PyData => e.2) (prV a) (prV b)) = qr at pm3 ⊢
        have s4 : Same H10 (upd H10 t3 (.tup ((qr.map prV).map (·.1)))) := same_new nt3
        have e4 : (upd H10 t3 (.tup ((qr.map prV).map (·.1)))) t3 = some (.tup ((qr.map prV).map (·.1))) := upd_same
        generalize upd H10 t3 (.tup ((qr.map prV).map (·.1))) = H11 at s4 e4
        have sA := s12.trans (s3.trans s4)
        refine ⟨(by show 3 ≤ sizeLine; decide), fun h nh => ?_⟩
        have s5 := @same_new _ _ (.tup [V.ref t1, .ref t2, .ref t3]) nh
        refine q h P1 G1 (qr.map (·.2)) _ ⟨t1, t2, t3, qr.map (·.1), upd_same, s5 _ _ (s4 _ _ (s3 _ _ (s2 _ _ hp1))), s5 _ _ (s4 _ _ (s3 _ _ hp2)), ?_, ents_pairs fun x hx => s5 _ _ (sA _ _ (gE x (pm3.mem_iff.mp hx)).1)⟩
          ⟨?_, ?_, ?_, ?_, ?_, ?_, ?_, ?_, ?_, ?_, so1, ?_⟩ ((pen7.mono (by omega)).same (sA.trans s5)) (bt7.tr (.of (sA.trans s5)))
        · rw [s5 _ _ e4, List.map_map, List.map_map]
          rfl
        · exact pm1.nodup_iff.mpr (n1.nodup (by omega))
        · intro z
          have := pm1.length_eq
          rw [z, List.length_nil] at this
          omega
        · rw [pm1.length_eq]
          omega
        · intro y hy
          exact n1.names (by omega) y (pm1.mem_iff.mp hy)
        · intro z
          have := pm2.length_eq
          rw [z, List.length_nil] at this
          omega
        · rw [pm2.length_eq]
          omega
        · intro y hy
          exact n2.names (by omega) y (pm2.mem_iff.mp hy)
        · exact pm2.nodup_iff.mpr (n2.nodup (by omega))
        · rw [List.length_map, pm3.length_eq, gl]
        · rw [List.take_of_length_le (by omega)] at gm
          have e1 : (qr.map (·.2)).map Ent.name = qr.map fun x => x.2.name := by rw [List.map_map]; rfl
          rw [e1]
          refine (pm3.map fun x => x.2.name).nodup_iff.mpr ?_
          rw [gm]
          exact n4.nodup (by omega)
        · intro e he
          obtain ⟨x, hx, rfl⟩ := List.mem_map.mp he
          obtain ⟨_, i1, i2, i3, i4⟩ := gE x (pm3.mem_iff.mp hx)
          exact ⟨i1, i2, i3, HL, n3.names (by omega), From.perm i4 pm1 pm2⟩
end
/-! ### what the rows come to -/
def segs : List Ent → Option Ent → List Ent → List (Option Ent × Option Ent × List Ent)
  | [], op, ins => [(op, none, ins)]
  | e :: r, op, ins => if e.mark = true then (op, some e, ins) :: segs r (some e) [] else segs r op (ins ++ [e])
def segRows (tr : Str) : Nat → List (Option Ent × Option Ent × List Ent) → List Row
  | _, [] => []
  | k, s :: r => mkRow tr k s.1 s.2.1 s.2.2 :: segRows tr (k + 1) r
theorem cut_segs (tr : Str) : ∀ (es : List Ent) (rows : List Row) (op : Option Ent) (ins : List Ent), cutRows tr es rows op ins = rows ++ segRows tr rows.length (segs es op ins)
  | [], rows, op, ins => rfl
  | e :: r, rows, op, ins => by
    show (if e.mark = true then _ else _) = _
    by_cases h : e.mark = true
    · rw [if_pos h, cut_segs tr r]
      have e1 : segs (e :: r) op ins = (op, some e, ins) :: segs r (some e) [] := if_pos h
      rw [e1, List.length_append]
      show rows ++ [_] ++ _ = rows ++ (_ :: _)
      rw [List.append_assoc]
      rfl
    · rw [if_neg h, cut_segs tr r]
      have e1 : segs (e :: r) op ins = segs r op (ins ++ [e]) := if_neg h
      rw [e1]
theorem seg_mem {tr : Str} {x : Row} : ∀ {k : Nat} {ss : List (Option Ent × Option Ent × List Ent)}, x ∈ segRows tr k ss → ∃ s ∈ ss, ∃ j, x = mkRow tr j s.1 s.2.1 s.2.2
  | _, [], h => nomatch h
  | k, s :: r, h => by
    rcases List.mem_cons.mp h with h | h
    · exact ⟨s, List.mem_cons_self, k, h⟩
    · obtain ⟨s', h1, j, h2⟩ := seg_mem h
      exact ⟨s', List.mem_cons_of_mem _ h1, j, h2⟩
/-- the parts of a segment are of the list -/
structure SegIn (A : Ent → Prop) (s : Option Ent × Option Ent × List Ent) : Prop where
  op : ∀ e, s.1 = some e → A e ∧ e.mark = true
  cl : ∀ e, s.2.1 = some e → A e ∧ e.mark = true
  ins : ∀ e ∈ s.2.2, A e
theorem segs_in {A : Ent → Prop} : ∀ {es : List Ent} {op : Option Ent} {ins : List Ent}, (∀ e ∈ es, A e) → (∀ e, op = some e → A e ∧ e.mark = true) → (∀ e ∈ ins, A e) → ∀ s ∈ segs es op ins, SegIn A s
  | [], op, ins, _, h2, h3, s, hs => by
    rw [List.mem_singleton.mp hs]
    exact ⟨h2, fun e z => (nomatch z), h3⟩
  | e :: r, op, ins, h1, h2, h3, s, hs => by
    have he := h1 e List.mem_cons_self
    have hr : ∀ x ∈ r, A x := fun x hx => h1 x (List.mem_cons_of_mem _ hx)
    by_cases m : e.mark = true
    · rw [show segs (e :: r) op ins = (op, some e, ins) :: segs r (some e) [] from if_pos m] at hs
      rcases List.mem_cons.mp hs with z | z
      · rw [z]
        exact ⟨h2, fun x q => by rw [← Option.some.inj q]; exact ⟨he, m⟩, h3⟩
      · exact segs_in hr (fun x q => by rw [← Option.some.inj q]; exact ⟨he, m⟩) (fun x q => absurd q List.not_mem_nil) s z
    · rw [show segs (e :: r) op ins = segs r op (ins ++ [e]) from if_neg m] at hs
      exact segs_in hr h2 (fun x hx => (List.mem_append.mp hx).elim (h3 x) fun q => by rw [List.mem_singleton.mp q]; exact he) s hs
theorem row_of {P : List Str} {es : List Ent} {g : Str} {x : Row} (h : x ∈ piecesM P es g) : ∃ (tr : Str) (k : Nat) (s : Option Ent × Option Ent × List Ent), tr ∈ P ∧ x = mkRow tr k s.1 s.2.1 s.2.2 ∧ SegIn (fun e => e ∈ toldOf g es ∧ tr ∈ e.places) s := by
  obtain ⟨tr, ht, hx⟩ := List.mem_flatMap.mp h
  rw [cut_segs] at hx
  obtain ⟨s, hs, j, e⟩ := seg_mem hx
  refine ⟨tr, j, s, ht, e, segs_in (op := none) (ins := []) (fun e he => ?_) (fun e z => (nomatch z)) (fun e z => absurd z List.not_mem_nil) s hs⟩
  obtain ⟨h1, h2⟩ := List.mem_filter.mp he
  exact ⟨h1, of_decide_eq_true h2⟩
theorem told_of {es : List Ent} {g : Str} {e : Ent} (h : e ∈ toldOf g es) : e.goodV = .str g ∧ ∃ (i : Nat) (e0 : Ent), es[i]? = some e0 ∧ e = e0.mp (tau (es.take i)) := by
  obtain ⟨h1, h2⟩ := List.mem_filter.mp h
  refine ⟨of_decide_eq_true h2, ?_⟩
  obtain ⟨i, hi⟩ := List.mem_iff_getElem?.mp h1
  have lt : i < es.length := by
    have := (List.getElem?_eq_some_iff.mp hi).1
    rw [along_len] at this
    exact this
  have he := List.getElem?_eq_getElem lt
  rw [along_at he] at hi
  exact ⟨i, _, he, (Option.some.inj hi).symm⟩
def trackRows (es : List Ent) (g t : Str) : List Row := cutRows t (onTrack t (toldOf g es)) [] none []
def pcD (x : Row) : PyData := .tuple [.str x.tr, .int x.k]
theorem name_mp' (e : Ent) (τ : Str → Str) : (e.mp τ).name = e.name := by cases e <;> rfl
theorem word_mp' (e : Ent) (τ : Str → Str) : (e.mp τ).word = e.word := by cases e <;> rfl
theorem good_mp' (e : Ent) (τ : Str → Str) : (e.mp τ).goodV = e.goodV := by cases e <;> rfl
/-! ### the parts told, the law -/
theorem name_ok {y : Str} (h : nameB y = true) : PyData.strOk y = true := by
  have all : y.cps.toList.all signB = true := by
    unfold nameB at h
    rw [Bool.and_eq_true] at h
    exact h.2
  have low : ∀ c ∈ abc.cps.toList, c < 0x110000 := by decide +kernel
  unfold PyData.strOk
  rw [← Array.all_toList, List.all_eq_true]
  intro c hc
  exact decide_eq_true (low c (of_decide_eq_true (List.all_eq_true.mp all c hc)))
theorem lay_strs : ∀ {ys : List Str}, (∀ y ∈ ys, nameB y = true) → PyData.canLayAll0 (ys.map PyData.str) = true
  | [], _ => rfl
  | y :: r, h => by
    rw [List.map_cons, PyData.canLayAll0, PyData.canLay0, name_ok (h y List.mem_cons_self), lay_strs fun z hz => h z (List.mem_cons_of_mem _ hz)]
    rfl
theorem deep_strs : ∀ ys : List Str, PyData.depthAll (ys.map PyData.str) = 0
  | [] => rfl
  | _ :: r => by simp [PyData.depthAll, PyData.depth, deep_strs r]
theorem shaped_strs {ys : List Str} (h : ∀ y ∈ ys, nameB y = true) : SeqAt.shaped (.tuple (ys.map PyData.str)) = true := by
  simp [SeqAt.shaped, PyData.canLay0, PyData.depth, lay_strs h, deep_strs]
/-! ### sorted(..) of a list of data -/
theorem each_unmap {R : Value → PyData → Prop} {f : V × PyData → PyData} : ∀ {es : List (V × PyData)} {us : List Value}, PySem.W.EachIs R us (es.map f) → PySem.W.EachIs (fun v e => R v (f e)) us es
  | [], _, .nil => .nil
  | _ :: _, _, .cons a t => .cons a (each_unmap t)
theorem cr_sortD {X : Cx} (hu : X.A.units + 64 < cLine) : CallR X (.builtin "sorted") (fun vs H Q => ∃ (l : Addr) (es : List (V × PyData)), vs = [.ref l] ∧ SqL X.K H l (es.map (·.1)) ∧ DpAll X.K H (es.map (·.1)) (es.map (·.2)) ∧ PySem.W.AllAlike (es.map (·.2)) ∧ PySem.W.Sortable (es.map (·.2)) ∧
    (∀ e ∈ es, e.2.depth ≤ 60) ∧ ∀ p, H p = none → Q (.ref p) (upd H p (.lst ((keyed es).map (·.1))))) := by
  rintro pins s σ H vs us Q I r ⟨l, es, rfl, hs, dp, al, so, de, q⟩
  obtain rfl := Vals.ref1 r
  obtain ⟨its, rv, hl, hz⟩ := I.list hs
  have hlen : its.length = es.length := by rw [← rv.length, List.length_map]
  have hL : es.length ≤ sizeLine := by rw [← hlen, ← rv.length]; exact hz
  refine PySem.W.sorted_data (R := fun v (e : V × PyData) => RelV e.1 v) (enc := fun e : V × PyData => e.2) hl.isList (each_pairs rv) (each_unmap (each_dp I dp rv)) al so hL (fun b hb => ?_) fun out lo eo => ?_
  · have := de b hb
    omega
  · obtain ⟨c, hc⟩ := sortedAll_at s.heap its out.toArray
    have l2 : ((keyed es).map (·.1)).length ≤ sizeLine := by
      rw [List.length_map, List.length_mergeSort]
      exact hL
    exact ⟨.ref (s.heap.objs.size + 1), upd H (s.heap.objs.size + 1) (.lst ((keyed es).map (·.1))), I.laid (t' := s.toks) (fun b o => sortedAll_old) (Nat.le_succ _) ⟨l2, out, c, pairs_each eo, hc⟩, rfl, q _ (I.hok.fresh (Nat.le_succ _))⟩
/-! ### the rows as data -/
def optD : Option Str → PyData
  | none => .none
  | some x => .str x
def rowD (x : Row) : PyData := .tuple [pcD x, optD x.op, optD x.cl, .tuple (x.ins.map .str), .int x.bal]
def rowsD (xs : List Row) : PyData := .list (xs.map rowD)
theorem dp_opt {K : PySem.W.Frag} {H : Hp} (o : Option Str) : Dp K H (optS o) (optD o) := by
  cases o with
  | none => exact .non
  | some x => exact .str x
theorem dp_pc {K : PySem.W.Frag} {H : Hp} {pc : Addr} {x : Row} (h : H pc = some (.tup [.str x.tr, .int x.k])) : Dp K H (.ref pc) (pcD x) := .tup (SqT.of h) (.cons (.str _) (.cons (.int _) .nil))
theorem RowAt.dp {K : PySem.W.Frag} {H : Hp} {r : Addr} {x : Row} (h : RowAt H r x) : Dp K H (.ref r) (rowD x) := by
  obtain ⟨pc, it, h1, h2, h3⟩ := h.ex
  exact .tup (SqT.of h1) (.cons (dp_pc h2) (.cons (dp_opt _) (.cons (dp_opt _) (.cons (.tup (SqT.of h3) (dp_strs x.ins)) (.cons (.int _) .nil)))))
theorem RowsAt.dp {K : PySem.W.Frag} {H : Hp} {rs : List Addr} {xs : List Row} (h : RowsAt H rs xs) : DpAll K H (rs.map V.ref) (xs.map rowD) := by
  induction h with
  | nil => exact .nil
  | cons a _ ih => exact .cons a.dp ih
theorem rowsD_at {K : PySem.W.Frag} {H : Hp} {l : Addr} {rs : List Addr} {xs : List Row} (hl : H l = some (.lst (rs.map V.ref))) (h : RowsAt H rs xs) : Dp K H (.ref l) (rowsD xs) := .lst (SqL.of hl) h.dp
/-! their text isn't long -/
theorem toString_neg (i : Int) (h : i < 0) : (toString i).length ≤ (toString (-i)).length + 1 := by
  obtain ⟨n, rfl⟩ : ∃ n : Nat, i = -((n + 1 : Nat) : Int) := ⟨(-i).toNat - 1, by omega⟩
  rw [Int.neg_neg]
  show ("-" ++ toString (n + 1)).length ≤ (toString (n + 1)).length + 1
  rw [String.length_append]
  have : ("-" : String).length = 1 := rfl
  omega
theorem short_big {i : Int} (h0 : -100000000000 < i) (h1 : i < 100000000000) : Short (.int i) 8 0 := by
  have e : (PyData.shown (.int i)).length ≤ 13 := by
    by_cases z : 0 ≤ i
    · exact Nat.le_trans (toString_length_le z (k := 11) (by decide) (by omega)) (by decide)
    · show (Str.ofString (toString i)).length ≤ 13
      have h := toString_length_le (v := -i) (by omega) (k := 11) (by decide) (by omega)
      rw [PySem.ofString_length] at h ⊢
      have := toString_neg i (by omega)
      omega
  refine ⟨?_, rfl, decide_eq_true e, Nat.zero_le _, Nat.zero_le _⟩
  show decide (i.natAbs.log2 < 1920) = true
  refine decide_eq_true ?_
  by_cases z : i.natAbs = 0
  · rw [z]
    decide
  · exact Nat.lt_trans ((Nat.log2_lt z).mpr (show i.natAbs < 2 ^ 40 by omega)) (by decide)
theorem short_lst {n k m : Nat} {ds : List PyData} (h : ∀ d ∈ ds, Short d n k) (l : ds.length * (n + 1) ≤ m) : Short (.list ds) m (k + 1) := by
  obtain ⟨a1, a2, a3, a4, a5⟩ := short_all h
  refine ⟨?_, ?_, ?_, ?_, ?_⟩
  · rw [PyData.showable]; exact a1
  · rw [PyData.hasDict]; exact a2
  · rw [PyData.leavesShort]; exact a3
  · rw [PyData.bulk]; omega
  · rw [PyData.depth]; omega
theorem Short.fits2 {d : PyData} {n k : Nat} (h : Short d n k) (hn : n ≤ 400000) : d.shown.length ≤ sizeLine := by
  have q := PyData.shown_le_bulk 13 (by decide) d h.ls
  have := h.bk
  rw [sizeLine_eq]
  omega
theorem seg_len : ∀ {es : List Ent} {op : Option Ent} {ins : List Ent} {s : Option Ent × Option Ent × List Ent}, s ∈ segs es op ins → s.2.2.length ≤ ins.length + es.length
  | [], op, ins, s, h => by
    rw [List.mem_singleton.mp h]
    exact Nat.le_add_right _ _
  | e :: r, op, ins, s, h => by
    rw [List.length_cons]
    by_cases m : e.mark = true
    · rw [show segs (e :: r) op ins = (op, some e, ins) :: segs r (some e) [] from if_pos m] at h
      rcases List.mem_cons.mp h with z | z
      · rw [z]
        exact Nat.le_add_right _ _
      · have := seg_len z
        rw [List.length_nil] at this
        omega
    · rw [show segs (e :: r) op ins = segs r op (ins ++ [e]) from if_neg m] at h
      have := seg_len h
      rw [List.length_append, List.length_singleton] at this
      omega
theorem segs_len : ∀ {es : List Ent} {op : Option Ent} {ins : List Ent}, (segs es op ins).length ≤ es.length + 1
  | [], op, ins => Nat.le_refl _
  | e :: r, op, ins => by
    rw [List.length_cons]
    by_cases m : e.mark = true
    · rw [show segs (e :: r) op ins = (op, some e, ins) :: segs r (some e) [] from if_pos m, List.length_cons]
      exact Nat.succ_le_succ segs_len
    · rw [show segs (e :: r) op ins = segs r op (ins ++ [e]) from if_neg m]
      exact Nat.le_succ_of_le segs_len
theorem seg_all {tr : Str} {x : Row} : ∀ {k : Nat} {ss : List (Option Ent × Option Ent × List Ent)}, x ∈ segRows tr k ss → ∃ s ∈ ss, ∃ j, j < k + ss.length ∧ x = mkRow tr j s.1 s.2.1 s.2.2
  | _, [], h => nomatch h
  | k, s :: r, h => by
    rcases List.mem_cons.mp h with h | h
    · exact ⟨s, List.mem_cons_self, k, by rw [List.length_cons]; omega, h⟩
    · obtain ⟨s', h1, j, lj, h2⟩ := seg_all h
      exact ⟨s', List.mem_cons_of_mem _ h1, j, by rw [List.length_cons]; omega, h2⟩
theorem amt_bd {e : Ent} {P G HL : List Str} (h : e.From P G HL) (τ : Str → Str) (t : Str) : (-1000000000 ≤ (e.mp τ).chg t ∧ (e.mp τ).chg t ≤ 1000000000) ∧ 0 ≤ (e.mp τ).cnt ∧ (e.mp τ).cnt ≤ 1000000000 := by
  cases e with
  | come n m g p k r =>
    obtain ⟨_, _, h3, h4, _⟩ := h
    refine ⟨?_, by show (0 : Int) ≤ 0 ∧ (0 : Int) ≤ 1000000000; omega⟩
    simp only [Ent.mp, Ent.chg]
    repeat' split
    all_goals omega
  | go n m g p k =>
    obtain ⟨_, _, h3, h4⟩ := h
    refine ⟨?_, by show (0 : Int) ≤ 0 ∧ (0 : Int) ≤ 1000000000; omega⟩
    simp only [Ent.mp, Ent.chg]
    repeat' split
    all_goals omega
  | move n m g o t' k =>
    obtain ⟨_, _, _, _, h3, h4⟩ := h
    refine ⟨?_, by show (0 : Int) ≤ 0 ∧ (0 : Int) ≤ 1000000000; omega⟩
    simp only [Ent.mp, Ent.chg]
    repeat' split
    all_goals omega
  | count n m g p k hd =>
    obtain ⟨_, _, h3, h4, _⟩ := h
    exact ⟨by show (-1000000000 : Int) ≤ 0 ∧ (0 : Int) ≤ 1000000000; omega, h3, h4⟩
  | some_ n m g o t' => exact ⟨by show (-1000000000 : Int) ≤ 0 ∧ (0 : Int) ≤ 1000000000; omega, by show (0 : Int) ≤ 0 ∧ (0 : Int) ≤ 1000000000; omega⟩
  | swap n m o t' => exact ⟨by show (-1000000000 : Int) ≤ 0 ∧ (0 : Int) ≤ 1000000000; omega, by show (0 : Int) ≤ 0 ∧ (0 : Int) ≤ 1000000000; omega⟩
  | look n m g p => exact ⟨by show (-1000000000 : Int) ≤ 0 ∧ (0 : Int) ≤ 1000000000; omega, by show (0 : Int) ≤ 0 ∧ (0 : Int) ≤ 1000000000; omega⟩
theorem sum_bd {f : Ent → Int} : ∀ {es : List Ent}, (∀ e ∈ es, -1000000000 ≤ f e ∧ f e ≤ 1000000000) → -(es.length * 1000000000 : Int) ≤ (es.map f).sum ∧ (es.map f).sum ≤ (es.length * 1000000000 : Int)
  | [], _ => by simp
  | e :: r, h => by
    have h1 := h e List.mem_cons_self
    have h2 := sum_bd fun x hx => h x (List.mem_cons_of_mem _ hx)
    rw [List.map_cons, List.sum_cons, List.length_cons]
    omega
theorem told_bd {P G : List Str} {es : List Ent} {m : Nat} (gd : Good P G es m) {g t : Str} {e : Ent} (h : e ∈ toldOf g es) : (nameB e.name = true) ∧ (-1000000000 ≤ e.chg t ∧ e.chg t ≤ 1000000000) ∧ 0 ≤ e.cnt ∧ e.cnt ≤ 1000000000 := by
  obtain ⟨_, i, e0, h0, rfl⟩ := told_of h
  obtain ⟨n1, _, _, HL, _, f⟩ := gd.ents e0 (List.mem_of_getElem? h0)
  exact ⟨by rw [name_mp']; exact n1, amt_bd f _ t⟩
theorem row_short {P G : List Str} {es : List Ent} {m : Nat} (gd : Good P G es m) (m30 : m ≤ 30) {g : Str} {x : Row} (h : x ∈ piecesM P es g) : nameB x.tr = true ∧ Short (pcD x) 18 1 ∧ Short (rowD x) 1600 2 := by
  obtain ⟨tr, ht, hx⟩ := List.mem_flatMap.mp h
  have lt : (onTrack tr (toldOf g es)).length ≤ 30 := Nat.le_trans (on_len _ _) (Nat.le_trans (told_len _ _) (by rw [gd.many]; exact m30))
  rw [cut_segs] at hx
  obtain ⟨s, hs, j, lj, rfl⟩ := seg_all hx
  have l1 := seg_len hs
  have l2 := @segs_len (onTrack tr (toldOf g es)) none []
  rw [List.length_nil] at l1 lj
  have si := segs_in (A := fun e => e ∈ toldOf g es) (op := none) (ins := []) (fun e he => (List.mem_filter.mp he).1) (fun e z => (nomatch z)) (fun e z => absurd z List.not_mem_nil) s hs
  have nt := gd.nm tr ht
  have pc : Short (pcD (mkRow tr j s.1 s.2.1 s.2.2)) 18 1 := by
    refine short_tup (n := 8) (k := 0) (fun d hd => ?_) (by show 2 * 9 ≤ 18; decide)
    rcases List.mem_cons.mp hd with rfl | hd
    · exact short_str (.inl nt)
    · rw [List.mem_singleton.mp hd]
      refine short_int (Int.natCast_nonneg _) ?_
      show ((j : Nat) : Int) ≤ _
      omega
  have op : ∀ o : Option Ent, (∀ e, o = some e → e ∈ toldOf g es ∧ e.mark = true) → Short (optD (o.map Ent.name)) 8 0 ∧ 0 ≤ cntO o ∧ cntO o ≤ 1000000000 := fun o ho => by
    cases o with
    | none => exact ⟨⟨rfl, rfl, rfl, Nat.zero_le _, Nat.zero_le _⟩, by decide, by decide⟩
    | some e =>
      have b := told_bd gd (t := tr) (ho e rfl).1
      exact ⟨short_str (.inl b.1), b.2.2⟩
  have o1 := op s.1 si.op
  have o2 := op s.2.1 si.cl
  have sb := sum_bd (f := Ent.chg tr) (es := s.2.2) fun e he => (told_bd gd (t := tr) (si.ins e he)).2.1
  have b1 : Short (.int (mkRow tr j s.1 s.2.1 s.2.2).bal) 8 0 := by
    show Short (.int (cntO s.2.1 - cntO s.1 - (s.2.2.map (Ent.chg tr)).sum)) 8 0
    have : (s.2.2.length : Int) ≤ 30 := by omega
    exact short_big (by omega) (by omega)
  refine ⟨nt, pc, short_tup (n := 300) (k := 1) (fun d hd => ?_) (by show 5 * 301 ≤ 1600; decide)⟩
  simp only [List.mem_cons, List.not_mem_nil, or_false] at hd
  rcases hd with rfl | rfl | rfl | rfl | rfl
  · exact pc.mono (by decide) (by decide)
  · exact o1.1.mono (by decide) (by decide)
  · exact o2.1.mono (by decide) (by decide)
  · refine short_names (fun y hy => ?_) (by show (s.2.2.map Ent.name).length ≤ 31; rw [List.length_map]; omega)
    obtain ⟨e, he, rfl⟩ := List.mem_map.mp hy
    exact (told_bd gd (t := tr) (si.ins e he)).1
  · exact b1.mono (by decide) (by decide)
theorem pieces_len {P G : List Str} {es : List Ent} {m : Nat} (gd : Good P G es m) (m30 : m ≤ 30) (g : Str) : (piecesM P es g).length ≤ 186 := by
  have h := flat_len (P := P) (f := trackRows es g) (n := 31) (fun t => ?_) P.length
  · rw [List.take_length] at h
    have := gd.le
    refine Nat.le_trans h ?_
    omega
  · refine Nat.le_trans (cut_len t _ _ _ _) ?_
    have := Nat.le_trans (on_len t (toldOf g es)) (Nat.le_trans (told_len g es) (by rw [gd.many]; exact m30))
    rw [List.length_nil]
    omega
theorem rows_short {P G : List Str} {es : List Ent} {m : Nat} (gd : Good P G es m) (m30 : m ≤ 30) (g : Str) : Short (rowsD (piecesM P es g)) 300000 3 := by
  refine short_lst (n := 1600) (k := 2) (fun d hd => ?_) ?_
  · obtain ⟨x, hx, rfl⟩ := List.mem_map.mp hd
    exact (row_short gd m30 hx).2.2
  · rw [List.length_map]
    have := pieces_len gd m30 g
    omega
theorem told_name {P G : List Str} {es : List Ent} {m : Nat} {g : Str} (gd : Good P G es m) {e : Ent} (he : e ∈ toldOf g es) : nameB e.name = true := by
  have h1 : e.name ∈ (along es).map Ent.name := List.mem_map.mpr ⟨e, (List.mem_filter.mp he).1, rfl⟩
  rw [along_name] at h1
  obtain ⟨e', he', q⟩ := List.mem_map.mp h1
  rw [← q]
  exact (gd.ents e' he').1
/-! ### ties as data -/
def pcoD : Option (Str × Nat) → PyData
  | none => .none
  | some p => .tuple [.str p.1, .int (p.2 : Nat)]
def tieD (x : Tie) : PyData := .tuple [tieK x, pcoD x.out, pcoD x.into]
def tiesD (xs : List Tie) : PyData := .list (xs.map tieD)
theorem dp_pco {K : PySem.W.Frag} {H : Hp} {v : V} {o : Option (Str × Nat)} (h : PcO H v o) : Dp K H v (pcoD o) := by
  cases o with
  | none =>
    rw [show v = .non from h]
    exact .non
  | some p =>
    obtain ⟨a, rfl, ha⟩ := h
    exact .tup (SqT.of ha) (.cons (.str _) (.cons (.int _) .nil))
theorem TieAt.dp {K : PySem.W.Frag} {H : Hp} {t : Addr} {x : Tie} (h : TieAt H t x) : Dp K H (.ref t) (tieD x) := by
  obtain ⟨k, vo, vi, h1, h2, h3, h4⟩ := h.ex
  exact .tup (SqT.of h1) (.cons (.tup (SqT.of h2) (.cons (.str _) (.cons (.str _) .nil))) (.cons (dp_pco h3) (.cons (dp_pco h4) .nil)))
theorem TiesAt.dp {K : PySem.W.Frag} {H : Hp} {ts : List Addr} {xs : List Tie} (h : TiesAt H ts xs) : DpAll K H (ts.map V.ref) (xs.map tieD) := by
  induction h with
  | nil => exact .nil
  | cons a _ ih => exact .cons a.dp ih
theorem tiesD_at {K : PySem.W.Frag} {H : Hp} {l : Addr} {ts : List Addr} {xs : List Tie} (hl : H l = some (.lst (ts.map V.ref))) (h : TiesAt H ts xs) : Dp K H (.ref l) (tiesD xs) := .lst (SqL.of hl) h.dp
/-! their texts -/
def PcOk (o : Option (Str × Nat)) : Prop := ∀ p, o = some p → nameB p.1 = true ∧ p.2 ≤ 1000
structure TieOk (x : Tie) : Prop where
  w : nameB x.w = true
  n : nameB x.n = true
  o : PcOk x.out
  i : PcOk x.into
theorem short_pco {o : Option (Str × Nat)} (h : PcOk o) : Short (pcoD o) 18 1 := by
  cases o with
  | none => exact ⟨rfl, rfl, rfl, Nat.zero_le _, Nat.zero_le _⟩
  | some p =>
    obtain ⟨h1, h2⟩ := h p rfl
    refine short_tup (n := 8) (k := 0) (fun d hd => ?_) (by show 2 * 9 ≤ 18; decide)
    rcases List.mem_cons.mp hd with rfl | hd
    · exact short_str (.inl h1)
    · rw [List.mem_singleton.mp hd]
      exact short_int (Int.natCast_nonneg _) (by omega)
theorem short_tie {x : Tie} (h : TieOk x) : Short (tieD x) 57 2 := by
  refine short_tup (n := 18) (k := 1) (fun d hd => ?_) (by show 3 * 19 ≤ 57; decide)
  simp only [List.mem_cons, List.not_mem_nil, or_false] at hd
  rcases hd with rfl | rfl | rfl
  · refine short_tup (n := 8) (k := 0) (fun d hd => ?_) (by show 2 * 9 ≤ 18; decide)
    rcases List.mem_cons.mp hd with rfl | hd
    · exact short_str (.inl h.w)
    · rw [List.mem_singleton.mp hd]
      exact short_str (.inl h.n)
  · exact short_pco h.o
  · exact short_pco h.i
theorem short_ties {xs : List Tie} (h : ∀ x ∈ xs, TieOk x) (l : xs.length ≤ 1000) : Short (tiesD xs) 58000 3 := by
  refine short_lst (n := 57) (k := 2) (fun d hd => ?_) ?_
  · obtain ⟨x, hx, rfl⟩ := List.mem_map.mp hd
    exact short_tie (h x hx)
  · rw [List.length_map]
    omega
theorem lay_pco {o : Option (Str × Nat)} (h : PcOk o) : (pcoD o).canLay0 = true ∧ (pcoD o).depth ≤ 1 := by
  cases o with
  | none => exact ⟨rfl, by decide⟩
  | some p =>
    have n1 := name_ok (h p rfl).1
    constructor
    · simp [pcoD, PyData.canLay0, PyData.canLayAll0, n1]
    · simp [pcoD, PyData.depth, PyData.depthAll]
theorem lay_tie {x : Tie} (h : TieOk x) : (tieD x).canLay0 = true ∧ (tieD x).depth ≤ 2 := by
  obtain ⟨a1, a2⟩ := lay_pco h.o
  obtain ⟨b1, b2⟩ := lay_pco h.i
  have n1 := name_ok h.w
  have n2 := name_ok h.n
  constructor
  · simp [tieD, tieK, PyData.canLay0, PyData.canLayAll0, n1, n2, a1, b1]
  · simp only [tieD, tieK, PyData.depth, PyData.depthAll]
    omega
theorem lay_ties : ∀ {xs : List Tie}, (∀ x ∈ xs, TieOk x) → PyData.canLayAll0 (xs.map tieD) = true ∧ PyData.depthAll (xs.map tieD) ≤ 2
  | [], _ => ⟨rfl, by decide⟩
  | x :: r, h => by
    obtain ⟨a, b⟩ := lay_ties fun z hz => h z (List.mem_cons_of_mem _ hz)
    obtain ⟨c, d⟩ := lay_tie (h x List.mem_cons_self)
    refine ⟨?_, ?_⟩
    · rw [List.map_cons, PyData.canLayAll0, a, c]
      rfl
    · rw [List.map_cons, PyData.depthAll]
      exact Nat.max_le.mpr ⟨d, b⟩
theorem shaped_ties {xs : List Tie} (h : ∀ x ∈ xs, TieOk x) : SeqAt.shaped (tiesD xs) = true := by
  obtain ⟨a, b⟩ := lay_ties h
  simp [tiesD, SeqAt.shaped, PyData.canLay0, PyData.depth, a]
  omega
theorem numb_le : ∀ (L : List Ent) (n : Str), numb L n ≤ L.length
  | [], _ => Nat.le_refl _
  | e :: r, n => by
    have ih := numb_le r n
    rw [show numb (e :: r) n = (if e.name = n then 0 else (if e.mark = true then 1 else 0) + numb r n) from rfl, List.length_cons]
    split
    · exact Nat.zero_le _
    · split <;> omega
theorem nb_words : nameB "begin" = true ∧ nameB "now" = true ∧ nameB "look" = true ∧ nameB "some" = true := by decide +kernel
theorem ties_ok {P G : List Str} {es : List Ent} {m : Nat} (gd : Good P G es m) (m30 : m ≤ 30) (g : Str) : ∀ x ∈ tiesM P es g, TieOk x := by
  obtain ⟨w1, w2, w3, w4⟩ := nb_words
  have lt := told_len g es
  have lm := gd.many
  have on30 : ∀ t, (onTrack t (toldOf g es)).length ≤ 30 := fun t => by
    have := on_len t (toldOf g es)
    omega
  have nl : ∀ t n, numb (onTrack t (toldOf g es)) n ≤ 30 := fun t n => Nat.le_trans (numb_le _ _) (on30 t)
  have nd := told_nd (g := g) gd.nms
  have one : ∀ {t : Str} {k : Nat}, t ∈ P → k ≤ 1000 → PcOk (some (t, k)) := fun {t k} ht hk p e => by
    rw [← Option.some.inj e]
    exact ⟨gd.nm t ht, hk⟩
  have non : PcOk none := fun p e => by cases e
  intro x hx
  unfold tiesM at hx
  rcases List.mem_append.mp hx with hx | hx
  · rcases List.mem_append.mp hx with hx | hx
    · obtain ⟨t, ht, hx⟩ := List.mem_flatMap.mp hx
      have mk : marks (onTrack t (toldOf g es)) ≤ 30 := Nat.le_trans (List.length_filter_le _ _) (on30 t)
      simp only [endT, List.mem_cons, List.not_mem_nil, or_false] at hx
      rcases hx with rfl | rfl
      · exact ⟨w1, gd.nm t ht, non, one ht (Nat.zero_le _)⟩
      · exact ⟨w2, gd.nm t ht, one ht (by omega), non⟩
    · obtain ⟨e, he, hx⟩ := List.mem_flatMap.mp hx
      cases e with
      | look n mo gg p =>
        rw [List.mem_singleton.mp hx]
        have nm : nameB n = true := told_name gd he
        have e1 : trk (toldOf g es) n = p := trk_of nd he rfl
        have hp : p ∈ P := told_in gd he p (List.mem_singleton.mpr rfl)
        have q := nl p n
        refine ⟨w3, nm, ?_, ?_⟩
        · show PcOk (some (clP (toldOf g es) n))
          unfold clP
          rw [e1]
          exact one hp (by omega)
        · show PcOk (some (opP (toldOf g es) n))
          unfold opP
          rw [e1]
          exact one hp (by omega)
      | _ => exact absurd hx List.not_mem_nil
  · obtain ⟨e, he, hx⟩ := List.mem_flatMap.mp hx
    cases e with
    | some_ n mo gg o t =>
      rw [List.mem_singleton.mp hx]
      have nm : nameB n = true := told_name gd he
      have pin := told_in gd he
      have ho : o ∈ P := pin o (by
        by_cases z : t = ""
        · rw [show Ent.places (.some_ n mo gg o t) = [o] from if_pos z]
          exact List.mem_singleton.mpr rfl
        · rw [show Ent.places (.some_ n mo gg o t) = [o, t] from if_neg z]
          exact List.mem_cons_self)
      refine ⟨w4, nm, one ho (by have := nl o n; omega), ?_⟩
      show PcOk (if t = "" then none else some (inP (toldOf g es) t n))
      by_cases z : t = ""
      · rw [if_pos z]
        exact non
      · rw [if_neg z]
        exact one (pin t (by rw [show Ent.places (.some_ n mo gg o t) = [o, t] from if_neg z]; exact List.mem_cons_of_mem _ (List.mem_singleton.mpr rfl))) (by have := nl t n; omega)
    | _ => exact absurd hx List.not_mem_nil
theorem sortT_mem {xs : List Tie} {x : Tie} : x ∈ sortT xs ↔ x ∈ xs := (List.mergeSort_perm _ _).mem_iff
theorem sortT_len (xs : List Tie) : (sortT xs).length = xs.length := List.length_mergeSort _
/-! ### all moments later: pieces and ties stay -/
def Ent.later (d : Int) : Ent → Ent
  | .come n m g p k r => .come n (m + d) g p k r
  | .go n m g p k => .go n (m + d) g p k
  | .move n m g o t k => .move n (m + d) g o t k
  | .some_ n m g o t => .some_ n (m + d) g o t
  | .swap n m o t => .swap n (m + d) o t
  | .count n m g p k h => .count n (m + d) g p k h
  | .look n m g p => .look n (m + d) g p
theorem lt_name (d : Int) (e : Ent) : (e.later d).name = e.name := by cases e <;> rfl
theorem lt_moment (d : Int) (e : Ent) : (e.later d).moment = e.moment + d := by cases e <;> rfl
theorem lt_good (d : Int) (e : Ent) : (e.later d).goodV = e.goodV := by cases e <;> rfl
theorem lt_places (d : Int) (e : Ent) : (e.later d).places = e.places := by cases e <;> rfl
theorem lt_mark (d : Int) (e : Ent) : (e.later d).mark = e.mark := by cases e <;> rfl
theorem lt_cnt (d : Int) (e : Ent) : (e.later d).cnt = e.cnt := by cases e <;> rfl
theorem lt_chg (d : Int) (e : Ent) (p : Str) : (e.later d).chg p = e.chg p := by cases e <;> rfl
theorem lt_sw (d : Int) (e : Ent) : swE (e.later d) = swE e := by cases e <;> rfl
theorem lt_mp (d : Int) (e : Ent) (τ : Str → Str) : (e.later d).mp τ = (e.mp τ).later d := by cases e <;> rfl
theorem lt_tau (d : Int) (es : List Ent) : tau (es.map (Ent.later d)) = tau es := by
  unfold tau
  generalize (id : Str → Str) = τ
  induction es generalizing τ with
  | nil => rfl
  | cons e r ih =>
    rw [List.map_cons, List.foldl_cons, List.foldl_cons, lt_sw]
    exact ih _
theorem lt_along (d : Int) (es : List Ent) : along (es.map (Ent.later d)) = (along es).map (Ent.later d) := by
  refine List.ext_getElem? fun i => ?_
  rw [List.getElem?_map]
  by_cases h : i < es.length
  · have h1 : es[i]? = some es[i] := List.getElem?_eq_getElem h
    have h2 : (es.map (Ent.later d))[i]? = some (es[i].later d) := by rw [List.getElem?_map, h1]; rfl
    rw [along_at h1, along_at h2, ← List.map_take, lt_tau, lt_mp]
    rfl
  · rw [List.getElem?_eq_none (by rw [along_len, List.length_map]; omega), List.getElem?_eq_none (by rw [along_len]; omega)]
    rfl
theorem filter_lt {d : Int} {f : Ent → Bool} (h : ∀ e, f (e.later d) = f e) : ∀ L : List Ent, (L.map (Ent.later d)).filter f = (L.filter f).map (Ent.later d)
  | [] => rfl
  | e :: r => by
    rw [List.map_cons, List.filter_cons, List.filter_cons, h e]
    by_cases z : f e = true
    · rw [if_pos z, if_pos z, List.map_cons, filter_lt h r]
    · rw [if_neg z, if_neg z, filter_lt h r]
theorem lt_told (d : Int) (g : Str) (es : List Ent) : toldOf g (es.map (Ent.later d)) = (toldOf g es).map (Ent.later d) := by
  unfold toldOf
  rw [lt_along]
  exact filter_lt (fun e => by rw [lt_good]) _
theorem lt_onTrack (d : Int) (t : Str) (L : List Ent) : onTrack t (L.map (Ent.later d)) = (onTrack t L).map (Ent.later d) := filter_lt (fun e => by rw [lt_places]) _
theorem lt_names (d : Int) (L : List Ent) : (L.map (Ent.later d)).map Ent.name = L.map Ent.name := by
  rw [List.map_map]
  exact List.map_congr_left fun e _ => lt_name d e
theorem lt_mkRow (d : Int) (tr : Str) (k : Nat) (op cl : Option Ent) (ins : List Ent) : mkRow tr k (op.map (Ent.later d)) (cl.map (Ent.later d)) (ins.map (Ent.later d)) = mkRow tr k op cl ins := by
  have nm : ∀ o : Option Ent, (o.map (Ent.later d)).map Ent.name = o.map Ent.name := fun o => by
    cases o with
    | none => rfl
    | some e => exact congrArg some (lt_name d e)
  have cn : ∀ o : Option Ent, cntO (o.map (Ent.later d)) = cntO o := fun o => by
    cases o with
    | none => rfl
    | some e => exact lt_cnt d e
  have ch : (ins.map (Ent.later d)).map (Ent.chg tr) = ins.map (Ent.chg tr) := by
    rw [List.map_map]
    exact List.map_congr_left fun e _ => lt_chg d e tr
  unfold mkRow
  rw [nm, nm, cn, cn, ch, lt_names]
theorem lt_cut (d : Int) (tr : Str) : ∀ (L : List Ent) (rows : List Row) (op : Option Ent) (ins : List Ent), cutRows tr (L.map (Ent.later d)) rows (op.map (Ent.later d)) (ins.map (Ent.later d)) = cutRows tr L rows op ins
  | [], rows, op, ins => by
    rw [List.map_nil, cutRows, cutRows]
    have := lt_mkRow d tr rows.length op none ins
    rw [show (none : Option Ent).map (Ent.later d) = none from rfl] at this
    rw [this]
  | e :: r, rows, op, ins => by
    rw [List.map_cons]
    by_cases z : e.mark = true
    · rw [cut_yes z, cut_yes (by rw [lt_mark]; exact z)]
      have h1 := lt_mkRow d tr rows.length op (some e) ins
      have h2 := lt_cut d tr r (rows ++ [mkRow tr rows.length op (some e) ins]) (some e) []
      rw [show (some e : Option Ent).map (Ent.later d) = some (e.later d) from rfl] at h1 h2
      rw [h1]
      exact h2
    · rw [cut_no z, cut_no (by rw [lt_mark]; exact z)]
      have h2 := lt_cut d tr r rows op (ins ++ [e])
      rw [List.map_append] at h2
      exact h2
theorem lt_pieces (d : Int) (P : List Str) (es : List Ent) (g : Str) : piecesM P (es.map (Ent.later d)) g = piecesM P es g := by
  unfold piecesM
  refine congrArg (fun f => P.flatMap f) (funext fun t => ?_)
  rw [lt_told, lt_onTrack]
  exact lt_cut d t _ [] none []
theorem lt_marks (d : Int) (L : List Ent) : marks (L.map (Ent.later d)) = marks L := by
  unfold marks
  rw [filter_lt (fun e => lt_mark d e), List.length_map]
theorem lt_numb (d : Int) (n : Str) : ∀ L : List Ent, numb (L.map (Ent.later d)) n = numb L n
  | [] => rfl
  | e :: r => by
    rw [List.map_cons, numb, numb, lt_name, lt_mark, lt_numb d n r]
theorem lt_trk (d : Int) (T : List Ent) (n : Str) : trk (T.map (Ent.later d)) n = trk T n := by
  unfold trk
  refine congrArg (fun o : Option Str => Option.getD o ("" : Str)) ?_
  induction T with
  | nil => rfl
  | cons e r ih =>
    rw [List.map_cons, List.find?_cons, List.find?_cons, lt_name]
    cases decide (e.name = n) with
    | true => exact congrArg (fun q : List Str => some (List.headD q ("" : Str))) (lt_places d e)
    | false => exact ih
theorem lt_ties (d : Int) (P : List Str) (es : List Ent) (g : Str) : tiesM P (es.map (Ent.later d)) g = tiesM P es g := by
  unfold tiesM
  rw [lt_told]
  generalize toldOf g es = T
  have e1 : endT (T.map (Ent.later d)) = endT T := funext fun t => by
    unfold endT
    rw [lt_onTrack, lt_marks]
  have e2 : clP (T.map (Ent.later d)) = clP T := funext fun n => by
    unfold clP
    rw [lt_trk, lt_onTrack, lt_numb]
  have e3 : opP (T.map (Ent.later d)) = opP T := funext fun n => by
    unfold opP
    rw [lt_trk, lt_onTrack, lt_numb]
  have e4 : inP (T.map (Ent.later d)) = inP T := funext fun t => funext fun n => by
    unfold inP
    rw [lt_onTrack, lt_numb]
  rw [e1, e2, e3, e4]
  have f1 : ∀ (C O : Str → Str × Nat), (T.map (Ent.later d)).flatMap (lookT C O) = T.flatMap (lookT C O) := fun C O => by
    rw [List.flatMap_map]
    refine congrArg (fun f => T.flatMap f) (funext fun e => ?_)
    cases e <;> rfl
  have f2 : ∀ (D : Str → Str → Str × Nat), (T.map (Ent.later d)).flatMap (someT D) = T.flatMap (someT D) := fun D => by
    rw [List.flatMap_map]
    refine congrArg (fun f => T.flatMap f) (funext fun e => ?_)
    cases e <;> rfl
  rw [f1, f2]
theorem lt_From {e : Ent} {P G HL : List Str} (d : Int) (h : e.From P G HL) : (e.later d).From P G HL := by cases e <;> exact h
theorem Good.later {P G : List Str} {es : List Ent} {m : Nat} (gd : Good P G es m) {d : Int} (h0 : 0 ≤ d) (h : ∀ e ∈ es, e.moment + d ≤ 9999) : Good P G (es.map (Ent.later d)) m := by
  refine ⟨gd.nd, gd.ne, gd.le, gd.nm, gd.ge, gd.gl, gd.gn, gd.gd, by rw [List.length_map]; exact gd.many, by rw [lt_names]; exact gd.nms, gd.ps, fun e' he' => ?_⟩
  obtain ⟨e, he, rfl⟩ := List.mem_map.mp he'
  obtain ⟨a1, a2, a3, HL, a4, a5⟩ := gd.ents e he
  rw [lt_name, lt_moment]
  exact ⟨a1, by omega, h e he, HL, a4, lt_From d a5⟩
/-! ### made_later -/
def spWholeI : Sp := fun vs H Q _ => ∃ i : Int, vs = [.int i] ∧ Q (.bl true) H
def spFitsM : Sp := fun vs H Q _ => ∃ i : Int, vs = [.int i, .str "moment"] ∧ Q (.bl (decide (0 ≤ i) && decide (i ≤ 9999))) H
def spIsMo : Sp := fun vs H Q _ => ∃ i : Int, vs = [.int i] ∧ Q (.bl (decide (0 ≤ i) && decide (i ≤ 9999))) H
def spWithMo : Sp := fun vs H Q _ => ∃ (a : Addr) (e : Ent) (d : Int), vs = [.ref a, .int (e.moment + d)] ∧ H a = some (.tup e.vals) ∧ ∀ (t : Addr) (H' : Hp), Same H H' → H' t = some (.tup (e.later d).vals) → Q (.ref t) H'
theorem later_vals (e : Ent) (d : Int) : e.vals.take 2 ++ [V.int (e.moment + d)] ++ e.vals.drop 3 = (e.later d).vals := by cases e <;> rfl
structure DefX (P : Program) (w : World) (K : PySem.W.Frag) (mg : Str → Option Value) (base : Heap) (x : Str) (k : Nat) (f : Addr) (fd : FuncData) (ps : List Str) (sp : Sp) : Prop where
  ok : FnOk P w K mg base (L2.CX P w) k f fd ps sp
  g : mg x = some (.ref f)
  kp : PySem.W.keepIn K (.ref f) = true
  b : Binds K fd ps []
/-- an own class of errors over ValueError -/
structure Err (K : PySem.W.Frag) (mg : Str → Option Value) (x : Str) (C : Addr) : Prop where
  gC : mg x = some (.ref C)
  ex : PySem.W.excIn K C [.type "ValueError", .type "Exception", .type "BaseException", .type "object"] "ValueError.__new__" = true
  kp : PySem.W.keepIn K (.ref C) = true
  sb : PySem.W.subIn K (.ref C) (.type "BaseException") = some true
  ty : PySem.W.typeIn K (.ref C) = some (.type "type")
def LaterWays (P G : List Str) (es : List Ent) (d : Int) (Ts : List Addr) (CH : Addr) (H : Hp) (Q : VK) (E : XK) : Prop :=
  ((∀ e ∈ es, e.moment + d ≤ 9999) ∧ ∀ (h' : Addr) (H' : Hp), TB1 Ts H H' → HouseAt H' h' P G (es.map (Ent.later d)) → Q (.ref h') H') ∨ ((∃ e ∈ es, 9999 < e.moment + d) ∧ ∀ H', TB1 Ts H H' → E (.ref CH) none H')
def spLater (CH : Addr) (Ts : List Addr) : Sp := fun vs H Q E => ∃ (h : Addr) (P G : List Str) (es : List Ent) (m : Nat) (d : Int), vs = [.ref h, .int d] ∧ HouseAt H h P G es ∧ Good P G es m ∧ m ≤ 30 ∧ 0 ≤ d ∧ TabsG Ts H ∧ LaterWays P G es d Ts CH H Q E
section
variable {P : Program} {w : World} {K : PySem.W.Frag} {mg : Str → Option Value} {base : Heap}
theorem scWhole : FnScope ["thing"] ["thing"] (defScope sWhole) := ⟨rfl, rfl, rfl, by decide +kernel, rfl, by decide +kernel, by decide +kernel⟩
theorem scFits : FnScope ["part", "sort", "low", "high"] ["part", "sort"] (defScope sFits) := ⟨rfl, rfl, rfl, by decide +kernel, rfl, by decide +kernel, by decide +kernel⟩
theorem ok_wholeI {f : Addr} {fd : FuncData} (F : Fun K "is_whole" "is_whole" sWhole f fd) (mi : mg "isinstance" = none) (m1 : mg "int" = none) (m2 : mg "bool" = none) : FnOk P w K mg base CX0 1 f fd ["thing"] spWholeI := by
  refine F.ok scWhole (fun vs H Q E h => ?_) (fun cdv A outer s H vs Q E hr h => ?_)
  · obtain ⟨i, rfl, _⟩ := h
    rfl
  · obtain ⟨i, rfl, q⟩ := h
    refine ⟨_, pss_one (ps_ret (pe_and (pe_callB call_isi (by rfl) mi (by decide +kernel) (pa_cons (pv 0) (pa_cons (pe_bltn (v := .ty "int") (u := .type "int") (by rfl) m1 (by decide +kernel) rfl) pa_nil)))
      (pe_one (pe_not (pe_callB call_isi (by rfl) mi (by decide +kernel) (pa_cons (pv 0) (pa_cons (pe_bltn (v := .ty "bool") (u := .type "bool") (by rfl) m2 (by decide +kernel) rfl) pa_nil))))))), ?_⟩
    exact ⟨_, rfl, _, _, _, _, true, rfl, .ty "int", .base (.int i), kit_ty (by decide +kernel), _, rfl, iteT ⟨_, rfl, _, _, _, _, false, rfl, .ty "bool", .base (.int i), kit_ty (by decide +kernel), _, rfl, q⟩⟩
theorem ok_fitsM {f fW aB aT : Addr} {fd dW : FuncData} (F : Fun K "fits" "fits" sFits f fd) (W : DefT P w K mg base "is_whole" 1 fW dW ["thing"] spWholeI)
    (mB : mg "BOUNDS" = some (.ref aB)) (kd : KDct K w aB "moment" (.ref aT)) (sq : ∀ H, SqT K H aT [.int 0, .int 9999]) : FnOk P w K mg base CX0 2 f fd ["part", "sort"] spFitsM := by
  refine F.ok scFits (fun vs H Q E h => ?_) (fun cdv A outer s H vs Q E hr h => ?_)
  · obtain ⟨i, rfl, _⟩ := h
    rfl
  · obtain ⟨i, rfl, q⟩ := h
    have nd := scFits.nd
    refine ⟨_, pss_cons (ps_if (pt_cmpR op_eq (pv 1) pe_str (nomark _)) (pss_one ps_never) pss_nil)
      (pss_cons (ps_if (pt_cmpR op_eq (pv 1) pe_str (nomark _)) (pss_one ps_never) pss_nil)
      (pss_cons (ps_asg (pe_ix ix_kdict (pe_glob (v := .ref aB) rfl mB rfl) (pv 1) (fun _ _ => rfl)) (pg_tup (by rfl) (pgs_cons (pg_name (i := 2) nd rfl (Or.inl rfl)) (pgs_cons (pg_name (i := 3) nd rfl (Or.inl rfl)) pgs_nil))))
      (pss_one (ps_ret (pe_and (pe_call W.ok hr (by rfl) W.g W.kp W.b .nil pass0 (pa_cons (pv 0) pa_nil)) (pe_one (pe_chain op_le op_le (pv 2) (pv 0) (pv 3)))))))), ?_⟩
    refine ⟨_, rfl, rfl, false, congrArg V.bl (by decide +kernel), iteF ?_⟩
    refine ⟨_, rfl, rfl, false, congrArg V.bl (by decide +kernel), iteF ?_⟩
    refine ⟨_, rfl, aB, "moment", _, rfl, rfl, kd, ?_⟩
    refine ⟨aT, _, rfl, sq _, rfl, _, _, rfl, _, _, rfl, rfl, _, rfl, i, rfl, _, rfl, iteT ⟨_, rfl, _, rfl, 0, i, rfl, rfl, _, rfl, ite2 (fun a1 => ?_) (fun a1 => ?_)⟩⟩
    · refine ⟨_, rfl, i, 9999, rfl, rfl, ?_⟩
      rw [a1, Bool.true_and] at q
      exact q
    · rw [Bool.eq_false_iff.mpr a1, Bool.false_and] at q
      exact q
abbrev sIsMomentN : List Str := ["thing"]
theorem sc_sIsMoment : FnScope sIsMomentN ["thing"] (defScope sIsMoment) := ⟨rfl, rfl, rfl, by decide +kernel, rfl, by decide +kernel, by decide +kernel⟩
theorem ok_isMo {f fF : Addr} {fd dF : FuncData} (F : Fun K "is_moment" "is_moment" sIsMoment f fd) (FI : DefT P w K mg base "fits" 2 fF dF ["part", "sort"] spFitsM) : FnOk P w K mg base CX0 3 f fd ["thing"] spIsMo := by
  refine F.ok sc_sIsMoment (fun vs H Q E h => ?_) (fun cdv A outer s H vs Q E hr h => ?_)
  · obtain ⟨i, rfl, _⟩ := h
    rfl
  · obtain ⟨i, rfl, q⟩ := h
    have nd := sc_sIsMoment.nd
    refine ⟨_, pss_one (ps_ret (pe_call FI.ok hr (by rfl) FI.g FI.kp FI.b .nil pass0 (pa_cons (pv 0) (pa_cons pe_str pa_nil)))), ?_⟩
    exact ⟨_, rfl, i, rfl, q⟩
abbrev sWithMoN : List Str := ["entry", "moment"]
theorem sc_sWithMo : FnScope sWithMoN ["entry", "moment"] (defScope sWithMo) := ⟨rfl, rfl, rfl, by decide +kernel, rfl, by decide +kernel, by decide +kernel⟩
theorem ok_withMo {f : Addr} {fd : FuncData} (F : Fun K "with_moment" "with_moment" sWithMo f fd) : FnOk P w K mg base CX0 1 f fd ["entry", "moment"] spWithMo := by
  refine F.ok sc_sWithMo (fun vs H Q E h => ?_) (fun cdv A outer s H vs Q E hr h => ?_)
  · obtain ⟨a, e, d, rfl, _⟩ := h
    rfl
  · obtain ⟨a, e, d, rfl, ha, q⟩ := h
    have nd := sc_sWithMo.nd
    refine ⟨_, pss_one (ps_ret (pe_op op_catS (pe_op op_catS (pe_slice sl_S (pv 0) po_none (po_some pe_int)) (pe_tup (pa_cons (pv 1) pa_nil))) (pe_slice sl_S (pv 0) (po_some pe_int) po_none))), ?_⟩
    refine ⟨_, rfl, 2, rfl, a, _, rfl, ha, fun b1 H1 s1 h1 => ?_⟩
    have c1 : cutV e.vals none (some (2 : Int)) = e.vals.take 2 := cut_head (k := 2)
    rw [c1] at h1
    refine ⟨_, rfl, (by show 1 ≤ sizeLine; decide), fun b2 n2 => ?_⟩
    have s2 := @same_new _ _ (.tup [V.int (e.moment + d)]) n2
    have l2 : (e.vals.take 2).length = 2 := by
      rw [List.length_take]
      have := (vals_len_e e).1
      omega
    refine ⟨b1, b2, _, _, rfl, rfl, s2 _ _ h1, upd_same, (by intro z; rw [z] at l2; cases l2), (by rw [l2]; show 2 + 1 ≤ sizeLine; decide), fun b3 H3 s3 h3 => ?_⟩
    have s13 := (s1.trans s2).trans s3
    refine ⟨_, rfl, 3, rfl, a, _, rfl, s13 _ _ ha, fun b4 H4 s4 h4 => ?_⟩
    have c2 : cutV e.vals (some (3 : Int)) none = e.vals.drop 3 := cut_tail (k := 3)
    rw [c2] at h4
    refine ⟨b3, b4, _, _, rfl, rfl, s4 _ _ h3, h4, (by intro z; have := congrArg List.length z; rw [List.length_append, l2] at this; cases this), ?_, fun b5 H5 s5 h5 => ?_⟩
    · rw [List.length_append, l2, List.length_drop]
      have := (vals_len_e e).2
      have bg : 100 ≤ sizeLine := by decide
      show 2 + 1 + _ ≤ _
      omega
    · rw [later_vals] at h5
      exact q b5 H5 ((s13.trans s4).trans s5) h5
abbrev sLaterN : List Str := ["house", "many", "places", "goods", "entries", "entry"]
theorem sc_sLater : FnScope sLaterN ["house", "many"] (defScope sLater) := ⟨rfl, rfl, rfl, by decide +kernel, rfl, by decide +kernel, by decide +kernel⟩
set_option maxHeartbeats 4000000 in
theorem ok_later {f cA T fI fM CH : Addr} {dI dM : FuncData} {oc kV doc pm ct : Value} {od an : Option Addr} {osl : Array (Option Value)}
    (lk : K.lookup f = some ⟨oc, od, .func (PySem.W.fnOf "made_later" "made_later" (defArgs sLater) (defBody sLater) (defScope sLater) .none kV doc pm an (.ref cA) ct), osl⟩) (cd : PySem.W.codeIn K (.ref cA) "made_later" = true)
    (TB : GxR.TabB base mg cA T) {Ts : List Addr} (hT : T ∈ Ts) (IM : DefT P w K mg base "is_moment" 3 fI dI ["thing"] spIsMo) (WM : DefT P w K mg base "with_moment" 1 fM dM ["entry", "moment"] spWithMo) (EH : Err K mg "NoHouse" CH) (ma : mg "all" = none) (mt : mg "tuple" = none) :
    FnOk P w K mg base (L2.CX P w) 5 f (PySem.W.fnOf "made_later" "made_later" (defArgs sLater) (defBody sLater) (defScope sLater) .none kV doc pm an (.ref cA) ct) ["house", "many"] (spLater CH Ts) := by
  refine fn_of lk cd sc_sLater (fun vs H Q E h => ?_) (fun A outer s H vs Q E hr h => ?_)
  · obtain ⟨h, Ps, G, es, m, d, rfl, _⟩ := h
    rfl
  · obtain ⟨h, Ps, G, es, m, d, rfl, ho, gd, m30, d0, tg, ways⟩ := h
    have nd := sc_sLater.nd
    refine ⟨_, pss_cons (ps_asg (pv 0) (pg_tup (by rfl) (pgs_cons (pg_name (i := 2) nd rfl (Or.inl rfl)) (pgs_cons (pg_name (i := 3) nd rfl (Or.inl rfl)) (pgs_cons (pg_name (i := 4) nd rfl (Or.inl rfl)) pgs_nil)))))
      (pss_cons (ps_if (pt_not (PT.nox (pt_val (pe_allG (T := T) (c := cA) (k := 3) (own := [("entry", 5)]) (g := gName 5) (tt := tYes) (te := tCall spIsMo [] E0 (tCons (tOp (rI0 fun i j => .int (i + j)) (tOp (rIxT K) (tVar 5) (tC (V.int 2))) (tVar 1)) tNil)) hr (by rfl) ma rfl nd TB rfl ⟨blkOk_by (N := sLaterN) (sc := defScope sLater) (by decide +kernel), rfl, by decide +kernel, rfl⟩
          (pi_tup (pv 4)) (fun _ _ _ _ _ _ => pg_name (i := 5) nd rfl (Or.inl rfl)) (fun _ _ _ _ _ _ _ => pts_nil) (fun _ _ _ _ _ _ hr' => pe_call IM.ok hr' (by rfl) IM.g IM.kp IM.b .nil pass0 (pa_cons (pe_op op_add (pe_ix ix_tup (pv 5) pe_int (fun _ _ => rfl)) (pv 1)) pa_nil))))))
          (pss_one (ps_raise rfl (takes_of rfl rfl rfl rfl) (pmk_own PySem.F.excBase_ValueError EH.ex EH.gC EH.kp (raises_own EH.sb EH.ty) rfl))) pss_nil)
      (PSs.nox (pss_one (ps_ret (pe_tup (pa_cons (pv 2) (pa_cons (pv 3) (pa_cons
        (pe_tupG (T := T) (c := cA) (k := 1) (own := [("entry", 5)]) (g := gName 5) (tt := tYes) (te := tCall spWithMo [] E0 (tCons (tVar 5) (tCons (tOp (rI0 fun i j => .int (i + j)) (tOp (rIxT K) (tVar 5) (tC (V.int 2))) (tVar 1)) tNil))) (hr.mono (by decide)) (by rfl) mt rfl nd TB rfl ⟨blkOk_by (N := sLaterN) (sc := defScope sLater) (by decide +kernel), rfl, by decide +kernel, rfl⟩
          (pi_tup (pv 4)) (fun _ _ _ _ _ _ => pg_name (i := 5) nd rfl (Or.inl rfl)) (fun _ _ _ _ _ _ _ => pts_nil) (fun _ _ _ _ _ _ hr' => pe_call WM.ok hr' (by rfl) WM.g WM.kp WM.b .nil pass0 (pa_cons (pv 5) (pa_cons (pe_op op_add (pe_ix ix_tup (pv 5) pe_int (fun _ _ => rfl)) (pv 1)) pa_nil)))) pa_nil)))))))), ?_⟩
    obtain ⟨hp, hg, he, tps, g1, g2, g3, g4, g5⟩ := ho.ex
    have l5 := g5.len
    refine ⟨_, rfl, h, _, rfl, SqT.of g1, rfl, _, _, rfl, _, _, rfl, _, _, rfl, rfl, ?_⟩
    refine ⟨_, rfl, he, rfl, ⟨_, SqT.of g4⟩, tg T hT, fun H1 tb1 => ?_⟩
    have t1 : TB1 Ts H H1 := .tab tb1 tg hT
    have h4 := t1.tk _ _ g4
    refine ⟨fun i n H' => n = tps.length - i ∧ i ≤ tps.length ∧ H' = H1 ∧ ∀ e ∈ es.take i, e.moment + d ≤ 9999, ⟨_, rfl, Nat.zero_le _, rfl, fun e he => nomatch he⟩, ?_⟩
    rintro i n H2 ⟨rfl, hi, rfl, ok⟩
    by_cases lt : i < tps.length
    · refine .inr ⟨⟨_, _, SqT.of h4, List.getElem?_eq_getElem (by rw [List.length_map]; exact lt)⟩, fun v H4 yl => ?_⟩
      obtain ⟨rfl, yl⟩ := yl
      have gy := yl _ (SqT.of h4)
      rw [List.getElem?_map] at gy
      obtain ⟨tp, htp, rfl⟩ := Option.map_eq_some_iff.mp gy
      obtain ⟨e, hes, hte0⟩ := g5.get htp
      have hte := t1.tk _ _ hte0
      obtain ⟨_, m0, _⟩ := gd.ents e (List.mem_of_getElem? hes)
      refine ⟨rfl, yesT ⟨_, rfl, tp, _, 2, _, rfl, rfl, SqT.of hte, at2 e, _, rfl, _, _, rfl, rfl, _, rfl, _, rfl, ?_⟩⟩
      by_cases z : e.moment + d ≤ 9999
      · rw [decide_eq_true (show 0 ≤ e.moment + d by omega), decide_eq_true z]
        refine iteT ⟨_, Nat.sub_lt_sub_left lt (Nat.lt_succ_self _), rfl, lt, rfl, fun e' he' => ?_⟩
        rw [take_snoc hes] at he'
        rcases List.mem_append.mp he' with he' | he'
        · exact ok e' he'
        · rw [List.mem_singleton.mp he']
          exact z
      · rw [decide_eq_false z, Bool.and_false]
        refine iteF ⟨false, rfl, iteT ?_⟩
        rcases ways with ⟨all, _⟩ | ⟨_, q⟩
        · exact absurd (all e (List.mem_of_getElem? hes)) z
        · exact q _ t1
    · have ei : i = tps.length := by omega
      subst ei
      rw [l5, List.take_length] at ok
      refine .inl ⟨⟨_, SqT.of h4, by rw [List.length_map]; exact Nat.le_refl _⟩, true, rfl, iteF ?_⟩
      rcases ways with ⟨all, q⟩ | ⟨⟨e, he', bad⟩, _⟩
      · refine ⟨_, rfl, _, rfl, _, rfl, he, rfl, ⟨_, SqT.of h4⟩, t1.1 T hT, fun H3 tb3 => ?_⟩
        have t3 : TB1 Ts H H3 := t1.tr (.tab tb3 t1.1 hT)
        have h43 := t3.tk _ _ g4
        refine ⟨fun i n ys H' => n = tps.length - i ∧ i ≤ tps.length ∧ Same H3 H' ∧ ∃ us : List Addr, ys = us.map V.ref ∧ us.length = i ∧ EntsAt H' us ((es.take i).map (Ent.later d)), ⟨_, rfl, Nat.zero_le _, fun _ _ e => e, [], rfl, rfl, .nil⟩, ?_⟩
        rintro i n ys H4 ⟨rfl, hi, s4, us, rfl, lu, en⟩
        have h44 := s4 _ _ h43
        by_cases lt : i < tps.length
        · refine .inr ⟨⟨_, _, SqT.of h44, List.getElem?_eq_getElem (by rw [List.length_map]; exact lt)⟩, fun v H5 yl => ?_⟩
          obtain ⟨rfl, yl⟩ := yl
          have gy := yl _ (SqT.of h44)
          rw [List.getElem?_map] at gy
          obtain ⟨tp, htp, rfl⟩ := Option.map_eq_some_iff.mp gy
          obtain ⟨e, hes, hte0⟩ := g5.get htp
          have hte := s4 _ _ (t3.tk _ _ hte0)
          refine ⟨rfl, yesT ⟨_, rfl, _, rfl, tp, _, 2, _, rfl, rfl, SqT.of hte, at2 e, _, rfl, _, _, rfl, rfl, tp, e, d, rfl, hte, fun t H6 s6 h6 => ?_⟩⟩
          refine ⟨?_, _, Nat.sub_lt_sub_left lt (Nat.lt_succ_self _), rfl, lt, s4.trans s6, us ++ [t], ?_, ?_, ?_⟩
          · rw [List.length_map]
            exact small1000 (by have := gd.many; omega)
          · rw [List.map_append]
            rfl
          · rw [List.length_append, lu]
            rfl
          · rw [take_snoc hes, List.map_append]
            exact EntsAt.snoc (en.on (TK.of s6)) h6
        · have ei : i = tps.length := by omega
          subst ei
          rw [l5, List.take_length] at en
          refine .inl ⟨⟨_, SqT.of h44, by rw [List.length_map]; exact Nat.le_refl _⟩, (by rw [List.length_map]; exact Nat.le_of_lt (small1000 (by have := gd.many; omega))), fun et net => ?_⟩
          have s5 := @same_new _ _ (.tup (us.map V.ref)) net
          have het : (upd H4 et (.tup (us.map V.ref))) et = some (.tup (us.map V.ref)) := upd_same
          generalize upd H4 et (.tup (us.map V.ref)) = H5 at s5 het
          refine ⟨(by show 3 ≤ sizeLine; decide), fun h' nh' => ?_⟩
          have s6 := @same_new _ _ (.tup [V.ref hp, .ref hg, .ref et]) nh'
          have s46 := s4.trans (s5.trans s6)
          exact q h' _ (t3.tr (.same t3.1 s46)) ⟨hp, hg, et, us, upd_same, s46 _ _ (t3.tk _ _ g2), s46 _ _ (t3.tk _ _ g3), s6 _ _ het, en.on (TK.of (s5.trans s6))⟩
      · exact absurd (ok e he') (by omega)
end
/-! ### try .. except X as n, what is caught being kept -/
namespace Kept
def ExV (cls : Value) (d : Option Addr) (a : Addr) : HO := .ext fun h => ∃ (o : Obj) (fv : Array Value), h.get? a = some o ∧ Zc cls d o ∧ o.data = .fields fv
def wKeep (K : PySem.W.Frag) (c : Value) (i : Nat) (ts : Addr → Value → Option Addr → TS) (D : Ends) : WX := fun cls d τ G => PySem.W.exmOne K cls c = some true ∧
  ∀ a, G a = none → ts a cls d { nx := fun τ' G' => D.nx (τ'.set i none) (upd G' a (ExV cls d a)), rt := D.rt, bk := fun τ' G' => D.bk (τ'.set i none) G', ct := fun τ' G' => D.ct (τ'.set i none) G' } (τ.set i (some (.ref a))) G
section
variable {X : Cx}
theorem exv_ok {P : Program} {w : World} {G : Hp} {h : Heap} {a : Addr} {cls : Value} {d : Option Addr} {o : Obj} {fv : Array Value} (e : h.get? a = some o) (z : Zc cls d o) (dd : o.data = .fields fv) : ObjOk P w G h a (ExV cls d a) :=
  ⟨⟨o, fv, e, z, dd⟩, ⟨o, e⟩, fun _ _ ⟨u, v, q, r⟩ k => ⟨u, v, k u q, r⟩⟩
/-- an object that is there, and wasn't when the def began, is told of -/
theorem told_of {pins : List (Addr × Obj)} {τ : L2.St} {G : Hp} {z : Shared} {a : Addr} {cls : Value} {d : Option Addr} {o : Obj} {fv : Array Value} (I : Inv X pins τ G z) (ga : z.heap.get? a = some o) (zc : Zc cls d o) (dd : o.data = .fields fv)
    (na : G a = none) (nl : a ≠ X.env.locals) (old : ∀ u, X.s_0.heap.get? a = some u → a ∈ X.ex) (np : ∀ p ∈ X.pn ++ pins, p.1 ≠ a) : Inv X pins τ (upd G a (ExV cls d a)) z := by
  have other : ∀ {b : Addr} {u : HO}, G b = some u → (upd G a (ExV cls d a)) b = some u := fun e => (upd_ne (ne_of_none e na)).trans e
  refine ⟨I.ok, I.os, I.bare, ⟨I.base.keep, I.base.slot, fun b u e n hx => ?_, I.base.there, fun b xs e => other (I.base.tups b xs e), fun b u v e => other (I.base.frzs b u v e), fun b ps e => ?_⟩, I.loc, I.cell, (upd_ne (Ne.symm nl)).trans I.free, fun y c e => ?_, fun p hp => ?_, I.hok.laidN (fun _ _ e => e) na (exv_ok ga zc dd), I.len⟩
  · by_cases q : b = a
    · subst q
      exact absurd (old u e) hx
    · exact (upd_ne q).trans (I.base.free b u e n hx)
  · obtain ⟨more, q⟩ := I.base.tbls b ps e
    exact ⟨more, other q⟩
  · obtain ⟨v, hv⟩ := I.cell y c e
    have q : c ≠ a := fun q => by
      subst q
      obtain ⟨o', e', rest⟩ := hv
      rw [ga] at e'
      cases e'
      rw [dd] at rest
      cases rest
    exact (upd_ne q).trans (I.freeC y c e)
  · obtain ⟨p1, p2, p3⟩ := I.pin p hp
    exact ⟨p1, (upd_ne (np p hp)).trans p2, p3⟩
end
section
variable {X : Cx} {x n : Str} {c : Value} {i : Nat} {body rest : List Stmt} {b1 : Stmt} {q1 q2 q3 : Pos} {tb : WX → TS} {ts : Addr → Value → Option Addr → TS}
theorem ps_try_keep (st : X.stack = X.env :: X.outer) (fr : X.env.frame = some X.env.locals) (ndN : X.N.Nodup) (iy : X.N[i]? = some n) (kl : X.env.kindOf n = some .local) (nm : Names X x c)
    (Hb : ∀ (W : WX) (pn : List (Addr × Obj)) (xe : Value → Shared → Prop), Takes (X.tr pn xe) W → PassesOwn (model X.prog X.w) X.A X.env xe → PSs (X.tr pn xe) body (tb W))
    (Hs : ∀ (a : Addr) (ob : Obj) (cls : Value) (d : Option Addr) (pn : List (Addr × Obj)), Zc cls d ob → (∃ fv, ob.data = .fields fv) → PSs (X.suite a ((a, ob) :: pn)) (b1 :: rest) (ts a cls d)) :
    PS X (.Try body [.ExceptHandler (some (.Name x q1)) (some n) (b1 :: rest) q2] [] [] q3) (fun D τ G => tb (wKeep X.K c i ts D) D τ G) := by
  constructor
  intro pins z τ G D I h
  have oX := I.ok
  have frs2 : X.A.frames = some (X.env :: X.outer) := by
    rw [oX.frames, st]
  refine wpAny_Try_except (wpAny_mono ((Hb (wKeep X.K c i ts D) (X.pn ++ pins) (fun ev z1 => wpAny (model X.prog X.w) X.A (noteFrame ev X.env) (fun _ z2 => wpAny (model X.prog X.w) X.A (setFlight ev none) (fun _ z3 =>
    wpAny (model X.prog X.w) X.A (handleBy ev X.env [.ExceptHandler (some (.Name x q1)) (some n) (b1 :: rest) q2]) (SP X pins D) X.xe z3) X.xe z2) X.xe z1) (fun ev z' fly => ?_) PassesOwn.looking).run [] z τ G D (I.toTry _) h) (fun fl z1 hsp => ?_) (fun _ _ he => he))
  · obtain ⟨a, B, zI, pins', τ', G', cls, d, rfl, J', ground, up, sky, na, os, ag, match_, yes⟩ := fly
    have J : Inv X pins τ' G' zI := J'.ofTry oX
    show wpAny (model X.prog X.w) X.A (noteFrame (.ref a) X.env) _ _ z'
    refine Sky.land Zc.steady frs2 fr (show Sky B (X.env :: X.outer) a (Zc cls d) X.env.locals z'.heap by rw [← st]; exact sky) fun h3 f3 up3 => ?_
    have J3 : Inv X pins τ' G' { z' with heap := h3 } := J.landed ground f3.1 (up.trans up3) os ag
    obtain ⟨o3, fv3, e3, zc3, dd3⟩ := f3.there
    have nofr : a ∉ frs (X.env :: X.outer) := fun hm => by
      obtain ⟨_, o', e', hnf⟩ := f3.2.2.1.mem hm
      rw [e3] at e'
      cases e'
      exact hnf _ dd3
    have nl : a ≠ X.env.locals := fun q => nofr (List.mem_filterMap.mpr ⟨X.env, List.mem_cons_self, fr.trans (congrArg some q.symm)⟩)
    have nf : a ∉ X.fs := fun hm => by
      obtain ⟨ev, hev, q⟩ := List.mem_filterMap.mp hm
      exact nofr (List.mem_filterMap.mpr ⟨ev, List.mem_cons_of_mem _ hev, q⟩)
    have new : zI.heap.get? a = none := by
      cases q : zI.heap.get? a with
      | none => rfl
      | some u =>
        have := ground a u q (by rw [st]; exact nofr)
        rw [f3.2.1] at this
        cases this
    have old : ∀ u, X.s_0.heap.get? a = some u → a ∈ X.ex := fun u e => by
      by_cases hx : a ∈ X.ex
      · exact hx
      · obtain ⟨o', e'⟩ := J.base.there a u e hx
        rw [new] at e'
        cases e'
    have np : ∀ p ∈ X.pn ++ pins, p.1 ≠ a := fun p hp q => by
      have := (J.pin p hp).1
      rw [q, new] at this
      cases this
    have S3 := J3.suite e3 dd3 na nl nf
    refine wpAny_handleBy_cons (codeAny_handlers_test ?_) (by intro q; cases q)
    have ty : PySem.W.Looks (model X.prog X.w) h3 (typeOf (.ref a)) cls := fun A' Q' E' z4 k q => wpAny_typeOf_ref (k _ _ e3) (by rw [zc3.1]; exact q)
    have hit := PySem.W.exm_one (M := model X.prog X.w) (J3.kIn) ty match_
    have load : ∀ {Q' : Value → Shared → Prop} {E' : Value → Shared → Prop}, Q' c { z' with heap := h3 } → wpAny (model X.prog X.w) (X.A.mark (some (.ref a))) (eval (.Name x q1) X.env) Q' E' { z' with heap := h3 } := fun {Q' E'} q => by
      obtain ⟨gl, dbg, hm | ⟨hm, hv, hnn⟩⟩ := nm
      · exact ld_glob (X := X.suite a ((a, o3) :: (X.pn ++ pins))) S3 gl hm q dbg
      · exact ld_blt (X := X.suite a ((a, o3) :: (X.pn ++ pins))) S3 gl hm hv q hnn dbg
    refine load (hit.here (codeAny_handlers_suite_as (HandSPX.lands_againZ f3 fun h4 f4 up4 => ?_)))
    have J4 : Inv X pins τ' G' { z' with heap := h4 } := J.landed ground f4.1 ((up.trans up3).trans up4) os ag
    obtain ⟨o4, fv4, e4, zc4, dd4⟩ := f4.there
    refine store_ok (X := X.suite a ((a, o4) :: (X.pn ++ pins))) (v := .ref a) (J4.suite e4 dd4 na nl nf) ndN iy (.inl kl) rfl (fun z5 S5 => ?_) (.inr kl)
    refine wpAny_mono ((Hs a o4 cls d (X.pn ++ pins) zc4 ⟨_, dd4⟩).run [] z5 _ G' _ S5 (yes a na)) (fun fl z6 hsp => ?_) (fun _ _ q => False.elim q)
    have fin : ∀ {τ6 : L2.St} {G6 : Hp} {Q' : Shared → Prop}, Inv X pins τ6 G6 z6 → (∀ z7, Inv X pins (τ6.set i none) G6 z7 → Q' z7) →
        wpAny (model X.prog X.w) X.A (do bindName X.env n .none; unbindBehindTheSuite X.env n q2) (fun _ z7 => Q' z7) X.xe z6 := fun {τ6 G6 Q'} I6 hq => gone_ok I6 ndN iy kl hq
    cases fl with
    | next =>
      obtain ⟨τ6, G6, S6, w6⟩ := hsp
      have p6 := S6.pin (a, o4) (List.mem_append_left _ List.mem_cons_self)
      exact fin (told_of (S6.unsuite oX) p6.1 zc4 dd4 p6.2.1 nl old np) fun z7 J7 => ⟨_, _, J7, w6⟩
    | brk =>
      obtain ⟨τ6, G6, S6, w6⟩ := hsp
      exact fin (S6.unsuite oX) fun z7 J7 => ⟨_, _, J7, w6⟩
    | cont =>
      obtain ⟨τ6, G6, S6, w6⟩ := hsp
      exact fin (S6.unsuite oX) fun z7 J7 => ⟨_, _, J7, w6⟩
    | ret u =>
      obtain ⟨v6, τ6, G6, S6, r6, w6⟩ := hsp
      exact fin (S6.unsuite oX) fun z7 J7 => ⟨_, _, _, J7, r6, w6⟩
  · cases fl with
    | next =>
      obtain ⟨τ1, G1, J1, w1⟩ := hsp
      exact wpAny_execs_nil ⟨τ1, G1, J1.ofTry oX, w1⟩
    | brk =>
      obtain ⟨τ1, G1, J1, w1⟩ := hsp
      exact ⟨τ1, G1, J1.ofTry oX, w1⟩
    | cont =>
      obtain ⟨τ1, G1, J1, w1⟩ := hsp
      exact ⟨τ1, G1, J1.ofTry oX, w1⟩
    | ret u =>
      obtain ⟨v1, τ1, G1, J1, r1, w1⟩ := hsp
      exact ⟨v1, τ1, G1, J1.ofTry oX, r1, w1⟩
end
/-! isinstance of what was kept -/
def rIsX (K : PySem.W.Frag) : List V → Hp → VK → Prop := fun xs G W => ∃ (a D : Addr) (k : V) (kv : Value) (b : Bool), xs = [V.ref a, k] ∧ G a = some (ExV (.ref D) none a) ∧ ExcC K D ∧ (∀ u, RelV k u → u = kv) ∧ PySem.W.kitOne K (.ref D) kv = some b ∧ W (V.bl b) G
theorem inst_at {P : Program} {w : World} {G : Hp} {h : Heap} {a D : Addr} (ok : HOk P w G h) (e : G a = some (ExV (.ref D) none a)) : ∃ o, PySem.W.InstAt h a o D none := by
  obtain ⟨⟨o, fv, g, z, dd⟩, _⟩ := (show ObjOk P w G h a (ExV (.ref D) none a) from ok a _ e)
  obtain ⟨oc, od, dt, sl⟩ := o
  obtain ⟨z1, z2⟩ := z
  dsimp only at z1 z2 dd
  subst z1 z2 dd
  exact ⟨_, g, rfl, rfl, trivial⟩
theorem call_isX {X : Cx} : CallR X (.builtin "isinstance") (rIsX X.K) := by
  rintro pins z τ G xs us W I r ⟨a, D, k, kv, b, rfl, ea, C, hk, e, q⟩
  obtain ⟨u1, u2, rfl, r1, r2⟩ := vals2 r
  obtain rfl : u1 = Value.ref a := r1
  obtain rfl := hk _ r2
  obtain ⟨o, J⟩ := inst_at I.hok ea
  exact PySem.W.kia_one (PySem.W.handS_kitx_exc C.hg C.hk C.hs C.hd C.ha C.hn C.ht C.hm) I.kIn J e (fun q => nomatch q) fun tk => ⟨.bl b, G, I.tok tk, rfl, q⟩
def rIsXT (K : PySem.W.Frag) : List V → Hp → VK → Prop := fun xs G W => ∃ (a D tp : Addr) (cs : List V) (us : List Value) (b : Bool), xs = [V.ref a, V.ref tp] ∧ G a = some (ExV (.ref D) none a) ∧ ExcC K D ∧ G tp = some (.tup cs) ∧ Paired ClsV cs us ∧ PySem.W.kitAny K (.ref D) us = some b ∧ W (V.bl b) G
theorem call_isXT {X : Cx} : CallR X (.builtin "isinstance") (rIsXT X.K) := by
  rintro pins z τ G xs us W I r ⟨a, D, tp, cs, ws, b, rfl, ea, C, et, hk, e, q⟩
  obtain ⟨u1, u2, rfl, r1, r2⟩ := vals2 r
  obtain rfl : u1 = Value.ref a := r1
  obtain rfl : u2 = Value.ref tp := r2
  obtain ⟨o, J⟩ := inst_at I.hok ea
  obtain ⟨_, its, rv, ot, g1, g2, n, g3⟩ := (show ObjOk X.prog X.w G z.heap tp (.tup cs) from I.hok tp _ et)
  obtain rfl := ClsV.all hk rv
  obtain ⟨oc, od, dt, sl⟩ := ot
  dsimp only at g2 g3
  subst g2 g3
  exact PySem.W.kia_tup (PySem.W.handS_kitx_exc C.hg C.hk C.hs C.hd C.ha C.hn C.ht C.hm) I.kIn J g1 e (fun q => nomatch q) fun tk => ⟨.bl b, G, I.tok tk, rfl, q⟩
end Kept
/-! ### entries as data, compared -/
theorem word_ok (e : Ent) : PyData.strOk e.word = true := by
  have h : ∀ x ∈ words7, PyData.strOk x = true := by decide +kernel
  exact h _ e.word_in
theorem entD_cons (e : Ent) : entD e = .tuple (.str e.word :: .str e.name :: .int e.moment :: e.rest.map dV) := rfl
theorem rest_lay {e : Ent} {P G HL : List Str} (hP : ∀ y ∈ P, nameB y = true) (hG : ∀ y ∈ G, nameB y = true) (hH : ∀ y ∈ HL, nameB y = true) (h : e.From P G HL) : PyData.canLayAll0 (e.rest.map dV) = true := by
  have e0 : PyData.strOk "" = true := by decide +kernel
  cases e with
  | come n m g p k r => simp [Ent.rest, dV, PyData.canLayAll0, PyData.canLay0, name_ok (hG _ h.1), name_ok (hP _ h.2.1)]
  | go n m g p k => simp [Ent.rest, dV, PyData.canLayAll0, PyData.canLay0, name_ok (hG _ h.1), name_ok (hP _ h.2.1)]
  | move n m g o t k => simp [Ent.rest, dV, PyData.canLayAll0, PyData.canLay0, name_ok (hG _ h.1), name_ok (hP _ h.2.1), name_ok (hP _ h.2.2.1)]
  | some_ n m g o t =>
    have ot : PyData.strOk t = true := by
      rcases h.2.2 with z | z
      · rw [z]; exact e0
      · exact name_ok (hP _ z.1)
    simp [Ent.rest, dV, PyData.canLayAll0, PyData.canLay0, name_ok (hG _ h.1), name_ok (hP _ h.2.1), ot]
  | swap n m o t => simp [Ent.rest, dV, PyData.canLayAll0, PyData.canLay0, name_ok (hP _ h.1), name_ok (hP _ h.2.1)]
  | count n m g p k hd => simp [Ent.rest, dV, PyData.canLayAll0, PyData.canLay0, name_ok (hG _ h.1), name_ok (hP _ h.2.1), name_ok (hH _ h.2.2.2.2)]
  | look n m g p => simp [Ent.rest, dV, PyData.canLayAll0, PyData.canLay0, name_ok (hG _ h.1), name_ok (hP _ h.2)]
theorem lay_ent {P G : List Str} {es : List Ent} {m : Nat} (gd : Good P G es m) {e : Ent} (he : e ∈ es) : (entD e).canLay0 = true := by
  obtain ⟨n1, _, _, HL, hH, fr⟩ := gd.ents e he
  rw [entD_cons, PyData.canLay0]
  simp only [PyData.canLayAll0, PyData.canLay0, word_ok, name_ok n1, rest_lay gd.nm gd.gn hH fr, Bool.and_self]
theorem dV_depth : ∀ vs : List V, PyData.depthAll (vs.map dV) = 0
  | [] => rfl
  | v :: r => by
    rw [List.map_cons]
    cases v <;> simp [dV, PyData.depthAll, PyData.depth, dV_depth r]
theorem entD_depth (e : Ent) : (entD e).depth = 1 := by
  unfold entD
  rw [PyData.depth, dV_depth]
theorem shaped_ent {P G : List Str} {es : List Ent} {m : Nat} (gd : Good P G es m) {e : Ent} (he : e ∈ es) : SeqAt.shaped (entD e) = true := by
  unfold SeqAt.shaped
  rw [lay_ent gd he, entD_depth]
  decide
theorem lay_ents {es : List Ent} : (∀ e ∈ es, (entD e).canLay0 = true) → PyData.canLayAll0 (es.map entD) = true := by
  induction es with
  | nil => intro _; rfl
  | cons e r ih =>
    intro h
    rw [List.map_cons, PyData.canLayAll0, h e List.mem_cons_self, ih fun x hx => h x (List.mem_cons_of_mem _ hx)]
    rfl
theorem depth_ents (es : List Ent) : PyData.depthAll (es.map entD) ≤ 1 := by
  induction es with
  | nil => exact Nat.zero_le _
  | cons e r ih =>
    rw [List.map_cons, PyData.depthAll, entD_depth]
    omega
/-! ### what is told of a house made later -/
structure ClsA where
  cl : Addr
  cd : Addr
  nd : Addr
  ne : Addr
  nf : Addr
  ng : Addr
  ngd : Addr
  nm : Addr
  nn : Addr
  np : Addr
  nr : Addr
  nt : Addr
  nth : Addr
  nti : Addr
  tm : Addr
  tw : Addr
structure ClsF (K : PySem.W.Frag) (mg : Str → Option Value) (A : ClsA) (CE CH : Addr) : Prop where
  gcl : mg "Clash" = some (.ref A.cl)
  gcd : mg "Closed" = some (.ref A.cd)
  gnd : mg "NoDay" = some (.ref A.nd)
  gne : mg "NoEntry" = some (.ref A.ne)
  gnf : mg "NoFilling" = some (.ref A.nf)
  gng : mg "NoGo" = some (.ref A.ng)
  gngd : mg "NoGood" = some (.ref A.ngd)
  gnm : mg "NoMove" = some (.ref A.nm)
  gnn : mg "NoName" = some (.ref A.nn)
  gnp : mg "NoPlace" = some (.ref A.np)
  gnr : mg "NoRow" = some (.ref A.nr)
  gnt : mg "NoText" = some (.ref A.nt)
  gnth : mg "NoThen" = some (.ref A.nth)
  gnti : mg "NoTie" = some (.ref A.nti)
  gtm : mg "TooMany" = some (.ref A.tm)
  gtw : mg "Twice" = some (.ref A.tw)
  gE : mg "CountError" = some (.ref CE)
  gH : mg "NoHouse" = some (.ref CH)
structure IsF (K : PySem.W.Frag) (A : ClsA) (CE CH : Addr) : Prop where
  ec : ExcC K CH
  v : PySem.W.kitOne K (.ref CH) (.type "ValueError") = some true
  t1 : PySem.W.kitAny K (.ref CH) [.ref A.cl, .ref A.cd, .ref A.nd, .ref A.ne, .ref A.nf, .ref A.ng, .ref A.ngd, .ref A.nm, .ref A.nn, .ref A.np, .ref A.nr] = some false
  t2 : PySem.W.kitAny K (.ref CH) [.ref A.nt, .ref A.nth, .ref A.nti, .ref A.tm, .ref A.tw] = some false
  h : PySem.W.kitOne K (.ref CH) (.ref CH) = some true
  cm : PySem.W.exmOne K (.ref CH) (.ref CE) = some true
/-- one house, or none -/
def One (P G : List Str) (es : List Ent) (d : Int) (H : Hp) (xs : List V) : Prop := ((∀ e ∈ es, e.moment + d ≤ 9999) ∧ ∃ h', xs = [V.ref h'] ∧ HouseAt H h' P G (es.map (Ent.later d))) ∨ ((∃ e ∈ es, 9999 < e.moment + d) ∧ xs = [])
theorem One.on {P G : List Str} {es : List Ent} {d : Int} {H H' : Hp} {xs : List V} (o : One P G es d H xs) (k : TK H H') : One P G es d H' xs := by
  rcases o with ⟨a, h', b, c⟩ | ⟨a, b⟩
  · exact .inl ⟨a, h', b, c.on k⟩
  · exact .inr ⟨a, b⟩
def spLTold (Ts : List Addr) : Sp := fun vs H Q _ => ∃ (h : Addr) (P G : List Str) (es : List Ent) (m : Nat) (d : Int), vs = [.ref h, .int d] ∧ HouseAt H h P G es ∧ Good P G es m ∧ m ≤ 30 ∧ 0 ≤ d ∧ TabsG Ts H ∧
  ∀ (l : Addr) (xs : List V) (H' : Hp), TB1 Ts H H' → H' l = some (.lst xs) → One P G es d H' xs → Q (.ref l) H'
section
variable {P : Program} {w : World} {K : PySem.W.Frag} {mg : Str → Option Value} {base : Heap}
abbrev sLToldN : List Str := ["_law_house_here", "_law_many_here", "_law_caught", "_law_found", "e"]
theorem sc_sLTold : FnScope sLToldN ["_law_house_here", "_law_many_here"] (defScope sLTold) := ⟨rfl, rfl, rfl, by decide +kernel, rfl, by decide +kernel, by decide +kernel⟩
set_option maxHeartbeats 4000000 in
theorem ok_ltold {f fM CE CH : Addr} {fd dM : FuncData} {Ad : ClsA} {Ts : List Addr} (F : Fun K "_law_told" "_law_told" sLTold f fd) (ML : DefX P w K mg base "made_later" 5 fM dM ["house", "many"] (spLater CH Ts)) (CF : ClsF K mg Ad CE CH) (isD : IsF K Ad CE CH)
    (mis : mg "isinstance" = none) (mv : mg "ValueError" = none) (mi : mg "int" = none) : FnOk P w K mg base CX0 6 f fd ["_law_house_here", "_law_many_here"] (spLTold Ts) := by
  refine F.ok sc_sLTold (fun vs H Q E h => ?_) (fun cdv A outer s H vs Q E hr h => ?_)
  · obtain ⟨h, Ps, G, es, m, d, rfl, _⟩ := h
    rfl
  · obtain ⟨h, Ps, G, es, m, d, rfl, ho, gd, m30, d0, tg, q⟩ := h
    have nd := sc_sLTold.nd
    refine ⟨_, pss_cons (ps_set (i := 2) nd rfl (Or.inl rfl) pe_non)
      (pss_cons (ps_set (i := 3) nd rfl (Or.inl rfl) pe_non)
      (pss_cons (Kept.ps_try_keep (i := 4) rfl rfl nd rfl rfl ⟨rfl, by decide, .inl CF.gE⟩ (fun W pn xe tk _ => pss_one (ps_set (i := 3) nd rfl (Or.inl rfl) (pe_callS ML.ok hr (by rfl) ML.g ML.kp ML.b (fun σ => passAt tk σ) (pa_cons (pv 0) (pa_cons (pv 1) pa_nil))))) (fun a ob cls d pn hz hf => pss_one (ps_set (i := 2) nd rfl (Or.inl rfl) (pv 4))))
      (pss_cons (ps_if (pt_cmpR op_isN (pv 2) pe_non (by rfl)) (pss_one (ps_ret (pe_lst (pa_cons (pv 3) pa_nil)))) pss_nil)
      (pss_cons (ps_if (pt_val (pe_callB Kept.call_isXT (by rfl) mis (by decide +kernel) (pa_cons (pv 2) (pa_cons (pe_tup (pa_cons (pe_glob (v := .ref Ad.cl) (u := .ref Ad.cl) (by rfl) CF.gcl rfl) (pa_cons (pe_glob (v := .ref Ad.cd) (u := .ref Ad.cd) (by rfl) CF.gcd rfl) (pa_cons (pe_glob (v := .ref Ad.nd) (u := .ref Ad.nd) (by rfl) CF.gnd rfl) (pa_cons (pe_glob (v := .ref Ad.ne) (u := .ref Ad.ne) (by rfl) CF.gne rfl) (pa_cons (pe_glob (v := .ref Ad.nf) (u := .ref Ad.nf) (by rfl) CF.gnf rfl) (pa_cons (pe_glob (v := .ref Ad.ng) (u := .ref Ad.ng) (by rfl) CF.gng rfl) (pa_cons (pe_glob (v := .ref Ad.ngd) (u := .ref Ad.ngd) (by rfl) CF.gngd rfl) (pa_cons (pe_glob (v := .ref Ad.nm) (u := .ref Ad.nm) (by rfl) CF.gnm rfl) (pa_cons (pe_glob (v := .ref Ad.nn) (u := .ref Ad.nn) (by rfl) CF.gnn rfl) (pa_cons (pe_glob (v := .ref Ad.np) (u := .ref Ad.np) (by rfl) CF.gnp rfl) (pa_cons (pe_glob (v := .ref Ad.nr) (u := .ref Ad.nr) (by rfl) CF.gnr rfl) pa_nil)))))))))))) pa_nil)))) (pss_one (ps_ret (pe_lst (pa_cons pe_str pa_nil)))) pss_nil)
      (pss_cons (ps_if (PW.pt (pw_or (pt_val (pe_callB Kept.call_isXT (by rfl) mis (by decide +kernel) (pa_cons (pv 2) (pa_cons (pe_tup (pa_cons (pe_glob (v := .ref Ad.nt) (u := .ref Ad.nt) (by rfl) CF.gnt rfl) (pa_cons (pe_glob (v := .ref Ad.nth) (u := .ref Ad.nth) (by rfl) CF.gnth rfl) (pa_cons (pe_glob (v := .ref Ad.nti) (u := .ref Ad.nti) (by rfl) CF.gnti rfl) (pa_cons (pe_glob (v := .ref Ad.tm) (u := .ref Ad.tm) (by rfl) CF.gtm rfl) (pa_cons (pe_glob (v := .ref Ad.tw) (u := .ref Ad.tw) (by rfl) CF.gtw rfl) pa_nil)))))) pa_nil)))) (pw_or1 (pt_not (pt_val (pe_callB Kept.call_isX (by rfl) mis (by decide +kernel) (pa_cons (pv 2) (pa_cons (pe_bltn (v := .ty "ValueError") (u := .type "ValueError") (by rfl) mv (by decide +kernel) rfl) pa_nil)))))))) (pss_one (ps_ret (pe_lst (pa_cons pe_str pa_nil)))) pss_nil)
      (pss_one (ps_ret (pe_slice sl_list (pe_lst (pa_cons pe_str pa_nil)) (po_some (pe_callTy call_int1 (by rfl) mi (by decide +kernel) (pa_cons (pe_callB Kept.call_isX (by rfl) mis (by decide +kernel) (pa_cons (pv 2) (pa_cons (pe_glob (v := .ref CH) (u := .ref CH) (by rfl) CF.gH rfl) pa_nil))) pa_nil))) po_none)))))))), ?_⟩
    refine ⟨_, rfl, _, rfl, h, Ps, G, es, m, d, rfl, ho, gd, m30, d0, tg, ?_⟩
    by_cases all : ∀ e ∈ es, e.moment + d ≤ 9999
    · refine Or.inl ⟨all, fun h' H1 t1 ho1 => ?_⟩
      refine ⟨_, rfl, rfl, _, rfl, iteT ⟨_, rfl, (by show 1 ≤ sizeLine; decide), fun L nL => ?_⟩⟩
      have s2 := @same_new _ _ (.lst [V.ref h']) nL
      exact q L [.ref h'] _ (t1.tr (.same t1.1 s2)) upd_same (.inl ⟨all, h', rfl, ho1.on (TK.of s2)⟩)
    · have bad : ∃ e ∈ es, 9999 < e.moment + d := by
        apply Classical.byContradiction
        intro no
        exact all fun e he => by
          apply Classical.byContradiction
          intro z
          exact no ⟨e, he, by omega⟩
      refine Or.inr ⟨bad, fun H1 t1 => ?_⟩
      refine ⟨isD.cm, fun a na => ?_⟩
      have s1 := @same_new _ _ (Kept.ExV (.ref CH) none a) na
      have ha : (upd H1 a (Kept.ExV (.ref CH) none a)) a = some (Kept.ExV (.ref CH) none a) := upd_same
      refine ⟨_, rfl, ?_⟩
      refine ⟨_, rfl, rfl, _, rfl, iteF ?_⟩
      have own : ∀ (C : Addr), ClsV (.ref C) (.ref C) := .own
      refine ⟨_, rfl, (by show 11 ≤ sizeLine; decide), fun t1' n1 => ?_⟩
      have s2 := @same_new _ _ (.tup [V.ref Ad.cl, .ref Ad.cd, .ref Ad.nd, .ref Ad.ne, .ref Ad.nf, .ref Ad.ng, .ref Ad.ngd, .ref Ad.nm, .ref Ad.nn, .ref Ad.np, .ref Ad.nr]) n1
      have ha2 := s2 _ _ ha
      refine ⟨a, CH, t1', _, _, false, rfl, ha2, isD.ec, upd_same, .cons (own _) (.cons (own _) (.cons (own _) (.cons (own _) (.cons (own _) (.cons (own _) (.cons (own _) (.cons (own _) (.cons (own _) (.cons (own _) (.cons (own _) .nil)))))))))), isD.t1, false, rfl, iteF ?_⟩
      refine ⟨_, rfl, (by show 5 ≤ sizeLine; decide), fun t2 n2 => ?_⟩
      have s3 := @same_new _ _ (.tup [V.ref Ad.nt, .ref Ad.nth, .ref Ad.nti, .ref Ad.tm, .ref Ad.tw]) n2
      have ha3 := s3 _ _ ha2
      refine ⟨a, CH, t2, _, _, false, rfl, ha3, isD.ec, upd_same, .cons (own _) (.cons (own _) (.cons (own _) (.cons (own _) (.cons (own _) .nil)))), isD.t2, false, rfl, iteF ?_⟩
      refine ⟨_, rfl, a, CH, .ty "ValueError", .type "ValueError", true, rfl, ha3, isD.ec, fun u r => r, isD.v, true, rfl, iteF ?_⟩
      refine ⟨(by show 1 ≤ sizeLine; decide), fun L nL => ?_⟩
      have s4 := @same_new _ _ (.lst [V.str "odd"]) nL
      refine ⟨_, rfl, a, CH, .ref CH, .ref CH, true, rfl, s4 _ _ ha3, isD.ec, fun u r => r, isD.h, .inr ⟨true, rfl, ?_⟩⟩
      refine ⟨1, rfl, L, _, rfl, SqL.of upd_same, fun M nM => ?_⟩
      have s5 := @same_new _ _ (.lst (cutV [V.str "odd"] (some 1) none)) nM
      exact q M [] _ (t1.tr (.same t1.1 ((((s1.trans s2).trans s3).trans s4).trans s5))) upd_same (.inr ⟨bad, rfl⟩)
end
/-! ### the law's house made later -/
def spLLater : Sp := fun vs H Q _ => ∃ (h : Addr) (P G : List Str) (es : List Ent) (m : Nat) (d : Int), vs = [.ref h, .int d] ∧ HouseAt H h P G es ∧ Good P G es m ∧ m ≤ 30 ∧
  ∀ (l : Addr) (xs : List V) (H' : Hp), Same H H' → H' l = some (.lst xs) → One P G es d H' xs → Q (.ref l) H'
def rCatP : R2 := fun x y G W => ∃ (a b : Addr) (xs ys : List V), x = .ref a ∧ y = .ref b ∧ G a = some (.tup xs) ∧ G b = some (.tup ys) ∧ xs ≠ [] ∧ xs.length + ys.length ≤ sizeLine ∧ ∀ (t : Addr) (G' : Hp), Same G G' → G' t = some (.tup (xs ++ ys)) → W (.ref t) G'
theorem op_catP {X : Cx} : OpR X (binaryOp .Add) rCatP := op_catS
def lateB (d : Int) (e : Ent) : Bool := decide (e.moment + d > 9999)
theorem late_nil {d : Int} {es : List Ent} (h : es.filter (lateB d) = []) : ∀ e ∈ es, e.moment + d ≤ 9999 := fun e he => by
  have := List.filter_eq_nil_iff.mp h e he
  unfold lateB at this
  have := of_decide_eq_false (Bool.eq_false_iff.mpr this)
  omega
theorem late_some {d : Int} {es : List Ent} (h : es.filter (lateB d) ≠ []) : ∃ e ∈ es, 9999 < e.moment + d := by
  obtain ⟨e, he⟩ := List.exists_mem_of_ne_nil _ h
  obtain ⟨a, b⟩ := List.mem_filter.mp he
  exact ⟨e, a, of_decide_eq_true b⟩
theorem eqv_nil (ds : List PyData) : PyData.eqv (.list ds) (.list []) = decide (ds = []) := by
  cases ds with
  | nil => rfl
  | cons a r =>
    rw [decide_eq_false (List.cons_ne_nil _ _), PyData.eqv, PyData.eqvAll]
section
variable {P : Program} {w : World} {K : PySem.W.Frag} {mg : Str → Option Value} {base : Heap}
abbrev sLLaterN : List Str := ["_law_house_here", "_law_many_here", "_law_entry_here", "_law_entries"]
theorem sc_sLLater : FnScope sLLaterN ["_law_house_here", "_law_many_here"] (defScope sLLater) := ⟨rfl, rfl, rfl, by decide +kernel, rfl, by decide +kernel, by decide +kernel⟩
set_option maxHeartbeats 4000000 in
theorem ok_llater {f : Addr} {fd : FuncData} (F : Fun K "_law_later" "_law_later" sLLater f fd) (mt : mg "tuple" = none) : FnOk P w K mg base CX0 1 f fd ["_law_house_here", "_law_many_here"] spLLater := by
  refine F.ok sc_sLLater (fun vs H Q E h => ?_) (fun cdv A outer s H vs Q E hr h => ?_)
  · obtain ⟨h, Ps, G, es, m, d, rfl, _⟩ := h
    rfl
  · obtain ⟨h, Ps, G, es, m, d, rfl, ho, gd, m30, q⟩ := h
    have nd := sc_sLLater.nd
    refine ⟨_, pss_cons (ps_if (pt_cmpR (op_neD hr.units) (pe_lc (own := [("_law_entry_here", 2)]) (g := gName 2) (tt := tTest (tOp (rI0 fun i j => .bl (decide (i > j))) (tOp (rI0 fun i j => .int (i + j)) (tOp (rIxT K) (tVar 2) (tC (V.int 2))) (tVar 1)) (tC (V.int 9999)))) (te := tVar 2) rfl nd (pi_tup (pe_ix ix_tup (pv 0) pe_int (fun _ _ => rfl))) (blkOk_by (N := sLLaterN) (sc := defScope sLLater) (by decide +kernel)) (fun _ _ _ _ _ => (pg_name (i := 2) nd rfl (Or.inl rfl))) (fun _ _ _ _ _ => (pts_one (pt_cmpR op_gt (pe_op op_add (pe_ix ix_tup (pv 2) pe_int (fun _ _ => rfl)) (pv 1)) pe_int (nomark _)))) (fun _ _ _ _ _ => (pv 2))) (pe_lst pa_nil) (nomark _)) (pss_one (ps_ret (pe_lst pa_nil))) pss_nil)
      (pss_cons (ps_setLc (i := 3) (own := [("_law_entry_here", 2)]) (g := gName 2) (tt := tYes) (te := tOp rCatP (tOp rCatP (L2.tSl rSlS (tVar 2) tNoPart (tPart (tC (V.int 2)))) (tTup (tCons (tOp (rI0 fun i j => .int (i + j)) (tOp (rIxT K) (tVar 2) (tC (V.int 2))) (tVar 1)) tNil))) (L2.tSl rSlS (tVar 2) (tPart (tC (V.int 3))) tNoPart)) rfl nd rfl rfl (sw_true rfl rfl rfl (by decide +kernel)) (pi_tup (pe_ix ix_tup (pv 0) pe_int (fun _ _ => rfl))) (blkOk_by (N := sLLaterN) (sc := defScope sLLater) (by decide +kernel)) (fun _ _ _ _ _ => (pg_name (i := 2) nd rfl (Or.inl rfl))) (fun _ _ _ _ _ => pts_nil) (fun _ _ _ _ _ => (pe_op op_catP (pe_op op_catP (pe_slice sl_S (pv 2) po_none (po_some pe_int)) (pe_tup (pa_cons (pe_op op_add (pe_ix ix_tup (pv 2) pe_int (fun _ _ => rfl)) (pv 1)) pa_nil))) (pe_slice sl_S (pv 2) (po_some pe_int) po_none))))
      (pss_one (ps_ret (pe_lst (pa_cons (pe_tup (pa_cons (pe_ix ix_tup (pv 0) pe_int (fun _ _ => rfl)) (pa_cons (pe_ix ix_tup (pv 0) pe_int (fun _ _ => rfl)) (pa_cons (pe_callTy call_tuple_of (by rfl) mt (by decide +kernel) (pa_cons (pv 3) pa_nil)) pa_nil)))) pa_nil))))), ?_⟩
    obtain ⟨hp, hg, he, tps, g1, g2, g3, g4, g5⟩ := ho.ex
    have l5 := g5.len
    have lm := gd.many
    refine ⟨_, rfl, h, _, 2, _, rfl, rfl, SqT.of g1, atI_nat (j := 2) rfl, he, rfl, ⟨_, SqT.of g4⟩, fun D nD => ?_⟩
    refine lc_tup (K := K) (a := he) (xs := tps.map V.ref) (fun i H' => Same H H' ∧ ∃ us : List Addr, H' D = some (.lst (us.map V.ref)) ∧ us.length ≤ i ∧ EntsAt H' us ((es.take i).filter (lateB d)))
      ⟨same_new nD, [], upd_same, Nat.le_refl _, .nil⟩ (fun i H' _ z => SqT.of (z.1 _ _ g4)) ?_ ?_
    · rintro i x H1 hx ⟨s1, us, hD, lu, en⟩
      have li : i < 30 := by
        have := (List.getElem?_eq_some_iff.mp hx).1
        rw [List.length_map] at this
        omega
      rw [List.getElem?_map] at hx
      obtain ⟨tp, htp, rfl⟩ := Option.map_eq_some_iff.mp hx
      obtain ⟨e, hes, hte0⟩ := g5.get htp
      have hte := s1 _ _ hte0
      rw [take_snoc hes, List.filter_append]
      refine ⟨rfl, _, rfl, tp, _, 2, _, rfl, rfl, SqT.of hte, at2 e, _, rfl, _, _, rfl, rfl, _, _, rfl, rfl, _, rfl, ite2 (fun z => ?_) (fun z => ?_)⟩
      · have k3 : TK H1 (upd H1 D (.lst (us.map V.ref ++ [V.ref tp]))) := TK.upd fun xs e => by rw [hD] at e; cases e
        refine ⟨_, rfl, _, hD, (by rw [List.length_map]; exact small1000 (by omega)), fun b o eb => (upd_ne (ne_of_none eb nD)).trans (s1 b o eb), us ++ [tp], ?_, (by rw [List.length_append]; exact Nat.succ_le_succ lu), ?_⟩
        · rw [upd_same, List.map_append]
          rfl
        · rw [List.filter_cons_of_pos (show lateB d e = true from z), List.filter_nil]
          exact EntsAt.snoc (en.on k3) (k3 _ _ hte)
      · refine ⟨s1, us, hD, Nat.le_succ_of_le lu, ?_⟩
        rw [List.filter_cons_of_neg (show ¬ lateB d e = true from z), List.filter_nil, List.append_nil]
        exact en
    rintro H1 ⟨s1, us, hD, lu, en⟩
    rw [List.length_map, l5, List.take_length] at en
    refine ⟨Nat.zero_le _, fun Z nZ => ?_⟩
    have s2 := @same_new _ _ (.lst []) nZ
    have hZ : (upd H1 Z (.lst [])) Z = some (.lst []) := upd_same
    generalize upd H1 Z (.lst []) = H2 at s2 hZ
    have sh : SeqAt.shaped (.list ((es.filter (lateB d)).map entD)) = true := by
      unfold SeqAt.shaped
      rw [PyData.canLay0, PyData.depth, lay_ents fun e he => lay_ent gd (List.mem_filter.mp he).1]
      have := depth_ents (es.filter (lateB d))
      exact decide_eq_true (by omega)
    refine ⟨_, _, .lst (SqL.of (s2 _ _ hD)) (dp_ents (en.on (TK.of s2))), .lst (SqL.of hZ) .nil, sh, rfl, ?_⟩
    rw [eqv_nil]
    have s12 := s1.trans s2
    by_cases none_ : es.filter (lateB d) = []
    · have e1 : (es.filter (lateB d)).map entD = [] := by rw [none_]; rfl
      refine ⟨false, ?_, iteF ?_⟩
      · rw [decide_eq_true e1]
        rfl
      have all := late_nil none_
      refine ⟨_, rfl, h, _, 2, _, rfl, rfl, SqT.of (s12 _ _ g1), atI_nat (j := 2) rfl, he, rfl, ⟨_, SqT.of (s12 _ _ g4)⟩, fun M nM => ?_⟩
      refine lc_tup (K := K) (a := he) (xs := tps.map V.ref) (fun i H' => Same H2 H' ∧ ∃ ws : List Addr, H' M = some (.lst (ws.map V.ref)) ∧ ws.length = i ∧ EntsAt H' ws ((es.take i).map (Ent.later d)))
        ⟨same_new nM, [], upd_same, rfl, .nil⟩ (fun i H' _ z => SqT.of (z.1 _ _ (s12 _ _ g4))) ?_ ?_
      · rintro i x H3 hx ⟨s3, ws, hM, lw, ew⟩
        have li : i < 30 := by
          have := (List.getElem?_eq_some_iff.mp hx).1
          rw [List.length_map] at this
          omega
        rw [List.getElem?_map] at hx
        obtain ⟨tp, htp, rfl⟩ := Option.map_eq_some_iff.mp hx
        obtain ⟨e, hes, hte0⟩ := g5.get htp
        have hte := s3 _ _ (s12 _ _ hte0)
        have l2 : (e.vals.take 2).length = 2 := by
          rw [List.length_take]
          have := (vals_len_e e).1
          omega
        refine ⟨rfl, yesT ⟨_, rfl, 2, rfl, tp, _, rfl, hte, fun b1 H4 s4 h4 => ?_⟩⟩
        have c1 : cutV e.vals none (some (2 : Int)) = e.vals.take 2 := cut_head (k := 2)
        rw [c1] at h4
        refine ⟨_, rfl, tp, _, 2, _, rfl, rfl, SqT.of (s4 _ _ hte), at2 e, _, rfl, _, _, rfl, rfl, (by show 1 ≤ sizeLine; decide), fun b2 n2 => ?_⟩
        have s5 := @same_new _ _ (.tup [V.int (e.moment + d)]) n2
        refine ⟨b1, b2, _, _, rfl, rfl, s5 _ _ h4, upd_same, (by intro z; rw [z] at l2; cases l2), (by rw [l2]; show 2 + 1 ≤ sizeLine; decide), fun b3 H6 s6 h6 => ?_⟩
        have s46 := (s4.trans s5).trans s6
        refine ⟨_, rfl, 3, rfl, tp, _, rfl, s46 _ _ hte, fun b4 H7 s7 h7 => ?_⟩
        have c2 : cutV e.vals (some (3 : Int)) none = e.vals.drop 3 := cut_tail (k := 3)
        rw [c2] at h7
        refine ⟨b3, b4, _, _, rfl, rfl, s7 _ _ h6, h7, (by intro z; have := congrArg List.length z; rw [List.length_append, l2] at this; cases this), ?_, fun b5 H8 s8 h8 => ?_⟩
        · rw [List.length_append, l2, List.length_drop]
          have := (vals_len_e e).2
          have bg : 100 ≤ sizeLine := by decide
          show 2 + 1 + _ ≤ _
          omega
        rw [later_vals] at h8
        have s48 := (s46.trans s7).trans s8
        have hM8 := s48 _ _ hM
        have k3 : TK H8 (upd H8 M (.lst (ws.map V.ref ++ [V.ref b5]))) := TK.upd fun xs e => by rw [hM8] at e; cases e
        refine ⟨_, hM8, (by rw [List.length_map]; exact small1000 (by omega)), fun b o eb => (upd_ne (ne_of_none eb nM)).trans (s48 _ _ (s3 b o eb)), ws ++ [b5], ?_, (by rw [List.length_append, lw]; rfl), ?_⟩
        · rw [upd_same, List.map_append]
          rfl
        · rw [take_snoc hes, List.map_append]
          exact EntsAt.snoc ((ew.on (TK.of s48)).on k3) (k3 _ _ h8)
      · rintro H3 ⟨s3, ws, hM, lw, ew⟩
        rw [List.length_map, l5, List.take_length] at ew
        have s13 := s12.trans s3
        refine ⟨_, rfl, h, _, 0, _, rfl, rfl, SqT.of (s13 _ _ g1), atI_nat (j := 0) rfl, _, rfl, h, _, 1, _, rfl, rfl, SqT.of (s13 _ _ g1), atI_nat (j := 1) rfl, _, rfl, M, _, rfl, .inl ⟨SqL.of hM, fun et net => ⟨(by show 3 ≤ sizeLine; decide), fun h' nh' => ⟨(by show 1 ≤ sizeLine; decide), fun L nL => ?_⟩⟩⟩⟩
        have s4 := @same_new _ _ (.tup (ws.map V.ref)) net
        have s5 := @same_new _ _ (.tup [V.ref hp, .ref hg, .ref et]) nh'
        have s6 := @same_new _ _ (.lst [V.ref h']) nL
        have s56 := s5.trans s6
        have s46 := s4.trans s56
        exact q L [.ref h'] _ (s13.trans s46) upd_same (.inl ⟨all, h', rfl, ⟨hp, hg, et, ws, s6 _ _ upd_same, s46 _ _ (s13 _ _ g2), s46 _ _ (s13 _ _ g3), s56 _ _ upd_same, ew.on (TK.of s46)⟩⟩)
    · have e1 : (es.filter (lateB d)).map entD ≠ [] := fun z => none_ (List.map_eq_nil_iff.mp z)
      refine ⟨true, ?_, iteT ⟨Nat.zero_le _, fun L nL => ?_⟩⟩
      · rw [decide_eq_false e1]
        rfl
      have s3 := @same_new _ _ (.lst []) nL
      exact q L [] _ (s12.trans s3) upd_same (.inr ⟨late_some none_, rfl⟩)
end
/-! ### the law -/
theorem ne_same {x : V} : V.bl (!decide (x = x)) = .bl false := by
  rw [decide_eq_true rfl]
  rfl
theorem tabs_tail {H : Hp} {Ts : List Addr} {Pt : Addr} (t : TabsG (Pt :: Ts) H) : TabsG Ts H := fun T hT => t T (List.mem_cons_of_mem _ hT)
theorem later_later (a b : Int) (e : Ent) : (e.later a).later b = e.later (a + b) := by cases e <;> simp [Ent.later, Int.add_assoc]
def oneD (P G : List Str) (es : List Ent) (d : Int) : PyData := if (∀ e ∈ es, e.moment + d ≤ 9999) then .list [houseD P G (es.map (Ent.later d))] else .list []
theorem One.dp {K : PySem.W.Frag} {P G : List Str} {es : List Ent} {d : Int} {H : Hp} {l : Addr} {xs : List V} (o : One P G es d H xs) (hl : H l = some (.lst xs)) : Dp K H (.ref l) (oneD P G es d) := by
  unfold oneD
  rcases o with ⟨a, h', rfl, c⟩ | ⟨⟨e, he, z⟩, rfl⟩
  · rw [if_pos a]
    exact .lst (SqL.of hl) (.cons c.dp .nil)
  · rw [if_neg fun q => by have := q e he; omega]
    exact .lst (SqL.of hl) .nil
theorem one_short {P G : List Str} {es : List Ent} {m : Nat} (gd : Good P G es m) (m30 : m ≤ 30) {d : Int} (d0 : 0 ≤ d) : Short (oneD P G es d) 30000 4 := by
  unfold oneD
  split
  · rename_i h
    refine short_lst (n := 10000) (k := 3) (fun x hx => ?_) (by show 1 * 10001 ≤ 30000; decide)
    rw [List.mem_singleton.mp hx]
    exact (gd.later d0 h).short (by omega)
  · exact short_lst (n := 10000) (k := 3) (fun x hx => nomatch hx) (Nat.zero_le _)
def spLaw (K : PySem.W.Frag) (Ts : List Addr) (Pt : Addr) : Sp := fun vs H Q _ => ∃ (a : Addr) (ns : List Int), vs = [.ref a] ∧ SqL K H a (ns.map V.int) ∧ TabsG Ts H ∧ LamX.TabS H Pt qTies ∧ ∀ H', Q (.bl true) H'
section
variable {P : Program} {w : World} {K : PySem.W.Frag} {mg : Str → Option Value} {base : Heap}
abbrev sLawN : List Str := ["_law_script", "_law_pen_here", "_law_many_here", "_law_house_here", "_law_kept", "_law_room", "_law_entry_here", "_law_part", "_law_number", "_law_due", "_law_one", "_law_good", "_law_first"]
theorem sc_sLaw : FnScope sLawN ["_law_script"] (defScope sLaw) := ⟨rfl, rfl, rfl, by decide +kernel, rfl, by decide +kernel, by decide +kernel⟩
set_option maxHeartbeats 8000000 in
theorem ok_law {f : Addr} {fd : FuncData} (F : Fun K "law" "law" sLaw f fd) {Ts : List Addr} {Pt : Addr} (nPt : Pt ∉ Ts)
    {fP fT fO fS fI fQ fR fM CH : Addr} {dP dT dO dSt dI dQ dR dM : FuncData}
    (GP : DefT P w K mg base "_law_pen" 1 fP dP ["_law_script"] (spPen K)) (T : TakeT P w K mg base fT dT)
    (HS : DefT P w K mg base "_law_house" 5 fO dO ["_law_pen_here", "_law_many_here"] spHouse)
    (TI : DefT P w K mg base "ties" 6 fS dSt ["house", "good"] (spTies Ts Pt))
    (PI : DefT P w K mg base "pieces" 5 fI dI ["house", "good"] (spPieces Ts))
    (LL : DefT P w K mg base "_law_later" 1 fQ dQ ["_law_house_here", "_law_many_here"] spLLater) (LT : DefT P w K mg base "_law_told" 6 fR dR ["_law_house_here", "_law_many_here"] (spLTold Ts))
    (ML : DefX P w K mg base "made_later" 5 fM dM ["house", "many"] (spLater CH Ts))
    (mp : mg "repr" = none) (mx : mg "max" = none) : FnG P w K mg base 7 f fd ["_law_script"] (spLaw K Ts Pt) := by
  refine Fun.okG F sc_sLaw (fun vs H Q E h => ?_) (fun cdv A outer s H vs Q E hG hr h => ?_)
  · obtain ⟨a, ns, rfl, _⟩ := h
    rfl
  · obtain ⟨a, ns, rfl, hS, tg, tl, q⟩ := h
    have nd := sc_sLaw.nd
    have hr1 : Room 1 _ := hr.mono (by decide)
    have hr5 : Room 5 _ := hr.mono (by decide)
    refine ⟨_, pss_cons (ps_set (i := 1) nd rfl (Or.inl rfl) (pe_call GP.ok hr1 (by rfl) GP.g GP.kp GP.b .nil pass0 (pa_cons (pv 0) pa_nil)))
      (pss_cons (ps_set (i := 2) nd rfl (Or.inl rfl) (pe_ix ix_list (pe_lst (pa_cons pe_int (pa_cons pe_int (pa_cons (pe_call T.ok hr1 (by rfl) T.g T.kp T.b .nil pass0 (pa_cons (pv 1) (pa_cons pe_int pa_nil))) (pa_cons (pe_op op_add pe_int (pe_call T.ok hr1 (by rfl) T.g T.kp T.b .nil pass0 (pa_cons (pv 1) (pa_cons pe_int pa_nil)))) pa_nil))))) (pe_call T.ok hr1 (by rfl) T.g T.kp T.b .nil pass0 (pa_cons (pv 1) (pa_cons pe_int pa_nil))) (fun _ _ => rfl)))
      (pss_cons (ps_set (i := 3) nd rfl (Or.inl rfl) (pe_call HS.ok hr5 (by rfl) HS.g HS.kp HS.b .nil pass0 (pa_cons (pv 1) (pa_cons (pv 2) pa_nil))))
      (pss_cons (ps_set (i := 4) nd rfl (Or.inl rfl) (pe_callB (cr_repr hG hr.units) (by rfl) mp (by decide +kernel) (pa_cons (pv 3) pa_nil)))
      (pss_cons (ps_set (i := 5) nd rfl (Or.inl rfl) (pe_op op_sub pe_int (pe_callB (cr_max rfl) (by rfl) mx (by decide +kernel) (pa_cons (pe_op op_cat (pe_lst (pa_cons pe_int pa_nil)) (pe_lc (own := [("_law_entry_here", 6)]) (g := gName 6) (tt := tYes) (te := tOp (rIxT K) (tVar 6) (tC (V.int 2))) rfl nd (pi_tup (pe_ix ix_tup (pv 3) pe_int (fun _ _ => rfl))) (blkOk_by (N := sLawN) (sc := defScope sLaw) (by decide +kernel)) (fun _ _ _ _ _ => (pg_name (i := 6) nd rfl (Or.inl rfl))) (fun _ _ _ _ _ => pts_nil) (fun _ _ _ _ _ => (pe_ix ix_tup (pv 6) pe_int (fun _ _ => rfl))))) pa_nil))))
      (pss_cons (ps_set (i := 7) nd rfl (Or.inl rfl) (pe_call T.ok hr1 (by rfl) T.g T.kp T.b .nil pass0 (pa_cons (pv 1) (pa_cons (pe_op op_add (pv 5) pe_int) pa_nil))))
      (pss_cons (ps_for PassesOwn.never rfl (pi_list (pe_lst (pa_cons pe_int (pa_cons (pv 7) (pa_cons (pv 5) (pa_cons (pe_op op_add (pv 5) pe_int) (pa_cons (pe_call T.ok hr1 (by rfl) T.g T.kp T.b .nil pass0 (pa_cons (pv 1) (pa_cons pe_int pa_nil))) (pa_cons (pe_op op_sub (pe_op op_pow pe_int pe_int) (pv 7)) pa_nil)))))))) (pg_name (i := 8) nd rfl (Or.inl rfl))
        (pss_cons (ps_set (i := 9) nd rfl (Or.inl rfl) (pe_call LL.ok hr1 (by rfl) LL.g LL.kp LL.b .nil pass0 (pa_cons (pv 3) (pa_cons (pv 8) pa_nil))))
        (pss_cons (ps_if (pt_cmpR op_ne (pe_callB (cr_repr hG hr.units) (by rfl) mp (by decide +kernel) (pa_cons (pe_call LT.ok hr (by rfl) LT.g LT.kp LT.b .nil pass0 (pa_cons (pv 3) (pa_cons (pv 8) pa_nil))) pa_nil)) (pe_callB (cr_repr hG hr.units) (by rfl) mp (by decide +kernel) (pa_cons (pv 9) pa_nil)) (nomark _)) (pss_one (ps_ret pe_bl)) pss_nil)
        (pss_one (ps_for PassesOwn.never rfl (pi_list (pv 9)) (pg_name (i := 10) nd rfl (Or.inl rfl))
          (pss_one (ps_for PassesOwn.never rfl (pi_tup (pe_ix ix_tup (pv 3) pe_int (fun _ _ => rfl))) (pg_name (i := 11) nd rfl (Or.inl rfl))
            (pss_cons (ps_if (pt_cmpR op_ne (pe_callB (cr_repr hG hr.units) (by rfl) mp (by decide +kernel) (pa_cons (pe_call PI.ok hr5 (by rfl) PI.g PI.kp PI.b .nil pass0 (pa_cons (pv 10) (pa_cons (pv 11) pa_nil))) pa_nil)) (pe_callB (cr_repr hG hr.units) (by rfl) mp (by decide +kernel) (pa_cons (pe_call PI.ok hr5 (by rfl) PI.g PI.kp PI.b .nil pass0 (pa_cons (pv 3) (pa_cons (pv 11) pa_nil))) pa_nil)) (nomark _)) (pss_one (ps_ret pe_bl)) pss_nil)
            (pss_one (ps_if (pt_cmpR op_ne (pe_callB (cr_repr hG hr.units) (by rfl) mp (by decide +kernel) (pa_cons (pe_call TI.ok hr (by rfl) TI.g TI.kp TI.b .nil pass0 (pa_cons (pv 10) (pa_cons (pv 11) pa_nil))) pa_nil)) (pe_callB (cr_repr hG hr.units) (by rfl) mp (by decide +kernel) (pa_cons (pe_call TI.ok hr (by rfl) TI.g TI.kp TI.b .nil pass0 (pa_cons (pv 3) (pa_cons (pv 11) pa_nil))) pa_nil)) (nomark _)) (pss_one (ps_ret pe_bl)) pss_nil))))))))))
      (pss_cons (ps_set (i := 12) nd rfl (Or.inl rfl) (pe_call ML.ok hr5 (by rfl) ML.g ML.kp ML.b .nil passL (pa_cons (pv 3) (pa_cons (pv 7) pa_nil))))
      (pss_one (ps_ret (pe_and (pe_cmpR op_eq (pe_callB (cr_repr hG hr.units) (by rfl) mp (by decide +kernel) (pa_cons (pe_call ML.ok hr5 (by rfl) ML.g ML.kp ML.b .nil passL (pa_cons (pv 12) (pa_cons (pe_op op_sub (pv 5) (pv 7)) pa_nil))) pa_nil)) (pe_callB (cr_repr hG hr.units) (by rfl) mp (by decide +kernel) (pa_cons (pe_ix ix_list (pe_call LL.ok hr1 (by rfl) LL.g LL.kp LL.b .nil pass0 (pa_cons (pv 3) (pa_cons (pv 5) pa_nil))) pe_int (fun _ _ => rfl)) pa_nil)) (nomark _)) (pe_one (pe_cmpR op_eq (pe_callB (cr_repr hG hr.units) (by rfl) mp (by decide +kernel) (pa_cons (pv 3) pa_nil)) (pv 4) (nomark _))))))))))))), ?_⟩
    refine ⟨_, rfl, a, ns, rfl, hS, fun p c H1 np nc pen1 sm1 => ?_⟩
    refine ⟨_, rfl, p, c, 0, 31, rfl, pen1, by decide, by decide, by decide, fun r1 H2 a1 b1 pen2 bt2 => ?_⟩
    refine ⟨_, rfl, p, c, 1, 6, rfl, pen2, by decide, by decide, by decide, fun r2 H3 a2 b2 pen3 bt3 => ?_⟩
    refine ⟨1, r2, rfl, rfl, (by show 4 ≤ sizeLine; decide), fun l nl => ?_⟩
    have sl := @same_new _ _ (.lst [V.int 30, .int 0, .int r1, .int (1 + r2)]) nl
    refine ⟨_, rfl, p, c, 2, 4, rfl, pen3.same sl, by decide, by decide, by decide, fun r3 H4 a3 b3 pen4 bt4 => ?_⟩
    have nlp : l ≠ p := fun z => pen3.there (z ▸ nl)
    obtain ⟨mo, hm1, hm2⟩ := at_ints (ns := [30, 0, r1, 1 + r2]) (r := r3) a3 (by show r3 < 4; omega)
    refine ⟨l, _, _, _, rfl, rfl, SqL.of (bt4 l _ upd_same nlp), hm1, ?_⟩
    have hmo : 0 ≤ mo ∧ mo ≤ 30 := by
      simp only [List.mem_cons, List.not_mem_nil, or_false] at hm2
      rcases hm2 with rfl | rfl | rfl | rfl <;> omega
    obtain ⟨m, rfl⟩ : ∃ m : Nat, mo = m := ⟨mo.toNat, (Int.toNat_of_nonneg hmo.1).symm⟩
    have m30 : m ≤ 30 := by omega
    have tg1 : TabsG Ts H1 := tabs_sm sm1 tg
    have tl1 : LamX.TabS H1 Pt qTies := tl.ext sm1
    have btA : But p H1 H4 := bt2.tr (bt3.tr ((But.of sl).tr bt4))
    refine ⟨_, rfl, _, rfl, p, c, 3, m, rfl, pen4, by decide, m30, fun h Ps G es H5 ho5 gd pen5 bt5 => ?_⟩
    obtain ⟨kvsP, nsP, aP, xP, gP, _⟩ := pen1.ex
    have keepT : ∀ {Ha : Hp}, But p H1 Ha → TabsG Ts Ha := fun bt T hT => by
      obtain ⟨ps, e, ok⟩ := tg1 T hT
      exact ⟨ps, bt T _ e (ne_of e gP (by intro z; cases z)), ok⟩
    have keepL : ∀ {Ha : Hp}, But p H1 Ha → LamX.TabS Ha Pt qTies := fun bt => by
      obtain ⟨ps, h1, h2, h3⟩ := tl1
      refine ⟨ps, bt Pt _ h1 (ne_of h1 gP (by intro z; cases z)), h2, fun at' cv hc => ?_⟩
      obtain ⟨c0, e1, e2⟩ := h3 at' cv hc
      exact ⟨c0, e1, bt c0 _ e2 (ne_of e2 gP (by intro z; unfold LamX.CodeO at z; cases z))⟩
    have bt15 : But p H1 H5 := btA.tr bt5
    have sh := gd.short (by omega)
    have lm := gd.many
    refine ⟨_, rfl, h, _, rfl, ho5.dp, sh.sh, sh.nd, Nat.le_trans sh.dp (by decide), sh.fits (by decide), ?_⟩
    obtain ⟨hp, hg, he, tps, g1, g2, g3, g4, g5⟩ := ho5.ex
    have l5 := g5.len
    -- how much room there is
    refine ⟨(by show 1 ≤ sizeLine; decide), fun z0 nz0 => ?_⟩
    have s6 := @same_new _ _ (.lst [V.int 0]) nz0
    have hz0 : (upd H5 z0 (.lst [V.int 0])) z0 = some (.lst [V.int 0]) := upd_same
    generalize upd H5 z0 (.lst [V.int 0]) = H6 at s6 hz0
    refine ⟨_, rfl, h, _, 2, _, rfl, rfl, SqT.of (s6 _ _ g1), atI_nat (j := 2) rfl, he, rfl, ⟨_, SqT.of (s6 _ _ g4)⟩, fun D nD => ?_⟩
    refine lc_tup (K := K) (a := he) (xs := tps.map V.ref) (fun i H' => Same H6 H' ∧ H' D = some (.lst (((es.take i).map Ent.moment).map V.int)))
      ⟨same_new nD, upd_same⟩ (fun i H' _ z => SqT.of (z.1 _ _ (s6 _ _ g4))) ?_ ?_
    · rintro i x H7 hx ⟨s7, hD⟩
      rw [List.getElem?_map] at hx
      obtain ⟨tp, htp, rfl⟩ := Option.map_eq_some_iff.mp hx
      obtain ⟨e, hes, hte0⟩ := g5.get htp
      refine ⟨rfl, yesT ⟨_, rfl, tp, _, 2, _, rfl, rfl, SqT.of (s7 _ _ (s6 _ _ hte0)), at2 e, _, hD, ?_, fun b o eb => (upd_ne (ne_of_none eb nD)).trans (s7 b o eb), ?_⟩⟩
      · rw [List.length_map, List.length_map, List.length_take]
        exact small1000 (by omega)
      · rw [upd_same, take_snoc hes, List.map_append, List.map_append]
        rfl
    rintro H7 ⟨s7, hD⟩
    rw [List.length_map, l5, List.take_length] at hD
    have bg : 100 ≤ sizeLine := by decide
    refine ⟨z0, D, _, _, rfl, rfl, s7 _ _ hz0, hD, (by rw [List.length_map, List.length_map]; show 1 + es.length ≤ _; omega), fun Z nZ => ?_⟩
    have s8 := @same_new _ _ (.lst ([V.int 0] ++ (es.map Ent.moment).map V.int)) nZ
    have hZ : (upd H7 Z (.lst ([V.int 0] ++ (es.map Ent.moment).map V.int))) Z = some (.lst ((0 :: es.map Ent.moment).map V.int)) := upd_same
    generalize upd H7 Z (.lst ([V.int 0] ++ (es.map Ent.moment).map V.int)) = H8 at s8 hZ
    have s58 := (s6.trans s7).trans s8
    refine ⟨Z, 0 :: es.map Ent.moment, rfl, SqL.of hZ, Nat.succ_pos _, fun M hM hMx => ?_⟩
    have M0 : 0 ≤ M := hMx 0 List.mem_cons_self
    have Mm : ∀ e ∈ es, e.moment ≤ M := fun e he => hMx _ (List.mem_cons_of_mem _ (List.mem_map_of_mem he))
    have M9 : M ≤ 9999 := by
      rcases List.mem_cons.mp hM with rfl | hM
      · decide
      · obtain ⟨e, he, rfl⟩ := List.mem_map.mp hM
        exact (gd.ents e he).2.2.1
    refine ⟨9999, M, rfl, rfl, ?_⟩
    obtain ⟨room, hroom⟩ : ∃ room : Int, room = 9999 - M := ⟨_, rfl⟩
    have eR : (fun i j : Int => V.int (i - j)) 9999 M = V.int room := congrArg V.int hroom.symm
    rw [eR]
    have r0 : 0 ≤ room := by omega
    have r9 : room ≤ 9999 := by omega
    have fitR : ∀ {d : Int}, d ≤ room → ∀ e ∈ es, e.moment + d ≤ 9999 := fun {d} hd e he => by have := Mm e he; omega
    have pen8 := pen5.same s58
    refine ⟨_, rfl, _, rfl, room, 1, rfl, rfl, p, c, _, _, rfl, pen8, by decide, by omega, by omega, fun r4 H9 a4 b4 pen9 bt9 => ?_⟩
    refine ⟨_, rfl, _, rfl, _, rfl, room, 1, rfl, rfl, _, rfl, p, c, _, 10000, rfl, pen9, by decide, by decide, by decide, fun r5 H10 a5 b5 pen10 bt10 => ?_⟩
    refine ⟨10, 59, rfl, rfl, (by show (0 : Int) ≤ 59 ∧ (59 : Int) ≤ 1000000 ∧ (10 : Int).natAbs < 2 ^ 64; decide), _, rfl, _, r4, rfl, rfl, (by show 6 ≤ sizeLine; decide), fun N nN => ?_⟩
    have big : (100000 : Int) ≤ 10 ^ (59 : Int).toNat := by decide +kernel
    generalize (10 : Int) ^ (59 : Int).toNat = ten at big nN
    generalize hH : upd H10 N (HO.lst [V.int 0, V.int r4, V.int room, (fun i j : Int => V.int (i + j)) room 1, V.int r5, (fun i j : Int => V.int (i - j)) ten r4]) = H11
    have s11 : Same H10 H11 := by
      rw [← hH]
      exact same_new nN
    have hN : H11 N = some (.lst ([0, r4, room, room + 1, r5, ten - r4].map V.int)) := by
      rw [← hH]
      exact upd_same
    have nums : ∀ d ∈ [0, r4, room, room + 1, r5, ten - r4], 0 ≤ d := fun d hd => by
      simp only [List.mem_cons, List.not_mem_nil, or_false] at hd
      rcases hd with rfl | rfl | rfl | rfl | rfl | rfl <;> omega
    generalize [0, r4, room, room + 1, r5, ten - r4] = ds at hN nums
    have bt511 : But p H5 H11 := ((But.of s58).tr (bt9.tr bt10)).tr (.of s11)
    have tg11 := keepT (bt15.tr bt511)
    have tl11 := keepL (bt15.tr bt511)
    have ho11 := ho5.on (TK.but pen5 bt511)
    obtain ⟨hp, hg, he, tps, g1, g2, g3, g4, g5⟩ := ho11.ex
    refine ⟨N, rfl, ⟨_, SqL.of hN⟩, ?_⟩
    refine for_list (K := K) (a := N) (xs := ds.map V.int) (fun i σ H' => ∃ y8 y9 y10 y11, σ = [some (.ref a), some (.ref p), some (.int m), some (.ref h), some (.str (houseD Ps G es).shown), some (.int room), none, some (.int r4), y8, y9, y10, y11, none] ∧ TB1 (Pt :: Ts) H11 H' ∧ LamX.TabS H' Pt qTies)
      ⟨_, _, _, _, rfl, .same (tabs_cons (tabS_g tl11) tg11) (fun _ _ e => e), tl11⟩ (fun i σ H' _ z => by obtain ⟨_, _, _, _, _, z, _⟩ := z; exact SqL.of (z.lst hN)) ?_ ?_
    · rintro i x σ H12 hx ⟨y8, y9, y10, y11, rfl, t12, tl12⟩
      rw [List.getElem?_map] at hx
      obtain ⟨d, hd, rfl⟩ := Option.map_eq_some_iff.mp hx
      have d0 := nums d (List.mem_of_getElem? hd)
      have so := one_short gd m30 d0
      have ho12 := ho11.on t12.tk
      refine ⟨_, rfl, _, rfl, h, Ps, G, es, m, d, rfl, ho12, gd, m30, fun L1 xs1 H13 s13 hL1 o1 => ?_⟩
      have t13 := t12.tr (.same t12.1 s13)
      have tl13 := tl12.ext s13
      refine ⟨_, rfl, _, rfl, h, Ps, G, es, m, d, rfl, ho11.on t13.tk, gd, m30, d0, tabs_tail t13.1, fun L2 xs2 H14 t14 hL2 o2 => ?_⟩
      have tl14 := tabS_by t14 nPt tl13
      have u14 := t14.wide tl14
      have t114 := t13.tr u14
      have hL14 := u14.lst hL1
      have o14 := o1.on u14.tk
      refine ⟨L2, _, rfl, o2.dp hL2, so.sh, so.nd, Nat.le_trans so.dp (by decide), so.fits (by decide), _, rfl, L1, _, rfl, o14.dp hL14, so.sh, so.nd, Nat.le_trans so.dp (by decide), so.fits (by decide), rfl, false, ne_same, iteF ?_⟩
      refine ⟨_, rfl, L1, rfl, ⟨_, SqL.of hL14⟩, ?_⟩
      refine for_list (K := K) (a := L1) (xs := xs1) (fun i σ H' => ∃ y10 y11, σ = [some (.ref a), some (.ref p), some (.int m), some (.ref h), some (.str (houseD Ps G es).shown), some (.int room), none, some (.int r4), some (.int d), some (.ref L1), y10, y11, none] ∧ TB1 (Pt :: Ts) H14 H' ∧ LamX.TabS H' Pt qTies)
        ⟨_, _, rfl, .same u14.1 (fun _ _ e => e), tl14⟩ (fun i σ H' _ z => by obtain ⟨_, _, _, z, _⟩ := z; exact SqL.of (z.lst hL14)) ?_ ?_
      · rintro i2 x2 σ H15 hx2 ⟨y10, y11, rfl, t15, tl15⟩
        rcases o14 with ⟨all, h', rfl, hh14⟩ | ⟨_, rfl⟩
        · obtain rfl : x2 = V.ref h' := List.mem_singleton.mp (List.mem_of_getElem? hx2)
          have gd2 := gd.later d0 all
          have t1115 := t114.tr t15
          have g115 := t1115.tk _ _ g1
          have g315 := t1115.tk _ _ g3
          refine ⟨_, rfl, h, _, 1, _, rfl, rfl, SqT.of g115, atI_nat (j := 1) rfl, hg, rfl, ⟨_, SqT.of g315⟩, ?_⟩
          refine for_tup (K := K) (a := hg) (xs := G.map V.str) (fun i σ H' => ∃ y11, σ = [some (.ref a), some (.ref p), some (.int m), some (.ref h), some (.str (houseD Ps G es).shown), some (.int room), none, some (.int r4), some (.int d), some (.ref L1), some (.ref h'), y11, none] ∧ TB1 (Pt :: Ts) H14 H' ∧ LamX.TabS H' Pt qTies)
            ⟨_, rfl, t15, tl15⟩ (fun i σ H' _ z => by obtain ⟨_, _, z, _⟩ := z; exact SqT.of (z.tk _ _ (t114.tk _ _ g3))) ?_ ?_
          · rintro i3 x3 σ H16 hx3 ⟨y11, rfl, t16, tl16⟩
            rw [List.getElem?_map] at hx3
            obtain ⟨g, hgi, rfl⟩ := Option.map_eq_some_iff.mp hx3
            have kp1 := lt_pieces d Ps es g
            have kp2 := lt_ties d Ps es g
            have rsh := rows_short gd m30 g
            have tok : ∀ x ∈ sortT (tiesM Ps es g), TieOk x := fun x hx => ties_ok gd m30 g x (sortT_mem.mp hx)
            have ln : (sortT (tiesM Ps es g)).length ≤ 1000 := by rw [sortT_len]; exact (ties_len gd m30 g).1
            have shd := short_ties tok ln
            refine ⟨_, rfl, _, rfl, h', Ps, G, _, m, g, rfl, hh14.on t16.tk, gd2, m30, tabs_tail t16.1, fun R1 rs1 H17 t17 _ hR1 ro1 => ?_⟩
            rw [kp1] at ro1
            have tl17 := tabS_by t17 nPt tl16
            have u17 := t17.wide tl17
            have t517 := t16.tr u17
            refine ⟨R1, _, rfl, rowsD_at hR1 ro1, rsh.sh, rsh.nd, Nat.le_trans rsh.dp (by decide), rsh.fits2 (by decide), ?_⟩
            refine ⟨_, rfl, _, rfl, h, Ps, G, es, m, g, rfl, ho11.on (t114.tr t517).tk, gd, m30, tabs_tail t517.1, fun R2 rs2 H18 t18 _ hR2 ro2 => ?_⟩
            have tl18 := tabS_by t18 nPt tl17
            have u18 := t18.wide tl18
            have t518 := t517.tr u18
            refine ⟨R2, _, rfl, rowsD_at hR2 ro2, rsh.sh, rsh.nd, Nat.le_trans rsh.dp (by decide), rsh.fits2 (by decide), rfl, false, ne_same, iteF ?_⟩
            refine ⟨_, rfl, _, rfl, h', Ps, G, _, m, g, rfl, hh14.on t518.tk, gd2, m30, tabs_tail t518.1, tl18, fun U1 us1 H19 t19 tl19 _ hU1 ti1 => ?_⟩
            rw [kp2] at ti1
            have t519 := t518.tr t19
            refine ⟨U1, _, rfl, tiesD_at hU1 ti1, shd.sh, shd.nd, Nat.le_trans shd.dp (by decide), shd.fits (by decide), ?_⟩
            refine ⟨_, rfl, _, rfl, h, Ps, G, es, m, g, rfl, ho11.on (t114.tr t519).tk, gd, m30, tabs_tail t519.1, tl19, fun U2 us2 H20 t20 tl20 _ hU2 ti2 => ?_⟩
            refine ⟨U2, _, rfl, tiesD_at hU2 ti2, shd.sh, shd.nd, Nat.le_trans shd.dp (by decide), shd.fits (by decide), rfl, false, ne_same, iteF ?_⟩
            exact ⟨_, rfl, t519.tr t20, tl20⟩
          · rintro σ H16 ⟨y11, rfl, t16, tl16⟩
            exact ⟨_, _, rfl, t16, tl16⟩
        · exact absurd hx2 (by simp)
      · rintro σ H15 ⟨y10, y11, rfl, t15, tl15⟩
        exact ⟨_, _, _, _, rfl, t114.tr t15, tl15⟩
    · rintro σ H12 ⟨y8, y9, y10, y11, rfl, t12, tl12⟩
      have r4le : r4 ≤ room := by omega
      refine ⟨_, rfl, _, rfl, h, Ps, G, es, m, r4, rfl, ho11.on t12.tk, gd, m30, a4, tabs_tail t12.1, Or.inl ⟨fitR r4le, fun h1 H13 t13 ho1 => ?_⟩⟩
      have tl13 := tabS_by t13 nPt tl12
      have u13 := t13.wide tl13
      have t113 := t12.tr u13
      have gd1 := gd.later a4 (fitR r4le)
      have fit2 : ∀ e ∈ es.map (Ent.later r4), e.moment + (room - r4) ≤ 9999 := fun e he => by
        obtain ⟨e0, he0, rfl⟩ := List.mem_map.mp he
        rw [lt_moment]
        have := Mm e0 he0
        omega
      refine ⟨_, rfl, _, rfl, _, rfl, _, _, rfl, rfl, h1, Ps, G, _, m, _, rfl, ho1, gd1, m30, by omega, tabs_tail t113.1, Or.inl ⟨fit2, fun h2 H14 t14 ho2 => ?_⟩⟩
      have tl14 := tabS_by t14 nPt tl13
      have u14 := t14.wide tl14
      have t114 := t113.tr u14
      have eL : (es.map (Ent.later r4)).map (Ent.later (room - r4)) = es.map (Ent.later room) := by
        rw [List.map_map]
        refine List.map_congr_left fun e _ => ?_
        show (e.later r4).later (room - r4) = _
        rw [later_later]
        have : r4 + (room - r4) = room := by omega
        rw [this]
      rw [eL] at ho2
      have gdR := gd.later r0 (fitR (Int.le_refl _))
      have shR := gdR.short (by omega)
      refine ⟨h2, _, rfl, ho2.dp, shR.sh, shR.nd, Nat.le_trans shR.dp (by decide), shR.fits (by decide), ?_⟩
      refine ⟨_, rfl, _, rfl, h, Ps, G, es, m, room, rfl, ho11.on t114.tk, gd, m30, fun L3 xs3 H15 s15 hL3 o3 => ?_⟩
      rcases o3 with ⟨_, h3, rfl, ho3⟩ | ⟨⟨e, he', bad⟩, _⟩
      · refine ⟨L3, _, 0, _, rfl, rfl, SqL.of hL3, atI_nat (j := 0) rfl, h3, _, rfl, ho3.dp, shR.sh, shR.nd, Nat.le_trans shR.dp (by decide), shR.fits (by decide), rfl, true, ?_, iteT ?_⟩
        · rw [decide_eq_true rfl]
        have t115 := t114.tr (.same t114.1 s15)
        refine ⟨_, rfl, h, _, rfl, (ho11.on t115.tk).dp, sh.sh, sh.nd, Nat.le_trans sh.dp (by decide), sh.fits (by decide), _, rfl, rfl, ?_⟩
        rw [decide_eq_true rfl]
        exact q _
      · exact absurd (fitR (Int.le_refl _) e he') (by omega)
end
theorem tab_is {K : PySem.W.Frag} {x : Str} {f c T : Addr} {oc occ : Value} {od odc : Option Addr} {sl slc : Array (Option Value)} {fd : FuncData} {vs : Array Value}
    (a : PySem.W.nsIn K mainGlobals x = some (some (.ref f))) (l : K.lookup f = some ⟨oc, od, .func fd, sl⟩) (hc : fd.code = .ref c) (lc : K.lookup c = some ⟨occ, odc, .fields vs, slc⟩) (hv : (vs[11]? : Option Value) = some (.ref T)) :
    PySem.W.tabIn K x = some (c, T) := by
  unfold PySem.W.tabIn
  simp only [a, l, hc, lc, hv]
set_option maxHeartbeats 4000000 in
theorem all_mk {l : PySem.W.OpenLaw} {q : Program} {loose : List Str} {XP : (Str → Option Value) → Heap → Prop} {w : World} {s0 : Shared} {K : PySem.W.Frag} {h : Heap} {mg mb : Str → Option Value} {fa cE cH ccl ccd cnd cne cnf cng cngd cnm cnn cnp cnr cnt cnth cnti ctm ctw f1 f2 f3 f4 f5 f6 f7 f8 f9 f10 f11 f12 f13 f14 f15 f16 f18 f19 f20 f21 f22 f23 f26 f27 f28 f30 f31 f51 f52 f53 f54 f55 f56 f29 c13 T13 c20 T20 c26 T26 c31 T31 aBo aBo1 : Addr} {dr13 : PySem.DefRec} {dr20 : PySem.DefRec} {dr26 : PySem.DefRec} {dr31 : PySem.DefRec}
    (G : PySem.W.Ground q loose [] XP w s0 mg mb h) (X : K.In h) (hfa : mg "law" = some (.ref fa))
    {od1 an1 od2 an2 od3 an3 od4 an4 od5 an5 od6 an6 od7 an7 od8 an8 od9 an9 od10 an10 od11 an11 od12 an12 od13 an13 odc13 od14 an14 od15 an15 od16 an16 od18 an18 od19 an19 od20 an20 odc20 od21 an21 od22 an22 od23 an23 od26 an26 odc26 od27 an27 od28 an28 od30 an30 od31 an31 odc31 od51 an51 od52 an52 od53 an53 od54 an54 od55 an55 od56 an56 od29 an29 odBo1 : Option Addr} {sl1 sl2 sl3 sl4 sl5 sl6 sl7 sl8 sl9 sl10 sl11 sl12 sl13 slc13 sl14 sl15 sl16 sl18 sl19 sl20 slc20 sl21 sl22 sl23 sl26 slc26 sl27 sl28 sl30 sl31 slc31 sl51 sl52 sl53 sl54 sl55 sl56 sl29 slBo1 : Array (Option Value)} {oc1 kV1 dc1 pm1 ct1 cd1 oc2 kV2 dc2 pm2 ct2 cd2 oc3 kV3 dc3 pm3 ct3 cd3 oc4 kV4 dc4 pm4 ct4 cd4 oc5 kV5 dc5 pm5 ct5 cd5 oc6 kV6 dc6 pm6 ct6 cd6 oc7 kV7 dc7 pm7 ct7 cd7 oc8 kV8 dc8 pm8 ct8 cd8 oc9 kV9 dc9 pm9 ct9 cd9 oc10 kV10 dc10 pm10 ct10 cd10 oc11 kV11 dc11 pm11 ct11 cd11 oc12 kV12 dc12 pm12 ct12 cd12 oc13 kV13 dc13 pm13 ct13 occ13 oc14 kV14 dc14 pm14 ct14 cd14 oc15 kV15 dc15 pm15 ct15 cd15 oc16 kV16 dc16 pm16 ct16 cd16 oc18 kV18 dc18 pm18 ct18 cd18 oc19 kV19 dc19 pm19 ct19 cd19 oc20 kV20 dc20 pm20 ct20 occ20 oc21 kV21 dc21 pm21 ct21 cd21 oc22 kV22 dc22 pm22 ct22 cd22 oc23 kV23 dc23 pm23 ct23 cd23 oc26 kV26 dc26 pm26 ct26 occ26 oc27 kV27 dc27 pm27 ct27 cd27 oc28 kV28 dc28 pm28 ct28 cd28 oc30 kV30 dc30 pm30 ct30 cd30 oc31 kV31 dc31 pm31 ct31 occ31 oc51 kV51 dc51 pm51 ct51 cd51 oc52 kV52 dc52 pm52 ct52 cd52 oc53 kV53 dc53 pm53 ct53 cd53 oc54 kV54 dc54 pm54 ct54 cd54 oc55 kV55 dc55 pm55 ct55 cd55 oc56 kV56 dc56 pm56 ct56 cd56 oc29 kV29 dc29 pm29 ct29 cd29 : Value}
    {nBo nBo1 : Nat}
    {itBo1 vsc13 vsc20 vsc26 vsc31 : Array Value}
    {esBo : Array DictEntry}
    (a1 : PySem.W.nsIn K mainGlobals "_law_pen" = some (some (.ref f1)))
    (l1 : K.lookup f1 = some ⟨oc1, od1, .func (PySem.W.fnOf "_law_pen" "_law_pen" (defArgs sPen) (defBody sPen) (defScope sPen) .none kV1 dc1 pm1 an1 cd1 ct1), sl1⟩)
    (c_1 : PySem.W.codeIn K cd1 "_law_pen" = true)
    (k1 : PySem.W.keepIn K (.ref f1) = true)
    (a2 : PySem.W.nsIn K mainGlobals "_law_take" = some (some (.ref f2)))
    (l2 : K.lookup f2 = some ⟨oc2, od2, .func (PySem.W.fnOf "_law_take" "_law_take" (defArgs sTake) (defBody sTake) (defScope sTake) .none kV2 dc2 pm2 an2 cd2 ct2), sl2⟩)
    (c_2 : PySem.W.codeIn K cd2 "_law_take" = true)
    (k2 : PySem.W.keepIn K (.ref f2) = true)
    (a3 : PySem.W.nsIn K mainGlobals "_law_names" = some (some (.ref f3)))
    (l3 : K.lookup f3 = some ⟨oc3, od3, .func (PySem.W.fnOf "_law_names" "_law_names" (defArgs sNames) (defBody sNames) (defScope sNames) .none kV3 dc3 pm3 an3 cd3 ct3), sl3⟩)
    (c_3 : PySem.W.codeIn K cd3 "_law_names" = true)
    (k3 : PySem.W.keepIn K (.ref f3) = true)
    (a4 : PySem.W.nsIn K mainGlobals "_law_words" = some (some (.ref f4)))
    (l4 : K.lookup f4 = some ⟨oc4, od4, .func (PySem.W.fnOf "_law_words" "_law_words" (defArgs sWords) (defBody sWords) (defScope sWords) .none kV4 dc4 pm4 an4 cd4 ct4), sl4⟩)
    (c_4 : PySem.W.codeIn K cd4 "_law_words" = true)
    (k4 : PySem.W.keepIn K (.ref f4) = true)
    (a5 : PySem.W.nsIn K mainGlobals "_law_moments" = some (some (.ref f5)))
    (l5 : K.lookup f5 = some ⟨oc5, od5, .func (PySem.W.fnOf "_law_moments" "_law_moments" (defArgs sMoments) (defBody sMoments) (defScope sMoments) .none kV5 dc5 pm5 an5 cd5 ct5), sl5⟩)
    (c_5 : PySem.W.codeIn K cd5 "_law_moments" = true)
    (k5 : PySem.W.keepIn K (.ref f5) = true)
    (a6 : PySem.W.nsIn K mainGlobals "_law_many" = some (some (.ref f6)))
    (l6 : K.lookup f6 = some ⟨oc6, od6, .func (PySem.W.fnOf "_law_many" "_law_many" (defArgs sMany) (defBody sMany) (defScope sMany) .none kV6 dc6 pm6 an6 cd6 ct6), sl6⟩)
    (c_6 : PySem.W.codeIn K cd6 "_law_many" = true)
    (k6 : PySem.W.keepIn K (.ref f6) = true)
    (a7 : PySem.W.nsIn K mainGlobals "_law_entry_of" = some (some (.ref f7)))
    (l7 : K.lookup f7 = some ⟨oc7, od7, .func (PySem.W.fnOf "_law_entry_of" "_law_entry_of" (defArgs sEntryOf) (defBody sEntryOf) (defScope sEntryOf) .none kV7 dc7 pm7 an7 cd7 ct7), sl7⟩)
    (c_7 : PySem.W.codeIn K cd7 "_law_entry_of" = true)
    (k7 : PySem.W.keepIn K (.ref f7) = true)
    (a8 : PySem.W.nsIn K mainGlobals "_law_order" = some (some (.ref f8)))
    (l8 : K.lookup f8 = some ⟨oc8, od8, .func (PySem.W.fnOf "_law_order" "_law_order" (defArgs sOwn) (defBody sOwn) (defScope sOwn) .none kV8 dc8 pm8 an8 cd8 ct8), sl8⟩)
    (c_8 : PySem.W.codeIn K cd8 "_law_order" = true)
    (k8 : PySem.W.keepIn K (.ref f8) = true)
    (a9 : PySem.W.nsIn K mainGlobals "_law_house" = some (some (.ref f9)))
    (l9 : K.lookup f9 = some ⟨oc9, od9, .func (PySem.W.fnOf "_law_house" "_law_house" (defArgs sHouse) (defBody sHouse) (defScope sHouse) .none kV9 dc9 pm9 an9 cd9 ct9), sl9⟩)
    (c_9 : PySem.W.codeIn K cd9 "_law_house" = true)
    (k9 : PySem.W.keepIn K (.ref f9) = true)
    (a10 : PySem.W.nsIn K mainGlobals "places_of" = some (some (.ref f10)))
    (l10 : K.lookup f10 = some ⟨oc10, od10, .func (PySem.W.fnOf "places_of" "places_of" (defArgs sPlacesOf) (defBody sPlacesOf) (defScope sPlacesOf) .none kV10 dc10 pm10 an10 cd10 ct10), sl10⟩)
    (c_10 : PySem.W.codeIn K cd10 "places_of" = true)
    (k10 : PySem.W.keepIn K (.ref f10) = true)
    (a11 : PySem.W.nsIn K mainGlobals "with_places" = some (some (.ref f11)))
    (l11 : K.lookup f11 = some ⟨oc11, od11, .func (PySem.W.fnOf "with_places" "with_places" (defArgs sWithPlaces) (defBody sWithPlaces) (defScope sWithPlaces) .none kV11 dc11 pm11 an11 cd11 ct11), sl11⟩)
    (c_11 : PySem.W.codeIn K cd11 "with_places" = true)
    (k11 : PySem.W.keepIn K (.ref f11) = true)
    (a12 : PySem.W.nsIn K mainGlobals "good_of" = some (some (.ref f12)))
    (l12 : K.lookup f12 = some ⟨oc12, od12, .func (PySem.W.fnOf "good_of" "good_of" (defArgs sGood) (defBody sGood) (defScope sGood) .none kV12 dc12 pm12 an12 cd12 ct12), sl12⟩)
    (c_12 : PySem.W.codeIn K cd12 "good_of" = true)
    (k12 : PySem.W.keepIn K (.ref f12) = true)
    (a13 : PySem.W.nsIn K mainGlobals "along_tracks" = some (some (.ref f13)))
    (l13 : K.lookup f13 = some ⟨oc13, od13, .func (PySem.W.fnOf "along_tracks" "along_tracks" (defArgs sAlong) (defBody sAlong) (defScope sAlong) .none kV13 dc13 pm13 an13 (.ref c13) ct13), sl13⟩)
    (c_13 : PySem.W.codeIn K (.ref c13) "along_tracks" = true)
    (k13 : PySem.W.keepIn K (.ref f13) = true)
    (lc13 : K.lookup c13 = some ⟨occ13, odc13, .fields vsc13, slc13⟩)
    (hv13 : (vsc13[11]? : Option Value) = some (.ref T13))
    (nT13 : K.lookup T13 = none)
    (r13 : (PyProof.Rows.recsOf q).find? (fun e => e.name == ("along_tracks" : Str)) = some dr13)
    (a14 : PySem.W.nsIn K mainGlobals "tracks_at_first" = some (some (.ref f14)))
    (l14 : K.lookup f14 = some ⟨oc14, od14, .func (PySem.W.fnOf "tracks_at_first" "tracks_at_first" (defArgs sFirst) (defBody sFirst) (defScope sFirst) .none kV14 dc14 pm14 an14 cd14 ct14), sl14⟩)
    (c_14 : PySem.W.codeIn K cd14 "tracks_at_first" = true)
    (k14 : PySem.W.keepIn K (.ref f14) = true)
    (a15 : PySem.W.nsIn K mainGlobals "exchanged" = some (some (.ref f15)))
    (l15 : K.lookup f15 = some ⟨oc15, od15, .func (PySem.W.fnOf "exchanged" "exchanged" (defArgs sExch) (defBody sExch) (defScope sExch) .none kV15 dc15 pm15 an15 cd15 ct15), sl15⟩)
    (c_15 : PySem.W.codeIn K cd15 "exchanged" = true)
    (k15 : PySem.W.keepIn K (.ref f15) = true)
    (a16 : PySem.W.nsIn K mainGlobals "_law_entry" = some (some (.ref f16)))
    (l16 : K.lookup f16 = some ⟨oc16, od16, .func (PySem.W.fnOf "_law_entry" "_law_entry" (defArgs sEntry) (defBody sEntry) (defScope sEntry) .none kV16 dc16 pm16 an16 cd16 ct16), sl16⟩)
    (c_16 : PySem.W.codeIn K cd16 "_law_entry" = true)
    (k16 : PySem.W.keepIn K (.ref f16) = true)
    (a18 : PySem.W.nsIn K mainGlobals "change_at" = some (some (.ref f18)))
    (l18 : K.lookup f18 = some ⟨oc18, od18, .func (PySem.W.fnOf "change_at" "change_at" (defArgs sChange) (defBody sChange) (defScope sChange) .none kV18 dc18 pm18 an18 cd18 ct18), sl18⟩)
    (c_18 : PySem.W.codeIn K cd18 "change_at" = true)
    (k18 : PySem.W.keepIn K (.ref f18) = true)
    (a19 : PySem.W.nsIn K mainGlobals "pieces" = some (some (.ref f19)))
    (l19 : K.lookup f19 = some ⟨oc19, od19, .func (PySem.W.fnOf "pieces" "pieces" (defArgs sPieces) (defBody sPieces) (defScope sPieces) .none kV19 dc19 pm19 an19 cd19 ct19), sl19⟩)
    (c_19 : PySem.W.codeIn K cd19 "pieces" = true)
    (k19 : PySem.W.keepIn K (.ref f19) = true)
    (a20 : PySem.W.nsIn K mainGlobals "piece_row" = some (some (.ref f20)))
    (l20 : K.lookup f20 = some ⟨oc20, od20, .func (PySem.W.fnOf "piece_row" "piece_row" (defArgs sRow) (defBody sRow) (defScope sRow) .none kV20 dc20 pm20 an20 (.ref c20) ct20), sl20⟩)
    (c_20 : PySem.W.codeIn K (.ref c20) "piece_row" = true)
    (k20 : PySem.W.keepIn K (.ref f20) = true)
    (lc20 : K.lookup c20 = some ⟨occ20, odc20, .fields vsc20, slc20⟩)
    (hv20 : (vsc20[11]? : Option Value) = some (.ref T20))
    (nT20 : K.lookup T20 = none)
    (r20 : (PyProof.Rows.recsOf q).find? (fun e => e.name == ("piece_row" : Str)) = some dr20)
    (a21 : PySem.W.nsIn K mainGlobals "pieces_of_track" = some (some (.ref f21)))
    (l21 : K.lookup f21 = some ⟨oc21, od21, .func (PySem.W.fnOf "pieces_of_track" "pieces_of_track" (defArgs sPoT) (defBody sPoT) (defScope sPoT) .none kV21 dc21 pm21 an21 cd21 ct21), sl21⟩)
    (c_21 : PySem.W.codeIn K cd21 "pieces_of_track" = true)
    (k21 : PySem.W.keepIn K (.ref f21) = true)
    (a22 : PySem.W.nsIn K mainGlobals "counted" = some (some (.ref f22)))
    (l22 : K.lookup f22 = some ⟨oc22, od22, .func (PySem.W.fnOf "counted" "counted" (defArgs sCounted) (defBody sCounted) (defScope sCounted) .none kV22 dc22 pm22 an22 cd22 ct22), sl22⟩)
    (c_22 : PySem.W.codeIn K cd22 "counted" = true)
    (k22 : PySem.W.keepIn K (.ref f22) = true)
    (a23 : PySem.W.nsIn K mainGlobals "name_of" = some (some (.ref f23)))
    (l23 : K.lookup f23 = some ⟨oc23, od23, .func (PySem.W.fnOf "name_of" "name_of" (defArgs sNameOf) (defBody sNameOf) (defScope sNameOf) .none kV23 dc23 pm23 an23 cd23 ct23), sl23⟩)
    (c_23 : PySem.W.codeIn K cd23 "name_of" = true)
    (k23 : PySem.W.keepIn K (.ref f23) = true)
    (a26 : PySem.W.nsIn K mainGlobals "ties" = some (some (.ref f26)))
    (l26 : K.lookup f26 = some ⟨oc26, od26, .func (PySem.W.fnOf "ties" "ties" (defArgs sTies) (defBody sTies) (defScope sTies) .none kV26 dc26 pm26 an26 (.ref c26) ct26), sl26⟩)
    (c_26 : PySem.W.codeIn K (.ref c26) "ties" = true)
    (k26 : PySem.W.keepIn K (.ref f26) = true)
    (lc26 : K.lookup c26 = some ⟨occ26, odc26, .fields vsc26, slc26⟩)
    (hv26 : (vsc26[11]? : Option Value) = some (.ref T26))
    (nT26 : K.lookup T26 = none)
    (r26 : (PyProof.Rows.recsOf q).find? (fun e => e.name == ("ties" : Str)) = some dr26)
    (a27 : PySem.W.nsIn K mainGlobals "end_ties" = some (some (.ref f27)))
    (l27 : K.lookup f27 = some ⟨oc27, od27, .func (PySem.W.fnOf "end_ties" "end_ties" (defArgs sEndT) (defBody sEndT) (defScope sEndT) .none kV27 dc27 pm27 an27 cd27 ct27), sl27⟩)
    (c_27 : PySem.W.codeIn K cd27 "end_ties" = true)
    (k27 : PySem.W.keepIn K (.ref f27) = true)
    (a28 : PySem.W.nsIn K mainGlobals "look_ties" = some (some (.ref f28)))
    (l28 : K.lookup f28 = some ⟨oc28, od28, .func (PySem.W.fnOf "look_ties" "look_ties" (defArgs sLookT) (defBody sLookT) (defScope sLookT) .none kV28 dc28 pm28 an28 cd28 ct28), sl28⟩)
    (c_28 : PySem.W.codeIn K cd28 "look_ties" = true)
    (k28 : PySem.W.keepIn K (.ref f28) = true)
    (a30 : PySem.W.nsIn K mainGlobals "some_ties" = some (some (.ref f30)))
    (l30 : K.lookup f30 = some ⟨oc30, od30, .func (PySem.W.fnOf "some_ties" "some_ties" (defArgs sSomeT) (defBody sSomeT) (defScope sSomeT) .none kV30 dc30 pm30 an30 cd30 ct30), sl30⟩)
    (c_30 : PySem.W.codeIn K cd30 "some_ties" = true)
    (k30 : PySem.W.keepIn K (.ref f30) = true)
    (a31 : PySem.W.nsIn K mainGlobals "made_later" = some (some (.ref f31)))
    (l31 : K.lookup f31 = some ⟨oc31, od31, .func (PySem.W.fnOf "made_later" "made_later" (defArgs sLater) (defBody sLater) (defScope sLater) .none kV31 dc31 pm31 an31 (.ref c31) ct31), sl31⟩)
    (c_31 : PySem.W.codeIn K (.ref c31) "made_later" = true)
    (k31 : PySem.W.keepIn K (.ref f31) = true)
    (lc31 : K.lookup c31 = some ⟨occ31, odc31, .fields vsc31, slc31⟩)
    (hv31 : (vsc31[11]? : Option Value) = some (.ref T31))
    (nT31 : K.lookup T31 = none)
    (r31 : (PyProof.Rows.recsOf q).find? (fun e => e.name == ("made_later" : Str)) = some dr31)
    (a51 : PySem.W.nsIn K mainGlobals "is_whole" = some (some (.ref f51)))
    (l51 : K.lookup f51 = some ⟨oc51, od51, .func (PySem.W.fnOf "is_whole" "is_whole" (defArgs sWhole) (defBody sWhole) (defScope sWhole) .none kV51 dc51 pm51 an51 cd51 ct51), sl51⟩)
    (c_51 : PySem.W.codeIn K cd51 "is_whole" = true)
    (k51 : PySem.W.keepIn K (.ref f51) = true)
    (a52 : PySem.W.nsIn K mainGlobals "fits" = some (some (.ref f52)))
    (l52 : K.lookup f52 = some ⟨oc52, od52, .func (PySem.W.fnOf "fits" "fits" (defArgs sFits) (defBody sFits) (defScope sFits) .none kV52 dc52 pm52 an52 cd52 ct52), sl52⟩)
    (c_52 : PySem.W.codeIn K cd52 "fits" = true)
    (k52 : PySem.W.keepIn K (.ref f52) = true)
    (a53 : PySem.W.nsIn K mainGlobals "is_moment" = some (some (.ref f53)))
    (l53 : K.lookup f53 = some ⟨oc53, od53, .func (PySem.W.fnOf "is_moment" "is_moment" (defArgs sIsMoment) (defBody sIsMoment) (defScope sIsMoment) .none kV53 dc53 pm53 an53 cd53 ct53), sl53⟩)
    (c_53 : PySem.W.codeIn K cd53 "is_moment" = true)
    (k53 : PySem.W.keepIn K (.ref f53) = true)
    (a54 : PySem.W.nsIn K mainGlobals "with_moment" = some (some (.ref f54)))
    (l54 : K.lookup f54 = some ⟨oc54, od54, .func (PySem.W.fnOf "with_moment" "with_moment" (defArgs sWithMo) (defBody sWithMo) (defScope sWithMo) .none kV54 dc54 pm54 an54 cd54 ct54), sl54⟩)
    (c_54 : PySem.W.codeIn K cd54 "with_moment" = true)
    (k54 : PySem.W.keepIn K (.ref f54) = true)
    (a55 : PySem.W.nsIn K mainGlobals "_law_told" = some (some (.ref f55)))
    (l55 : K.lookup f55 = some ⟨oc55, od55, .func (PySem.W.fnOf "_law_told" "_law_told" (defArgs sLTold) (defBody sLTold) (defScope sLTold) .none kV55 dc55 pm55 an55 cd55 ct55), sl55⟩)
    (c_55 : PySem.W.codeIn K cd55 "_law_told" = true)
    (k55 : PySem.W.keepIn K (.ref f55) = true)
    (a56 : PySem.W.nsIn K mainGlobals "_law_later" = some (some (.ref f56)))
    (l56 : K.lookup f56 = some ⟨oc56, od56, .func (PySem.W.fnOf "_law_later" "_law_later" (defArgs sLLater) (defBody sLLater) (defScope sLLater) .none kV56 dc56 pm56 an56 cd56 ct56), sl56⟩)
    (c_56 : PySem.W.codeIn K cd56 "_law_later" = true)
    (k56 : PySem.W.keepIn K (.ref f56) = true)
    (a29 : PySem.W.nsIn K mainGlobals "law" = some (some (.ref f29)))
    (l29 : K.lookup f29 = some ⟨oc29, od29, .func (PySem.W.fnOf "law" "law" (defArgs sLaw) (defBody sLaw) (defScope sLaw) .none kV29 dc29 pm29 an29 cd29 ct29), sl29⟩)
    (c_29 : PySem.W.codeIn K cd29 "law" = true)
    (k29 : PySem.W.keepIn K (.ref f29) = true)
    (ne1320 : T13 ≠ T20)
    (ne1326 : T13 ≠ T26)
    (ne2026 : T20 ≠ T26)
    (ne1331 : T13 ≠ T31)
    (ne2031 : T20 ≠ T31)
    (ne2631 : T26 ≠ T31)
    (ABo : PySem.W.nsIn K mainGlobals "BOUNDS" = some (some (.ref aBo)))
    (LBo : K.lookup aBo = some ⟨.type "dict", none, .dict esBo nBo, #[]⟩)
    (litBo : PySem.W.KeysLit w.params esBo.toList)
    (lowBo : (aBo == sysModules) = false)
    (gBo1 : PySem.W.nsIn K aBo "moment" = some (some (.ref aBo1)))
    (LBo1 : K.lookup aBo1 = some ⟨.type "tuple", odBo1, .seq itBo1 nBo1, slBo1⟩)
    (zBo1 : itBo1.size ≤ sizeLine)
    (vBo1 : Vals ([.int 0, .int 9999] : List V) itBo1.toList)
    (HE : PySem.W.nsIn K mainGlobals "CountError" = some (some (.ref cE)))
    (HH : PySem.W.nsIn K mainGlobals "NoHouse" = some (some (.ref cH)))
    (Hcl : PySem.W.nsIn K mainGlobals "Clash" = some (some (.ref ccl)))
    (Hcd : PySem.W.nsIn K mainGlobals "Closed" = some (some (.ref ccd)))
    (Hnd : PySem.W.nsIn K mainGlobals "NoDay" = some (some (.ref cnd)))
    (Hne : PySem.W.nsIn K mainGlobals "NoEntry" = some (some (.ref cne)))
    (Hnf : PySem.W.nsIn K mainGlobals "NoFilling" = some (some (.ref cnf)))
    (Hng : PySem.W.nsIn K mainGlobals "NoGo" = some (some (.ref cng)))
    (Hngd : PySem.W.nsIn K mainGlobals "NoGood" = some (some (.ref cngd)))
    (Hnm : PySem.W.nsIn K mainGlobals "NoMove" = some (some (.ref cnm)))
    (Hnn : PySem.W.nsIn K mainGlobals "NoName" = some (some (.ref cnn)))
    (Hnp : PySem.W.nsIn K mainGlobals "NoPlace" = some (some (.ref cnp)))
    (Hnr : PySem.W.nsIn K mainGlobals "NoRow" = some (some (.ref cnr)))
    (Hnt : PySem.W.nsIn K mainGlobals "NoText" = some (some (.ref cnt)))
    (Hnth : PySem.W.nsIn K mainGlobals "NoThen" = some (some (.ref cnth)))
    (Hnti : PySem.W.nsIn K mainGlobals "NoTie" = some (some (.ref cnti)))
    (Htm : PySem.W.nsIn K mainGlobals "TooMany" = some (some (.ref ctm)))
    (Htw : PySem.W.nsIn K mainGlobals "Twice" = some (some (.ref ctw)))
    (exH : PySem.W.excIn K cH [.type "ValueError", .type "Exception", .type "BaseException", .type "object"] "ValueError.__new__" = true)
    (kpH : PySem.W.keepIn K (.ref cH) = true)
    (sbH : PySem.W.subIn K (.ref cH) (.type "BaseException") = some true)
    (tyH : PySem.W.typeIn K (.ref cH) = some (.type "type"))
    (e1H : PySem.W.findIn K (.ref cH) "__getattribute__" = some (some (.builtin "BaseException.__getattribute__")))
    (e2H : PySem.W.findIn K (.ref cH) "__getattr__" = some none)
    (e4H : PySem.W.hasDictIn K cH = true)
    (e5H : PySem.W.findIn K (.ref cH) "__class__" = some (some (.builtin "object.__class__")))
    (e6H : PySem.W.specialIn K (.builtin "object.__class__") "__get__" = some (some (.builtin "getset_descriptor.__get__")))
    (e7H : PySem.W.takesIn K (.builtin "object.__class__") = some true)
    (e8H : PySem.W.mroIn K cH (.type "object") = some true)
    (vH : PySem.W.kitOne K (.ref cH) (.type "ValueError") = some true)
    (t1H : PySem.W.kitAny K (.ref cH) [.ref ccl, .ref ccd, .ref cnd, .ref cne, .ref cnf, .ref cng, .ref cngd, .ref cnm, .ref cnn, .ref cnp, .ref cnr] = some false)
    (t2H : PySem.W.kitAny K (.ref cH) [.ref cnt, .ref cnth, .ref cnti, .ref ctm, .ref ctw] = some false)
    (ihH : PySem.W.kitOne K (.ref cH) (.ref cH) = some true)
    (cmH : PySem.W.exmOne K (.ref cH) (.ref cE) = some true)
    (y_len : PySem.W.nsIn K mainGlobals "len" = some none)
    (y_abs : PySem.W.nsIn K mainGlobals "abs" = some none)
    (y_list : PySem.W.nsIn K mainGlobals "list" = some none)
    (y_range : PySem.W.nsIn K mainGlobals "range" = some none)
    (y_int : PySem.W.nsIn K mainGlobals "int" = some none)
    (y_sorted : PySem.W.nsIn K mainGlobals "sorted" = some none)
    (y_tuple : PySem.W.nsIn K mainGlobals "tuple" = some none)
    (y_repr : PySem.W.nsIn K mainGlobals "repr" = some none)
    (y_isinstance : PySem.W.nsIn K mainGlobals "isinstance" = some none)
    (y_sum : PySem.W.nsIn K mainGlobals "sum" = some none)
    (y_bool : PySem.W.nsIn K mainGlobals "bool" = some none)
    (y_all : PySem.W.nsIn K mainGlobals "all" = some none)
    (y_max : PySem.W.nsIn K mainGlobals "max" = some none)
    (y_ValueError : PySem.W.nsIn K mainGlobals "ValueError" = some none) :
    LawG l w K 7 63 "_law_script" mg fa h := by
  have Gg := G.T.g
  have e := hfa.symm.trans (PySem.W.mg_of X Gg a29)
  cases e
  have n_len := PySem.W.mg_none_of X Gg y_len
  have n_abs := PySem.W.mg_none_of X Gg y_abs
  have n_list := PySem.W.mg_none_of X Gg y_list
  have n_range := PySem.W.mg_none_of X Gg y_range
  have n_int := PySem.W.mg_none_of X Gg y_int
  have n_sorted := PySem.W.mg_none_of X Gg y_sorted
  have n_tuple := PySem.W.mg_none_of X Gg y_tuple
  have n_repr := PySem.W.mg_none_of X Gg y_repr
  have n_isinstance := PySem.W.mg_none_of X Gg y_isinstance
  have n_sum := PySem.W.mg_none_of X Gg y_sum
  have n_bool := PySem.W.mg_none_of X Gg y_bool
  have n_all := PySem.W.mg_none_of X Gg y_all
  have n_max := PySem.W.mg_none_of X Gg y_max
  have n_ValueError := PySem.W.mg_none_of X Gg y_ValueError
  have m_Bo := PySem.W.mg_of X Gg ABo
  have F1 := fun_mk (st := sPen) l1 c_1 k1
  have b1 := F1.binds (ps := ["_law_script"]) fun _ _ _ _ _ _ us hl => match us, hl with | [_], _ => rfl
  have g1 := PySem.W.mg_of X Gg a1
  have F2 := fun_mk (st := sTake) l2 c_2 k2
  have b2 := F2.binds (ps := ["_law_pen_here", "_law_many_here"]) fun _ _ _ _ _ _ us hl => match us, hl with | [_, _], _ => rfl
  have g2 := PySem.W.mg_of X Gg a2
  have F3 := fun_mk (st := sNames) l3 c_3 k3
  have b3 := F3.binds (ps := ["_law_pen_here", "_law_many_here"]) fun _ _ _ _ _ _ us hl => match us, hl with | [_, _], _ => rfl
  have g3 := PySem.W.mg_of X Gg a3
  have F4 := fun_mk (st := sWords) l4 c_4 k4
  have b4 := F4.binds (ps := ["_law_pen_here", "_law_places", "_law_goods", "_law_entries"]) fun _ _ _ _ _ _ us hl => match us, hl with | [_, _, _, _], _ => rfl
  have g4 := PySem.W.mg_of X Gg a4
  have F5 := fun_mk (st := sMoments) l5 c_5 k5
  have b5 := F5.binds (ps := ["_law_pen_here", "_law_many_here"]) fun _ _ _ _ _ _ us hl => match us, hl with | [_, _], _ => rfl
  have g5 := PySem.W.mg_of X Gg a5
  have F6 := fun_mk (st := sMany) l6 c_6 k6
  have b6 := F6.binds (ps := ["_law_pen_here"]) fun _ _ _ _ _ _ us hl => match us, hl with | [_], _ => rfl
  have g6 := PySem.W.mg_of X Gg a6
  have F7 := fun_mk (st := sEntryOf) l7 c_7 k7
  have b7 := F7.binds (ps := ["_law_pen_here", "_law_word", "_law_name", "_law_moment", "_law_places", "_law_goods", "_law_hands"]) fun _ _ _ _ _ _ us hl => match us, hl with | [_, _, _, _, _, _, _], _ => rfl
  have g7 := PySem.W.mg_of X Gg a7
  have F8 := fun_mk (st := sOwn) l8 c_8 k8
  have b8 := F8.binds (ps := ["_law_entry_here"]) fun _ _ _ _ _ _ us hl => match us, hl with | [_], _ => rfl
  have g8 := PySem.W.mg_of X Gg a8
  have F9 := fun_mk (st := sHouse) l9 c_9 k9
  have b9 := F9.binds (ps := ["_law_pen_here", "_law_many_here"]) fun _ _ _ _ _ _ us hl => match us, hl with | [_, _], _ => rfl
  have g9 := PySem.W.mg_of X Gg a9
  have F10 := fun_mk (st := sPlacesOf) l10 c_10 k10
  have b10 := F10.binds (ps := ["entry"]) fun _ _ _ _ _ _ us hl => match us, hl with | [_], _ => rfl
  have g10 := PySem.W.mg_of X Gg a10
  have F11 := fun_mk (st := sWithPlaces) l11 c_11 k11
  have b11 := F11.binds (ps := ["entry", "places"]) fun _ _ _ _ _ _ us hl => match us, hl with | [_, _], _ => rfl
  have g11 := PySem.W.mg_of X Gg a11
  have F12 := fun_mk (st := sGood) l12 c_12 k12
  have b12 := F12.binds (ps := ["entry"]) fun _ _ _ _ _ _ us hl => match us, hl with | [_], _ => rfl
  have g12 := PySem.W.mg_of X Gg a12
  have F13 := fun_mk (st := sAlong) l13 c_13 k13
  have b13 := F13.binds (ps := ["house"]) fun _ _ _ _ _ _ us hl => match us, hl with | [_], _ => rfl
  have g13 := PySem.W.mg_of X Gg a13
  have F14 := fun_mk (st := sFirst) l14 c_14 k14
  have b14 := F14.binds (ps := ["house"]) fun _ _ _ _ _ _ us hl => match us, hl with | [_], _ => rfl
  have g14 := PySem.W.mg_of X Gg a14
  have F15 := fun_mk (st := sExch) l15 c_15 k15
  have b15 := F15.binds (ps := ["there", "entry"]) fun _ _ _ _ _ _ us hl => match us, hl with | [_, _], _ => rfl
  have g15 := PySem.W.mg_of X Gg a15
  have F16 := fun_mk (st := sEntry) l16 c_16 k16
  have b16 := F16.binds (ps := ["_law_pen_here", "_law_name", "_law_moment", "_law_places", "_law_goods", "_law_hands"]) fun _ _ _ _ _ _ us hl => match us, hl with | [_, _, _, _, _, _], _ => rfl
  have g16 := PySem.W.mg_of X Gg a16
  have F18 := fun_mk (st := sChange) l18 c_18 k18
  have b18 := F18.binds (ps := ["entry", "place"]) fun _ _ _ _ _ _ us hl => match us, hl with | [_, _], _ => rfl
  have g18 := PySem.W.mg_of X Gg a18
  have F19 := fun_mk (st := sPieces) l19 c_19 k19
  have b19 := F19.binds (ps := ["house", "good"]) fun _ _ _ _ _ _ us hl => match us, hl with | [_, _], _ => rfl
  have g19 := PySem.W.mg_of X Gg a19
  have F20 := fun_mk (st := sRow) l20 c_20 k20
  have b20 := F20.binds (ps := ["piece", "opens", "closes", "inside"]) fun _ _ _ _ _ _ us hl => match us, hl with | [_, _, _, _], _ => rfl
  have g20 := PySem.W.mg_of X Gg a20
  have F21 := fun_mk (st := sPoT) l21 c_21 k21
  have b21 := F21.binds (ps := ["track", "told"]) fun _ _ _ _ _ _ us hl => match us, hl with | [_, _], _ => rfl
  have g21 := PySem.W.mg_of X Gg a21
  have F22 := fun_mk (st := sCounted) l22 c_22 k22
  have b22 := F22.binds (ps := ["entry"]) fun _ _ _ _ _ _ us hl => match us, hl with | [_], _ => rfl
  have g22 := PySem.W.mg_of X Gg a22
  have F23 := fun_mk (st := sNameOf) l23 c_23 k23
  have b23 := F23.binds (ps := ["entry"]) fun _ _ _ _ _ _ us hl => match us, hl with | [_], _ => rfl
  have g23 := PySem.W.mg_of X Gg a23
  have F26 := fun_mk (st := sTies) l26 c_26 k26
  have b26 := F26.binds (ps := ["house", "good"]) fun _ _ _ _ _ _ us hl => match us, hl with | [_, _], _ => rfl
  have g26 := PySem.W.mg_of X Gg a26
  have F27 := fun_mk (st := sEndT) l27 c_27 k27
  have b27 := F27.binds (ps := ["rows"]) fun _ _ _ _ _ _ us hl => match us, hl with | [_], _ => rfl
  have g27 := PySem.W.mg_of X Gg a27
  have F28 := fun_mk (st := sLookT) l28 c_28 k28
  have b28 := F28.binds (ps := ["rows", "told"]) fun _ _ _ _ _ _ us hl => match us, hl with | [_, _], _ => rfl
  have g28 := PySem.W.mg_of X Gg a28
  have F30 := fun_mk (st := sSomeT) l30 c_30 k30
  have b30 := F30.binds (ps := ["rows", "told"]) fun _ _ _ _ _ _ us hl => match us, hl with | [_, _], _ => rfl
  have g30 := PySem.W.mg_of X Gg a30
  have F31 := fun_mk (st := sLater) l31 c_31 k31
  have b31 := F31.binds (ps := ["house", "many"]) fun _ _ _ _ _ _ us hl => match us, hl with | [_, _], _ => rfl
  have g31 := PySem.W.mg_of X Gg a31
  have F51 := fun_mk (st := sWhole) l51 c_51 k51
  have b51 := F51.binds (ps := ["thing"]) fun _ _ _ _ _ _ us hl => match us, hl with | [_], _ => rfl
  have g51 := PySem.W.mg_of X Gg a51
  have F52 := fun_mk (st := sFits) l52 c_52 k52
  have b52 := F52.binds (ps := ["part", "sort"]) fun _ _ _ _ _ _ us hl => match us, hl with | [_, _], _ => rfl
  have g52 := PySem.W.mg_of X Gg a52
  have F53 := fun_mk (st := sIsMoment) l53 c_53 k53
  have b53 := F53.binds (ps := ["thing"]) fun _ _ _ _ _ _ us hl => match us, hl with | [_], _ => rfl
  have g53 := PySem.W.mg_of X Gg a53
  have F54 := fun_mk (st := sWithMo) l54 c_54 k54
  have b54 := F54.binds (ps := ["entry", "moment"]) fun _ _ _ _ _ _ us hl => match us, hl with | [_, _], _ => rfl
  have g54 := PySem.W.mg_of X Gg a54
  have F55 := fun_mk (st := sLTold) l55 c_55 k55
  have b55 := F55.binds (ps := ["_law_house_here", "_law_many_here"]) fun _ _ _ _ _ _ us hl => match us, hl with | [_, _], _ => rfl
  have g55 := PySem.W.mg_of X Gg a55
  have F56 := fun_mk (st := sLLater) l56 c_56 k56
  have b56 := F56.binds (ps := ["_law_house_here", "_law_many_here"]) fun _ _ _ _ _ _ us hl => match us, hl with | [_, _], _ => rfl
  have g56 := PySem.W.mg_of X Gg a56
  have F29 := fun_mk (st := sLaw) l29 c_29 k29
  have t13 := tab_is a13 l13 rfl lc13 hv13
  obtain ⟨hd13, tb13⟩ := PySem.W.tab_of G.T X r13 t13
  have t20 := tab_is a20 l20 rfl lc20 hv20
  obtain ⟨hd20, tb20⟩ := PySem.W.tab_of G.T X r20 t20
  have t26 := tab_is a26 l26 rfl lc26 hv26
  obtain ⟨hd26, tb26⟩ := PySem.W.tab_of G.T X r26 t26
  have t31 := tab_is a31 l31 rfl lc31 hv31
  obtain ⟨hd31, tb31⟩ := PySem.W.tab_of G.T X r31 t31

  refine ⟨PySem.W.fnOf "law" "law" (defArgs sLaw) (defBody sLaw) (defScope sLaw) .none kV29 dc29 pm29 an29 cd29 ct29, [(c13, T13), (c20, T20), (c26, T26), (c31, T31)], spLaw K [T13, T20, T31] T26, ⟨fun p hp => ?_, fun p hp => ?_, fun p hp => ?_⟩, fun s v => .of_eq rfl, fun H a ns hlen hT hS => ?_, fun base _ _ TB => ?_⟩
  · simp only [List.mem_cons, List.not_mem_nil, or_false] at hp
    rcases hp with rfl | rfl | rfl | rfl
    · exact tb13
    · exact tb20
    · exact tb26
    · exact tb31
  · simp only [List.mem_cons, List.not_mem_nil, or_false] at hp
    rcases hp with rfl | rfl | rfl | rfl
    · exact nT13
    · exact nT20
    · exact nT26
    · exact nT31
  · simp only [List.mem_cons, List.not_mem_nil, or_false] at hp
    rcases hp with rfl | rfl | rfl | rfl
    · exact hd13
    · exact hd20
    · exact hd26
    · exact hd31
  · refine ⟨a, ns, rfl, hS, fun T zT => ?_, LamX.TabS.nil (hT (c26, _) (by simp)), fun _ => rfl⟩
    simp only [List.mem_cons, List.not_mem_nil, or_false] at zT
    rcases zT with rfl | rfl | rfl
    · exact ⟨#[], hT (c13, _) (by simp), trivial⟩
    · exact ⟨#[], hT (c20, _) (by simp), trivial⟩
    · exact ⟨#[], hT (c31, _) (by simp), trivial⟩
  · have B13 := TB (c13, T13) (by simp)
    have B20 := TB (c20, T20) (by simp)
    have B26 := TB (c26, T26) (by simp)
    have B31 := TB (c31, T31) (by simp)
    have TT : TakeT l.prog w K mg base f2 _ := ⟨ok_take F2 n_len n_abs, g2, k2, b2⟩
    have N : DefT l.prog w K mg base "_law_names" 2 f3 _ _ spNames := ⟨ok_names F3 TT n_len n_range, g3, k3, b3⟩
    have MY : DefT l.prog w K mg base "_law_many" 2 f6 _ _ spMany := ⟨ok_many F6 TT, g6, k6, b6⟩
    have EO : DefT l.prog w K mg base "_law_entry_of" 3 f7 _ _ spEntryOf := ⟨ok_entryOf F7 TT MY n_len, g7, k7, b7⟩
    have EN : DefT l.prog w K mg base "_law_entry" 4 f16 _ _ spEntry := ⟨ok_entry F16 TT EO, g16, k16, b16⟩
    have WS : DefT l.prog w K mg base "_law_words" 3 f4 _ _ spWords := ⟨ok_words F4 TT N, g4, k4, b4⟩
    have MO : DefT l.prog w K mg base "_law_moments" 2 f5 _ _ spMoments := ⟨ok_moments F5 TT n_len n_range n_int, g5, k5, b5⟩
    have OD : DefT l.prog w K mg base "_law_order" 1 f8 _ _ spOrd := ⟨ok_own F8 n_int, g8, k8, b8⟩
    have HS : DefT l.prog w K mg base "_law_house" 5 f9 _ _ spHouse := ⟨ok_house F9 TT WS MO EN OD n_range n_sorted n_tuple, g9, k9, b9⟩
    have PO : DefT l.prog w K mg base "places_of" 1 f10 _ _ spPlaces := ⟨ok_placesOf F10, g10, k10, b10⟩
    have WP : DefT l.prog w K mg base "with_places" 1 f11 _ _ spWithPl := ⟨ok_withPl F11 n_len, g11, k11, b11⟩
    have GO : DefT l.prog w K mg base "good_of" 1 f12 _ _ spGood := ⟨ok_good F12, g12, k12, b12⟩
    have FI : DefT l.prog w K mg base "tracks_at_first" 1 f14 _ _ spFirst := ⟨ok_first F14, g14, k14, b14⟩
    have XC : DefT l.prog w K mg base "exchanged" 2 f15 _ _ spExch := ⟨ok_exch F15 PO, g15, k15, b15⟩
    have AL : DefT l.prog w K mg base "along_tracks" 3 f13 _ _ (spAlong [T13, T20, T31]) := ⟨ok_along l13 c_13 ⟨B13.code, B13.bm, B13.gP⟩ (by simp) PO WP FI XC n_tuple, g13, k13, b13⟩
    have CH : DefT l.prog w K mg base "change_at" 1 f18 _ _ spChange := ⟨ok_change F18, g18, k18, b18⟩
    have CO : DefT l.prog w K mg base "counted" 1 f22 _ _ spCounted := ⟨ok_counted F22, g22, k22, b22⟩
    have NO : DefT l.prog w K mg base "name_of" 1 f23 _ _ spNameOf := ⟨ok_nameOf F23, g23, k23, b23⟩
    have RW : DefT l.prog w K mg base "piece_row" 3 f20 _ _ (spRow [T13, T20, T31]) := ⟨ok_row l20 c_20 ⟨B20.code, B20.bm, B20.gP⟩ (by simp) CH CO NO n_tuple n_sum, g20, k20, b20⟩
    have PT : DefT l.prog w K mg base "pieces_of_track" 4 f21 _ _ (spPoT [T13, T20, T31]) := ⟨ok_pot F21 RW n_len, g21, k21, b21⟩
    have PI : DefT l.prog w K mg base "pieces" 5 f19 _ _ (spPieces [T13, T20, T31]) := ⟨ok_pieces F19 AL GO PT PO, g19, k19, b19⟩
    have ET : DefT l.prog w K mg base "end_ties" 1 f27 _ _ spEnds := ⟨ok_ends F27, g27, k27, b27⟩
    have LK : DefT l.prog w K mg base "look_ties" 1 f28 _ _ spLooks := ⟨ok_looks F28, g28, k28, b28⟩
    have SM : DefT l.prog w K mg base "some_ties" 1 f30 _ _ spSomes := ⟨ok_somes F30, g30, k30, b30⟩
    have nPt : T26 ∉ [T13, T20, T31] := by
      simp only [List.mem_cons, List.not_mem_nil, or_false, not_or]
      exact ⟨fun z => ne1326 z.symm, fun z => ne2026 z.symm, ne2631⟩
    have TI : DefT l.prog w K mg base "ties" 6 f26 _ _ (spTies [T13, T20, T31] T26) := ⟨ok_ties l26 c_26 B26 nPt PI AL GO ET LK SM n_sorted, g26, k26, b26⟩
    have EH : Err K mg "NoHouse" cH := ⟨PySem.W.mg_of X Gg HH, exH, kpH, sbH, tyH⟩
    have WH : DefT l.prog w K mg base "is_whole" 1 f51 _ _ spWholeI := ⟨ok_wholeI F51 n_isinstance n_int n_bool, g51, k51, b51⟩
    have FT : DefT l.prog w K mg base "fits" 2 f52 _ _ spFitsM := ⟨ok_fitsM F52 WH m_Bo ⟨esBo, nBo, _, LBo, litBo, gBo1, rfl⟩ (fun H => .inr ⟨_, _, _, LBo1, rfl, rfl, zBo1, vBo1⟩), g52, k52, b52⟩
    have IM : DefT l.prog w K mg base "is_moment" 3 f53 _ _ spIsMo := ⟨ok_isMo F53 FT, g53, k53, b53⟩
    have WM : DefT l.prog w K mg base "with_moment" 1 f54 _ _ spWithMo := ⟨ok_withMo F54, g54, k54, b54⟩
    have ML : DefX l.prog w K mg base "made_later" 5 f31 _ _ (spLater cH [T13, T20, T31]) := ⟨ok_later l31 c_31 ⟨B31.code, B31.bm, B31.gP⟩ (by simp) IM WM EH n_all n_tuple, g31, k31, b31⟩
    have CF : ClsF K mg ⟨ccl, ccd, cnd, cne, cnf, cng, cngd, cnm, cnn, cnp, cnr, cnt, cnth, cnti, ctm, ctw⟩ cE cH := ⟨PySem.W.mg_of X Gg Hcl, PySem.W.mg_of X Gg Hcd, PySem.W.mg_of X Gg Hnd, PySem.W.mg_of X Gg Hne, PySem.W.mg_of X Gg Hnf, PySem.W.mg_of X Gg Hng, PySem.W.mg_of X Gg Hngd, PySem.W.mg_of X Gg Hnm, PySem.W.mg_of X Gg Hnn, PySem.W.mg_of X Gg Hnp, PySem.W.mg_of X Gg Hnr, PySem.W.mg_of X Gg Hnt, PySem.W.mg_of X Gg Hnth, PySem.W.mg_of X Gg Hnti, PySem.W.mg_of X Gg Htm, PySem.W.mg_of X Gg Htw, PySem.W.mg_of X Gg HE, PySem.W.mg_of X Gg HH⟩
    have IS : IsF K ⟨ccl, ccd, cnd, cne, cnf, cng, cngd, cnm, cnn, cnp, cnr, cnt, cnth, cnti, ctm, ctw⟩ cE cH := ⟨⟨e1H, e2H, sbH, e4H, e5H, e6H, e7H, e8H⟩, vH, t1H, t2H, ihH, cmH⟩
    have LT : DefT l.prog w K mg base "_law_told" 6 f55 _ _ (spLTold [T13, T20, T31]) := ⟨ok_ltold F55 ML CF IS n_isinstance n_ValueError n_int, g55, k55, b55⟩
    have LL : DefT l.prog w K mg base "_law_later" 1 f56 _ _ spLLater := ⟨ok_llater F56 n_tuple, g56, k56, b56⟩
    exact ok_law F29 nPt ⟨ok_pen F1 n_list, g1, k1, b1⟩ TT HS TI PI LL LT ML n_repr n_max
end Shelf
open PySem PySem.W PyProof.Rows
set_option maxHeartbeats 0 in
theorem PySem.Challenge.cw_shelfcounts_k15_whole_all_moments_later_holds : PySem.Challenge.rw_shelfcounts_k15_whole_all_moments_later.Holds := by
  w_on; o_law; k_head; (case hw => w_witness2)
  k_fill
  refine Shelf.end_G (l := PySem.Challenge.rw_shelfcounts_k15_whole_all_moments_later) (n := 63) (k := 7) (x := "_law_script") rfl (by decide) rfl ⟨rfl, by decide, by decide⟩ (fun w h Y => PySem.W.km_in_of Y) ?F
  case F =>
    intro w s0 mg mb fa h G KX hmg
    refine' Shelf.all_mk G KX hmg ?a1 ?l1 ?c_1 ?k1 ?a2 ?l2 ?c_2 ?k2 ?a3 ?l3 ?c_3 ?k3 ?a4 ?l4 ?c_4 ?k4 ?a5 ?l5 ?c_5 ?k5 ?a6 ?l6 ?c_6 ?k6 ?a7 ?l7 ?c_7 ?k7 ?a8 ?l8 ?c_8 ?k8 ?a9 ?l9 ?c_9 ?k9 ?a10 ?l10 ?c_10 ?k10 ?a11 ?l11 ?c_11 ?k11 ?a12 ?l12 ?c_12 ?k12 ?a13 ?l13 ?c_13 ?k13 ?lc13 ?hv13 ?nT13 ?r13 ?a14 ?l14 ?c_14 ?k14 ?a15 ?l15 ?c_15 ?k15 ?a16 ?l16 ?c_16 ?k16 ?a18 ?l18 ?c_18 ?k18 ?a19 ?l19 ?c_19 ?k19 ?a20 ?l20 ?c_20 ?k20 ?lc20 ?hv20 ?nT20 ?r20 ?a21 ?l21 ?c_21 ?k21 ?a22 ?l22 ?c_22 ?k22 ?a23 ?l23 ?c_23 ?k23 ?a26 ?l26 ?c_26 ?k26 ?lc26 ?hv26 ?nT26 ?r26 ?a27 ?l27 ?c_27 ?k27 ?a28 ?l28 ?c_28 ?k28 ?a30 ?l30 ?c_30 ?k30 ?a31 ?l31 ?c_31 ?k31 ?lc31 ?hv31 ?nT31 ?r31 ?a51 ?l51 ?c_51 ?k51 ?a52 ?l52 ?c_52 ?k52 ?a53 ?l53 ?c_53 ?k53 ?a54 ?l54 ?c_54 ?k54 ?a55 ?l55 ?c_55 ?k55 ?a56 ?l56 ?c_56 ?k56 ?a29 ?l29 ?c_29 ?k29 ?ne1320 ?ne1326 ?ne2026 ?ne1331 ?ne2031 ?ne2631 ?ABo ?LBo ?litBo ?lowBo ?gBo1 ?LBo1 ?zBo1 ?vBo1 ?HE ?HH ?Hcl ?Hcd ?Hnd ?Hne ?Hnf ?Hng ?Hngd ?Hnm ?Hnn ?Hnp ?Hnr ?Hnt ?Hnth ?Hnti ?Htm ?Htw ?exH ?kpH ?sbH ?tyH ?e1H ?e2H ?e4H ?e5H ?e6H ?e7H ?e8H ?vH ?t1H ?t2H ?ihH ?cmH ?y_len ?y_abs ?y_list ?y_range ?y_int ?y_sorted ?y_tuple ?y_repr ?y_isinstance ?y_sum ?y_bool ?y_all ?y_max ?y_ValueError
    (case a1 => k_is); (case l1 => k_is); (case c_1 => k_is); (case k1 => k_is); (case a2 => k_is); (case l2 => k_is)
    (case c_2 => k_is); (case k2 => k_is); (case a3 => k_is); (case l3 => k_is); (case c_3 => k_is); (case k3 => k_is)
    (case a4 => k_is); (case l4 => k_is); (case c_4 => k_is); (case k4 => k_is); (case a5 => k_is); (case l5 => k_is)
    (case c_5 => k_is); (case k5 => k_is); (case a6 => k_is); (case l6 => k_is); (case c_6 => k_is); (case k6 => k_is)
    (case a7 => k_is); (case l7 => k_is); (case c_7 => k_is); (case k7 => k_is); (case a8 => k_is); (case l8 => k_is)
    (case c_8 => k_is); (case k8 => k_is); (case a9 => k_is); (case l9 => k_is); (case c_9 => k_is); (case k9 => k_is)
    (case a10 => k_is); (case l10 => k_is); (case c_10 => k_is); (case k10 => k_is); (case a11 => k_is); (case l11 => k_is)
    (case c_11 => k_is); (case k11 => k_is); (case a12 => k_is); (case l12 => k_is); (case c_12 => k_is); (case k12 => k_is)
    (case a13 => k_is); (case l13 => k_is); (case c_13 => k_is); (case k13 => k_is); (case lc13 => k_is); (case hv13 => rfl)
    (case nT13 => kernel_rfl); (case r13 => rfl); (case a14 => k_is); (case l14 => k_is); (case c_14 => k_is); (case k14 => k_is)
    (case a15 => k_is); (case l15 => k_is); (case c_15 => k_is); (case k15 => k_is); (case a16 => k_is); (case l16 => k_is)
    (case c_16 => k_is); (case k16 => k_is); (case a18 => k_is); (case l18 => k_is); (case c_18 => k_is); (case k18 => k_is)
    (case a19 => k_is); (case l19 => k_is); (case c_19 => k_is); (case k19 => k_is); (case a20 => k_is); (case l20 => k_is)
    (case c_20 => k_is); (case k20 => k_is); (case lc20 => k_is); (case hv20 => rfl); (case nT20 => kernel_rfl); (case r20 => rfl)
    (case a21 => k_is); (case l21 => k_is); (case c_21 => k_is); (case k21 => k_is); (case a22 => k_is); (case l22 => k_is)
    (case c_22 => k_is); (case k22 => k_is); (case a23 => k_is); (case l23 => k_is); (case c_23 => k_is); (case k23 => k_is)
    (case a26 => k_is); (case l26 => k_is); (case c_26 => k_is); (case k26 => k_is); (case lc26 => k_is); (case hv26 => rfl)
    (case nT26 => kernel_rfl); (case r26 => rfl); (case a27 => k_is); (case l27 => k_is); (case c_27 => k_is); (case k27 => k_is)
    (case a28 => k_is); (case l28 => k_is); (case c_28 => k_is); (case k28 => k_is); (case a30 => k_is); (case l30 => k_is)
    (case c_30 => k_is); (case k30 => k_is); (case a31 => k_is); (case l31 => k_is); (case c_31 => k_is); (case k31 => k_is)
    (case lc31 => k_is); (case hv31 => rfl); (case nT31 => kernel_rfl); (case r31 => rfl); (case a51 => k_is); (case l51 => k_is)
    (case c_51 => k_is); (case k51 => k_is); (case a52 => k_is); (case l52 => k_is); (case c_52 => k_is); (case k52 => k_is)
    (case a53 => k_is); (case l53 => k_is); (case c_53 => k_is); (case k53 => k_is); (case a54 => k_is); (case l54 => k_is)
    (case c_54 => k_is); (case k54 => k_is); (case a55 => k_is); (case l55 => k_is); (case c_55 => k_is); (case k55 => k_is)
    (case a56 => k_is); (case l56 => k_is); (case c_56 => k_is); (case k56 => k_is); (case a29 => k_is); (case l29 => k_is)
    (case c_29 => k_is); (case k29 => k_is); (case ne1320 => decide); (case ne1326 => decide); (case ne2026 => decide); (case ne1331 => decide)
    (case ne2031 => decide); (case ne2631 => decide); (case ABo => k_is); (case LBo => k_is); (case litBo => repeat' (first | exact True.intro | refine ⟨⟨_, _, rfl, rfl⟩, ?_⟩)); (case lowBo => rfl)
    (case gBo1 => k_is); (case LBo1 => k_is); (case zBo1 => decide); (case vBo1 => repeat' (first | exact .nil | refine .cons ⟨_, rfl⟩ ?_)); (case HE => k_is); (case HH => k_is)
    (case Hcl => k_is); (case Hcd => k_is); (case Hnd => k_is); (case Hne => k_is); (case Hnf => k_is); (case Hng => k_is)
    (case Hngd => k_is); (case Hnm => k_is); (case Hnn => k_is); (case Hnp => k_is); (case Hnr => k_is); (case Hnt => k_is)
    (case Hnth => k_is); (case Hnti => k_is); (case Htm => k_is); (case Htw => k_is); (case exH => k_exc); (case kpH => k_is)
    (case sbH => k_is); (case tyH => k_is); (case e1H => k_is); (case e2H => k_is); (case e4H => k_is); (case e5H => k_is)
    (case e6H => k_is); (case e7H => k_is); (case e8H => k_is); (case vH => kernel_rfl); (case t1H => kernel_rfl); (case t2H => kernel_rfl)
    (case ihH => kernel_rfl); (case cmH => kernel_rfl); (case y_len => k_is); (case y_abs => k_is); (case y_list => k_is); (case y_range => k_is)
    (case y_int => k_is); (case y_sorted => k_is); (case y_tuple => k_is); (case y_repr => k_is); (case y_isinstance => k_is); (case y_sum => k_is)
    (case y_bool => k_is); (case y_all => k_is); (case y_max => k_is); (case y_ValueError => k_is)

import PyProof.Rows.All
import Wide.All
import OpenK.AllK
import Wide.FinOn
import HandS.ForMost
import HandS.ForExc
import HandS.Nested
import HandS.Star
import HandS.Finally
import HandS.EndTab
import HandS.Replace
import HandS.Defaults
import HandS.ClsMeth
import HandS.MakeKwOnly
import KE.KMinKey
import HandS.SortKw
import KE.KDictCopyH
import KE.KDictIter
import HandS.IterVal
import HandS.DictTup
import KE.SortUse
import HandS.Rev
import PyProof.ListNew
import HandS.Style
import HandS.GenYield
import HandS.GenList
import HandS.Walk
import KE.DatumOrd
import KE.KTupSum
import HandS.SortRule
import KE.DataFind
import HandS.SetFor
import HandS.Strs
import HandS.WordsExc
import HandS.ExcIs
import HandS.Wide
import HandS.WideBits
import HandS.IsInst
import HandS.Codes
import HandS.Comp
import HandS.Conv
import HandS.SortInts
import HandS.MethStar
import PySem.Challenge.RW_oncebuilt_k66_queues_without_members
import HandS.DictComp
import KE.KItemsList
import PyProof.DictValues
import KE.KDictList
import HandS.Small
set_option Elab.async false
set_option linter.all false
set_option maxRecDepth 100000
set_option maxHeartbeats 4000000
namespace Inf
open PySem PySem.Spec PyProof.Rows L2 NdefX LamX
/-! ### a cell that is told -/
def CellO (c : Addr) (v : V) : HO := .ext fun h => ∃ u, L2.RelV v u ∧ h.IsCell c (some u)
theorem cellO_at {P : Program} {w : World} {H : Hp} {h : Heap} {c : Addr} {v : V} (hok : HOk P w H h) (e : H c = some (CellO c v)) : ∃ u, L2.RelV v u ∧ h.IsCell c (some u) := by
  obtain ⟨z, _, _⟩ := hok c _ e
  exact z
theorem cellO_ok {P : Program} {w : World} {H : Hp} {h : Heap} {c : Addr} {v : V} (x : ∃ u, L2.RelV v u ∧ h.IsCell c (some u)) : ObjOk P w H h c (CellO c v) := by
  refine ⟨x, ?_, fun h1 h2 ⟨u, r, o, e, d⟩ k => ⟨u, r, o, k o e, d⟩⟩
  obtain ⟨u, _, o, e, _⟩ := x
  exact ⟨o, e⟩
/-! ### cells left out, and put back -/
def cut (cs : List Addr) (H : Hp) : Hp := fun b => if b ∈ cs then Option.none else H b
def mend (cs : List Addr) (H H1 : Hp) : Hp := fun b => if b ∈ cs then H b else H1 b
theorem cut_in {cs : List Addr} {H : Hp} {b : Addr} (h : b ∈ cs) : cut cs H b = Option.none := if_pos h
theorem cut_out {cs : List Addr} {H : Hp} {b : Addr} (h : b ∉ cs) : cut cs H b = H b := if_neg h
theorem mend_in {cs : List Addr} {H H1 : Hp} {b : Addr} (h : b ∈ cs) : mend cs H H1 b = H b := if_pos h
theorem mend_out {cs : List Addr} {H H1 : Hp} {b : Addr} (h : b ∉ cs) : mend cs H H1 b = H1 b := if_neg h
def cellsOf (F : NF) (fr : List Str) : List Addr := fr.filterMap fun y => F.cl.lookup y
theorem mem_cells {F : NF} {fr : List Str} {c : Addr} : c ∈ cellsOf F fr ↔ ∃ y ∈ fr, F.cl.lookup y = some c := List.mem_filterMap
/-- the function F stands at f, and its captured cells hold ws -/
structure Clo (H : Hp) (f : Addr) (F : NF) (fr : List Str) (ws : List V) : Prop where
  fn : H f = some (FnO f F)
  code : H F.c = some (CodeO F.c F.qual)
  len : ws.length = fr.length
  dom : ∀ y c, F.cl.lookup y = some c → y ∈ fr
  inj : ∀ x y c, F.cl.lookup x = some c → F.cl.lookup y = some c → x = y
  at_ : ∀ (i : Nat) (y : Str), fr[i]? = some y → ∃ c v, F.cl.lookup y = some c ∧ ws[i]? = some v ∧ H c = some (CellO c v)
theorem Clo.same {H H1 : Hp} {f : Addr} {F : NF} {fr : List Str} {ws : List V} (h : Clo H f F fr ws) (s : Same H H1) : Clo H1 f F fr ws :=
  ⟨s _ _ h.fn, s _ _ h.code, h.len, h.dom, h.inj, fun i y e => by
    obtain ⟨c, v, a, b, d⟩ := h.at_ i y e
    exact ⟨c, v, a, b, s _ _ d⟩⟩
theorem Clo.cell {H : Hp} {f : Addr} {F : NF} {fr : List Str} {ws : List V} (h : Clo H f F fr ws) {b : Addr} (hb : b ∈ cellsOf F fr) : ∃ v, H b = some (CellO b v) := by
  obtain ⟨y, hy, e⟩ := mem_cells.mp hb
  obtain ⟨i, hi⟩ := List.mem_iff_getElem?.mp hy
  obtain ⟨c, v, a, _, d⟩ := h.at_ i y hi
  rw [e] at a
  cases a
  exact ⟨v, d⟩
/-- what is no thing by a word of its own is no cell -/
theorem Clo.out {H : Hp} {f : Addr} {F : NF} {fr : List Str} {ws : List V} (h : Clo H f F fr ws) {b : Addr} {o : HO} (e : H b = some o) (n : ∀ φ, o ≠ .ext φ) : b ∉ cellsOf F fr := fun hb => by
  obtain ⟨v, d⟩ := h.cell hb
  rw [e] at d
  exact n _ (Option.some.inj d)
section
variable {P : Program} {w : World} {K : PySem.W.Frag} {mg : Str → Option Value} {base : Heap} {k : Nat} {f : Addr} {F : NF} {ps fr : List Str} {sp : List (Option V) → Sp}
/-- A FUNCTION THAT WAS MADE IN A DEF, called from anywhere: its cells are told; while it runs they are left out, behind it they are put back -/
theorem clo_fnR (N : NOk P w K mg base CX0 k f F ps fr sp) :
    FnR P w K mg base CX0 k f (fun vs H Q E => ∃ ws, Clo H f F fr ws ∧ sp (ws.map some) vs (cut (cellsOf F fr) H) (fun v H1 => (∀ b, b ∈ cellsOf F fr → H1 b = Option.none) → Q v (mend (cellsOf F fr) H H1)) E) := by
  intro A outer s H us vs Q E hr e0 r hsp
  obtain ⟨ws, hc, hsp⟩ := hsp
  have cellAt : ∀ b, b ∈ cellsOf F fr → ∃ v, H b = some (CellO b v) := fun b hb => hc.cell hb
  have fnout : f ∉ cellsOf F fr := fun hb => by
    obtain ⟨v, e⟩ := cellAt f hb
    obtain ⟨u, _, o, e1, e2⟩ := cellO_at e0.hok e
    obtain ⟨od, sl, doc, pm, ctv, e3⟩ := fnO_at e0.hok hc.fn
    rw [e1] at e3
    cases e3
    cases e2
  have cout : F.c ∉ cellsOf F fr := fun hb => by
    obtain ⟨v, e⟩ := cellAt F.c hb
    obtain ⟨u, _, o, e1, e2⟩ := cellO_at e0.hok e
    obtain ⟨⟨oc, vs', t, h1, h2, h3⟩, _, _⟩ := e0.hok F.c _ hc.code
    rw [e1] at h1
    cases h1
    rw [e2] at h2
    cases h2
  have hokc : HOk P w (cut (cellsOf F fr) H) s.heap := fun b o e => by
    by_cases hb : b ∈ cellsOf F fr
    · rw [cut_in hb] at e
      cases e
    · rw [cut_out hb] at e
      refine (e0.hok b o e).stay (fun c u _ q => q) (fun c q => ?_) fun c xs q => ?_
      · rw [cut_out (hc.out q (fun φ z => nomatch z))]
        exact q
      · rw [cut_out (hc.out q (fun φ z => nomatch z))]
        exact q
  have noneC : ∀ b, H b = Option.none → cut (cellsOf F fr) H b = Option.none := fun b e => by
    by_cases hb : b ∈ cellsOf F fr
    · exact cut_in hb
    · rw [cut_out hb]
      exact e
  have e1 : Env0 P w K mg base A outer s (cut (cellsOf F fr) H) := ⟨e0.frames, e0.mod, fun b o q => ⟨(e0.bs b o q).1, noneC b (e0.bs b o q).2⟩, e0.bsz, e0.funs, fun b hb => noneC b (e0.frf b hb), hokc, e0.bare⟩
  have C : CellsAt F.cl fr (ws.map some) s.heap (cut (cellsOf F fr) H) := by
    refine ⟨by rw [List.length_map]; exact hc.len, fun y c e => ?_, hc.inj, fun i y e => ?_⟩
    · have hb : c ∈ cellsOf F fr := mem_cells.mpr ⟨y, hc.dom y c e, e⟩
      obtain ⟨v, d⟩ := cellAt c hb
      obtain ⟨u, _, z⟩ := cellO_at e0.hok d
      exact ⟨cut_in hb, _, z⟩
    · obtain ⟨c, v, a, b, d⟩ := hc.at_ i y e
      refine ⟨c, a, fun v' e' => ?_⟩
      rw [List.getElem?_map, b] at e'
      cases e'
      obtain ⟨u, r', z⟩ := cellO_at e0.hok d
      exact ⟨u, r', z⟩
  refine codeAny_mono (N.run A outer s (cut (cellsOf F fr) H) us vs (ws.map some) _ E hr e1 (by rw [cut_out fnout]; exact hc.fn) (by rw [cut_out cout]; exact hc.code) C r hsp) fun res s' hq => ?_
  cases res with
  | error e => exact hq
  | ok fl =>
    cases fl with
    | next => exact hq
    | brk => exact hq
    | cont => exact hq
    | ret u =>
      obtain ⟨v, H1, os, bare, un, hok1, rv, q⟩ := hq
      have gone : ∀ b, b ∈ cellsOf F fr → H1 b = Option.none := fun b hb => by
        obtain ⟨v, d⟩ := cellAt b hb
        obtain ⟨u, _, o, z1, z2⟩ := cellO_at e0.hok d
        exact un.free b o z1 (cut_in hb) (by simp)
      have notfr : ∀ b, b ∈ cellsOf F fr → b ∉ frs outer := fun b hb z => by
        obtain ⟨v, d⟩ := cellAt b hb
        rw [e0.frf b z] at d
        cases d
      refine ⟨v, mend (cellsOf F fr) H H1, os, bare, ⟨fun b o a n h1 h2 => un.keep b o a (noneC b n) h1 h2, fun b o a n h1 h2 => un.slot b o a (noneC b n) h1 h2, fun b o a n h2 => ?_, un.there, fun b xs e => ?_, fun b o u e => ?_, fun b ps e => ?_⟩, fun b o e => ?_, rv, q gone⟩
      · by_cases hb : b ∈ cellsOf F fr
        · rw [mend_in hb]
          exact n
        · rw [mend_out hb]
          exact un.free b o a (noneC b n) h2
      · have hb := hc.out e (fun φ z => nomatch z)
        rw [mend_out hb]
        exact un.tups b xs (by rw [cut_out hb]; exact e)
      · have hb := hc.out e (fun φ z => nomatch z)
        rw [mend_out hb]
        exact un.frzs b o u (by rw [cut_out hb]; exact e)
      · have hb := hc.out e (fun φ z => nomatch z)
        rw [mend_out hb]
        exact un.tbls b ps (by rw [cut_out hb]; exact e)
      · by_cases hb : b ∈ cellsOf F fr
        · rw [mend_in hb] at e
          obtain ⟨v', d⟩ := cellAt b hb
          rw [d] at e
          cases e
          obtain ⟨u', r', o', z1, z2⟩ := cellO_at e0.hok d
          exact cellO_ok ⟨u', r', o', un.keep b o' z1 (cut_in hb) (notfr b hb) (by simp), z2⟩
        · rw [mend_out hb] at e
          refine (hok1 b o e).stay (fun c u _ q => q) (fun c q => ?_) fun c xs q => ?_
          · have hb' : c ∉ cellsOf F fr := fun z => by
              rw [gone c z] at q
              cases q
            rw [mend_out hb']
            exact q
          · have hb' : c ∉ cellsOf F fr := fun z => by
              rw [gone c z] at q
              cases q
            rw [mend_out hb']
            exact q
end
theorem mend_at {cs : List Addr} {H H1 : Hp} {a : Addr} {o : HO} (g : ∀ b, b ∈ cs → H1 b = Option.none) (e : H1 a = some o) : mend cs H H1 a = some o := by
  rw [mend_out fun z => by rw [g a z] at e; cases e]
  exact e
theorem cut_at {cs : List Addr} {H : Hp} {a : Addr} {o : HO} (n : a ∉ cs) (e : H a = some o) : cut cs H a = some o := (cut_out n).trans e
end Inf

set_option Elab.async false
set_option linter.all false
set_option maxRecDepth 100000
set_option maxHeartbeats 4000000
namespace Inf
open PySem PySem.Spec PyProof.Rows L2 NdefX LamX
/-! ### a body that ends in a return: what its names hold there is told -/
abbrev TSR := (L2.St → V → Hp → Prop) → L2.St → Hp → Prop
structure PSsR (X : Cx) (ss : List Stmt) (t : TSR) : Prop where
  run : ∀ (pins : List (Addr × Obj)) (s : Shared) (σ : L2.St) (H : Hp) (R : L2.St → V → Hp → Prop), Inv X pins σ H s → t R σ H →
    wpAny (model X.prog X.w) X.A (execs ss X.env) (fun fl s' => ∃ u v σ' H', fl = .ret u ∧ Inv X pins σ' H' s' ∧ L2.RelV v u ∧ R σ' v H') X.xe s
theorem psr_cons {X : Cx} {st : Stmt} {rest : List Stmt} {t : TS} {u : TSR} (h1 : PS X st t) (h2 : PSsR X rest u) : PSsR X (st :: rest) (fun R σ H => t { nx := fun σ' H' => u R σ' H', rt := fun _ _ => False } σ H) := by
  refine ⟨fun pins s σ H R I h => ?_⟩
  refine wpAny_execs_cons (thn (h1.run pins s σ H { nx := fun σ' H' => u R σ' H', rt := fun _ _ => False } I h) fun fl s1 q => ?_)
  cases fl with
  | next =>
    obtain ⟨σ1, H1, I1, q1⟩ := q
    exact h2.run pins s1 σ1 H1 R I1 q1
  | brk =>
    obtain ⟨_, _, _, q1⟩ := q
    exact False.elim q1
  | cont =>
    obtain ⟨_, _, _, q1⟩ := q
    exact False.elim q1
  | ret v =>
    obtain ⟨_, _, _, _, _, q1⟩ := q
    exact False.elim q1
theorem psr_ret {X : Cx} {e : Expr} {pos : Pos} {te : TE} (he : PE X e te) : PSsR X [.Return (some e) pos] (fun R σ H => te σ H (R σ)) := by
  refine ⟨fun pins s σ H R I h => ?_⟩
  refine wpAny_execs_cons (wpAny_Return_some (thn (he.run pins s σ H _ I h) fun v s1 ⟨x, H1, I1, r1, q1⟩ => ?_))
  exact ⟨v, x, σ, H1, rfl, I1, r1, q1⟩
/-! ### a def that returns things that hold its names -/
/-- the heap behind the return: the def's cells are told -/
structure Fin (cells : List (Str × Addr)) (names : List (Str × NameKind)) (N : List Str) (σ : L2.St) (H H' : Hp) : Prop where
  same : Same H H'
  gone : ∀ b, H' b = Option.none → H b = Option.none
  inj : ∀ x y c, cells.lookup x = some c → cells.lookup y = some c → x = y
  at_ : ∀ (i : Nat) (y : Str) (c : Addr) (v : V), N[i]? = some y → names.lookup y = some .cell → cells.lookup y = some c → σ[i]? = some (some v) → H' c = some (CellO c v)
theorem cells_big : ∀ (names : List (Str × NameKind)) (n lo : Nat) (acc : List (Str × Addr)), (∀ p ∈ acc, lo ≤ p.2) → lo ≤ n → ∀ p ∈ cellsFrom n names acc, lo ≤ p.2
  | [], n, lo, acc, h, _ => h
  | (x, kd) :: r, n, lo, acc, h, hn => by
    unfold cellsFrom
    split
    · exact cells_big r (n + 1) lo _ (fun p hp => by
        rcases List.mem_cons.mp hp with rfl | hp
        · exact hn
        · exact h p hp) (by omega)
    · exact cells_big r n lo acc h hn
section
variable {CX : CXT} {P : Program} {w : World} {K : PySem.W.Frag} {mg : Str → Option Value} {base : Heap} {N ps : List Str} {qual : Str} {scope : Scope} {f : Addr} {cdv : Value} {A : Around} {outer : List Env} {s s' : Shared} {H H' : Hp} {E : XK} {σ : L2.St} {Q : VK}
open Classical in
theorem fin_make (nd : N.Nodup) (J : Inv (cxOf CX P w K mg base N qual scope f cdv A outer s H E) [] σ H' s') :
    ∃ H'', Fin (envOfC qual scope s.heap.objs.size f cdv).cells scope.names N σ H' H'' ∧ Un (frs outer) [] H H'' s.heap s'.heap ∧ HOk P w H'' s'.heap := by
  have ge : ∀ (y : Str) (c : Addr), (envOfC qual scope s.heap.objs.size f cdv).cells.lookup y = some c → s.heap.objs.size ≤ c := fun y c e =>
    cells_big scope.names (s.heap.objs.size + 1) s.heap.objs.size [] (fun p hp => by cases hp) (Nat.le_succ _) (y, c) (PySem.mem_of_lookup e)
  have J0 : Un (frs outer) [] H H' s.heap s'.heap := J.base
  have inj := J.ok.inj
  let Pr : Addr → V → Prop := fun b v => ∃ (i : Nat) (y : Str), N[i]? = some y ∧ scope.names.lookup y = some .cell ∧ (envOfC qual scope s.heap.objs.size f cdv).cells.lookup y = some b ∧ σ[i]? = some (some v)
  have gone : ∀ b v, Pr b v → H' b = Option.none := fun b v ⟨i, y, _, _, e, _⟩ => J.freeC y b e
  have uniq : ∀ b v u, Pr b v → Pr b u → v = u := fun b v u ⟨i, y, a1, a2, a3, a4⟩ ⟨j, z, b1, b2, b3, b4⟩ => by
    have e1 : y = z := inj y z b a3 b3
    subst e1
    have e2 : i = j := by
      obtain ⟨h1, g1⟩ := List.getElem?_eq_some_iff.mp a1
      obtain ⟨h2, g2⟩ := List.getElem?_eq_some_iff.mp b1
      exact (List.getElem_inj nd).mp (g1.trans g2.symm)
    subst e2
    rw [a4] at b4
    exact Option.some.inj (Option.some.inj b4)
  let H'' : Hp := fun b => if h : ∃ v, Pr b v then some (CellO b (Classical.choose h)) else H' b
  have inC : ∀ b v, Pr b v → H'' b = some (CellO b v) := fun b v h => by
    have hx : ∃ v, Pr b v := ⟨v, h⟩
    show (if h : ∃ v, Pr b v then some (CellO b (Classical.choose h)) else H' b) = _
    rw [dif_pos hx, uniq b _ v (Classical.choose_spec hx) h]
  have outC : ∀ b, (¬ ∃ v, Pr b v) → H'' b = H' b := fun b h => dif_neg h
  have known : ∀ b o, H' b = some o → H'' b = some o := fun b o e => by
    rw [outC b fun ⟨v, h⟩ => by rw [gone b v h] at e; cases e]
    exact e
  refine ⟨H'', ⟨known, fun b e => ?_, inj, fun i y c v h1 h2 h3 h4 => inC c v ⟨i, y, h1, h2, h3, h4⟩⟩, ⟨J0.keep, J0.slot, fun b o a n h2 => ?_, J0.there, fun b xs e => known _ _ (J0.tups b xs e), fun b o u e => known _ _ (J0.frzs b o u e), fun b ps' e => ?_⟩, fun b o e => ?_⟩
  · by_cases hb : ∃ v, Pr b v
    · obtain ⟨v, h⟩ := hb
      rw [inC b v h] at e
      cases e
    · rw [outC b hb] at e
      exact e
  · rw [outC b fun ⟨v, i, y, _, _, e, _⟩ => by
      exact absurd (Heap.lt_size a) (Nat.not_lt.mpr (ge y b e))]
    exact J0.free b o a n h2
  · obtain ⟨more, e2⟩ := J0.tbls b ps' e
    exact ⟨more, known _ _ e2⟩
  · by_cases hb : ∃ v, Pr b v
    · obtain ⟨v, h⟩ := hb
      rw [inC b v h] at e
      cases e
      obtain ⟨i, y, a1, a2, a3, a4⟩ := h
      obtain ⟨m, hn, hl⟩ := J.loc
      obtain ⟨u, ru, lk⟩ := hl i y v a1 a4 (.inr (.inl a2))
      refine cellO_ok ⟨u, ru, ?_⟩
      rcases lk with ⟨z, _⟩ | ⟨_, c', hc', hcell⟩
      · have z' : scope.names.lookup y = some .local := z
        rw [a2] at z'
        cases z'
      · have hc2 : (envOfC qual scope s.heap.objs.size f cdv).cells.lookup y = some c' := hc'
        rw [a3] at hc2
        cases hc2
        exact hcell
    · rw [outC b hb] at e
      exact (J.hok b o e).stay (fun c u _ q => q) (fun c q => known _ _ q) fun c xs q => known _ _ q
end
/-- THE RULE for such a def -/
theorem Fun.okC {P : Program} {w : World} {K : PySem.W.Frag} {mg : Str → Option Value} {base : Heap} {x qual : Str} {st : Stmt} {f : Addr} {fd : FuncData} {N ps : List Str} {k : Nat} {sp : Sp} (F : L2.Fun K x qual st f fd) (S : FnScope N ps (defScope st)) (len : ∀ vs H Q E, sp vs H Q E → vs.length = ps.length)
    (hbody : ∀ (cdv : Value) (A : Around) (outer : List Env) (s : Shared) (H : Hp) (vs : List V) (Q : VK) (E : XK), Room k (A.deeper (envOfC qual (defScope st) s.heap.objs.size f cdv)) → PySem.W.codeIn K cdv qual = true → sp vs H Q E →
      ∃ t, PSsR (cxOf CX0 P w K mg base N qual (defScope st) f cdv A outer s H E).nox (defBody st) t ∧
        t (fun σ v H' => ∀ H'', Fin (envOfC qual (defScope st) s.heap.objs.size f cdv).cells (defScope st).names N σ H' H'' → Q v H'') (start N vs) H) : FnOk P w K mg base CX0 (k + 1) f fd ps sp := by
  obtain ⟨oc, od, kV, doc, pm, an, cdv, ct, osl, rfl, lk, hcd⟩ := F.ex
  refine ⟨len, fun A outer s H args us vs Q E hr e0 hb r hsp => ?_⟩
  have hl := len _ _ _ _ hsp
  have KX : K.In s.heap := e0.mod.kin.keeps fun b o e => (e0.bs b o e).1
  have lim : s.heap.NoLimit := e0.mod.nolimit.keeps fun b o e => (e0.bs b o e).1
  have hkind : ∀ y ∈ ps.zip us, (defScope st).names.lookup y.1 = some .local ∨ ((defScope st).names.lookup y.1 = some .cell ∧ ((cellsFrom (s.heap.objs.size + 1) (defScope st).names []).lookup y.1).isSome = true) := fun ⟨n, v⟩ hy => by
    rcases S.par n (List.of_mem_zip hy).1 with q | q
    · exact .inl q
    · exact .inr ⟨q, PySem.W.cellsFrom_some _ _ _ (.inl q)⟩
  refine codeAny_call_function hr.depth (KX _ _ lk) rfl S.co S.gen rfl (PySem.W.codeRec_of KX hcd) (hb _ _ _ _ ?_)
  refine wpAny_newFunctionEnv_cells S.kind hkind fun env he s1 xx => ?_
  subst he
  refine ⟨lim.keeps xx.toInCall.keep, codeAny_func ?_⟩
  obtain ⟨t, ht, hq⟩ := hbody cdv A outer s H vs Q E (hr.deeper _) hcd hsp
  have I : Inv (cxOf CX0 P w K mg base N qual (defScope st) f cdv A outer s H E) [] (start N vs) H s1 := inv_start S hr.hd e0 hl r xx
  refine wpAny_mono (ht.run [] s1 (start N vs) H _ (I.wish _) hq) (fun fl s' hs => ?_) fun e s' hs => False.elim hs
  obtain ⟨u, v, σ', H', rfl, J', rv, q⟩ := hs
  have J : Inv (cxOf CX0 P w K mg base N qual (defScope st) f cdv A outer s H E) [] σ' H' s' := J'.unwish
  obtain ⟨H'', hF, hU, hO⟩ := fin_make S.nd J
  exact ⟨v, H'', J.os, J.bare, hU, hO, rv, q H'' hF⟩
end Inf

set_option Elab.async false
set_option linter.all false
set_option maxRecDepth 100000
set_option maxHeartbeats 4000000
namespace Inf
open PySem PySem.Spec PyProof.Rows L2 NdefX LamX
/-! ### f( *values), f a name that holds a function that was made in a def -/
/-- such a thing is a function object -/
def FnHO (f : Addr) (o : HO) : Prop := ∀ (P : Program) (w : World) (H : Hp) (h : Heap), HOk P w H h → H f = some o → PySem.W.FnAt f h
theorem fnHO_of {f : Addr} {F : NF} : FnHO f (FnO f F) := fun P w H h hok e => by
  obtain ⟨od, sl, doc, pm, ctv, z⟩ := fnO_at hok e
  exact ⟨_, od, _, sl, z⟩
def tAct (P : Program) (w : World) (K : PySem.W.Frag) (mg : Str → Option Value) (base : Heap) (CX : CXT) (k i : Nat) (E : L2.St → XK) (te : TE) : TE := fun σ H Q => ∃ f, σ[i]? = some (some (.ref f)) ∧ te σ H fun y H1 => ∃ a xs o sp, y = V.ref a ∧ (SqT K H1 a xs ∨ SqL K H1 a xs) ∧ H1 f = some o ∧ FnHO f o ∧
  FnR P w K mg base CX k f sp ∧ sp xs H1 Q (E σ)
section
variable {X : Cx} {CX : CXT} {k i : Nat} {E : L2.St → XK} {x : Str} {e : Expr} {te : TE} {p sp_ pos : Pos}
theorem run_fnE {pins : List (Addr × Obj)} {σ : L2.St} {H : Hp} {s : Shared} {f : Addr} {sp : Sp} {Q : VK} {us : List Value} {vs : List V} (F : FnR X.prog X.w X.K X.mg X.base CX k f sp) (hr : Room k X.A) (hx : PassesAt CX X σ (E σ)) (I : Inv X pins σ H s) (r : Vals vs us) (h : sp vs H Q (E σ)) :
    wpAny (model X.prog X.w) X.A (call (.ref f) us) (EP X pins σ Q) X.xe s := by
  refine wpAny_call (codeAny_mono (F X.A X.stack s H us vs Q (E σ) hr I.env0 r h) fun r s' hq => ?_)
  match r, hq with
  | .error e, hq => exact hx pins H s e s' I hq
  | .ok (.ret u), hq => exact I.after hq
  | .ok .next, hq => exact False.elim hq
  | .ok .brk, hq => exact False.elim hq
  | .ok .cont, hq => exact False.elim hq
theorem pe_act (hN : X.N[i]? = some x) (hv : Vis X.env.scope x) (hr : Room k X.A) (hx : ∀ σ, PassesAt CX X σ (E σ)) (he : PE X e te) (hd : (x == ("__debug__" : Str)) = false := by decide) (hcd : (x == ("__classdict__" : Str)) = false := by decide)
    (hst : starEach [.Starred e sp_] X.env = [(true, eval e X.env)] := by rfl) : PE X (.Call (.Name x p) [.Starred e sp_] [] pos) (tAct X.prog X.w X.K X.mg X.base CX k i E te) := by
  refine ⟨fun pins s σ H Q I h => ?_⟩
  obtain ⟨f, hs, h⟩ := h
  refine wpAny_Call_Name_kw (thn ((pe_var (pos := p) hN hv hd hcd).run pins s σ H (fun v H1 => v = .ref f ∧ H1 = H) I ⟨.ref f, hs, rfl, rfl⟩) fun u s1 ⟨v, H1, I1, r1, ev, eH⟩ => ?_)
  subst ev
  rw [eH] at I1
  obtain rfl : u = Value.ref f := r1
  rw [show backTo pos (starEach [.Starred e sp_] X.env) = [(true, (do let v ← eval e X.env; standAt pos; pure v))] by rw [hst]; rfl]
  refine PySem.W.ks_call (P := PySem.W.FnAt f) rfl PySem.W.keeps_F (PySem.W.ks_lone ?_)
  refine thn (he.run pins s1 σ H _ I1 h) fun v s2 ⟨y, H2, I2, ry, a, xs, o, sp, ey, hxs, hf, ho, hF, q⟩ => ?_
  subst ey
  obtain rfl : v = Value.ref a := ry
  exact StX.star_any I2 hxs fun us s3 I3 rv => ⟨ho _ _ _ _ I3.hok hf, run_fnE hF hr (hx σ) I3 rv q⟩
end
/-! ### try: body finally: suite, where nothing is raised -/
section
variable {X : Cx} {body : List Stmt} {f₀ : Stmt} {fs : List Stmt} {pos : Pos} {tb tf : TS}
def tFin0 (tb tf : TS) : TS := fun D σ H => tb { nx := fun σ1 H1 => tf D σ1 H1, rt := fun _ _ => False } σ H
theorem ps_fin0 (hb : PSs X.nox body tb) (hf : PSs X.nox (f₀ :: fs) tf) : PS X (.Try body [] [] (f₀ :: fs) pos) (tFin0 tb tf) := by
  refine ⟨fun pins s σ H D I h => wpAny_Try_finally (wpAny_mono (hb.run pins s σ H _ (I.wish _) h) (fun g s1 z => ?_) fun _ _ z => False.elim z)⟩
  match g, z with
  | .ret u, z => exact (z.elim fun _ z => z.elim fun _ z => z.elim fun _ z => z.2.2).elim
  | .brk, z => exact (z.elim fun _ z => z.elim fun _ z => z.2).elim
  | .cont, z => exact (z.elim fun _ z => z.elim fun _ z => z.2).elim
  | .next, z =>
    obtain ⟨σ1, H1, J1, q1⟩ := z
    refine wpAny_execs_nil (wpAny_mono (hf.run pins s1 σ1 H1 D (J1.unwish.wish _) q1) (fun g2 s2 q2 => ?_) fun _ _ e => False.elim e)
    have q3 : SP X pins D g2 s2 := q2.unwish
    cases g2 <;> exact q3
end
end Inf

set_option Elab.async false
set_option linter.all false
set_option maxRecDepth 100000
set_option maxHeartbeats 4000000
namespace Inf
open PySem PySem.Spec PyProof.Rows L2 NdefX LamX
/-- the tables of the code objects of the top's defs, as the written part and the head tell them -/
def TopTabs (q : Program) (K : PySem.W.Frag) (mg : Str → Option Value) (h : Heap) : Prop := ∀ (x : Str) (f c P : Addr) (o1 : Obj) (fd1 : FuncData) (e : Value) (dd : Option Addr) (vs1 : Array Value) (sl : Array (Option Value)),
  (recsOf q).any (fun d => d.name == x) = true → mg x = some (.ref f) → K.lookup f = some o1 → o1.data = .func fd1 → fd1.code = .ref c → K.lookup c = some ⟨e, dd, .fields vs1, sl⟩ → vs1[11]? = some (.ref P) →
    PySem.W.CodeHd h c P ∧ h.get? P = some { cls := .none, data := .fields #[] }
theorem walk_top {l : PySem.W.OpenLaw} {n k : Nat} {q : Program} {loose : List Str} {XP : (Str → Option Value) → Heap → Prop} {YP : World → Heap → Prop} {d : DefRec} {K : Params → PySem.W.Frag} {CX : World → CXT} {x : Str}
    (hn : l.most = some n) (hn2 : n ≤ sizeLine) (hdf : d.params.defaults = []) (hr : Room k callerA) (hY : ∀ (w : World) (h : Heap), YP w h → (K w.params).In h)
    (F : ∀ (w : World) (mg : Str → Option Value) (fa : Addr) (h : Heap), YP w h → (K w.params).In h → h.Ns mainGlobals mg → mg d.name = some (.ref fa) → TopTabs q (K w.params) mg h → LawAtS l w (K w.params) (CX w) k n x mg fa h)
    (hCX : ∀ (w : World) (H : Hp) (s : Shared) (e : Value) (s' : Shared), CX w [] H s (fun _ _ _ => False) e s' → False) :
    PySem.W.WalkO q loose XP YP l.row.toRowW d [] (fun f vs => PySem.call f vs) :=
  Att.attach_callB hn hdf fun w s₀ s₁ mg mb fa o pm cd doc a vs ns G Y ho hd hcd hmg hobj hints hlen hbits hg => by
    have KX := hY w _ Y
    have tabs : TopTabs q (K w.params) mg s₁.heap := fun x f c P o1 fd1 e dd vs1 sl hrec hx k1 k2 k3 k4 k5 => by
      obtain ⟨dL, hm, hn1⟩ := List.any_eq_true.mp hrec
      have hn2 : dL.name = x := beq_iff_eq.mp hn1
      obtain ⟨a', o', fd', c', P', h1, h2, h3, h4, h5, h6⟩ := G.T.tab dL hm
      rw [hn2, hx] at h1
      cases h1
      have g1 := KX _ _ k1
      rw [g1] at h2
      cases h2
      rw [k2] at h3
      cases h3
      rw [k3] at h4
      cases h4
      have hC := PySem.W.CodeHd.of h5 h6
      obtain ⟨⟨oc, vc, e1, _, e3, e4⟩, hP⟩ := h6
      have g2 := KX _ _ k4
      rw [g2] at e1
      cases e1
      cases e3
      rw [k5] at e4
      cases e4
      exact ⟨hC, hP⟩
    obtain ⟨fd, cs, sp, hT, nT, C, hb, hsp, hF⟩ := F w mg fa _ Y KX G.T.g hmg tabs
    exact law_callTs KX G.T.g G.T.b G.T.builtins G.T.nolimit hg hT nT C G.T.bmain hobj hints (Nat.le_trans hlen hn2) hr hF hb (fun H hH hS => hsp H a ns hlen hbits hH hS) fun H e s' => hCX w H s₁ e s'
end Inf

set_option Elab.async false
set_option linter.all false
set_option maxRecDepth 100000
set_option maxHeartbeats 4000000
namespace Inf
open PySem PySem.Spec PyProof.Rows L2 NdefX LamX
/-! ### promises of defs that are called where no repr is under way -/
structure FnOkG (P : Program) (w : World) (K : PySem.W.Frag) (mg : Str → Option Value) (base : Heap) (CX : CXT) (k : Nat) (f : Addr) (fd : FuncData) (ps : List Str) (sp : Sp) : Prop where
  len : ∀ vs H Q E, sp vs H Q E → vs.length = ps.length
  run : ∀ (A : Around) (outer : List Env) (s : Shared) (H : Hp) (args : Args) (us : List Value) (vs : List V) (Q : VK) (E : XK), A.guards = some [] → Room k A → Env0 P w K mg base A outer s H → BindsTo s fd args (ps.zip us) → Vals vs us → sp vs H Q E →
    codeAny (model P w) A (.call (.ref f) args) (CR CX outer P w H s Q E) s
theorem FnOkG.of {P : Program} {w : World} {K : PySem.W.Frag} {mg : Str → Option Value} {base : Heap} {CX : CXT} {k : Nat} {f : Addr} {fd : FuncData} {ps : List Str} {sp : Sp} (F : FnOk P w K mg base CX k f fd ps sp) : FnOkG P w K mg base CX k f fd ps sp :=
  ⟨F.len, fun A outer s H args us vs Q E _ => F.run A outer s H args us vs Q E⟩
section
variable {P : Program} {w : World} {K : PySem.W.Frag} {mg mb : Str → Option Value} {CX : CXT} {k : Nat} {fa a : Addr} {cs : List (Addr × Addr)} {fd : FuncData} {x : Str} {sp : Sp} {s₁ : Shared} {vs : List Value} {ns : List Int}
/-- the law's call, from such a promise -/
theorem call_lawG (KX : K.In s₁.heap) (hns : s₁.heap.Ns mainGlobals mg) (hb : s₁.heap.Ns builtinsNs mb) (hbb : ∀ x : Str, x ≠ "__name__" → mb x = bootBuiltins x) (hlim : s₁.heap.NoLimit) (hg : s₁.gens = #[])
    (hT : ∀ p ∈ cs, s₁.heap.get? p.2 = some { cls := .none, data := .fields #[] }) (nT : ∀ p ∈ cs, K.lookup p.2 = none) (C : ∀ p ∈ cs, PySem.W.CodeHd s₁.heap p.1 p.2)
    (hbm : ∃ (bm : Addr) (ob : Obj), mg "__builtins__" = some (.ref bm) ∧ bm ≠ builtinsNs ∧ s₁.heap.get? bm = some ob ∧ ob.cls = .type "module" ∧ ob.dict = some builtinsNs ∧ ob.data = .plain)
    (ha : s₁.heap.get? a = some { cls := .type "list", data := .seq vs.toArray }) (hi : IntsAre vs ns) (hl : ns.length ≤ sizeLine) (hr : Room k callerA)
    (F : ∀ base : Heap, K.In base → base.Ns mainGlobals mg → (∀ p ∈ cs, TabB base mg p.1 p.2) → FnOkG P w K mg base CX k fa fd [x] sp) (hbind : ∀ (s : Shared) (u : Value), BindsTo s fd ⟨[u], []⟩ [(x, u)])
    (hsp : ∀ H : Hp, (∀ p ∈ cs, H p.2 = some (.tbl #[])) → SqL K H a (ns.map V.int) → sp [.ref a] H (fun v _ => v = .bl true) fun _ _ _ => False)
    (hCX : ∀ H e s', CX [] H s₁ (fun _ _ _ => False) e s' → False) :
    codeAny (model P w) callerA (.call (.ref fa) ⟨[.ref a], []⟩) (fun r s' => r = .ok (.ret (.bool true)) ∧ OldK s₁.heap s'.heap ∧ s'.os = s₁.os ∧ AllBare s'.gens) s₁ := by
  have tabAt : ∀ b, b ∈ cs.map (·.2) → s₁.heap.get? b = some { cls := .none, data := .fields #[] } := fun b hb => (List.mem_map.mp hb).elim fun p hp => hp.2 ▸ hT p hp.1
  have tabK : ∀ b, b ∈ cs.map (·.2) → K.lookup b = none := fun b hb => (List.mem_map.mp hb).elim fun p hp => hp.2 ▸ nT p hp.1
  -- the abstract heap: the tables, and the script where the written part doesn't hold it
  let H : Hp := fun b => if b ∈ cs.map (·.2) then some (.tbl #[]) else if b = a ∧ K.lookup a = none then some (.frz { cls := .type "list", data := .seq vs.toArray } (.lst (ns.map V.int))) else none
  have aNot : a ∉ cs.map (·.2) := fun z => by
    have := tabAt a z
    rw [ha] at this
    cases this
  have Htab : ∀ b, b ∈ cs.map (·.2) → H b = some (.tbl #[]) := fun b hb => if_pos hb
  have Hcase : ∀ b u, H b = some u → (b ∈ cs.map (·.2) ∧ u = .tbl #[]) ∨ (b = a ∧ K.lookup a = none ∧ u = .frz { cls := .type "list", data := .seq vs.toArray } (.lst (ns.map V.int))) := fun b u e => by
    by_cases h1 : b ∈ cs.map (·.2)
    · exact .inl ⟨h1, Option.some.inj (e.symm.trans (Htab b h1))⟩
    · by_cases h2 : b = a ∧ K.lookup a = none
      · exact .inr ⟨h2.1, h2.2, Option.some.inj (e.symm.trans ((if_neg h1).trans (if_pos h2)))⟩
      · exact absurd (e.symm.trans ((if_neg h1).trans (if_neg h2))) (fun z => nomatch z)
  have other : ∀ b o, s₁.heap.get? b = some o → (∀ its n, o.data ≠ .seq its n) → o.data ≠ .fields #[] → H b = none := fun b o e n1 n2 => by
    match q : H b with
    | none => rfl
    | some u =>
      rcases Hcase b u q with ⟨z, _⟩ | ⟨z, _, _⟩
      · rw [tabAt b z] at e
        exact absurd (by cases e; rfl) n2
      · rw [z, ha] at e
        exact absurd (by cases e; rfl) (n1 vs.toArray 0)
  have hok : HOk P w H s₁.heap := fun b u e => by
    rcases Hcase b u e with ⟨z, rfl⟩ | ⟨rfl, _, rfl⟩
    · exact tabAt b z
    · exact ⟨ha, by rw [List.length_map]; exact hl, vs, _, vals_ints hi, ha⟩
  have hS : SqL K H a (ns.map V.int) := by
    match hk : K.lookup a with
    | none => exact .inl (.inr ⟨_, (if_neg aNot).trans (if_pos ⟨rfl, hk⟩)⟩)
    | some o =>
      have e := KX a o hk
      rw [ha] at e
      cases e
      have lenV := hi.length
      exact .inr ⟨_, vs.toArray, _, hk, rfl, rfl, rfl, by rw [List.size_toArray, lenV]; exact hl, by simpa using vals_ints hi⟩
  have low : ∀ b o, s₁.heap.get? b = some o → H b = none → (hidT s₁.heap H).get? b = some o := fun b o e n => hidT_get e n
  have lowNs : ∀ {b : Addr} {m : Str → Option Value}, s₁.heap.Ns b m → (hidT s₁.heap H).Ns b m := fun {b m} h => by
    obtain ⟨o, es, ep, e, d, r⟩ := h
    exact ⟨o, es, ep, low b o e (other b o e (fun its n z => by rw [d] at z; cases z) fun z => by rw [d] at z; cases z), d, r⟩
  have lowK : K.In (hidT s₁.heap H) := fun b o e => low b o (KX b o e) (by
    match q : H b with
    | none => rfl
    | some u =>
      rcases Hcase b u q with ⟨z, _⟩ | ⟨rfl, z, _⟩
      · rw [tabK b z] at e
        cases e
      · rw [z] at e
        cases e)
  have notG : ∀ b o, s₁.heap.get? b = some o → (∀ es ep, o.data ≠ .dict es ep) → b ≠ mainGlobals := fun b o e n z => by
    obtain ⟨o', es, ep, e', d, _⟩ := hns
    rw [z, e'] at e
    cases e
    exact n es ep d
  have lowT : ∀ p ∈ cs, TabB (hidT s₁.heap H) mg p.1 p.2 := fun p hp => by
    refine ⟨?_, ?_, Ne.symm (notG p.2 _ (hT p hp) (fun es ep z => nomatch z))⟩
    · obtain ⟨o, us, file, tf, flags, tg, inF, text, tt, e1, r1, r2, r3, rest⟩ := C p hp
      refine ⟨o, us, file, tf, flags, tg, inF, text, tt, low _ o e1 (other _ o e1 (fun its n z => by rw [r2] at z; cases z) fun z => ?_), r1, r2, r3, rest⟩
      rw [r2] at z
      cases z
      simp at r3
    · obtain ⟨bm, ob, b1, b2, b3, b4, b5, b6⟩ := hbm
      refine ⟨bm, ob, b1, b2, notG bm ob b3 (fun es ep z => by rw [b6] at z; cases z), fun z => ?_, low bm ob b3 (other bm ob b3 (fun its n z => by rw [b6] at z; cases z) fun z => by rw [b6] at z; cases z), b4, b5, b6⟩
      rw [z, hT p hp] at b3
      cases b3
      cases b6
  have lowM : L2.Mod K mg (hidT s₁.heap H) := ⟨lowK, lowNs hns, ⟨mb, lowNs hb, hbb⟩, hlim.elim fun mc h => ⟨mc, lowNs h.1, h.2⟩⟩
  have e0 : Env0 P w K mg (hidT s₁.heap H) callerA [] s₁ H := ⟨rfl, lowM, fun b o e => of_hidT e, Nat.le_of_eq (hidT_size _ _), trivial, fun b hb => absurd (show b ∈ ([] : List Addr) from hb) (List.not_mem_nil), hok, .of_eq hg⟩
  refine codeAny_mono ((F _ lowK (lowNs hns) lowT).run callerA [] s₁ H ⟨[.ref a], []⟩ [.ref a] [.ref a] _ _ rfl hr e0 (hbind s₁ (.ref a)) (.cons rfl .nil) (hsp H (fun p hp => Htab _ (List.mem_map.mpr ⟨p, hp, rfl⟩)) hS)) fun r s' h => ?_
  match r, h with
  | .error e, h => exact (hCX H e s' h).elim
  | .ok .next, h => exact False.elim h
  | .ok .brk, h => exact False.elim h
  | .ok .cont, h => exact False.elim h
  | .ok (.ret u), h =>
    obtain ⟨v, H', os, bare, un, hok', r', q⟩ := h
    have q2 : v = .bl true := q
    subst q2
    obtain rfl : u = Value.bool true := r'
    have stays : ∀ b o, b ∉ cs.map (·.2) → s₁.heap.get? b = some o → s'.heap.get? b = some o := fun b o nb e => by
      match z : H b with
      | none => exact un.keep b o e z (fun z => nomatch z) (fun z => nomatch z)
      | some u =>
        rcases Hcase b u z with ⟨y, _⟩ | ⟨rfl, _, rfl⟩
        · exact absurd y nb
        · obtain ⟨e1, _⟩ := hok' b _ (un.frzs b _ _ z)
          rw [ha] at e
          cases e
          exact e1
    have tabs : ∀ p ∈ cs, ∃ more : Array Value, s'.heap.get? p.2 = some { cls := .none, data := .fields more } := fun p hp =>
      (un.tbls p.2 #[] (Htab _ (List.mem_map.mpr ⟨p, hp, rfl⟩))).elim fun more z => ⟨_, hok' p.2 _ z⟩
    refine ⟨rfl, ⟨fun b o e => ?_, fun b o e => ?_⟩, os, bare⟩
    · by_cases nb : b ∈ cs.map (·.2)
      · obtain ⟨p, hp, rfl⟩ := List.mem_map.mp nb
        rw [hT p hp] at e
        cases e
        exact (tabs p hp).elim fun more hm => .inr (.inl ⟨((C p hp).tab (hT p hp)).isCodeTable, rfl, #[], more, rfl, hm.trans (by rw [Array.empty_append])⟩)
      · exact .inl (stays b o nb e)
    · by_cases nb : b ∈ cs.map (·.2)
      · obtain ⟨p, hp, rfl⟩ := List.mem_map.mp nb
        exact (tabs p hp).elim fun more hm => ⟨_, hm⟩
      · exact ⟨o, stays b o nb e⟩
end
/-- what is known of the law's promise at the head's heap, where no repr is under way -/
def LawAtG (l : PySem.W.OpenLaw) (w : World) (K : PySem.W.Frag) (CX : CXT) (k n : Nat) (x : Str) (mg : Str → Option Value) (fa : Addr) (h : Heap) : Prop :=
  ∃ (fd : FuncData) (cs : List (Addr × Addr)) (sp : Sp), (∀ p ∈ cs, h.get? p.2 = some { cls := .none, data := .fields #[] }) ∧ (∀ p ∈ cs, K.lookup p.2 = none) ∧ (∀ p ∈ cs, PySem.W.CodeHd h p.1 p.2) ∧ (∀ (s : Shared) (u : Value), BindsTo s fd ⟨[u], []⟩ [(x, u)]) ∧
    (∀ (H : Hp) (a : Addr) (ns : List Int), ns.length ≤ n → (∀ p ∈ cs, H p.2 = some (.tbl #[])) → SqL K H a (ns.map V.int) → sp [.ref a] H (fun v _ => v = .bl true) fun _ _ _ => False) ∧
    ∀ base : Heap, K.In base → base.Ns mainGlobals mg → (∀ p ∈ cs, TabB base mg p.1 p.2) → FnOkG l.prog w K mg base CX k fa fd [x] sp
theorem walk_topG {l : PySem.W.OpenLaw} {n k : Nat} {q : Program} {loose : List Str} {XP : (Str → Option Value) → Heap → Prop} {YP : World → Heap → Prop} {d : DefRec} {K : Params → PySem.W.Frag} {CX : World → CXT} {x : Str}
    (hn : l.most = some n) (hn2 : n ≤ sizeLine) (hdf : d.params.defaults = []) (hr : Room k callerA) (hY : ∀ (w : World) (h : Heap), YP w h → (K w.params).In h)
    (F : ∀ (w : World) (mg : Str → Option Value) (fa : Addr) (h : Heap), YP w h → (K w.params).In h → h.Ns mainGlobals mg → mg d.name = some (.ref fa) → TopTabs q (K w.params) mg h → LawAtG l w (K w.params) (CX w) k n x mg fa h)
    (hCX : ∀ (w : World) (H : Hp) (s : Shared) (e : Value) (s' : Shared), CX w [] H s (fun _ _ _ => False) e s' → False) :
    PySem.W.WalkO q loose XP YP l.row.toRowW d [] (fun f vs => PySem.call f vs) :=
  Att.attach_callB hn hdf fun w s₀ s₁ mg mb fa o pm cd doc a vs ns G Y ho hd hcd hmg hobj hints hlen hbits hg => by
    have KX := hY w _ Y
    have tabs : TopTabs q (K w.params) mg s₁.heap := fun x f c P o1 fd1 e dd vs1 sl hrec hx k1 k2 k3 k4 k5 => by
      obtain ⟨dL, hm, hn1⟩ := List.any_eq_true.mp hrec
      have hn2 : dL.name = x := beq_iff_eq.mp hn1
      obtain ⟨a', o', fd', c', P', h1, h2, h3, h4, h5, h6⟩ := G.T.tab dL hm
      rw [hn2, hx] at h1
      cases h1
      have g1 := KX _ _ k1
      rw [g1] at h2
      cases h2
      rw [k2] at h3
      cases h3
      rw [k3] at h4
      cases h4
      have hC := PySem.W.CodeHd.of h5 h6
      obtain ⟨⟨oc, vc, e1, _, e3, e4⟩, hP⟩ := h6
      have g2 := KX _ _ k4
      rw [g2] at e1
      cases e1
      cases e3
      rw [k5] at e4
      cases e4
      exact ⟨hC, hP⟩
    obtain ⟨fd, cs, sp, hT, nT, C, hb, hsp, hF⟩ := F w mg fa _ Y KX G.T.g hmg tabs
    exact call_lawG KX G.T.g G.T.b G.T.builtins G.T.nolimit hg hT nT C G.T.bmain hobj hints (Nat.le_trans hlen hn2) hr hF hb (fun H hH hS => hsp H a ns hlen hH hS) fun H e s' => hCX w H s₁ e s'
/-! ### bodies and calls of such defs -/
theorem okG {P : Program} {w : World} {K : PySem.W.Frag} {mg : Str → Option Value} {base : Heap} {x qual : Str} {st : Stmt} {f : Addr} {fd : FuncData} {N ps : List Str} {k : Nat} {sp : Sp} (F : L2.Fun K x qual st f fd) (S : FnScope N ps (defScope st)) (len : ∀ vs H Q E, sp vs H Q E → vs.length = ps.length)
    (hbody : ∀ (cdv : Value) (A : Around) (outer : List Env) (s : Shared) (H : Hp) (vs : List V) (Q : VK) (E : XK), (A.deeper (envOfC qual (defScope st) s.heap.objs.size f cdv)).guards = some [] → Room k (A.deeper (envOfC qual (defScope st) s.heap.objs.size f cdv)) → sp vs H Q E →
      ∃ t, PSs (cxOf CX0 P w K mg base N qual (defScope st) f cdv A outer s H E).nox (defBody st) t ∧ t { nx := fun _ H' => Q .non H', rt := Q } (start N vs) H) : FnOkG P w K mg base CX0 (k + 1) f fd ps sp := by
  obtain ⟨oc, od, kV, doc, pm, an, cdv, ct, osl, rfl, lk, hcd⟩ := F.ex
  refine ⟨len, fun A outer s H args us vs Q E hga hr e0 hb r hsp => ?_⟩
  have KX : K.In s.heap := e0.mod.kin.keeps fun b o e => (e0.bs b o e).1
  have lim : s.heap.NoLimit := e0.mod.nolimit.keeps fun b o e => (e0.bs b o e).1
  have hl := len _ _ _ _ hsp
  have hkind : ∀ y ∈ ps.zip us, (defScope st).names.lookup y.1 = some .local ∨ ((defScope st).names.lookup y.1 = some .cell ∧ ((cellsFrom (s.heap.objs.size + 1) (defScope st).names []).lookup y.1).isSome = true) := fun ⟨n, v⟩ hy =>
    (S.par n (List.of_mem_zip hy).1).elim .inl fun q => .inr ⟨q, PySem.W.cellsFrom_some _ _ _ (.inl q)⟩
  refine codeAny_call_function hr.depth (KX _ _ lk) rfl S.co S.gen rfl (PySem.W.codeRec_of KX hcd) (hb _ _ _ _ (wpAny_newFunctionEnv_cells S.kind hkind fun env he s1 xx => ?_))
  subst he
  obtain ⟨t, ht, hq⟩ := hbody cdv A outer s H vs Q E hga (hr.deeper _) hsp
  have I : Inv (cxOf CX0 P w K mg base N qual (defScope st) f cdv A outer s H E) [] (start N vs) H s1 := inv_start S hr.hd e0 hl r xx
  refine ⟨lim.keeps xx.toInCall.keep, codeAny_func (wpAny_mono (ht.run [] s1 (start N vs) H _ (I.wish _) hq) (fun fl s' hs => ?_) fun e s' hs => False.elim hs)⟩
  have fin : ∀ {σ' : L2.St} {H' : Hp} {v : V} {u : Value}, Inv (cxOf CX0 P w K mg base N qual (defScope st) f cdv A outer s H E).nox [] σ' H' s' → L2.RelV v u → Q v H' → CE outer P w H s Q u s' :=
    fun {σ' H' v u} J rv q => ⟨v, H', J.os, J.bare, J.base, J.hok, rv, q⟩
  match fl, hs with
  | .ret u, hs => exact hs.elim fun v z => z.elim fun σ' z => z.elim fun H' z => fin z.1 z.2.1 z.2.2
  | .next, hs => exact hs.elim fun σ' z => z.elim fun H' z => fin (v := V.non) (u := Value.none) z.1 rfl z.2
  | .brk, hs => exact hs.elim fun _ z => z.elim fun _ z => False.elim z.2
  | .cont, hs => exact hs.elim fun _ z => z.elim fun _ z => False.elim z.2
section
variable {X : Cx} {CX : CXT} {k : Nat} {f : Addr} {fd : FuncData} {ps : List Str} {sp : Sp} {E : XK} {x : Str} {p pos : Pos} {e : Expr} {es : List Expr} {t : TA}
/-- f(e, ..), f such a def -/
theorem pe_callG (F : FnOkG X.prog X.w X.K X.mg X.base CX k f fd ps sp) (hG : X.A.guards = some []) (hr : Room k X.A) (hg : Gl X x) (hm : X.mg x = some (.ref f)) (hk : PySem.W.keepIn X.K (.ref f) = true) (hb : L2.Binds X.K fd ps []) (hx : Passes CX X E)
    (ha : PA X (e :: es) t) (hdb : (x == ("__debug__" : Str)) = false := by decide) (he : starEach (e :: es) X.env = (false, eval e X.env) :: starEach es X.env := by rfl) (hpl : (backTo pos (starEach es X.env)).any (·.1) = false := by rfl) :
    PE X (.Call (.Name x p) (e :: es) [] pos) (fun σ H Q => t σ H fun vs H1 => sp vs H1 Q E) := by
  refine ⟨fun pins s σ H Q I h => wpAny_Call_Name_kw (ld_glob I hg hm (PySem.W.callWith_K (h₀ := X.base) I.ok.mod.kin hk (thn (ha.run pos pins s σ H _ I h) fun us s1 ⟨vs, H1, I1, r, q⟩ => ⟨I1.kIn, ?_⟩) he hpl) hdb)⟩
  have hl : us.length = ps.length := r.length.symm.trans (F.len _ _ _ _ q)
  have hb2 : BindsTo s1 fd ⟨us, []⟩ (ps.zip us) := by
    have := hb s1 us I1.kIn (by rw [List.append_nil]; exact hl)
    rwa [List.append_nil] at this
  refine wpAny_call (codeAny_mono (F.run X.A X.stack s1 H1 ⟨us, []⟩ us vs Q E hG hr I1.env0 hb2 r q) fun res s' hq => ?_)
  match res, hq with
  | .error er, hq => exact hx pins σ H1 s1 er s' I1 hq
  | .ok (.ret u), hq => exact I1.after hq
  | .ok .next, hq => exact False.elim hq
  | .ok .brk, hq => exact False.elim hq
  | .ok .cont, hq => exact False.elim hq
/-- repr of data: what PyData.shown says -/
theorem call_reprD (hG : X.A.guards = some []) (hu : X.A.units + 64 + 16 < cLine) : CallR X (.builtin "repr") (fun xs H Q => ∃ (v : V) (d : PyData), xs = [v] ∧ Dp X.K H v d ∧ d.showable = true ∧ d.hasDict = false ∧ d.depth ≤ 64 ∧ d.shown.length ≤ sizeLine ∧ (∀ i, v = .int i → i.natAbs.log2 < 1920) ∧ Q (.str d.shown) H) := by
  intro pins s σ H xs us Q I r h
  obtain ⟨v, d, rfl, hd, hs, hnd, hdp, hsz, hi, q⟩ := h
  obtain ⟨u, rfl, ru⟩ := vals1 r
  have txt : ∀ tk, ∃ (y : V) (H1 : Hp), Inv X pins σ H1 { s with toks := tk } ∧ L2.RelV y (.str d.shown s.toks) ∧ Q y H1 := fun tk => ⟨.str d.shown, H, I.kept (t' := tk) fun _ _ z => z, ⟨_, rfl⟩, q⟩
  have obj : ∀ (a : Addr), u = .ref a → wpAny (model X.prog X.w) X.A (call (.builtin "repr") [u]) (EP X pins σ Q) X.xe s := fun a e => by
    subst e
    obtain ⟨as, rd⟩ := Dp.reads I _ _ _ hd ru
    exact repr_of_reads' rd hs (fun z => by rw [hnd] at z; cases z) hG (by omega) (fun _ _ z => z) (fun h' u tk hk => ⟨.str d.shown, H, I.kept (h' := h') (t' := tk) hk, ⟨_, rfl⟩, q⟩) hsz
  cases hd with
  | non =>
    obtain rfl : u = Value.none := ru
    exact P.repr_of_none (txt _)
  | bl b =>
    obtain rfl : u = Value.bool b := ru
    exact P.repr_of_bool (by cases b <;> exact txt _)
  | int i =>
    obtain ⟨t, rfl⟩ := ru
    exact P.repr_of_int (hi i rfl) (txt _)
  | str y =>
    obtain ⟨t, rfl⟩ := ru
    exact P.repr_of_str (txt _) hsz
  | lst h1 h2 => exact obj _ ru
  | tup h1 h2 => exact obj _ ru
end
end Inf

set_option Elab.async false
set_option linter.all false
set_option maxRecDepth 100000
set_option maxHeartbeats 4000000
namespace Inf
open PySem PySem.Spec PyProof.Rows L2 NdefX LamX
/-! ### a lambda as a value: a function that stands where it was made -/
/-- its words, the cells that it captured, its code object -/
structure LF where
  qual : Str
  params : Arguments
  body : Expr
  scope : Scope
  cl : List (Str × Addr)
  c : Addr
def LamO (f : Addr) (F : LF) : HO := .ext fun h => ∃ (pm ctv : Value), h.get? f = some (PySem.W.kla_obj "<lambda>" F.qual F.params F.body F.scope F.cl pm F.c ctv)
theorem lamO_at {P : Program} {w : World} {H : Hp} {h : Heap} {f : Addr} {F : LF} (hok : HOk P w H h) (e : H f = some (LamO f F)) : ∃ (pm ctv : Value), h.get? f = some (PySem.W.kla_obj "<lambda>" F.qual F.params F.body F.scope F.cl pm F.c ctv) := by
  obtain ⟨z, _, _⟩ := hok f _ e
  exact z
theorem lamO_ok {P : Program} {w : World} {H : Hp} {h : Heap} {f : Addr} {F : LF} (e : ∃ (pm ctv : Value), h.get? f = some (PySem.W.kla_obj "<lambda>" F.qual F.params F.body F.scope F.cl pm F.c ctv)) : ObjOk P w H h f (LamO f F) := by
  refine ⟨e, ?_, fun h1 h2 ⟨pm, ctv, z⟩ k => ⟨pm, ctv, k _ z⟩⟩
  obtain ⟨pm, ctv, z⟩ := e
  exact ⟨_, z⟩
theorem lamHO {f : Addr} {F : LF} : FnHO f (LamO f F) := fun P w H h hok e => by
  obtain ⟨pm, ctv, z⟩ := lamO_at hok e
  exact ⟨_, _, _, _, z⟩
section
variable {X : Cx} {pins : List (Addr × Obj)} {σ : L2.St} {H : Hp} {s : Shared}
/-- the lambda is made and told where it stands; its code object is new, or found in the table -/
theorem lam_told {T : List (Addr × Str)} {c P : Addr} {params : Arguments} {body : Expr} {scope : Scope} {pos : Pos} {E : Value → Shared → Prop} {Q : Value → Shared → Prop} (I : Inv X pins σ H s) (TB : TabB X.base X.mg c P) (hcode : X.env.code = .ref c)
    (hm : (P, X.env.qual ++ "<lambda>") ∈ T) (hu : ∀ p ∈ T, p.1 = P → p.2 = X.env.qual ++ "<lambda>") (hT : Tabs T H) (hdef : defaultsOf params X.env = ([], [])) (hfree : ∀ y ∈ scope.names, y.2 = .free → ∃ c, X.env.cells.lookup y.1 = some c)
    (h : ∀ (f c' : Addr) (H1 : Hp) (s' : Shared), Inv X pins σ (upd H1 f (LamO f ⟨X.env.qual ++ "<lambda>", params, body, scope, cloFrom X.env.cells scope.names [], c'⟩)) s' → (∀ b o, H b = some o → b ≠ P → H1 b = some o) → (∀ b, H1 b = none → H b = none) → Tabs T H1 → H1 f = none → H1 c' = some (CodeO c' (X.env.qual ++ "<lambda>")) → Q (.ref f) s') :
    wpAny (model X.prog X.w) X.A (eval (.Lambda params body scope pos) X.env) Q E s := by
  obtain ⟨ps, tP, tO, tA⟩ := hT _ hm
  have bP := TB.bm.keeps (h' := s.heap) I.bk
  have gP : s.heap.get? P = some { cls := .none, data := .fields ps } := I.hok P _ tP
  refine PySem.W.kla_eval hdef ?_
  cases cd : codeAmong pos ps.toList with
  | none =>
    refine PySem.W.kla_makeFunction (mg := X.mg) (c := c) (P := P) (ps := ps) (closure_ok hfree) I.ok.glob (I.mod.glob.keeps I.bk) hcode (TB.code.keeps I.bk) gP tO cd TB.gP bP fun c' ctv h' tk hx hge hlt hrec htb => ?_
    obtain ⟨c2, oc, vs, t, e2, hoc, hd, hv⟩ := hrec
    cases e2
    have nC : H c' = none := I.hok.fresh hge
    have I0 := inv_table (q := X.env.qual ++ "<lambda>") (t' := tk) (more := #[rawInt pos.line, rawInt pos.col, .ref c']) (h' := h') I tP hx htb hge ⟨oc, vs, t, hoc, hd, hv⟩
    have I1 := I0.laid (a := h'.objs.size) (o := LamO h'.objs.size ⟨X.env.qual ++ "<lambda>", params, body, scope, cloFrom X.env.cells scope.names [], c'⟩) (h' := h'.push (PySem.W.kla_obj "<lambda>" (X.env.qual ++ "<lambda>") params body scope (cloFrom X.env.cells scope.names []) ((X.mg "__name__").getD .none) c' ctv)) (t' := tk)
      (fun b u z => Heap.get?_push_of_some _ z) (Nat.le_refl _) (lamO_ok ⟨_, _, Heap.get?_push_size _ rfl⟩)
    have stays : ∀ b o, H b = some o → b ≠ P → (upd (upd H P (.tbl (ps ++ #[rawInt pos.line, rawInt pos.col, .ref c']))) c' (CodeO c' (X.env.qual ++ "<lambda>"))) b = some o := fun b o e n => by
      rw [upd_ne (ne_of_none e nC), upd_ne n]
      exact e
    have neP : ∀ {b : Addr} {c2 : Addr} {q : Str}, H b = some (CodeO c2 q) → b ≠ P := fun e z => by
      rw [z, tP] at e
      exact codeO_ne _ (Option.some.inj e).symm
    refine h _ c' _ _ I1 stays (fun b z => ?_) (fun p hp => ?_) (I0.hok.fresh (Nat.le_refl _)) upd_same
    · by_cases b1 : b = c'
      · rw [b1]
        exact nC
      · rw [upd_ne b1] at z
        by_cases b2 : b = P
        · rw [b2, upd_same] at z
          cases z
        · rw [upd_ne b2] at z
          exact z
    · obtain ⟨qs, a1, a2, a3⟩ := hT p hp
      by_cases hb : p.1 = P
      · have eL : (ps ++ #[rawInt pos.line, rawInt pos.col, .ref c']).toList = ps.toList ++ [rawInt pos.line, rawInt pos.col, .ref c'] := by simp
        refine ⟨_, by rw [hb, upd_ne (ne_of_none tP nC), upd_same], ?_, fun p' cv y => ?_⟩
        · rw [eL]
          exact PySem.TriplesOk_snoc _ _ _ _ tO
        · rw [eL] at y
          rw [hu p hp hb]
          rcases among_app _ tO y with z | z
          · obtain ⟨c0, k1, k2⟩ := tA p' cv z
            exact ⟨c0, k1, stays _ _ k2 (neP k2)⟩
          · exact ⟨c', z, upd_same⟩
      · refine ⟨qs, ?_, a2, fun p' cv y => ?_⟩
        · rw [upd_ne (ne_of_none a1 nC), upd_ne hb]
          exact a1
        · obtain ⟨c0, k1, k2⟩ := a3 p' cv y
          exact ⟨c0, k1, stays _ _ k2 (neP k2)⟩
  | some cv =>
    obtain ⟨c', e, hco⟩ := tA pos cv cd
    subst e
    refine PySem.W.kla_makeFunctionHit (mg := X.mg) (c := c) (P := P) (ps := ps) (closure_ok hfree) I.ok.glob (I.mod.glob.keeps I.bk) hcode (TB.code.keeps I.bk) gP tO cd bP fun ctv h' tk hx hsz => ?_
    have I0 : Inv X pins σ H { s with heap := h', toks := tk } := I.kept hx
    have I1 := I0.laid (a := h'.objs.size) (o := LamO h'.objs.size ⟨X.env.qual ++ "<lambda>", params, body, scope, cloFrom X.env.cells scope.names [], c'⟩) (h' := h'.push (PySem.W.kla_obj "<lambda>" (X.env.qual ++ "<lambda>") params body scope (cloFrom X.env.cells scope.names []) ((X.mg "__name__").getD .none) c' ctv)) (t' := tk)
      (fun b u z => Heap.get?_push_of_some _ z) (Nat.le_refl _) (lamO_ok ⟨_, _, Heap.get?_push_size _ rfl⟩)
    exact h _ c' H _ I1 (fun _ _ e _ => e) (fun _ z => z) hT (I0.hok.fresh (Nat.le_refl _)) hco
end
def tLamO (T : List (Addr × Str)) (P : Addr) (F : Addr → LF) : TE := fun σ H Q => Tabs T H ∧ ∀ (f c' : Addr) (H1 : Hp), (∀ b o, H b = some o → b ≠ P → H1 b = some o) → (∀ b, H1 b = none → H b = none) → Tabs T H1 → H1 f = none → H1 c' = some (CodeO c' (F c').qual) → Q (.ref f) (upd H1 f (LamO f (F c')))
theorem pe_lamO {X : Cx} {T : List (Addr × Str)} {c P : Addr} {params : Arguments} {body : Expr} {scope : Scope} {pos : Pos} (TB : TabB X.base X.mg c P) (hcode : X.env.code = .ref c) (hm : (P, X.env.qual ++ "<lambda>") ∈ T) (hu : ∀ p ∈ T, p.1 = P → p.2 = X.env.qual ++ "<lambda>")
    (hdef : defaultsOf params X.env = ([], [])) (hfree : ∀ y ∈ scope.names, y.2 = .free → X.env.scope.names.lookup y.1 = some .cell ∨ X.env.scope.names.lookup y.1 = some .free) :
    PE X (.Lambda params body scope pos) (tLamO T P fun c' => ⟨X.env.qual ++ "<lambda>", params, body, scope, cloFrom X.env.cells scope.names [], c'⟩) := by
  refine ⟨fun pins s σ H Q I h => ?_⟩
  obtain ⟨hT, q⟩ := h
  exact lam_told I TB hcode hm hu hT hdef (fun y hy e => (hfree y hy e).elim (fun z => I.ok.has _ (.inl z)) fun z => I.ok.has _ (.inr z)) fun f c' H1 s' I1 e1 n1 t1 nf hc => ⟨.ref f, _, I1, rfl, q f c' H1 e1 n1 t1 nf hc⟩
end Inf

set_option Elab.async false
set_option linter.all false
set_option maxRecDepth 100000
set_option maxHeartbeats 4000000
namespace Inf
open PySem PySem.Spec PyProof.Rows L2 NdefX LamX
/-- its words as those of a function: for the frame alone -/
def LF.nf (F : LF) : NF := ⟨"<lambda>", F.qual, F.params, [], F.scope, F.cl, F.c⟩
section
variable {P : Program} {w : World} {K : PySem.W.Frag} {mg : Str → Option Value} {base : Heap} {k : Nat} {f : Addr} {F : LF} {N ps : List Str} {sp : Sp}
/-- a lambda that captures nothing, called from anywhere -/
theorem lam_fnR (S : NScope N ps [] F.scope) (hcl : F.cl = []) (hb : ∀ (pm ctv : Value) (us : List Value), us.length = ps.length → bindArgs (PySem.W.kla_fn "<lambda>" F.qual F.params F.body F.scope F.cl pm (.ref F.c) ctv) ⟨us, []⟩ = pure (ps.zip us))
    (len : ∀ vs H Q E, sp vs H Q E → vs.length = ps.length)
    (hbody : ∀ (A : Around) (outer : List Env) (s : Shared) (H : Hp) (vs : List V) (Q : VK) (E : XK), Room k (A.deeper (envF F.nf f s.heap.objs.size)) → sp vs H Q E → ∃ te, PE (ncx CX0 P w K mg base N F.nf f A outer s H E) F.body te ∧ te (startF N vs []) H Q) :
    FnR P w K mg base CX0 (k + 1) f (fun vs H Q E => H f = some (LamO f F) ∧ H F.c = some (CodeO F.c F.qual) ∧ sp vs H Q E) := by
  intro A outer s H us vs Q E hr e0 r hsp
  obtain ⟨hf, hc, hsp⟩ := hsp
  have hl := len _ _ _ _ hsp
  have lim : s.heap.NoLimit := e0.mod.nolimit.keeps fun b o e => (e0.bs b o e).1
  obtain ⟨pm, ctv, ho⟩ := lamO_at e0.hok hf
  have C : CellsAt F.nf.cl [] [] s.heap H := by
    show CellsAt F.cl [] [] s.heap H
    rw [hcl]
    exact ⟨rfl, (fun y c e => nomatch e), (fun x y c e => nomatch e), (fun i y e => nomatch e)⟩
  refine PySem.W.kla_callFunE hr.depth ho rfl S.co S.gen rfl (codeO_at e0.hok hc) ?_
  rw [hb pm ctv us (by rw [← r.length]; exact hl)]
  refine wpAny_pure (wpAny_newFunctionEnv S.nocell (fun ⟨n, _⟩ hy => S.par n (List.of_mem_zip hy).1) (fun h₁ hns hsb => ⟨lim.fresh _ hsb, ?_⟩) S.kind)
  obtain ⟨te, ht, hq⟩ := hbody A outer s H vs Q E (hr.deeper _) hsp
  have kp : ∀ b o, s.heap.get? b = some o → h₁.get? b = some o := fun b o e => hsb.extBut b o (Nat.ne_of_lt (Heap.lt_size e)) (Heap.get?_push_of_some _ e)
  have I := inv_startN (CX := CX0) (P := P) (w := w) (K := K) (mg := mg) (base := base) (F := F.nf) (f := f) (A := A) (outer := outer) (E := E) (tk := s.toks + (ps.zip us).length) S hr.hd e0 hl r C hns kp
  refine PySem.W.kla_codeExpr (wpAny_mono (ht.run [] _ (startF N vs []) H Q I hq) (fun u s' hs => ?_) fun e s' hs => hs)
  obtain ⟨v, H', J, rv, q⟩ := hs
  exact ⟨v, H', J.os, J.bare, J.base, J.hok, rv, q⟩
end
end Inf

set_option Elab.async false
set_option linter.all false
set_option maxRecDepth 100000
set_option maxHeartbeats 4000000
namespace Inf
open PySem PySem.Spec PyProof.Rows L2 NdefX LamX
/-- a def that returns things that hold its names, by what K knows of it -/
theorem okC_of {P : Program} {w : World} {K : PySem.W.Frag} {mg : Str → Option Value} {base : Heap} {x qual : Str} {st : Stmt} {f : Addr} {N ps : List Str} {k : Nat} {sp : Sp} {oc : Value} {od : Option Addr} {kV doc pm cdv ct : Value} {an : Option Addr} {osl : Array (Option Value)}
    (lk : K.lookup f = some ⟨oc, od, .func (PySem.W.fnOf x qual (defArgs st) (defBody st) (defScope st) .none kV doc pm an cdv ct), osl⟩) (hcd : PySem.W.codeIn K cdv qual = true) (S : FnScope N ps (defScope st)) (len : ∀ vs H Q E, sp vs H Q E → vs.length = ps.length)
    (hbody : ∀ (A : Around) (outer : List Env) (s : Shared) (H : Hp) (vs : List V) (Q : VK) (E : XK), Room k (A.deeper (envOfC qual (defScope st) s.heap.objs.size f cdv)) → sp vs H Q E →
      ∃ t, PSsR (cxOf CX0 P w K mg base N qual (defScope st) f cdv A outer s H E).nox (defBody st) t ∧
        t (fun σ v H' => ∀ H'', Fin (envOfC qual (defScope st) s.heap.objs.size f cdv).cells (defScope st).names N σ H' H'' → Q v H'') (start N vs) H) :
    FnOk P w K mg base CX0 (k + 1) f (PySem.W.fnOf x qual (defArgs st) (defBody st) (defScope st) .none kV doc pm an cdv ct) ps sp := by
  refine ⟨len, fun A outer s H args us vs Q E hr e0 hb r hsp => ?_⟩
  have hl := len _ _ _ _ hsp
  have KX : K.In s.heap := e0.mod.kin.keeps fun b o e => (e0.bs b o e).1
  have lim : s.heap.NoLimit := e0.mod.nolimit.keeps fun b o e => (e0.bs b o e).1
  have hkind : ∀ y ∈ ps.zip us, (defScope st).names.lookup y.1 = some .local ∨ ((defScope st).names.lookup y.1 = some .cell ∧ ((cellsFrom (s.heap.objs.size + 1) (defScope st).names []).lookup y.1).isSome = true) := fun ⟨n, v⟩ hy => by
    rcases S.par n (List.of_mem_zip hy).1 with q | q
    · exact .inl q
    · exact .inr ⟨q, PySem.W.cellsFrom_some _ _ _ (.inl q)⟩
  refine codeAny_call_function hr.depth (KX _ _ lk) rfl S.co S.gen rfl (PySem.W.codeRec_of KX hcd) (hb _ _ _ _ ?_)
  refine wpAny_newFunctionEnv_cells S.kind hkind fun env he s1 xx => ?_
  subst he
  refine ⟨lim.keeps xx.toInCall.keep, codeAny_func ?_⟩
  obtain ⟨t, ht, hq⟩ := hbody A outer s H vs Q E (hr.deeper _) hsp
  have I : Inv (cxOf CX0 P w K mg base N qual (defScope st) f cdv A outer s H E) [] (start N vs) H s1 := inv_start S hr.hd e0 hl r xx
  refine wpAny_mono (ht.run [] s1 (start N vs) H _ (I.wish _) hq) (fun fl s' hs => ?_) fun e s' hs => False.elim hs
  obtain ⟨u, v, σ', H', rfl, J', rv, q⟩ := hs
  have J : Inv (cxOf CX0 P w K mg base N qual (defScope st) f cdv A outer s H E) [] σ' H' s' := J'.unwish
  obtain ⟨H'', hF, hU, hO⟩ := fin_make S.nd J
  exact ⟨v, H'', J.os, J.bare, hU, hO, rv, q H'' hF⟩
/-- a function that the def made, behind its return: its captured cells are told -/
theorem clo_fin {cells : List (Str × Addr)} {names nn : List (Str × NameKind)} {N fr : List Str} {σ : L2.St} {H H' : Hp} {f : Addr} {F : NF} {ws : List V} (X : Fin cells names N σ H H') (hc : ∀ y, names.lookup y = some .cell → (cells.lookup y).isSome = true) (hcl : F.cl = cloFrom cells nn []) (hcel : ∀ y ∈ nn, y.2 = .free → names.lookup y.1 = some .cell)
    (hfr : ∀ y ∈ fr, (y, NameKind.free) ∈ nn) (hrf : ∀ y ∈ nn, y.2 = .free → y.1 ∈ fr) (hf : H f = some (FnO f F)) (hco : H F.c = some (CodeO F.c F.qual)) (len : ws.length = fr.length) (at_ : ∀ (i : Nat) (y : Str), fr[i]? = some y → ∃ (j : Nat) (v : V), N[j]? = some y ∧ ws[i]? = some v ∧ σ[j]? = some (some v)) : Clo H' f F fr ws := by
  have hfree : ∀ y ∈ nn, y.2 = .free → ∃ c, cells.lookup y.1 = some c := fun y hy e => Option.isSome_iff_exists.mp (hc _ (hcel y hy e))
  refine ⟨X.same _ _ hf, X.same _ _ hco, len, fun y c e => ?_, fun x y c e1 e2 => ?_, fun i y e => ?_⟩
  · rw [hcl] at e
    have m := PySem.mem_of_lookup e
    rcases cloFrom_mem m with q | ⟨q, _⟩
    · cases q
    · exact hrf _ q rfl
  · rw [hcl] at e1 e2
    exact X.inj x y c (clo_cm hfree e1) (clo_cm hfree e2)
  · have hy : y ∈ fr := List.mem_of_getElem? e
    have hm := hfr y hy
    have hn := hcel _ hm rfl
    obtain ⟨c, hcc⟩ := Option.isSome_iff_exists.mp (hc y hn)
    obtain ⟨j, v, h1, h2, h3⟩ := at_ i y e
    refine ⟨c, v, ?_, h2, X.at_ j y c v h1 hn hcc h3⟩
    rw [hcl]
    exact clo_has hfree hm hcc
end Inf

set_option Elab.async false
set_option linter.all false
set_option maxRecDepth 100000
set_option maxHeartbeats 4000000
namespace Inf
open PySem PySem.Spec PyProof.Rows L2
section
variable {X : Cx}
/-- o.replace(str(e), "c"), a token out: what is struck is not c -/
def tStrike (to tt : TE) (c : Str) : TE := fun σ H Q => to σ H fun x H1 => ∃ a, x = V.str a ∧ tt σ H1 fun y H2 => ∃ i : Int, y = .int i ∧ i.natAbs.log2 < 1920 ∧ (Str.ofString (toString i) == c) = false ∧ a.length + (a.length + 1) * c.length ≤ 16777216 ∧ Q (.str (Txt.replace a (Str.ofString (toString i)) c)) H2
theorem pet_strike {o e : Expr} {to tt : TE} {c : Str} {ck : Nat} {apos np cp ccp pos : Pos} (ho : PE X o to) (he : PE X e tt) (hg : Gl X "str") (hm : X.mg "str" = none)
    (hbase : attributeBase o "replace" X.env (eval o X.env) = eval o X.env := by rfl)
    (hfew : ((backTo pos (starEach [.Call (.Name "str" np) [e] [] cp, .Constant (.str c) ck ccp] X.env)).all (fun x => !x.1) && (backToKw pos (keywordEach [] X.env)).all (fun x => x.1.isSome)
      && decide (([.Call (.Name "str" np) [e] [] cp, .Constant (.str c) ck ccp] : List Expr).length + ([] : List Keyword).length + (if ([] : List Keyword).isEmpty then 0 else 1) < 30)) = true := by rfl)
    (hline : (apos.endLine == pos.line) = true := by rfl) (hs : starEach [e] X.env = [(false, eval e X.env)] := by rfl) (hpl : (backTo cp (starEach [] X.env)).any (·.1) = false := by rfl) :
    PET X (.Call (.Attribute o "replace" apos) [.Call (.Name "str" np) [e] [] cp, .Constant (.str c) ck ccp] [] pos) (tStrike to tt c) := by
  intro pins s σ H Q h0 I h
  refine wpAny_Call_method_late hbase hfew hline rfl (wpAny_mono (PySem.wpAny_toks (ho.run pins s σ H _ I h)) (fun v s1 q => ?_) fun _ _ z => z.2)
  obtain ⟨hk1, x, H1, I1, r1, a, rfl, q⟩ := q
  obtain ⟨t, rfl⟩ := _root_.id r1
  refine ⟨"str", _, F.plainAttrs_str, F.slot_str_replace, F.type_str_replace, typeIs_str _ _ _, (fun _ e => nomatch e), ?_⟩
  refine Calls.callWith_builtin rfl (Calls.evalArgs_plain ?_)
  show wpAny _ _ (spliced ((false, eval (.Call (.Name "str" np) [e] [] cp) X.env) :: backTo pos (starEach [.Constant (.str c) ck ccp] X.env))) _ _ s1
  refine Calls.spliced_cons ?_
  refine wpAny_Call_Name_kw (ld_blt I1 hg hm (show bootBuiltins "str" = some (.type "str") by decide +kernel) ?_ (by decide) (by decide))
  refine PyProof.Rows.callWith_type1 (wpAny_mono (PySem.wpAny_toks ((pa_cons he pa_nil hs).run cp pins s1 σ H1 (fun vs H2 => match vs with
    | [y] => ∃ i : Int, y = V.int i ∧ i.natAbs.log2 < 1920 ∧ (Str.ofString (toString i) == c) = false ∧ a.length + (a.length + 1) * c.length ≤ 16777216 ∧ Q (.str (Txt.replace a (Str.ofString (toString i)) c)) H2
    | _ => False) I1 q)) (fun us s2 q2 => ?_) fun _ _ z => z.2) hs hpl
  obtain ⟨hk2, vs, H2, I2, r2, q2⟩ := q2
  match vs, r2, q2 with
  | [y], r2, ⟨i, ey, hz, hne, hb, q3⟩ =>
    subst ey
    obtain ⟨u, rfl, t2, rfl⟩ := vals1 r2
    have h2 : 1 ≤ s2.toks := Nat.le_trans h0 (Nat.le_trans hk1 hk2)
    refine PySem.P.str_of_int hz ?_
    refine Calls.spliced_cons (Calls.Constant_str (k := ck) (pos := ccp) (Calls.spliced_nil ?_))
    refine SC.replace (u := s2.toks) (v := s2.toks + 1) (Nat.ne_of_gt h2) (Nat.succ_ne_zero _) (Nat.ne_of_lt (Nat.lt_succ_self _)) hne hb fun t' k => ?_
    exact ⟨.str _, H2, I2.tok _, ⟨_, rfl⟩, q3⟩
/-- one token out: a return -/
theorem pst_ret {e : Expr} {te : TE} {pos : Pos} (he : PET X e te) : PST X (.Return (some e) pos) (tRet te) := fun pins s σ H D h0 I h =>
  wpAny_Return_some (thn (he pins s σ H _ h0 I h) fun v s1 ⟨x, H1, I1, r1, q1⟩ => ⟨x, σ, H1, I1, r1, q1⟩)
theorem psst_one {st : Stmt} {t : TS} (h1 : PST X st t) : PSsT X [st] t := by
  intro pins s σ H D h0 I h
  refine wpAny_execs_cons (thn (h1 pins s σ H D h0 I h) fun f s1 q => ?_)
  cases f with
  | next => exact wpAny_execs_nil q
  | ret v => exact q
  | brk => exact q
  | cont => exact q
/-- if x op 3: behind the test a token is out -/
theorem ps_ifC {a : Expr} {op : CmpOp} {r : R2} {ta : TE} {j : Int} {k : Nat} {cpos cp pos : Pos} {A B : List Stmt} {t u : TS} (ho : OpR X (compareOp op) r) (ha : PE X a ta) (hm : behindInMarks op (.Constant (.int j) k cpos) = false) (hA : PSsT X A t) (hB : PSs X B u) :
    PS X (.If (.Compare a [op] [.Constant (.int j) k cpos] cp) A B pos) (tIfS (tTest (tOp r ta (tC (.int j)))) t u) := by
  refine ⟨fun pins s σ H D I h => ?_⟩
  refine wpAny_If (wpAny_mono (Q := fun d s' => 1 ≤ s'.toks ∧ TP X pins σ (fun b H1 => if b = true then t D σ H1 else u D σ H1) d s') (E := X.xe) ?_ (fun d s1 q => ?_) fun _ _ z => z)
  · refine wpAny_isTrue_Compare1 (thn (ha.run pins s σ H _ I h) fun v s1 ⟨x, H1, I1, r1, q1⟩ => ?_) hm
    refine wpAny_Constant_int ?_
    refine wpAny_mono (PySem.wpAny_toks (ho pins _ σ H1 x (.int j) v (.int j s1.toks) _ (I1.tok _) r1 ⟨_, rfl⟩ q1)) (fun c s3 q3 => ?_) fun _ _ z => z.2
    obtain ⟨hk, z, H3, I3, r3, b, e, q3⟩ := q3
    subst e
    cases r3
    exact wpAny_truthy_bool ⟨Nat.le_trans (Nat.le_add_left 1 _) hk, H3, I3, q3⟩
  · obtain ⟨hk, H1, I1, q1⟩ := q
    cases d with
    | true => exact hA pins s1 σ H1 D hk I1 q1
    | false => exact hB.run pins s1 σ H1 D I1 q1
end
end Inf

set_option Elab.async false
set_option linter.all false
set_option maxRecDepth 100000
set_option maxHeartbeats 4000000
namespace Inf
open PySem PySem.Spec PyProof.Rows L2
section
variable {X : Cx} {CX : CXT} {k n : Nat} {f C : Addr} {fd : FuncData} {ps ks : List Str} {sp : Sp} {E : XK} {m : Str} {pos apos : Pos} {e o : Expr} {es : List Expr} {kws : List Keyword} {ta : TE} {t tk : TA} {g : List Value → List Value → List Value} {gV : List V → List V → List V}
/-- a method called with keywords: n values are written, then j keywords -/
def tMethN (C : Addr) (m : Str) (n j : Nat) (sp : Sp) (gV : List V → List V → List V) (E : XK) (ta : TE) (t tk : TA) : TE := fun σ H Q => ta σ H fun x H1 => ∃ a dx fs, x = V.ref a ∧ H1 a = some (.ins C dx fs) ∧ fs.lookup m = none ∧ t σ H1 fun vs H2 => tk σ H2 fun zs H3 => vs.length = n ∧ zs.length = j ∧ sp (gV (.ref a :: vs) zs) H3 Q E
theorem pe_methK0 {pl : Sem Bool} (he : PE X o ta) (c : Cls X.K C) (hm : Meth X.K C m f) (F : FnOk X.prog X.w X.K X.mg X.base CX k f fd ps sp) (hr : Room k X.A) (hb : KBn X.K fd ps 1 ks g gV) (hx : Passes CX X E) (hkw : PK X kws tk)
    (hall : (backToKw pos (keywordEach kws X.env)).all (·.1.isSome) = true := by rfl) (hks : (backToKw pos (keywordEach kws X.env)).filterMap (·.1) = ks := by rfl)
    (hpl : ((backTo pos (starEach [] X.env)).any (·.1) || (backToKw pos (keywordEach kws X.env)).any (·.1.isNone)) = false := by rfl)
    (ht : eval (.Call (.Attribute o m apos) [] kws pos) X.env = (do
      let ov ← eval o X.env
      standAt apos.atName
      let (f, first) ← holding [ov] (getMethod ov m pl)
      callWith pos f first (backTo pos (starEach [] X.env)) (backToKw pos (keywordEach kws X.env))) := by rfl) :
    PE X (.Call (.Attribute o m apos) [] kws pos) (tMethN C m 0 ks.length sp gV E ta tNil tk) := by
  refine ⟨fun pins s σ H Q I h => ?_⟩
  refine PySem.W.methodCall_KW (pl := pl) (thn (he.run pins s σ H _ I h) fun u s1 ⟨x, H1, I1, rx, a, dx, fs, ex, ea, l, q⟩ => ?_) ht
  subst ex
  obtain rfl : u = Value.ref a := rx
  refine getmeth_ok I1 ea c hm l ?_
  refine PySem.W.callWith_KW0 (first := [.ref a]) (h₀ := X.base) I.ok.mod.kin hm.kp hall (thn (hkw.run pos pins s1 σ H1 _ I1 q) fun ws s2 ⟨zs, H2, I2, rz, l1, l2, q2⟩ => ⟨I2.kIn, ?_⟩) hpl
  rw [hks]
  exact run_fnN (us := [.ref a]) (vs := [.ref a]) F hr hb hx I2 (.cons rfl .nil) rz rfl l2 q2
theorem pe_methK {pl : Sem Bool} (he : PE X o ta) (c : Cls X.K C) (hm : Meth X.K C m f) (F : FnOk X.prog X.w X.K X.mg X.base CX k f fd ps sp) (hr : Room k X.A) (hb : KBn X.K fd ps (n + 1) ks g gV) (hx : Passes CX X E) (ha : PA X (e :: es) t) (hkw : PK X kws tk)
    (hall : (backToKw pos (keywordEach kws X.env)).all (·.1.isSome) = true := by rfl) (hks : (backToKw pos (keywordEach kws X.env)).filterMap (·.1) = ks := by rfl)
    (hst : starEach (e :: es) X.env = (false, eval e X.env) :: starEach es X.env := by rfl)
    (hpl : ((backTo pos (starEach (e :: es) X.env)).any (·.1) || (backToKw pos (keywordEach kws X.env)).any (·.1.isNone)) = false := by rfl)
    (ht : eval (.Call (.Attribute o m apos) (e :: es) kws pos) X.env = (do
      let ov ← eval o X.env
      standAt apos.atName
      let (f, first) ← holding [ov] (getMethod ov m pl)
      callWith pos f first (backTo pos (starEach (e :: es) X.env)) (backToKw pos (keywordEach kws X.env))) := by rfl) :
    PE X (.Call (.Attribute o m apos) (e :: es) kws pos) (tMethN C m n ks.length sp gV E ta t tk) := by
  refine ⟨fun pins s σ H Q I h => ?_⟩
  refine PySem.W.methodCall_KW (pl := pl) (thn (he.run pins s σ H _ I h) fun u s1 ⟨x, H1, I1, rx, a, dx, fs, ex, ea, l, q⟩ => ?_) ht
  subst ex
  obtain rfl : u = Value.ref a := rx
  refine getmeth_ok I1 ea c hm l ?_
  refine PySem.W.callWith_KW (first := [.ref a]) (h₀ := X.base) I.ok.mod.kin hm.kp hall (thn (ha.run pos pins s1 σ H1 _ I1 q) fun us s2 ⟨vs, H2, I2, r, q2⟩ => ?_) hpl hst
  refine thn (hkw.run pos pins s2 σ H2 _ I2 q2) fun ws s3 ⟨zs, H3, I3, rz, l1, l2, q3⟩ => ⟨I3.kIn, ?_⟩
  rw [hks]
  exact run_fnN (us := .ref a :: us) (vs := .ref a :: vs) F hr hb hx I3 (.cons rfl r) rz (congrArg Nat.succ l1) l2 q3
end
end Inf

set_option Elab.async false
set_option linter.all false
set_option maxRecDepth 100000
set_option maxHeartbeats 4000000
namespace Inf
open PySem PySem.Spec PyProof.Rows L2 NdefX LamX
section
variable {X : Cx} {pins : List (Addr × Obj)} {σ : L2.St} {H : Hp} {s : Shared}
/-- a lambda in a def that makes functions by name, too: the table knows the names by their places -/
theorem lam_toldN {T : List NTab} {nm : Nat → Nat → Str} {c P : Addr} {params : Arguments} {body : Expr} {scope : Scope} {pos : Pos} {E : Value → Shared → Prop} {Q : Value → Shared → Prop} (I : Inv X pins σ H s) (TB : TabB X.base X.mg c P) (hcode : X.env.code = .ref c)
    (hm : (P, nm) ∈ T) (hn : nm pos.line pos.col = X.env.qual ++ "<lambda>") (hu : ∀ p ∈ T, p.1 = P → p.2 = nm) (hT : TabsN T H) (hdef : defaultsOf params X.env = ([], [])) (hfree : ∀ y ∈ scope.names, y.2 = .free → ∃ c, X.env.cells.lookup y.1 = some c)
    (h : ∀ (f c' : Addr) (H1 : Hp) (s' : Shared), Inv X pins σ H1 s' → ExtN H H1 → (∀ b, H1 b = Option.none → H b = Option.none) → TabsN T H1 → H f = none → H1 f = some (LamO f ⟨X.env.qual ++ "<lambda>", params, body, scope, cloFrom X.env.cells scope.names [], c'⟩) → H1 c' = some (CodeO c' (X.env.qual ++ "<lambda>")) → Q (.ref f) s') :
    wpAny (model X.prog X.w) X.A (eval (.Lambda params body scope pos) X.env) Q E s := by
  obtain ⟨ps, hP, ht, ha⟩ := (show TabN H P nm from hT _ hm)
  have bP := TB.bm.keeps (h' := s.heap) I.bk
  have gP : s.heap.get? P = some { cls := .none, data := .fields ps } := I.hok P _ hP
  refine PySem.W.kla_eval hdef ?_
  cases cd : codeAmong pos ps.toList with
  | none =>
    refine PySem.W.kla_makeFunction (mg := X.mg) (c := c) (P := P) (ps := ps) (closure_ok hfree) I.ok.glob (I.mod.glob.keeps I.bk) hcode (TB.code.keeps I.bk) gP ht cd TB.gP bP fun c' ctv h' tk hx hge hlt hrec htb => ?_
    obtain ⟨c2, oc, vs, t, e2, hoc, hd, hv⟩ := hrec
    cases e2
    have nC : H c' = none := I.hok.fresh hge
    have I1 := inv_table (q := X.env.qual ++ "<lambda>") (t' := tk) (more := #[rawInt pos.line, rawInt pos.col, .ref c']) (h' := h') I hP hx htb hge ⟨oc, vs, t, hoc, hd, hv⟩
    have hE : ExtN H (upd (upd H P (.tbl (ps ++ #[rawInt pos.line, rawInt pos.col, .ref c']))) c' (CodeO c' (X.env.qual ++ "<lambda>"))) := fun b o e n => by
      rw [upd_ne (ne_of_none e nC), upd_ne (fun z => n ps (Option.some.inj (e.symm.trans (by rw [z]; exact hP))))]
      exact e
    have eL : (ps ++ #[rawInt pos.line, rawInt pos.col, .ref c']).toList = ps.toList ++ [rawInt pos.line, rawInt pos.col, .ref c'] := by simp
    have T1 : TabsN T (upd (upd H P (.tbl (ps ++ #[rawInt pos.line, rawInt pos.col, .ref c']))) c' (CodeO c' (X.env.qual ++ "<lambda>"))) := fun p hp => by
      by_cases hb : p.1 = P
      · rw [hu p hp hb, hb]
        refine ⟨_, by rw [upd_ne (ne_of_none hP nC), upd_same], by rw [eL]; exact PySem.TriplesOk_snoc _ _ _ _ ht, fun p' cv hcv => ?_⟩
        rw [eL] at hcv
        rcases among_app2 _ ht hcv with z | ⟨z, z1, z2⟩
        · obtain ⟨c0, e1, e2⟩ := ha p' cv z
          exact ⟨c0, e1, hE _ _ e2 codeO_ne⟩
        · refine ⟨c', z, ?_⟩
          rw [← z1, ← z2, hn]
          exact upd_same
      · obtain ⟨ps', a1, a2, a3⟩ := hT p hp
        refine ⟨ps', by rw [upd_ne (ne_of_none a1 nC), upd_ne hb]; exact a1, a2, fun p' cv hcv => ?_⟩
        obtain ⟨c0, e1, e2⟩ := a3 p' cv hcv
        exact ⟨c0, e1, hE _ _ e2 codeO_ne⟩
    have nF := I1.hok.fresh (Nat.le_refl h'.objs.size)
    have I2 := I1.laid (a := h'.objs.size) (o := LamO h'.objs.size ⟨X.env.qual ++ "<lambda>", params, body, scope, cloFrom X.env.cells scope.names [], c'⟩) (h' := h'.push (PySem.W.kla_obj "<lambda>" (X.env.qual ++ "<lambda>") params body scope (cloFrom X.env.cells scope.names []) ((X.mg "__name__").getD .none) c' ctv)) (t' := tk)
      (fun b u z => Heap.get?_push_of_some _ z) (Nat.le_refl _) (lamO_ok ⟨_, _, Heap.get?_push_size _ rfl⟩)
    refine h h'.objs.size c' _ _ I2 (fun b o e n => ?_) (fun b e => NdefX.upd_none (NdefX.upd_none (NdefX.upd_none e))) (T1.ext fun b o e => ?_) (I.hok.fresh (Nat.le_trans hge (Nat.le_of_lt hlt))) upd_same ?_
    · have e1 := hE b o e n
      exact (upd_ne (ne_of_none e1 nF)).trans e1
    · exact (upd_ne (ne_of_none e nF)).trans e
    · exact (upd_ne (Nat.ne_of_lt hlt)).trans upd_same
  | some cv =>
    obtain ⟨c', e, hco⟩ := ha pos cv cd
    subst e
    rw [hn] at hco
    refine PySem.W.kla_makeFunctionHit (mg := X.mg) (c := c) (P := P) (ps := ps) (closure_ok hfree) I.ok.glob (I.mod.glob.keeps I.bk) hcode (TB.code.keeps I.bk) gP ht cd bP fun ctv h' tk hx hsz => ?_
    have I0 : Inv X pins σ H { s with heap := h', toks := tk } := I.kept hx
    have nF : H h'.objs.size = none := I0.hok.fresh (Nat.le_refl _)
    have I2 := I0.laid (a := h'.objs.size) (o := LamO h'.objs.size ⟨X.env.qual ++ "<lambda>", params, body, scope, cloFrom X.env.cells scope.names [], c'⟩) (h' := h'.push (PySem.W.kla_obj "<lambda>" (X.env.qual ++ "<lambda>") params body scope (cloFrom X.env.cells scope.names []) ((X.mg "__name__").getD .none) c' ctv)) (t' := tk)
      (fun b u z => Heap.get?_push_of_some _ z) (Nat.le_refl _) (lamO_ok ⟨_, _, Heap.get?_push_size _ rfl⟩)
    refine h h'.objs.size c' _ _ I2 (fun b o e n => ?_) (fun b e => NdefX.upd_none e) (hT.ext fun b o e => ?_) nF upd_same ?_
    · exact (upd_ne (ne_of_none e nF)).trans e
    · exact (upd_ne (ne_of_none e nF)).trans e
    · exact (upd_ne (ne_of_none hco nF)).trans hco
end
def tLamN (T : List NTab) (F : Addr → LF) : TE := fun σ H Q => TabsN T H ∧ ∀ (f c' : Addr) (H1 : Hp), ExtN H H1 → (∀ b, H1 b = Option.none → H b = Option.none) → TabsN T H1 → H f = none → H1 f = some (LamO f (F c')) → H1 c' = some (CodeO c' (F c').qual) → Q (.ref f) H1
theorem pe_lamN {X : Cx} {T : List NTab} {nm : Nat → Nat → Str} {c P : Addr} {params : Arguments} {body : Expr} {scope : Scope} {pos : Pos} (TB : TabB X.base X.mg c P) (hcode : X.env.code = .ref c) (hm : (P, nm) ∈ T) (hn : nm pos.line pos.col = X.env.qual ++ "<lambda>") (hu : ∀ p ∈ T, p.1 = P → p.2 = nm)
    (hdef : defaultsOf params X.env = ([], [])) (hfree : ∀ y ∈ scope.names, y.2 = .free → X.env.scope.names.lookup y.1 = some .cell ∨ X.env.scope.names.lookup y.1 = some .free) :
    PE X (.Lambda params body scope pos) (tLamN T fun c' => ⟨X.env.qual ++ "<lambda>", params, body, scope, cloFrom X.env.cells scope.names [], c'⟩) := by
  refine ⟨fun pins s σ H Q I h => ?_⟩
  obtain ⟨hT, q⟩ := h
  exact lam_toldN I TB hcode hm hn hu hT hdef (fun y hy e => (hfree y hy e).elim (fun z => I.ok.has _ (.inl z)) fun z => I.ok.has _ (.inr z)) fun f c' H1 s' I1 e1 n1 t1 nf hf hc => ⟨.ref f, H1, I1, rfl, q f c' H1 e1 n1 t1 nf hf hc⟩
end Inf

set_option Elab.async false
set_option linter.all false
set_option maxRecDepth 100000
set_option maxHeartbeats 4000000
namespace Inf
open PySem PySem.Spec PyProof.Rows L2 ClX
section
variable {M : Model} {A : Around} {E : Value → Shared → Prop} {s : Shared} {K : PySem.W.Frag} {env : Env} {pos : Pos} {first : List Value} {Q : Value → Shared → Prop} {kws : List Keyword} {q g : Addr} {self : Value}
/-- a bound method, called by names alone -/
theorem callWith_MK0 (hf : PySem.W.fnIn K g = true) (hall : (backToKw pos (keywordEach kws env)).all (·.1.isSome) = true)
    (h : wpAny M A (evalAll ((backToKw pos (keywordEach kws env)).map (·.2))) (fun ks s₂ => PySem.W.MethP K q g self s₂.heap ∧ wpAny M A (call (.ref q) (first ++ []) (((backToKw pos (keywordEach kws env)).filterMap (·.1)).zip ks)) Q E s₂) E s)
    (hplain : ((backTo pos (starEach [] env)).any (·.1) || (backToKw pos (keywordEach kws env)).any (·.1.isNone)) = false := by rfl) :
    wpAny M A (callWith pos (.ref q) first (backTo pos (starEach [] env)) (backToKw pos (keywordEach kws env))) Q E s :=
  PySem.W.callWith_of hplain (PySem.W.keeps_M hf) (evalArgs_kw2_nil hall h)
theorem callWith_MK {e : Expr} {rest : List Expr} (hf : PySem.W.fnIn K g = true) (hall : (backToKw pos (keywordEach kws env)).all (·.1.isSome) = true)
    (h : wpAny M A (spliced (backTo pos (starEach (e :: rest) env))) (fun vs s₁ => wpAny M A (evalAll ((backToKw pos (keywordEach kws env)).map (·.2)))
      (fun ks s₂ => PySem.W.MethP K q g self s₂.heap ∧ wpAny M A (call (.ref q) (first ++ vs) (((backToKw pos (keywordEach kws env)).filterMap (·.1)).zip ks)) Q E s₂) E s₁) E s)
    (hplain : ((backTo pos (starEach (e :: rest) env)).any (·.1) || (backToKw pos (keywordEach kws env)).any (·.1.isNone)) = false := by rfl) (he : starEach (e :: rest) env = (false, eval e env) :: starEach rest env := by rfl) :
    wpAny M A (callWith pos (.ref q) first (backTo pos (starEach (e :: rest) env)) (backToKw pos (keywordEach kws env))) Q E s :=
  PySem.W.callWith_of hplain (PySem.W.keeps_M hf) (evalArgs_kw2 hall h he)
end
section
variable {X : Cx} {CX : CXT} {k n : Nat} {f C p : Addr} {mc : Value} {fd : FuncData} {ps ks : List Str} {sp : Sp} {E : XK} {m x : Str} {pos apos : Pos} {e o : Expr} {es : List Expr} {kws : List Keyword} {ta : TE} {t tk : TA} {g : List Value → List Value → List Value} {gV : List V → List V → List V}
/-- the call of a bound classmethod by values and names -/
theorem run_cmN {pins : List (Addr × Obj)} {σ : L2.St} {H : Hp} {s : Shared} {Q : VK} {q : Addr} {us ws : List Value} {vs zs : List V} (F : FnOk X.prog X.w X.K X.mg X.base CX k f fd ps sp) (hr : Room k X.A) (hb : KBn X.K fd ps (n + 1) ks g gV) (hx : Passes CX X E)
    (I : Inv X ((q, PySem.W.methodObj (.ref f) (.ref C)) :: pins) σ H s) (r : Vals vs us) (rz : Vals zs ws) (l1 : vs.length = n) (l2 : zs.length = ks.length) (h : sp (gV (.ref C :: vs) zs) H Q E) :
    wpAny (model X.prog X.w) X.A (call (.ref q) us (ks.zip ws)) (EP X pins σ Q) X.xe s := by
  have r1 : Vals (V.ref C :: vs) (Value.ref C :: us) := .cons rfl r
  have r2 := hb.rel r1 rz
  have n1 : (Value.ref C :: us).length = n + 1 := by
    rw [List.length_cons, ← r.length, l1]
  have z : wpAny (model X.prog X.w) X.A (call (.ref q) us (ks.zip ws)) (EP X ((q, PySem.W.methodObj (.ref f) (.ref C)) :: pins) σ Q) X.xe s := by
    refine wpAny_call (PySem.W.method_call (pin_at I) (codeAny_mono (F.run X.A X.stack s H ⟨Value.ref C :: us, ks.zip ws⟩ (g (Value.ref C :: us) ws) _ Q E hr I.env0 (hb.to s _ ws I.kIn n1 (rz.length.symm.trans l2)) r2 h) fun r s' hq => ?_))
    cases r with
    | error e => exact hx _ σ H s e s' I hq
    | ok fl =>
      cases fl with
      | ret u => exact I.after hq
      | next => exact False.elim hq
      | brk => exact False.elim hq
      | cont => exact False.elim hq
  exact thn z fun _ _ y => unpinE y
/-- C.m(k = v, ..), m a classmethod: n values are written, then j names -/
def tCMethN (C : Addr) (n j : Nat) (sp : Sp) (gV : List V → List V → List V) (E : XK) (ta : TE) (t tk : TA) : TE := fun σ H Q => ta σ H fun x H1 => x = .ref C ∧ t σ H1 fun vs H2 => tk σ H2 fun zs H3 => vs.length = n ∧ zs.length = j ∧ sp (gV (.ref C :: vs) zs) H3 Q E
theorem pe_cmethK0 {pl : Sem Bool} (he : PE X o ta) (r : CRead X.K C mc) (c : CMet X.K C mc m p f) (F : FnOk X.prog X.w X.K X.mg X.base CX k f fd ps sp) (hr : Room k X.A) (hb : KBn X.K fd ps 1 ks g gV) (hx : Passes CX X E) (hkw : PK X kws tk)
    (hall : (backToKw pos (keywordEach kws X.env)).all (·.1.isSome) = true := by rfl) (hks : (backToKw pos (keywordEach kws X.env)).filterMap (·.1) = ks := by rfl)
    (hpl : ((backTo pos (starEach [] X.env)).any (·.1) || (backToKw pos (keywordEach kws X.env)).any (·.1.isNone)) = false := by rfl)
    (ht : eval (.Call (.Attribute o m apos) [] kws pos) X.env = (do
      let ov ← eval o X.env
      standAt apos.atName
      let (f, first) ← holding [ov] (getMethod ov m pl)
      callWith pos f first (backTo pos (starEach [] X.env)) (backToKw pos (keywordEach kws X.env))) := by rfl) :
    PE X (.Call (.Attribute o m apos) [] kws pos) (tCMethN C 0 ks.length sp gV E ta tNil tk) := by
  refine ⟨fun pins s σ H Q I h => ?_⟩
  refine PySem.W.methodCall_KW (pl := pl) (thn (he.run pins s σ H _ I h) fun u s1 ⟨x, H1, I1, rx, ex, q⟩ => ?_) ht
  subst ex
  obtain rfl : u = Value.ref C := rx
  refine getmethcm_ok I1 r c fun s2 I2 => ?_
  refine callWith_MK0 (first := []) c.fi hall (thn (hkw.run pos _ s2 σ H1 _ I2 q) fun ws s3 ⟨zs, H2, I3, rz, l1, l2, q2⟩ => ⟨⟨pin_at I3, I3.kIn⟩, ?_⟩) hpl
  rw [hks]
  exact run_cmN (us := []) (vs := []) F hr hb hx I3 .nil rz rfl l2 q2
theorem pe_cmethK {pl : Sem Bool} (he : PE X o ta) (r : CRead X.K C mc) (c : CMet X.K C mc m p f) (F : FnOk X.prog X.w X.K X.mg X.base CX k f fd ps sp) (hr : Room k X.A) (hb : KBn X.K fd ps (n + 1) ks g gV) (hx : Passes CX X E) (ha : PA X (e :: es) t) (hkw : PK X kws tk)
    (hall : (backToKw pos (keywordEach kws X.env)).all (·.1.isSome) = true := by rfl) (hks : (backToKw pos (keywordEach kws X.env)).filterMap (·.1) = ks := by rfl)
    (hst : starEach (e :: es) X.env = (false, eval e X.env) :: starEach es X.env := by rfl)
    (hpl : ((backTo pos (starEach (e :: es) X.env)).any (·.1) || (backToKw pos (keywordEach kws X.env)).any (·.1.isNone)) = false := by rfl)
    (ht : eval (.Call (.Attribute o m apos) (e :: es) kws pos) X.env = (do
      let ov ← eval o X.env
      standAt apos.atName
      let (f, first) ← holding [ov] (getMethod ov m pl)
      callWith pos f first (backTo pos (starEach (e :: es) X.env)) (backToKw pos (keywordEach kws X.env))) := by rfl) :
    PE X (.Call (.Attribute o m apos) (e :: es) kws pos) (tCMethN C n ks.length sp gV E ta t tk) := by
  refine ⟨fun pins s σ H Q I h => ?_⟩
  refine PySem.W.methodCall_KW (pl := pl) (thn (he.run pins s σ H _ I h) fun u s1 ⟨x, H1, I1, rx, ex, q⟩ => ?_) ht
  subst ex
  obtain rfl : u = Value.ref C := rx
  refine getmethcm_ok I1 r c fun s2 I2 => ?_
  refine callWith_MK (self := .ref C) (first := []) c.fi hall (thn (ha.run pos _ s2 σ H1 _ I2 q) fun us s3 ⟨vs, H2, I3, rv, q2⟩ => ?_) hpl hst
  refine thn (hkw.run pos _ s3 σ H2 _ I3 q2) fun ws s4 ⟨zs, H3, I4, rz, l1, l2, q3⟩ => ⟨⟨pin_at I4, I4.kIn⟩, ?_⟩
  rw [hks]
  exact run_cmN F hr hb hx I4 rv rz l1 l2 q3
/-- c(e, .., k = v, ..), c a local name that holds the class at C -/
def tMakeL (C : Addr) (n j : Nat) (sp : Sp) (gV : List V → List V → List V) (E : XK) (ta : TE) (t tk : TA) : TE := fun σ H Q => ta σ H fun x H0 => x = .ref C ∧ tMakeK C n j sp gV E t tk σ H0 Q
theorem pe_makeL (hc : PE X (.Name x pos) ta) (M : Mk X.K C f) (F : FnOk X.prog X.w X.K X.mg X.base CX k f fd ps sp) (hr : Room (k + 1) X.A) (hb : KBn X.K fd ps (n + 1) ks g gV) (hx : Passes CX X E) (ha : PA X (e :: es) t) (hkw : PK X kws tk)
    (hall : (backToKw apos (keywordEach kws X.env)).all (·.1.isSome) = true := by rfl) (hks : (backToKw apos (keywordEach kws X.env)).filterMap (·.1) = ks := by rfl)
    (he : starEach (e :: es) X.env = (false, eval e X.env) :: starEach es X.env := by rfl) (hpl : ((backTo apos (starEach (e :: es) X.env)).any (·.1) || (backToKw apos (keywordEach kws X.env)).any (·.1.isNone)) = false := by rfl) :
    PE X (.Call (.Name x pos) (e :: es) kws apos) (tMakeL C n ks.length sp gV E ta t tk) := by
  refine ⟨fun pins s σ H Q I h => ?_⟩
  refine wpAny_Call_Name_kw (thn (hc.run pins s σ H _ I h) fun u s0 ⟨y, H0, I0, ry, ey, h0⟩ => ?_)
  subst ey
  obtain rfl : u = Value.ref C := ry
  refine PySem.W.callWith_KW (h₀ := X.base) I0.ok.mod.kin M.kp hall (thn (ha.run apos pins s0 σ H0 _ I0 h0) fun us s1 ⟨vs, H1, I1, r, q⟩ => ?_) hpl he
  refine thn (hkw.run apos pins s1 σ H1 _ I1 q) fun ws s2 ⟨zs, H2, I2, rz, l1, l2, q2⟩ => ⟨I2.kIn, ?_⟩
  rw [hks]
  exact run_makeK M F hr hb hx I2 r rz l1 l2 q2
end
end Inf

set_option Elab.async false
set_option linter.all false
set_option maxRecDepth 100000
set_option maxHeartbeats 4000000
namespace Inf
open PySem PySem.Spec PyProof.Rows L2 NdefX LamX
/-! ### a lambda that captures cells -/
/-- a cell at c that holds v -/
def CellAt (H : Hp) (c : Addr) (v : V) : Prop := ∃ φ, H c = some (.ext φ) ∧ ∀ h : Heap, φ h → ∃ u, L2.RelV v u ∧ h.IsCell c (some u)
theorem CellAt.of {H : Hp} {c : Addr} {v : V} (h : H c = some (CellO c v)) : CellAt H c v := ⟨_, h, fun _ z => z⟩
theorem CellAt.at_ {P : Program} {w : World} {H : Hp} {h : Heap} {c : Addr} {v : V} (hok : HOk P w H h) (e : CellAt H c v) : ∃ u, L2.RelV v u ∧ h.IsCell c (some u) := by
  obtain ⟨φ, e1, e2⟩ := e
  obtain ⟨z, _, _⟩ := hok c _ e1
  exact e2 _ z
theorem CellAt.same {H H1 : Hp} {c : Addr} {v : V} (h : CellAt H c v) (s : Same H H1) : CellAt H1 c v := by
  obtain ⟨φ, e1, e2⟩ := h
  exact ⟨φ, s _ _ e1, e2⟩
/-- the lambda F stands at f, and its captured cells hold ws -/
structure LClo (H : Hp) (f : Addr) (F : LF) (fr : List Str) (ws : List V) : Prop where
  fn : H f = some (LamO f F)
  code : H F.c = some (CodeO F.c F.qual)
  len : ws.length = fr.length
  dom : ∀ y c, F.cl.lookup y = some c → y ∈ fr
  inj : ∀ x y c, F.cl.lookup x = some c → F.cl.lookup y = some c → x = y
  at_ : ∀ (i : Nat) (y : Str), fr[i]? = some y → ∃ c v, F.cl.lookup y = some c ∧ ws[i]? = some v ∧ CellAt H c v
theorem LClo.same {H H1 : Hp} {f : Addr} {F : LF} {fr : List Str} {ws : List V} (h : LClo H f F fr ws) (s : Same H H1) : LClo H1 f F fr ws :=
  ⟨s _ _ h.fn, s _ _ h.code, h.len, h.dom, h.inj, fun i y e => by
    obtain ⟨c, v, a, b, d⟩ := h.at_ i y e
    exact ⟨c, v, a, b, d.same s⟩⟩
theorem LClo.cell {H : Hp} {f : Addr} {F : LF} {fr : List Str} {ws : List V} (h : LClo H f F fr ws) {b : Addr} (hb : b ∈ cellsOf F.nf fr) : ∃ v, CellAt H b v := by
  obtain ⟨y, hy, e⟩ := mem_cells.mp hb
  obtain ⟨i, hi⟩ := List.mem_iff_getElem?.mp hy
  obtain ⟨c, v, a, _, d⟩ := h.at_ i y hi
  have e' : F.cl.lookup y = some b := e
  rw [e'] at a
  cases a
  exact ⟨v, d⟩
theorem LClo.out {H : Hp} {f : Addr} {F : LF} {fr : List Str} {ws : List V} (h : LClo H f F fr ws) {b : Addr} {o : HO} (e : H b = some o) (n : ∀ φ, o ≠ .ext φ) : b ∉ cellsOf F.nf fr := fun hb => by
  obtain ⟨v, φ, d, _⟩ := h.cell hb
  rw [e] at d
  exact n _ (Option.some.inj d)
section
variable {P : Program} {w : World} {K : PySem.W.Frag} {mg : Str → Option Value} {base : Heap} {k : Nat} {f : Addr} {F : LF} {N ps fr : List Str} {sp : List (Option V) → Sp}
theorem lam_run (S : NScope N ps fr F.scope) (hb : ∀ (pm ctv : Value) (us : List Value), us.length = ps.length → bindArgs (PySem.W.kla_fn "<lambda>" F.qual F.params F.body F.scope F.cl pm (.ref F.c) ctv) ⟨us, []⟩ = pure (ps.zip us))
    (len : ∀ ws vs H Q E, sp ws vs H Q E → vs.length = ps.length)
    (hbody : ∀ (A : Around) (outer : List Env) (s : Shared) (H : Hp) (vs : List V) (ws : List (Option V)) (Q : VK) (E : XK), Room k (A.deeper (envF F.nf f s.heap.objs.size)) → ws.length = fr.length → sp ws vs H Q E → ∃ te, PE (ncx CX0 P w K mg base N F.nf f A outer s H E) F.body te ∧ te (startF N vs ws) H Q)
    (A : Around) (outer : List Env) (s : Shared) (H : Hp) (us : List Value) (vs : List V) (ws : List (Option V)) (Q : VK) (E : XK) (hr : Room (k + 1) A) (e0 : Env0 P w K mg base A outer s H) (hf : H f = some (LamO f F)) (hc : H F.c = some (CodeO F.c F.qual)) (C : CellsAt F.cl fr ws s.heap H) (r : Vals vs us) (hsp : sp ws vs H Q E) :
    codeAny (model P w) A (.call (.ref f) ⟨us, []⟩) (CR CX0 outer P w H s Q E) s := by
  have hl := len _ _ _ _ _ hsp
  have lim : s.heap.NoLimit := e0.mod.nolimit.keeps fun b o e => (e0.bs b o e).1
  obtain ⟨pm, ctv, ho⟩ := lamO_at e0.hok hf
  refine PySem.W.kla_callFunE hr.depth ho rfl S.co S.gen rfl (codeO_at e0.hok hc) ?_
  rw [hb pm ctv us (by rw [← r.length]; exact hl)]
  refine wpAny_pure (wpAny_newFunctionEnv S.nocell (fun ⟨n, _⟩ hy => S.par n (List.of_mem_zip hy).1) (fun h₁ hns hsb => ⟨lim.fresh _ hsb, ?_⟩) S.kind)
  obtain ⟨te, ht, hq⟩ := hbody A outer s H vs ws Q E (hr.deeper _) C.len hsp
  have kp : ∀ b o, s.heap.get? b = some o → h₁.get? b = some o := fun b o e => hsb.extBut b o (Nat.ne_of_lt (Heap.lt_size e)) (Heap.get?_push_of_some _ e)
  have I := inv_startN (CX := CX0) (P := P) (w := w) (K := K) (mg := mg) (base := base) (F := F.nf) (f := f) (A := A) (outer := outer) (E := E) (tk := s.toks + (ps.zip us).length) S hr.hd e0 hl r C hns kp
  refine PySem.W.kla_codeExpr (wpAny_mono (ht.run [] _ (startF N vs ws) H Q I hq) (fun u s' hs => ?_) fun e s' hs => hs)
  obtain ⟨v, H', J, rv, q⟩ := hs
  exact ⟨v, H', J.os, J.bare, J.base, J.hok, rv, q⟩
/-- A LAMBDA THAT CAPTURES CELLS, called from anywhere: its cells are told; while it runs they are left out, behind it they are put back -/
theorem lam_cloR (S : NScope N ps fr F.scope) (hb : ∀ (pm ctv : Value) (us : List Value), us.length = ps.length → bindArgs (PySem.W.kla_fn "<lambda>" F.qual F.params F.body F.scope F.cl pm (.ref F.c) ctv) ⟨us, []⟩ = pure (ps.zip us))
    (len : ∀ ws vs H Q E, sp ws vs H Q E → vs.length = ps.length)
    (hbody : ∀ (A : Around) (outer : List Env) (s : Shared) (H : Hp) (vs : List V) (ws : List (Option V)) (Q : VK) (E : XK), Room k (A.deeper (envF F.nf f s.heap.objs.size)) → ws.length = fr.length → sp ws vs H Q E → ∃ te, PE (ncx CX0 P w K mg base N F.nf f A outer s H E) F.body te ∧ te (startF N vs ws) H Q) :
    FnR P w K mg base CX0 (k + 1) f (fun vs H Q E => ∃ ws, LClo H f F fr ws ∧ sp (ws.map some) vs (cut (cellsOf F.nf fr) H) (fun v H1 => (∀ b, b ∈ cellsOf F.nf fr → H1 b = Option.none) → Q v (mend (cellsOf F.nf fr) H H1)) E) := by
  intro A outer s H us vs Q E hr e0 r hsp
  obtain ⟨ws, hc, hsp⟩ := hsp
  have cellAt : ∀ b, b ∈ cellsOf F.nf fr → ∃ v, CellAt H b v := fun b hb => hc.cell hb
  have isC : ∀ b, b ∈ cellsOf F.nf fr → ∃ u, s.heap.IsCell b (some u) := fun b hb => by
    obtain ⟨v, e⟩ := cellAt b hb
    obtain ⟨u, _, z⟩ := e.at_ e0.hok
    exact ⟨u, z⟩
  have fnout : f ∉ cellsOf F.nf fr := fun hb => by
    obtain ⟨u, o, e1, e2⟩ := isC f hb
    obtain ⟨pm, ctv, e3⟩ := lamO_at e0.hok hc.fn
    rw [e1] at e3
    cases e3
    cases e2
  have cout : F.c ∉ cellsOf F.nf fr := fun hb => by
    obtain ⟨u, o, e1, e2⟩ := isC F.c hb
    obtain ⟨⟨oc, vs', t, h1, h2, h3⟩, _, _⟩ := e0.hok F.c _ hc.code
    rw [e1] at h1
    cases h1
    rw [e2] at h2
    cases h2
  have hokc : HOk P w (cut (cellsOf F.nf fr) H) s.heap := fun b o e => by
    by_cases hb : b ∈ cellsOf F.nf fr
    · rw [cut_in hb] at e
      cases e
    · rw [cut_out hb] at e
      refine (e0.hok b o e).stay (fun c u _ q => q) (fun c q => ?_) fun c xs q => ?_
      · rw [cut_out (hc.out q (fun φ z => nomatch z))]
        exact q
      · rw [cut_out (hc.out q (fun φ z => nomatch z))]
        exact q
  have noneC : ∀ b, H b = Option.none → cut (cellsOf F.nf fr) H b = Option.none := fun b e => by
    by_cases hb : b ∈ cellsOf F.nf fr
    · exact cut_in hb
    · rw [cut_out hb]
      exact e
  have e1 : Env0 P w K mg base A outer s (cut (cellsOf F.nf fr) H) := ⟨e0.frames, e0.mod, fun b o q => ⟨(e0.bs b o q).1, noneC b (e0.bs b o q).2⟩, e0.bsz, e0.funs, fun b hb => noneC b (e0.frf b hb), hokc, e0.bare⟩
  have C : CellsAt F.cl fr (ws.map some) s.heap (cut (cellsOf F.nf fr) H) := by
    refine ⟨by rw [List.length_map]; exact hc.len, fun y c e => ?_, hc.inj, fun i y e => ?_⟩
    · have hb : c ∈ cellsOf F.nf fr := mem_cells.mpr ⟨y, hc.dom y c e, e⟩
      obtain ⟨u, z⟩ := isC c hb
      exact ⟨cut_in hb, _, z⟩
    · obtain ⟨c, v, a, b, d⟩ := hc.at_ i y e
      refine ⟨c, a, fun v' e' => ?_⟩
      rw [List.getElem?_map, b] at e'
      cases e'
      obtain ⟨u, r', z⟩ := d.at_ e0.hok
      exact ⟨u, r', z⟩
  refine codeAny_mono (lam_run S hb len hbody A outer s (cut (cellsOf F.nf fr) H) us vs (ws.map some) _ E hr e1 (by rw [cut_out fnout]; exact hc.fn) (by rw [cut_out cout]; exact hc.code) C r hsp) fun res s' hq => ?_
  cases res with
  | error e => exact hq
  | ok fl =>
    cases fl with
    | next => exact hq
    | brk => exact hq
    | cont => exact hq
    | ret u =>
      obtain ⟨v, H1, os, bare, un, hok1, rv, q⟩ := hq
      have gone : ∀ b, b ∈ cellsOf F.nf fr → H1 b = Option.none := fun b hb => by
        obtain ⟨u, o, z1, z2⟩ := isC b hb
        exact un.free b o z1 (cut_in hb) (by simp)
      have notfr : ∀ b, b ∈ cellsOf F.nf fr → b ∉ frs outer := fun b hb z => by
        obtain ⟨v, φ, d, _⟩ := cellAt b hb
        rw [e0.frf b z] at d
        cases d
      refine ⟨v, mend (cellsOf F.nf fr) H H1, os, bare, ⟨fun b o a n h1 h2 => un.keep b o a (noneC b n) h1 h2, fun b o a n h1 h2 => un.slot b o a (noneC b n) h1 h2, fun b o a n h2 => ?_, un.there, fun b xs e => ?_, fun b o u e => ?_, fun b ps e => ?_⟩, fun b o e => ?_, rv, q gone⟩
      · by_cases hb : b ∈ cellsOf F.nf fr
        · rw [mend_in hb]
          exact n
        · rw [mend_out hb]
          exact un.free b o a (noneC b n) h2
      · have hb := hc.out e (fun φ z => nomatch z)
        rw [mend_out hb]
        exact un.tups b xs (by rw [cut_out hb]; exact e)
      · have hb := hc.out e (fun φ z => nomatch z)
        rw [mend_out hb]
        exact un.frzs b o u (by rw [cut_out hb]; exact e)
      · have hb := hc.out e (fun φ z => nomatch z)
        rw [mend_out hb]
        exact un.tbls b ps (by rw [cut_out hb]; exact e)
      · by_cases hb : b ∈ cellsOf F.nf fr
        · rw [mend_in hb] at e
          obtain ⟨v', φ, d, _⟩ := cellAt b hb
          rw [d] at e
          cases e
          obtain ⟨z, ⟨o', z1⟩, st⟩ := e0.hok b _ d
          have z2 := un.keep b o' z1 (cut_in hb) (notfr b hb) (by simp)
          refine ⟨st _ _ z (fun x hx => ?_), ⟨o', z2⟩, st⟩
          rw [z1] at hx
          cases hx
          exact z2
        · rw [mend_out hb] at e
          refine (hok1 b o e).stay (fun c u _ q => q) (fun c q => ?_) fun c xs q => ?_
          · have hb' : c ∉ cellsOf F.nf fr := fun z => by
              rw [gone c z] at q
              cases q
            rw [mend_out hb']
            exact q
          · have hb' : c ∉ cellsOf F.nf fr := fun z => by
              rw [gone c z] at q
              cases q
            rw [mend_out hb']
            exact q
end
/-! ### a call while the def's cells are told -/
/-- HT is H with the def's cells cs told -/
structure Tel (cells : List (Str × Addr)) (names : List (Str × NameKind)) (N : List Str) (σ : L2.St) (H : Hp) (cs : List Addr) (HT : Hp) : Prop where
  no : ∀ b, b ∈ cs → H b = Option.none
  ext : ∀ b, b ∈ cs → ∃ φ, HT b = some (.ext φ)
  out : ∀ b, b ∉ cs → HT b = H b
  inj : ∀ x y c, cells.lookup x = some c → cells.lookup y = some c → x = y
  has : ∀ y, names.lookup y = some .cell → ∃ c, cells.lookup y = some c
  at_ : ∀ (i : Nat) (y : Str) (c : Addr) (v : V), N[i]? = some y → names.lookup y = some .cell → cells.lookup y = some c → σ[i]? = some (some v) → CellAt HT c v
  nc : ∀ b, b ∈ cs → ∀ q, HT b ≠ some (CodeO b q)
  mem : ∀ y c, cells.lookup y = some c → c ∈ cs
theorem Tel.same {cells : List (Str × Addr)} {names : List (Str × NameKind)} {N : List Str} {σ : L2.St} {H HT : Hp} {cs : List Addr} (t : Tel cells names N σ H cs HT) : Same H HT := fun b o e => by
  rw [t.out b fun z => by rw [t.no b z] at e; cases e]
  exact e
theorem Tel.cut_at {cells : List (Str × Addr)} {names : List (Str × NameKind)} {N : List Str} {σ : L2.St} {H HT H1 : Hp} {cs : List Addr} (t : Tel cells names N σ H cs HT) (g : ∀ b, b ∈ cs → H1 b = HT b) {b : Addr} {o : HO} (e : H1 b = some o) (n : ∀ φ, o ≠ .ext φ) : cut cs H1 b = some o := by
  rw [cut_out fun z => ?_]
  · exact e
  · obtain ⟨φ, f⟩ := t.ext b z
    rw [g b z, f] at e
    exact n _ (Option.some.inj e).symm
theorem Tel.cut_same {cells : List (Str × Addr)} {names : List (Str × NameKind)} {N : List Str} {σ : L2.St} {H HT H1 : Hp} {cs : List Addr} (t : Tel cells names N σ H cs HT) (s : Same HT H1) : Same H (cut cs H1) := fun b o e => by
  rw [cut_out fun z => by rw [t.no b z] at e; cases e]
  exact s _ _ (t.same _ _ e)
theorem Tel.back {cells : List (Str × Addr)} {names : List (Str × NameKind)} {N : List Str} {σ : L2.St} {H HT : Hp} {cs : List Addr} (t : Tel cells names N σ H cs HT) : cut cs HT = H := funext fun b => by
  by_cases hb : b ∈ cs
  · rw [cut_in hb, t.no b hb]
  · rw [cut_out hb, t.out b hb]
theorem mend_cut {cs : List Addr} {H : Hp} : mend cs H (cut cs H) = H := funext fun b => by
  by_cases hb : b ∈ cs
  · rw [mend_in hb]
  · rw [mend_out hb, cut_out hb]
/-- a lambda that was made in the def, while the def's cells are told -/
theorem Tel.lclo {cells : List (Str × Addr)} {names : List (Str × NameKind)} {N : List Str} {σ : L2.St} {H HT : Hp} {cs : List Addr} (t : Tel cells names N σ H cs HT) {NL psL fr : List Str} {F : LF} {f : Addr} {js : List Nat} {ws : List V}
    (S : NScope NL psL fr F.scope) (hcl : F.cl = cloFrom cells F.scope.names []) (hfree : ∀ y ∈ fr, names.lookup y = some .cell)
    (hN : js.map (fun j => N[j]?) = fr.map some) (hσ : js.map (fun j => σ[j]?) = ws.map fun v => some (some v))
    (hf : H f = some (LamO f F)) (hc : H F.c = some (CodeO F.c F.qual)) : LClo HT f F fr ws := by
  have hfr : ∀ y ∈ F.scope.names, y.2 = .free → ∃ c, cells.lookup y.1 = some c := fun y hy e => t.has _ (hfree _ (S.free y hy e))
  have l1 := congrArg List.length hN
  have l2 := congrArg List.length hσ
  rw [List.length_map, List.length_map] at l1 l2
  refine ⟨t.same _ _ hf, t.same _ _ hc, by omega, fun y c e => ?_, fun x y c e1 e2 => ?_, fun i y e => ?_⟩
  · rw [hcl] at e
    rcases cloFrom_mem (PySem.mem_of_lookup e) with h | ⟨h, _⟩
    · cases h
    · exact S.free _ h rfl
  · rw [hcl] at e1 e2
    exact t.inj x y c (clo_cm hfr e1) (clo_cm hfr e2)
  · have my : y ∈ fr := List.mem_of_getElem? e
    obtain ⟨c, hc⟩ := t.has y (hfree y my)
    have li : i < fr.length := (List.getElem?_eq_some_iff.mp e).1
    obtain ⟨j, hj⟩ : ∃ j, js[i]? = some j := ⟨_, List.getElem?_eq_getElem (by omega)⟩
    obtain ⟨v, hv⟩ : ∃ v, ws[i]? = some v := ⟨_, List.getElem?_eq_getElem (by omega)⟩
    have n1 : (js.map fun j => N[j]?)[i]? = some (some y) := by
      rw [hN, List.getElem?_map, e]
      rfl
    have n2 : (js.map fun j => σ[j]?)[i]? = some (some (some v)) := by
      rw [hσ, List.getElem?_map, hv]
      rfl
    rw [List.getElem?_map, hj] at n1 n2
    exact ⟨c, v, by rw [hcl]; exact clo_has hfr (PySem.mem_of_lookup (S.frk y my)) hc, hv, t.at_ j y c v (Option.some.inj n1) (hfree y my) hc (Option.some.inj n2)⟩
/-- the cells of such a lambda are the def's own -/
theorem Tel.lin {cells : List (Str × Addr)} {names : List (Str × NameKind)} {N : List Str} {σ : L2.St} {H HT : Hp} {cs : List Addr} (t : Tel cells names N σ H cs HT) {NL psL fr : List Str} {F : LF}
    (S : NScope NL psL fr F.scope) (hcl : F.cl = cloFrom cells F.scope.names []) (hfree : ∀ y ∈ fr, names.lookup y = some .cell) : ∀ b, b ∈ cellsOf F.nf fr → b ∈ cs := fun b hb => by
  have hfr : ∀ y ∈ F.scope.names, y.2 = .free → ∃ c, cells.lookup y.1 = some c := fun y hy e => t.has _ (hfree _ (S.free y hy e))
  obtain ⟨y, hy, e⟩ := mem_cells.mp hb
  have e : F.cl.lookup y = some b := e
  rw [hcl] at e
  exact t.mem _ _ (clo_cm hfr e)
section
variable {X : Cx} {pins : List (Addr × Obj)} {σ : L2.St} {H : Hp} {s : Shared}
def frCells (l : List (Str × Addr)) : List Addr := l.filterMap fun p => l.lookup p.1
theorem mem_frCells {l : List (Str × Addr)} {b : Addr} (h : b ∈ frCells l) : ∃ x, l.lookup x = some b := by
  obtain ⟨p, _, e⟩ := List.mem_filterMap.mp h
  exact ⟨p.1, e⟩
theorem frCells_mem {l : List (Str × Addr)} {x : Str} {b : Addr} (h : l.lookup x = some b) : b ∈ frCells l := List.mem_filterMap.mpr ⟨(x, b), PySem.mem_of_lookup h, h⟩
theorem tel_run {k : Nat} {f : Addr} {fd : FuncData} {ps : List Str} {ds : List Value} {dvs : List V} {sp : Sp} {Q : VK} {us : List Value} {vs : List V} (F : FnOk X.prog X.w X.K X.mg X.base CX0 k f fd ps sp) (hr : Room k X.A) (hb : Binds X.K fd ps ds) (hd : Vals dvs ds) (hfn : ∀ x, X.fn x = true)
    (I : Inv X pins σ H s) (r : Vals vs us) (h : ∀ cs HT, Tel X.env.cells X.env.scope.names X.N σ H cs HT → sp (vs ++ dvs) HT (fun v H1 => (∀ b, b ∈ cs → H1 b = HT b) ∧ Q v (cut cs H1)) E0) : wpAny (model X.prog X.w) X.A (call (.ref f) us) (EP X pins σ Q) X.xe s := by
  let cs := frCells X.env.cells
  let HT : Hp := fun b => if b ∈ cs then (match s.heap.get? b with | some o => some (.ext fun h => h.get? b = some o) | Option.none => Option.none) else H b
  have big : ∀ b, b ∈ cs → X.s_0.heap.objs.size ≤ b := fun b hb => by
    obtain ⟨x, e⟩ := mem_frCells hb
    exact I.ok.cab x b (hfn x) e
  have no : ∀ b, b ∈ cs → H b = Option.none := fun b hb => by
    obtain ⟨x, e⟩ := mem_frCells hb
    exact I.freeC x b e
  have inT : ∀ b, b ∈ cs → ∃ v o, s.heap.get? b = some o ∧ o.data = .cell v ∧ HT b = some (.ext fun h => h.get? b = some o) := fun b hb => by
    obtain ⟨x, e⟩ := mem_frCells hb
    obtain ⟨v, o, e1, e2⟩ := I.cell x b e
    refine ⟨v, o, e1, e2, ?_⟩
    show (if b ∈ cs then _ else _) = _
    rw [if_pos hb, e1]
  have outT : ∀ b, b ∉ cs → HT b = H b := fun b hb => if_neg hb
  have nonT : ∀ b, b ∉ cs → H b = Option.none → HT b = Option.none := fun b hb e => (outT b hb).trans e
  have T : Tel X.env.cells X.env.scope.names X.N σ H cs HT := by
    refine ⟨no, fun b hb => ?_, outT, I.ok.inj, fun y h => I.ok.has _ (.inl h), fun i y c v h1 h2 h3 h4 => ?_, fun b hb q hq => ?_, fun y c e => frCells_mem e⟩
    · obtain ⟨v, o, _, _, e⟩ := inT b hb
      exact ⟨_, e⟩
    · obtain ⟨v', o, e1, e2, e3⟩ := inT c (frCells_mem h3)
      obtain ⟨m, hn, hl⟩ := I.loc
      obtain ⟨u, ru, lk⟩ := hl i y v h1 h4 (.inr (.inl h2))
      refine ⟨_, e3, fun h hh => ⟨u, ru, o, hh, ?_⟩⟩
      rcases lk with ⟨z, _⟩ | ⟨_, c', hc', hcell⟩
      · have z' : X.env.scope.names.lookup y = some .local := z
        rw [h2] at z'
        cases z'
      · rw [h3] at hc'
        cases hc'
        obtain ⟨o', g1, g2⟩ := hcell
        rw [e1] at g1
        cases g1
        exact g2
    · obtain ⟨v, o, e1, e2, e3⟩ := inT b hb
      rw [e3] at hq
      have hq := HO.ext.inj (Option.some.inj hq)
      have hq := (congrFun hq s.heap).mp e1
      obtain ⟨oc, vs, t, g1, g2, _⟩ := hq
      rw [e1] at g1
      cases g1
      rw [e2] at g2
      cases g2
  have ncs : ∀ b, b < X.s_0.heap.objs.size → b ∉ cs := fun b l m => Nat.not_lt.mpr (big b m) l
  have e0 := I.env0
  have notfr : ∀ b, b ∈ frs X.stack → b ∉ cs := fun b hb m => by
    rcases List.mem_cons.mp (I.stkSub b hb) with e | hb'
    · obtain ⟨x, ex⟩ := mem_frCells m
      exact I.cne x b ex e
    · obtain ⟨_, o, ho, _⟩ := I.ok.funs.mem hb'
      exact ncs b (Heap.lt_size ho) m
  have nonext : ∀ {b : Addr} {o : HO}, H b = some o → b ∉ cs := fun e m => by
    rw [no _ m] at e
    cases e
  have e1 : Env0 X.prog X.w X.K X.mg X.base X.A X.stack s HT := by
    refine ⟨e0.frames, e0.mod, fun b o q => ⟨(e0.bs b o q).1, nonT b (ncs b (Nat.lt_of_lt_of_le (Heap.lt_size q) I.ok.bsz)) (e0.bs b o q).2⟩, e0.bsz, e0.funs, fun b hb => nonT b (notfr b hb) (e0.frf b hb), fun b o e => ?_, e0.bare⟩
    by_cases hb : b ∈ cs
    · obtain ⟨v, o', g1, g2, g3⟩ := inT b hb
      rw [g3] at e
      cases e
      exact ⟨g1, ⟨o', g1⟩, fun h1 h2 z k => k _ z⟩
    · rw [outT b hb] at e
      refine (e0.hok b o e).stay (fun c u _ q => q) (fun c q => ?_) fun c xs q => ?_
      · rw [outT c (nonext q)]
        exact q
      · rw [outT c (nonext q)]
        exact q
  have hq0 := h cs HT T
  have r2 : Vals (vs ++ dvs) (us ++ ds) := r.append hd
  have hl : (us ++ ds).length = ps.length := by rw [← r2.length]; exact F.len _ _ _ _ hq0
  refine wpAny_call (codeAny_mono (F.run X.A X.stack s HT ⟨us, []⟩ (us ++ ds) (vs ++ dvs) _ E0 hr e1 (hb s us I.kIn hl) r2 hq0) fun r s' hq => ?_)
  cases r with
  | error e => exact False.elim hq
  | ok fl =>
    cases fl with
    | next => exact False.elim hq
    | brk => exact False.elim hq
    | cont => exact False.elim hq
    | ret u =>
      obtain ⟨v, H1, os, bare, un, hok1, rv, kc, q⟩ := hq
      have notin : ∀ {b : Addr} {o : HO}, H1 b = some o → (∀ φ, o ≠ .ext φ) → b ∉ cs := fun {b o} e n m => by
        obtain ⟨v, o', _, _, g3⟩ := inT b m
        rw [kc b m, g3] at e
        exact n _ (Option.some.inj e).symm
      have keepC : ∀ b o, b ∈ cs → s.heap.get? b = some o → s'.heap.get? b = some o := fun b o m e => by
        obtain ⟨v, o', g1, _, g3⟩ := inT b m
        rw [g1] at e
        cases e
        have := hok1 b _ ((kc b m).trans g3)
        exact this.1
      refine I.after ⟨v, cut cs H1, os, bare, ⟨fun b o a n h1 h2 => ?_, fun b o a n h1 h2 => ?_, fun b o a n h2 => ?_, un.there, fun b xs e => ?_, fun b o u e => ?_, fun b ps e => ?_⟩, fun b o e => ?_, rv, q⟩
      · by_cases m : b ∈ cs
        · exact keepC b o m a
        · exact un.keep b o a (nonT b m n) h1 h2
      · exact un.slot b o a (nonT b (notfr b h1) n) h1 h2
      · by_cases m : b ∈ cs
        · exact cut_in m
        · rw [cut_out m]
          exact un.free b o a (nonT b m n) h2
      · have m := nonext e
        rw [cut_out m]
        exact un.tups b xs ((outT b m).trans e)
      · have m := nonext e
        rw [cut_out m]
        exact un.frzs b o u ((outT b m).trans e)
      · have m := nonext e
        rw [cut_out m]
        exact un.tbls b ps ((outT b m).trans e)
      · by_cases m : b ∈ cs
        · rw [cut_in m] at e
          cases e
        · rw [cut_out m] at e
          refine (hok1 b o e).stay (fun c u _ q => q) (fun c q => ?_) fun c xs q => ?_
          · rw [cut_out (notin q (fun φ z => nomatch z))]
            exact q
          · rw [cut_out (notin q (fun φ z => nomatch z))]
            exact q
end
/-- f(..) while the cells are told -/
def tCallT (X : Cx) (sp : Sp) (dvs : List V) (t : TA) : TE := fun σ H Q => t σ H fun vs H1 => ∀ cs HT, Tel X.env.cells X.env.scope.names X.N σ H1 cs HT → sp (vs ++ dvs) HT (fun v H2 => (∀ b, b ∈ cs → H2 b = HT b) ∧ Q v (cut cs H2)) E0
theorem pe_callT {X : Cx} {k : Nat} {f : Addr} {fd : FuncData} {ps : List Str} {ds : List Value} {dvs : List V} {sp : Sp} {x : Str} {p pos : Pos} {e : Expr} {es : List Expr} {t : TA} (hfn : ∀ x, X.fn x = true) (F : FnOk X.prog X.w X.K X.mg X.base CX0 k f fd ps sp) (hr : Room k X.A) (hg : Gl X x) (hm : X.mg x = some (.ref f)) (hk : PySem.W.keepIn X.K (.ref f) = true) (hb : Binds X.K fd ps ds) (hd : Vals dvs ds)
    (ha : PA X (e :: es) t) (hdb : (x == ("__debug__" : Str)) = false := by decide) (he : starEach (e :: es) X.env = (false, eval e X.env) :: starEach es X.env := by rfl) (hpl : (backTo pos (starEach es X.env)).any (·.1) = false := by rfl) :
    PE X (.Call (.Name x p) (e :: es) [] pos) (tCallT X sp dvs t) := by
  refine ⟨fun pins s σ H Q I h => ?_⟩
  refine wpAny_Call_Name_kw (ld_glob I hg hm ?_ hdb)
  refine PySem.W.callWith_K (h₀ := X.base) I.ok.mod.kin hk (thn (ha.run pos pins s σ H _ I h) fun us s1 ⟨vs, H1, I1, r, q⟩ => ⟨I1.kIn, ?_⟩) he hpl
  exact tel_run F hr hb hd hfn I1 r q
section
variable {X : Cx} {pins : List (Addr × Obj)} {σ : L2.St} {H : Hp} {s : Shared}
/-- a lambda in a def that makes functions by name, too: the table knows the names by their places -/
theorem lam_toldP {T : List NTab} {nm : Nat → Nat → Str} {c P : Addr} {params : Arguments} {body : Expr} {scope : Scope} {pos : Pos} {E : Value → Shared → Prop} {Q : Value → Shared → Prop} (I : Inv X pins σ H s) (TB : TabB X.base X.mg c P) (hcode : X.env.code = .ref c)
    (hm : (P, nm) ∈ T) (hn : nm pos.line pos.col = X.env.qual ++ "<lambda>") (hu : ∀ p ∈ T, p.1 = P → p.2 = nm) (hT : TabsN T H) (hdef : defaultsOf params X.env = ([], [])) (hfree : ∀ y ∈ scope.names, y.2 = .free → ∃ c, X.env.cells.lookup y.1 = some c)
    (h : ∀ (f c' : Addr) (H1 : Hp) (s' : Shared), Inv X pins σ H1 s' → (∀ b o, H b = some o → b ≠ P → H1 b = some o) → (∀ b, H1 b = Option.none → H b = Option.none) → TabsN T H1 → H f = none → H1 f = some (LamO f ⟨X.env.qual ++ "<lambda>", params, body, scope, cloFrom X.env.cells scope.names [], c'⟩) → H1 c' = some (CodeO c' (X.env.qual ++ "<lambda>")) → Q (.ref f) s') :
    wpAny (model X.prog X.w) X.A (eval (.Lambda params body scope pos) X.env) Q E s := by
  obtain ⟨ps, hP, ht, ha⟩ := (show TabN H P nm from hT _ hm)
  have bP := TB.bm.keeps (h' := s.heap) I.bk
  have gP : s.heap.get? P = some { cls := .none, data := .fields ps } := I.hok P _ hP
  refine PySem.W.kla_eval hdef ?_
  cases cd : codeAmong pos ps.toList with
  | none =>
    refine PySem.W.kla_makeFunction (mg := X.mg) (c := c) (P := P) (ps := ps) (closure_ok hfree) I.ok.glob (I.mod.glob.keeps I.bk) hcode (TB.code.keeps I.bk) gP ht cd TB.gP bP fun c' ctv h' tk hx hge hlt hrec htb => ?_
    obtain ⟨c2, oc, vs, t, e2, hoc, hd, hv⟩ := hrec
    cases e2
    have nC : H c' = none := I.hok.fresh hge
    have I1 := inv_table (q := X.env.qual ++ "<lambda>") (t' := tk) (more := #[rawInt pos.line, rawInt pos.col, .ref c']) (h' := h') I hP hx htb hge ⟨oc, vs, t, hoc, hd, hv⟩
    have hE : ExtN H (upd (upd H P (.tbl (ps ++ #[rawInt pos.line, rawInt pos.col, .ref c']))) c' (CodeO c' (X.env.qual ++ "<lambda>"))) := fun b o e n => by
      rw [upd_ne (ne_of_none e nC), upd_ne (fun z => n ps (Option.some.inj (e.symm.trans (by rw [z]; exact hP))))]
      exact e
    have eL : (ps ++ #[rawInt pos.line, rawInt pos.col, .ref c']).toList = ps.toList ++ [rawInt pos.line, rawInt pos.col, .ref c'] := by simp
    have T1 : TabsN T (upd (upd H P (.tbl (ps ++ #[rawInt pos.line, rawInt pos.col, .ref c']))) c' (CodeO c' (X.env.qual ++ "<lambda>"))) := fun p hp => by
      by_cases hb : p.1 = P
      · rw [hu p hp hb, hb]
        refine ⟨_, by rw [upd_ne (ne_of_none hP nC), upd_same], by rw [eL]; exact PySem.TriplesOk_snoc _ _ _ _ ht, fun p' cv hcv => ?_⟩
        rw [eL] at hcv
        rcases among_app2 _ ht hcv with z | ⟨z, z1, z2⟩
        · obtain ⟨c0, e1, e2⟩ := ha p' cv z
          exact ⟨c0, e1, hE _ _ e2 codeO_ne⟩
        · refine ⟨c', z, ?_⟩
          rw [← z1, ← z2, hn]
          exact upd_same
      · obtain ⟨ps', a1, a2, a3⟩ := hT p hp
        refine ⟨ps', by rw [upd_ne (ne_of_none a1 nC), upd_ne hb]; exact a1, a2, fun p' cv hcv => ?_⟩
        obtain ⟨c0, e1, e2⟩ := a3 p' cv hcv
        exact ⟨c0, e1, hE _ _ e2 codeO_ne⟩
    have nF := I1.hok.fresh (Nat.le_refl h'.objs.size)
    have I2 := I1.laid (a := h'.objs.size) (o := LamO h'.objs.size ⟨X.env.qual ++ "<lambda>", params, body, scope, cloFrom X.env.cells scope.names [], c'⟩) (h' := h'.push (PySem.W.kla_obj "<lambda>" (X.env.qual ++ "<lambda>") params body scope (cloFrom X.env.cells scope.names []) ((X.mg "__name__").getD .none) c' ctv)) (t' := tk)
      (fun b u z => Heap.get?_push_of_some _ z) (Nat.le_refl _) (lamO_ok ⟨_, _, Heap.get?_push_size _ rfl⟩)
    have hX : ∀ b o, H b = some o → b ≠ P → (upd (upd H P (.tbl (ps ++ #[rawInt pos.line, rawInt pos.col, .ref c']))) c' (CodeO c' (X.env.qual ++ "<lambda>"))) b = some o := fun b o e n => by
      rw [upd_ne (ne_of_none e nC), upd_ne n]
      exact e
    refine h h'.objs.size c' _ _ I2 (fun b o e n => ?_) (fun b e => NdefX.upd_none (NdefX.upd_none (NdefX.upd_none e))) (T1.ext fun b o e => ?_) (I.hok.fresh (Nat.le_trans hge (Nat.le_of_lt hlt))) upd_same ?_
    · have e1 := hX b o e n
      exact (upd_ne (ne_of_none e1 nF)).trans e1
    · exact (upd_ne (ne_of_none e nF)).trans e
    · exact (upd_ne (Nat.ne_of_lt hlt)).trans upd_same
  | some cv =>
    obtain ⟨c', e, hco⟩ := ha pos cv cd
    subst e
    rw [hn] at hco
    refine PySem.W.kla_makeFunctionHit (mg := X.mg) (c := c) (P := P) (ps := ps) (closure_ok hfree) I.ok.glob (I.mod.glob.keeps I.bk) hcode (TB.code.keeps I.bk) gP ht cd bP fun ctv h' tk hx hsz => ?_
    have I0 : Inv X pins σ H { s with heap := h', toks := tk } := I.kept hx
    have nF : H h'.objs.size = none := I0.hok.fresh (Nat.le_refl _)
    have I2 := I0.laid (a := h'.objs.size) (o := LamO h'.objs.size ⟨X.env.qual ++ "<lambda>", params, body, scope, cloFrom X.env.cells scope.names [], c'⟩) (h' := h'.push (PySem.W.kla_obj "<lambda>" (X.env.qual ++ "<lambda>") params body scope (cloFrom X.env.cells scope.names []) ((X.mg "__name__").getD .none) c' ctv)) (t' := tk)
      (fun b u z => Heap.get?_push_of_some _ z) (Nat.le_refl _) (lamO_ok ⟨_, _, Heap.get?_push_size _ rfl⟩)
    refine h h'.objs.size c' _ _ I2 (fun b o e n => ?_) (fun b e => NdefX.upd_none e) (hT.ext fun b o e => ?_) nF upd_same ?_
    · exact (upd_ne (ne_of_none e nF)).trans e
    · exact (upd_ne (ne_of_none e nF)).trans e
    · exact (upd_ne (ne_of_none hco nF)).trans hco
end
def tLamP (T : List NTab) (P : Addr) (F : Addr → LF) : TE := fun σ H Q => TabsN T H ∧ ∀ (f c' : Addr) (H1 : Hp), (∀ b o, H b = some o → b ≠ P → H1 b = some o) → (∀ b, H1 b = Option.none → H b = Option.none) → TabsN T H1 → H f = none → H1 f = some (LamO f (F c')) → H1 c' = some (CodeO c' (F c').qual) → Q (.ref f) H1
theorem pe_lamP {X : Cx} {T : List NTab} {nm : Nat → Nat → Str} {c P : Addr} {params : Arguments} {body : Expr} {scope : Scope} {pos : Pos} (TB : TabB X.base X.mg c P) (hcode : X.env.code = .ref c) (hm : (P, nm) ∈ T) (hn : nm pos.line pos.col = X.env.qual ++ "<lambda>") (hu : ∀ p ∈ T, p.1 = P → p.2 = nm)
    (hdef : defaultsOf params X.env = ([], [])) (hfree : ∀ y ∈ scope.names, y.2 = .free → X.env.scope.names.lookup y.1 = some .cell ∨ X.env.scope.names.lookup y.1 = some .free) :
    PE X (.Lambda params body scope pos) (tLamP T P fun c' => ⟨X.env.qual ++ "<lambda>", params, body, scope, cloFrom X.env.cells scope.names [], c'⟩) := by
  refine ⟨fun pins s σ H Q I h => ?_⟩
  obtain ⟨hT, q⟩ := h
  exact lam_toldP I TB hcode hm hn hu hT hdef (fun y hy e => (hfree y hy e).elim (fun z => I.ok.has _ (.inl z)) fun z => I.ok.has _ (.inr z)) fun f c' H1 s' I1 e1 n1 t1 nf hf hc => ⟨.ref f, H1, I1, rfl, q f c' H1 e1 n1 t1 nf hf hc⟩
/-! ### f(e, ..), f a name that holds a function that was made in a def -/
def tActP (P : Program) (w : World) (K : PySem.W.Frag) (mg : Str → Option Value) (base : Heap) (CX : CXT) (k i : Nat) (E : L2.St → XK) (t : TA) : TE := fun σ H Q => ∃ f, σ[i]? = some (some (.ref f)) ∧ t σ H fun vs H1 => ∃ o sp, H1 f = some o ∧ FnHO f o ∧ FnR P w K mg base CX k f sp ∧ sp vs H1 Q (E σ)
theorem lamHO2 {f : Addr} {F : LF} : FnHO f (LamO f F) := lamHO
theorem pe_actP {X : Cx} {CX : CXT} {k i : Nat} {E : L2.St → XK} {x : Str} {e : Expr} {es : List Expr} {t : TA} {p pos : Pos} (hN : X.N[i]? = some x) (hv : Vis X.env.scope x) (hr : Room k X.A) (hx : ∀ σ, PassesAt CX X σ (E σ)) (ha : PA X (e :: es) t) (hd : (x == ("__debug__" : Str)) = false := by decide) (hcd : (x == ("__classdict__" : Str)) = false := by decide)
    (he : starEach (e :: es) X.env = (false, eval e X.env) :: starEach es X.env := by rfl) (hpl : (backTo pos (starEach es X.env)).any (·.1) = false := by rfl) : PE X (.Call (.Name x p) (e :: es) [] pos) (tActP X.prog X.w X.K X.mg X.base CX k i E t) := by
  refine ⟨fun pins s σ H Q I h => ?_⟩
  obtain ⟨f, hs, h⟩ := h
  refine wpAny_Call_Name_kw (thn ((pe_var (pos := p) hN hv hd hcd).run pins s σ H (fun v H1 => v = .ref f ∧ H1 = H) I ⟨.ref f, hs, rfl, rfl⟩) fun u s1 ⟨v, H1, I1, r1, ev, eH⟩ => ?_)
  subst ev
  rw [eH] at I1
  obtain rfl : u = Value.ref f := r1
  rw [he]
  refine PySem.W.callWith_of (P := PySem.W.FnAt f) (by show ((false || (backTo pos (starEach es X.env)).any (·.1)) || false) = false; rw [hpl]; rfl) PySem.W.keeps_F (PySem.Calls.evalArgs_plain (?_ : wpAny _ _ (spliced (backTo pos ((false, eval e X.env) :: starEach es X.env))) _ _ _))
  rw [← he]
  exact thn (ha.run pos pins s1 σ H _ I1 h) fun us s2 ⟨vs, H2, I2, r, o, sp, hf, ho, hF, q⟩ => ⟨ho _ _ _ _ I2.hok hf, run_fnE hF hr (hx σ) I2 r q⟩
/-! ### f( *values), f a name that holds a function: one of a def, or one of the module -/
def FnIs (K : PySem.W.Frag) (H : Hp) (f : Addr) : Prop := (∃ o, H f = some o ∧ FnHO f o) ∨ ∃ (oc : Value) (od : Option Addr) (fd : FuncData) (sl : Array (Option Value)), K.lookup f = some ⟨oc, od, .func fd, sl⟩
theorem FnIs.at_ {K : PySem.W.Frag} {P : Program} {w : World} {H : Hp} {h : Heap} {f : Addr} (g : FnIs K H f) (hok : HOk P w H h) (k : K.In h) : PySem.W.FnAt f h := by
  rcases g with ⟨o, e, z⟩ | ⟨oc, od, fd, sl, e⟩
  · exact z _ _ _ _ hok e
  · exact ⟨_, _, _, _, k _ _ e⟩
def tActG (P : Program) (w : World) (K : PySem.W.Frag) (mg : Str → Option Value) (base : Heap) (CX : CXT) (k i : Nat) (E : L2.St → XK) (te : TE) : TE := fun σ H Q => ∃ f, σ[i]? = some (some (.ref f)) ∧ te σ H fun y H1 => ∃ a xs sp, y = V.ref a ∧ (SqT K H1 a xs ∨ SqL K H1 a xs) ∧ FnIs K H1 f ∧
  FnR P w K mg base CX k f sp ∧ sp xs H1 Q (E σ)
theorem pe_actG {X : Cx} {CX : CXT} {k i : Nat} {E : L2.St → XK} {x : Str} {e : Expr} {te : TE} {p sp_ pos : Pos} (hN : X.N[i]? = some x) (hv : Vis X.env.scope x) (hr : Room k X.A) (hx : ∀ σ, PassesAt CX X σ (E σ)) (he : PE X e te) (hd : (x == ("__debug__" : Str)) = false := by decide) (hcd : (x == ("__classdict__" : Str)) = false := by decide)
    (hst : starEach [.Starred e sp_] X.env = [(true, eval e X.env)] := by rfl) : PE X (.Call (.Name x p) [.Starred e sp_] [] pos) (tActG X.prog X.w X.K X.mg X.base CX k i E te) := by
  refine ⟨fun pins s σ H Q I h => ?_⟩
  obtain ⟨f, hs, h⟩ := h
  refine wpAny_Call_Name_kw (thn ((pe_var (pos := p) hN hv hd hcd).run pins s σ H (fun v H1 => v = .ref f ∧ H1 = H) I ⟨.ref f, hs, rfl, rfl⟩) fun u s1 ⟨v, H1, I1, r1, ev, eH⟩ => ?_)
  subst ev
  rw [eH] at I1
  obtain rfl : u = Value.ref f := r1
  rw [show backTo pos (starEach [.Starred e sp_] X.env) = [(true, (do let v ← eval e X.env; standAt pos; pure v))] by rw [hst]; rfl]
  refine PySem.W.ks_call (P := PySem.W.FnAt f) rfl PySem.W.keeps_F (PySem.W.ks_lone ?_)
  refine thn (he.run pins s1 σ H _ I1 h) fun v s2 ⟨y, H2, I2, ry, a, xs, sp, ey, hxs, hf, hF, q⟩ => ?_
  subst ey
  obtain rfl : v = Value.ref a := ry
  exact StX.star_any I2 hxs fun us s3 I3 rv => ⟨hf.at_ I3.hok I3.kIn, run_fnE hF hr (hx σ) I3 rv q⟩
end Inf

set_option Elab.async false
set_option linter.all false
set_option maxRecDepth 100000
set_option maxHeartbeats 4000000
namespace Inf
open PySem PySem.Spec PyProof.Rows L2 NdefX LamX
/-! ### min(xs, default=d) -/
/-- what the walk has kept behind j items -/
def OldAt (P : Nat → Value → Prop) (bt : Nat → Nat → Bool) : Nat → Array Value → Prop
  | 0, old => old = #[]
  | j + 1, old => ∃ v, old = #[v, v] ∧ P (argBest bt j) v
/-- what it ends with -/
def EndAt (P : Nat → Value → Prop) (bt : Nat → Nat → Bool) (n : Nat) (d v : Value) : Prop := (n = 0 ∧ v = d) ∨ (0 < n ∧ P (argBest bt (n - 1)) v)
def kwD (d : Value) : List (Str × Value) := [(Str.ofString "default", d)]
theorem nameD : (toString "min" ++ toString ".loop" : String) = "min.loop" := by decide
theorem minD_loop {prog : Program} {w : World} {A : Around} {R : Result → Shared → Prop} {I : Addr} {fp wr : List Addr} {n : Nat} {P : Nat → Value → Prop} {St : Nat → Heap → Prop} (W : Walks prog w A.in1 I fp wr n P St) {bt : Nat → Nat → Bool} (hc : CmpOf prog w A.in1 .Lt P bt) {S : Addr} (hSf : S ∉ fp) (d : Value) :
    ∀ (k j : Nat) (s : Shared) (old : Array Value) (c : Nat), n = j + k → St j s.heap → OldAt P bt j old → s.heap.get? S = some { cls := .type "list", dict := none, data := .seq old c, slots := #[] } →
      (∀ v h' tk, EndAt P bt n d v → (∀ b o, b ∉ wr → b ≠ S → s.heap.get? b = some o → h'.get? b = some o) → R (.ok (.ret v)) { s with heap := h', toks := tk }) → codeAny (model prog w) A (.builtin "min.loop" ⟨[.ref I, .none, .ref S], kwD d⟩) R s := by
  have hSw : S ∉ wr := fun h => hSf (W.sub _ h)
  intro k
  induction k with
  | zero =>
    intro j s old c hk hst ho hS hR
    obtain rfl : n = j := hk
    refine codeAny_builtin F.entry_min_loop (?_ : wpAny _ _ _ _ _ _)
    rw [Around.under_plainId F.plain_min_loop _]
    refine wpAny_bind (wpAny_seqItems hS rfl (?_ : wpAny _ _ (tryCatch (pyNext (.ref I)) _ >>= _) _ _ _))
    refine wpAny_bind (wpAny_tryCatch (W.done s _ _ hst fun h' tk hk' => ?_))
    cases n with
    | zero =>
      obtain rfl : old = #[] := ho
      refine wpAny_bind (wpAny_rule (wpAny_pure (hR d h' tk (.inl ⟨rfl, rfl⟩) fun b o hb _ e => hk' b o hb e)))
    | succ j =>
      obtain ⟨v, rfl, hv⟩ := ho
      have hS' := hk' S _ hSw hS
      refine wpAny_bind (?_ : wpAny _ _ (updateSeq S fun _ => #[]) _ _ _)
      refine wpAny_updateSeq hS' rfl (wpAny_bind (wpAny_letGo (wpAny_pure (hR v _ tk (.inr ⟨Nat.succ_pos j, hv⟩) fun b o hb n e => ?_))))
      exact (Heap.get?_update_other _ _ (Ne.symm n)).trans (hk' b o hb e)
  | succ k ih =>
    intro j s old c hk hst ho hS hR
    refine codeAny_builtin F.entry_min_loop (?_ : wpAny _ _ _ _ _ _)
    rw [Around.under_plainId F.plain_min_loop _]
    refine wpAny_bind (wpAny_seqItems hS rfl (?_ : wpAny _ _ (tryCatch (pyNext (.ref I)) _ >>= _) _ _ _))
    refine wpAny_bind (wpAny_tryCatch (W.item j s _ _ (by omega) hst fun v h' tk hP hst' hk' => ?_))
    have hS' := hk' S _ hSw hS
    have off : ∀ (g : Array Value → Array Value) (b : Addr) (o : Obj), b ≠ S → h'.get? b = some o → (h'.update S (Obj.mapSeq g)).get? b = some o := fun g b o n e => (Heap.get?_update_other _ _ (Ne.symm n)).trans e
    cases j with
    | zero =>
      obtain rfl : old = #[] := ho
      refine wpAny_bind (wpAny_pure ?_)
      refine wpAny_bind (?_ : wpAny _ _ (updateSeq S fun _ => #[v, v]) _ _ _)
      refine wpAny_updateSeq hS' rfl ?_
      rw [nameD]
      refine wpAny_pure ⟨plainId_quiet F.plain_min_loop _, ih 1 _ #[v, v] _ (by omega) (W.frame _ _ _ hst' fun b hb o e => off _ b o (fun z => hSf (by rw [← z]; exact hb)) e) ⟨v, rfl, hP⟩ (Heap.get?_update_self _ hS' rfl) fun v' h'' tk'' he hk'' => ?_⟩
      exact hR v' h'' tk'' he fun b o hb n e => hk'' b o hb n (off _ b o n (hk' b o hb e))
    | succ j =>
      obtain ⟨vb, rfl, hPb⟩ := ho
      refine wpAny_bind (wpAny_pure ?_)
      refine wpAny_bind (wpAny_tryCatch (wpAny_holding (wpAny_bind (hc (j + 1) (argBest bt j) v vb _ _ _ hP hPb ?_))))
      refine wpAny_bind (wpAny_holding (wpAny_truthy_bool (wpAny_bind (wpAny_letGo (wpAny_pure ?_)))))
      cases hb : bt (j + 1) (argBest bt j) with
      | true =>
        rw [if_pos rfl]
        refine wpAny_bind (?_ : wpAny _ _ (updateSeq S fun _ => #[v, v]) _ _ _)
        refine wpAny_updateSeq hS' rfl (wpAny_bind (wpAny_letGo ?_))
        rw [nameD]
        refine wpAny_pure ⟨plainId_quiet F.plain_min_loop _, ih (j + 2) _ #[v, v] _ (by omega) (W.frame _ _ _ hst' fun b hb o e => off _ b o (fun z => hSf (by rw [← z]; exact hb)) e) ⟨v, rfl, by rw [argBest, hb]; exact hP⟩ (Heap.get?_update_self _ hS' rfl) fun v' h'' tk'' he hk'' => ?_⟩
        exact hR v' h'' tk'' he fun b o hb n e => hk'' b o hb n (off _ b o n (hk' b o hb e))
      | false =>
        rw [if_neg Bool.false_ne_true]
        refine wpAny_bind (wpAny_letGo ?_)
        rw [nameD]
        refine wpAny_pure ⟨plainId_quiet F.plain_min_loop _, ih (j + 2) _ #[vb, vb] c (by omega) hst' ⟨vb, rfl, by rw [argBest, hb]; exact hPb⟩ hS' fun v' h'' tk'' he hk'' => ?_⟩
        exact hR v' h'' tk'' he fun b o hb n e => hk'' b o hb n (hk' b o hb e)
theorem args_minD (a d : Value) : argsOk "min" ⟨[a], kwD d⟩ := by unfold argsOk; kernel_rfl
theorem call_minD {prog : Program} {w : World} {A : Around} {E : Value → Shared → Prop} {s : Shared} {l : Addr} {d : Value} {xs : Array (Int × Tok)} {Q : Value → Shared → Prop} (hh : A.handled = none) (hl : s.heap.IsList l (intItems xs))
    (h : ∀ v h' tk, EndAt (fun i v => (intItems xs)[i]? = some v) (fun i j => decide (numAt xs i < numAt xs j)) xs.size d v → (∀ b o, s.heap.get? b = some o → h'.get? b = some o) → Q v { s with heap := h', toks := tk }) :
    wpAny (model prog w) A (call (.builtin "min") [.ref l] (kwD d)) Q E s := by
  refine PyProof.Rows.kmk_tree PySem.F.kind_min PySem.F.plain_min PySem.F.entry_min (args_minD _ _) ?_
  refine wpAny_bind (m := Builtin.Builtins.bindParams "min" ["key", "default"] 0 ⟨[], kwD d⟩) (wpAny_of_eq (show Builtin.Builtins.bindParams "min" ["key", "default"] 0 ⟨[], kwD d⟩ = pure [none, some d] from rfl) (wpAny_bind (wpAny_pure ?_)))
  refine wpAny_bind (iter_intList hl fun s₂ e st hfp hne => ?_)
  subst e
  refine wpAny_bind (wpAny_newObj_type ?_)
  rw [nameD]
  have hlt : l < s.heap.objs.size := by
    obtain ⟨_, e, _⟩ := hl
    exact Heap.lt_size e
  refine wpAny_pure ⟨plainId_quiet F.plain_min_loop _, minD_loop (Walks.list (A := A.in1) hh _ l hne (intItems xs)) (CmpOf.ints_lt (numAt xs) (fun _ _ => intItems_at)) (fun hm => Nat.lt_irrefl _ (hfp _ hm)) d (intItems xs).size 0 _ #[] _ (Nat.zero_add _).symm ?_ rfl (Heap.get?_push_size _ rfl) fun v h' tk he hk => ?_⟩
  · exact (Walks.list (prog := prog) (w := w) (A := A.in1) hh _ l hne (intItems xs)).frame _ _ _ st fun b _ o e => Heap.get?_push_of_some _ e
  · refine h v h' tk (by simpa [intItems] using he) fun b o e => ?_
    have lb := Heap.lt_size e
    have sz : (s.heap.push { cls := .type "list_iterator", data := .fields #[.ref l, .int 0 0] }).objs.size = s.heap.objs.size + 1 := Heap.size_push ..
    refine hk b o (fun m => ?_) (fun z => ?_) (Heap.get?_push_of_some _ (Heap.get?_push_of_some _ e))
    · rw [List.mem_singleton.mp m] at lb
      exact Nat.lt_irrefl _ lb
    · have z : b = (s.heap.push { cls := .type "list_iterator", data := .fields #[.ref l, .int 0 0] }).objs.size := z
      rw [z, sz] at lb
      exact absurd lb (Nat.not_lt.mpr (Nat.le_succ _))
/-- min(xs, default=d) of a list of ints, any number of them -/
def rMinD (K : PySem.W.Frag) : List V → List V → Hp → VK → Prop := fun vs zs H Q => ∃ (a : Addr) (ns : List Int) (d : V), vs = [V.ref a] ∧ zs = [d] ∧ SqL K H a (ns.map V.int) ∧ (ns = [] → Q d H) ∧ ∀ m ∈ ns, (∀ y ∈ ns, m ≤ y) → Q (.int m) H
theorem cr_minD {X : Cx} (hc : X.calm = true) : CallRK X (.builtin "min") [Str.ofString "default"] (rMinD X.K) := by
  intro pins s σ H vs zs us ws Q I r rz h
  obtain ⟨a, ns, d, rfl, rfl, hs, q0, q1⟩ := h
  obtain rfl := Vals.ref1 r
  obtain ⟨wd, rfl, ed⟩ := vals1 rz
  obtain ⟨its, rv, hl, hz⟩ := I.list hs
  have hi := rv.ints
  obtain ⟨xs, e⟩ := hi.allInts.items
  have hn : numsOf (intItems xs).toList = ns := by rw [← e]; exact hi.numsOf
  rw [nums_intItems] at hn
  subst hn
  have hl2 := hl.isList
  rw [e] at hl2
  refine call_minD (d := wd) (I.ok.hd hc) hl2 fun v h' tk he hk => ?_
  have lx : (xs.toList.map (·.1)).length = xs.size := by rw [List.length_map, Array.length_toList]
  rcases he with ⟨h0, rfl⟩ | ⟨h0, he⟩
  · exact ⟨d, H, I.kept hk, ed, q0 (List.length_eq_zero_iff.mp (lx.trans h0))⟩
  · obtain ⟨t, rfl⟩ := intItems_at he
    obtain ⟨h1, h2⟩ := argBest_lt (numAt xs) (xs.size - 1)
    refine ⟨.int _, H, I.kept hk, ⟨t, rfl⟩, q1 _ ?_ fun y my => ?_⟩
    · rw [numAt_eq]
      exact PySem.getD_mem (by rw [lx]; omega)
    · obtain ⟨j, hj, rfl⟩ := mem_getD my
      rw [lx] at hj
      rw [← numAt_eq]
      exact h2 j (by omega)
end Inf

set_option Elab.async false
set_option linter.all false
set_option maxRecDepth 100000
set_option maxHeartbeats 4000000
namespace Inf
open PySem PySem.Spec PyProof.Rows
/-! ### {**d, k: v} -/
section
variable {prog : Program} {w : World} {K : Type} [DecidableEq K] {knd : KeyKind prog w K} {A : Around} {E : Value → Shared → Prop} {s : Shared}
theorem idx_list {es : Array DictEntry} {p : DictEntry → Bool} : es.findIdx? p = es.toList.findIdx? p := by
  obtain ⟨l⟩ := es
  simp
/-- what a stored pair makes of a dict, on either way -/
theorem put_hit {h : Heap} {d : Addr} {o : Obj} {es : Array DictEntry} {ep i : Nat} {kvs : List (K × Value)} {k : K} {v : Value} (ho : h.get? d = some o) (hc : o.ExactDict) (hd : o.data = .dict es ep) (hk : KeysOf knd es) (hp : Pairs knd es.toList kvs) (hn : (kvs.map (·.1)).Nodup) (hi : es.findIdx? (fun e => knd.is k e.key) = some i) :
    (h.update d (Obj.mapDict fun es => es.modify i fun e => { e with val := v })).DictOf knd d (stored kvs k v) := by
  have hl : es.toList.findIdx? (fun e => knd.is k e.key) = some i := idx_list.symm.trans hi
  have hx : kvs.findIdx? (fun kv => decide (kv.1 = k)) = some i := (hp.findIdx k).symm.trans hl
  have e : stored kvs k v = kvs.map fun kv => if kv.1 = k then (kv.1, v) else kv := by
    unfold stored
    exact if_pos (any_of_findIdx_some hx)
  have h1 := hp.modify hn hl v
  refine ⟨_, _, ep, Heap.get?_update_self _ ho (Obj.isFreed_of_dict (Obj.data_mapDict hd _)), hc.mapDict _, Obj.data_mapDict hd _, hk.modify _ _, ?_, ?_⟩
  · rw [e]
    obtain ⟨l⟩ := es
    simpa using h1
  · rw [e, keys_map_store]
    exact hn
theorem put_new {h : Heap} {d : Addr} {o : Obj} {es : Array DictEntry} {ep : Nat} {kvs : List (K × Value)} {k : K} {key v : Value} (hkey : knd.is k key = true) (ho : h.get? d = some o) (hc : o.ExactDict) (hd : o.data = .dict es ep) (hk : KeysOf knd es) (hp : Pairs knd es.toList kvs) (hn : (kvs.map (·.1)).Nodup) (hi : es.findIdx? (fun e => knd.is k e.key) = none) :
    (h.update d (Obj.mapDictKeys (·.push ⟨knd.hash k, key, v⟩))).DictOf knd d (stored kvs k v) := by
  have hx : kvs.findIdx? (fun kv => decide (kv.1 = k)) = none := (hp.findIdx k).symm.trans (idx_list.symm.trans hi)
  have hm : k ∉ kvs.map (·.1) := not_mem_of_findIdx_none hx
  have e : stored kvs k v = kvs ++ [(k, v)] := by
    unfold stored
    refine if_neg fun z => ?_
    obtain ⟨kv, m, q⟩ := List.any_eq_true.mp z
    exact hm (List.mem_map.mpr ⟨kv, m, of_decide_eq_true q⟩)
  have h1 := hp.append hkey (knd.hash k) v
  refine ⟨_, _, ep + 1, Heap.get?_update_self _ ho (Obj.isFreed_of_dict (Obj.data_mapDictKeys hd _)), hc.mapDictKeys _, Obj.data_mapDictKeys hd _, hk.push hkey _, ?_, ?_⟩
  · rw [e]
    obtain ⟨l⟩ := es
    simpa using h1
  · rw [e, List.map_append]
    refine List.nodup_append.mpr ⟨hn, List.nodup_cons.mpr ⟨(fun z => nomatch z), List.nodup_nil⟩, fun a ha b hb z => ?_⟩
    rw [z, List.mem_singleton.mp hb] at ha
    exact hm ha
theorem put_ok {d : Addr} {kvs : List (K × Value)} {k : K} {key v : Value} {Q : Unit → Shared → Prop} (hkey : knd.is k key = true) (hm : s.heap.DictOf knd d kvs) (hsz : kvs.length ≤ sizeLine)
    (hQ : ∀ h', h'.DictOf knd d (stored kvs k v) → Heap.SameBut d s.heap h' → Q () { s with heap := h' }) : wpAny (model prog w) A (dictPut d (knd.hash k) key v) Q E s := by
  obtain ⟨o, es, ep, ho, hc, hd, hk, hp, hn⟩ := hm
  have hes : es.size ≤ sizeLine := by
    have := hp.length
    rw [Array.length_toList] at this
    omega
  unfold dictPut
  refine wpAny_bind (wpAny_dictFind_of hkey ho hd hk ?_)
  cases hi : es.findIdx? fun e => knd.is k e.key with
  | some i => exact wpAny_updateDict ho hd (hQ _ (put_hit ho hc hd hk hp hn hi) (Heap.SameBut.update ..))
  | none => exact wpAny_updateDictKeys (hz := hes) ho hd (hQ _ (put_new hkey ho hc hd hk hp hn hi) (Heap.SameBut.update ..))
theorem ite_same {M : Model} {c : Prop} [Decidable c] {a b : Sem Unit} {Q : Unit → Shared → Prop} (hb : wpAny M A b Q E s) (ha : wpAny M A b Q E s → wpAny M A a Q E s) : wpAny M A (if c then a else b) Q E s := by
  by_cases z : c
  · rw [if_pos z]
    exact ha hb
  · rw [if_neg z]
    exact hb
theorem merge_ok {d o : Addr} {kvs more : List (K × Value)} {Q : Unit → Shared → Prop} (hdo : d ≠ o) (hoS : (o == sysModules) = false) (hd : s.heap.DictOf knd d kvs) (ho : s.heap.DictOf knd o more) (hsz : kvs.length + more.length ≤ sizeLine)
    (hQ : ∀ h', h'.DictOf knd d (merged kvs more) → Heap.SameBut d s.heap h' → Q () { s with heap := h' }) : wpAny (model prog w) A (mergeMapping d (.ref o) false) Q E s := by
  obtain ⟨od, esd, epd, hod, hcd, hdd, hkd, hpd, hnd⟩ := id hd
  obtain ⟨oo, eso, epo, hoo, hco, hdo', hko, hpo, hno⟩ := id ho
  have hlen : more.length = eso.size := by
    rw [← hpo.length, Array.length_toList]
  unfold mergeMapping
  refine wpAny_bind (wpAny_isInstance ho.typeIs isSubtype_dict_dict ?_)
  dsimp only
  rw [if_pos rfl]
  refine wpAny_bind (wpAny_specialOf ho.typeIs F.slot_dict_iter.lookup ?_)
  refine wpAny_bind (wpAny_pure ?_)
  rw [show (some (Value.builtin "dict.__iter__") == some (Value.builtin "dict.__iter__")) = true from beq_self_eq_true _]
  dsimp only
  rw [if_neg (by rw [hoS]; exact Bool.false_ne_true)]
  refine wpAny_bind (wpAny_dictEntries hod hdd ?_)
  refine ite_same ?_ fun loop => ?_
  · refine wpAny_bind (wpAny_dictEntries hoo hdo' (wpAny_bind (wpAny_dictEpoch hoo hdo' (wpAny_bind ?_))))
    refine wpAny_forIn_list _ (fun rest _ s' => ∃ h' i, s' = { s with heap := h' } ∧ rest = (List.range eso.size).drop i ∧ i ≤ eso.size ∧ h'.DictOf knd d (merged kvs (more.take i)) ∧ h'.get? o = some oo ∧ Heap.SameBut d s.heap h')
      _ ?_ ?_ _ _ ⟨s.heap, 0, rfl, rfl, Nat.zero_le _, hd, hoo, Heap.SameBut.refl _ _⟩
    · rintro x rest b s' ⟨h', i, rfl, hr, hi, hd', hoo', hs'⟩
      have hlt : i < eso.size := by
        refine Nat.lt_of_not_le fun z => ?_
        rw [List.drop_eq_nil_of_le (by rw [List.length_range]; exact z)] at hr
        cases hr
      rw [List.drop_eq_getElem_cons (by rw [List.length_range]; exact hlt)] at hr
      obtain ⟨hx, hrest⟩ := List.cons.inj hr
      rw [List.getElem_range] at hx
      subst hx
      have hml : x < more.length := by omega
      obtain ⟨hkey, hval⟩ := hpo.get? (e := eso[x]) (k := more[x].1) (v := more[x].2) (by rw [Array.getElem?_toList, Array.getElem?_eq_getElem hlt]) (List.getElem?_eq_getElem hml)
      obtain ⟨k', hkey', hhash⟩ := hko eso[x] (Array.getElem_mem hlt)
      have ek : k' = more[x].1 := knd.inj _ _ _ hkey' hkey
      refine wpAny_bind (wpAny_dictEntries hoo' hdo' ?_)
      rw [Array.getElem?_eq_getElem hlt]
      dsimp only
      rw [if_neg Bool.false_ne_true, hhash, ek]
      have hz : (merged kvs (more.take x)).length ≤ sizeLine := by
        have h1 := merged_length_le kvs (more.take x)
        rw [List.length_take] at h1
        omega
      refine wpAny_bind (wpAny_holding (put_ok hkey hd' hz fun h'' hd'' hs'' => ?_))
      have hoo'' : h''.get? o = some oo := (hs''.2 o (Ne.symm hdo)).trans hoo'
      refine wpAny_bind (wpAny_dictEpoch hoo'' hdo' ?_)
      rw [if_neg (by simp)]
      refine wpAny_pure ⟨h'', x + 1, rfl, hrest, hlt, ?_, hoo'', hs'.trans hs''⟩
      rw [merged_take_succ kvs more x more[x] (List.getElem?_eq_getElem hml), ← hval]
      exact hd''
    · rintro b s' ⟨h', i, rfl, hr, hi, hd', hoo', hs'⟩
      have hin : i = eso.size := by
        refine Nat.le_antisymm hi (Nat.le_of_not_lt fun z => ?_)
        rw [List.drop_eq_getElem_cons (by rw [List.length_range]; exact z)] at hr
        cases hr
      rw [hin, ← hlen, List.take_length] at hd'
      exact wpAny_pure (hQ h' hd' hs')
  · refine wpAny_bind (wpAny_dictEntries hoo hdo' (wpAny_bind (wpAny_of_eq (a := PUnit.unit) ?_ loop)))
    rw [← Array.forIn_toList]
    refine forIn_yield_id _ fun e he c => ?_
    obtain ⟨k, hkey, _⟩ := hko e (Array.mem_toList_iff.mp he)
    have := knd.byValue k _ hkey
    cases hek : e.key with
    | ref a =>
      rw [hek] at this
      cases this
    | _ => rfl
/-- {**m, k: v} -/
theorem star_ok {m tk tv : Sem Value} {Q : Value → Shared → Prop}
    (h : wpAny (model prog w) A m (fun mv s1 => ∃ o more, mv = .ref o ∧ s.heap.objs.size ≠ o ∧ (o == sysModules) = false ∧ more.length < sizeLine ∧ s1.heap.DictOf knd s.heap.objs.size [] ∧ s1.heap.DictOf knd o more ∧
      ∀ h', h'.DictOf knd s.heap.objs.size more → Heap.SameBut s.heap.objs.size s1.heap h' →
        wpAny (model prog w) A (subDict [(tk, tv)]) (fun b s2 => ∃ more2 k v, s.heap.objs.size ≠ b ∧ (b == sysModules) = false ∧ more2.length < sizeLine ∧ s2.heap.DictOf knd s.heap.objs.size more2 ∧ s2.heap.DictOf knd b [(k, v)] ∧
          ∀ h'', h''.DictOf knd s.heap.objs.size (stored more2 k v) → Heap.SameBut s.heap.objs.size s2.heap h'' → Q (.ref s.heap.objs.size) { s2 with heap := h'' }) E { s1 with heap := h' }) E
      { s with heap := s.heap.push { cls := .type "dict", data := .dict #[] } }) :
    wpAny (model prog w) A (dictDisplay [(none, m), (some tk, tv)]) Q E s := by
  unfold dictDisplay
  dsimp only
  refine wpAny_bind ?_
  rw [List.forIn_cons]
  dsimp only
  refine wpAny_bind (wpAny_bind ?_)
  rw [if_pos (show ([] : List (Sem Value × Sem Value)).isEmpty = true from rfl)]
  refine wpAny_pure ?_
  dsimp only
  refine wpAny_bind (wpAny_alloc ?_)
  refine wpAny_bind (wpAny_holding (wpAny_mono h (fun mv s1 h1 => ?_) fun _ _ e => e))
  obtain ⟨o, more, rfl, hdo, hoS, hz, hd, ho, q⟩ := h1
  have hn : (more.map (·.1)).Nodup := let ⟨_, _, _, _, _, _, _, _, hn⟩ := ho; hn
  refine wpAny_bind (wpAny_onRaise (wpAny_tryCatch (wpAny_onRaise (wpAny_holding (merge_ok hdo hoS hd ho (by rw [List.length_nil]; omega) fun h' hd' hs' => ?_)))))
  rw [merged_nil_of_nodup more hn] at hd'
  refine wpAny_pure ?_
  dsimp only
  rw [List.forIn_cons]
  dsimp only
  rw [if_neg (by simp)]
  refine wpAny_bind (wpAny_pure ?_)
  dsimp only
  rw [List.forIn_nil]
  refine wpAny_pure ?_
  dsimp only
  refine wpAny_bind ?_
  rw [if_neg (by simp)]
  refine wpAny_bind (wpAny_holding (wpAny_mono (q h' hd' hs') (fun b s2 h2 => ?_) fun _ _ e => e))
  obtain ⟨more2, k, v, hdb, hbS, hz2, hd2, hb2, q2⟩ := h2
  refine wpAny_bind (wpAny_onRaise (wpAny_holding (merge_ok hdb hbS hd2 hb2 (by rw [List.length_singleton]; omega) fun h'' hd'' hs'' => ?_)))
  refine wpAny_pure ?_
  dsimp only
  exact wpAny_pure (q2 h'' hd'' hs'')
end
section
open L2
variable {X : Cx} {pos : Pos}
/-- {**e, k: v}: a new dict, and one more for the pair -/
def tStar (te tk tv : TE) : TE := fun σ H Q => ∀ p, H p = none → te σ (upd H p (.dK [])) fun x H1 => ∃ (a : Addr) (kvs : List (Key × V)), x = .ref a ∧ a ≠ p ∧ H1 p = some (.dK []) ∧ Rd H1 a (.dK kvs) ∧ kvs.length < sizeLine ∧
  ∀ b, upd H1 p (.dK kvs) b = none → tk σ (upd (upd H1 p (.dK kvs)) b (.dK [])) fun y H2 => tv σ H2 fun z H3 => ∃ k z', [(y, z)] = [(kV k, z')] ∧ p ≠ b ∧ H3 p = some (.dK kvs) ∧ H3 b = some (.dK []) ∧ Q (.ref p) (upd (upd H3 b (.dK [(k, z')])) p (.dK (putK kvs k z')))
theorem pe_dstar {e k v : Expr} {te tk tv : TE} (he : PE X e te) (hk : PE X k tk) (hv : PE X v tv) : PE X (.Dict [none, some k] [e, v] pos) (tStar te tk tv) := by
  refine ⟨fun pins s σ H Q I q => ?_⟩
  rw [arm_eval_Dict]
  show wpAny _ _ (do standAt pos; dictDisplay [(none, do let x ← eval e X.env; standAt pos; pure x), (some (eval k X.env), do let x ← eval v X.env; standAt pos; pure x)]) _ _ _
  refine wpAny_bind (wpAny_standAt (star_ok (knd := mixKind X.prog X.w) ?_))
  have hn := I.hok.fresh (Nat.le_refl s.heap.objs.size)
  have I1 := I.laid (a := s.heap.objs.size) (o := .dK []) (h' := s.heap.push { cls := .type "dict", data := .dict #[] }) (t' := s.toks) (fun _ _ q => Heap.get?_push_of_some _ q) (Nat.le_refl _) (dk_empty s.heap I.big)
  refine wpAny_bind (thn (he.run pins _ σ _ _ I1 (q _ hn)) fun u s1 ⟨x, H1, I2, rx, a, kvs, ex, na, hp, hr, hz, q2⟩ => ?_)
  subst ex
  obtain rfl : u = .ref a := rx
  obtain ⟨z, lo, vs, rel, dd⟩ := dk_rd I2.hok hr
  obtain ⟨z0, lo0, vs0, r0, dd0⟩ := dk_of I2.hok hp
  cases r0
  have hl : vs.length < sizeLine := by rw [← rel.length]; exact hz
  refine wpAny_bind (wpAny_standAt (wpAny_pure ⟨a, vs, rfl, Ne.symm na, lo, hl, dd0, dd, fun h' d' hs => ?_⟩))
  have he0 : ∃ q, h'.get? s.heap.objs.size = some q := let ⟨q, _, _, hq, _⟩ := d'; ⟨q, hq⟩
  have I3 := d_write (t' := s1.toks) I2 (by rw [hp]; exact True.intro) hs he0 (dk_new z lo0 rel d')
  have I4 := I3.laid (a := h'.objs.size) (o := .dK []) (h' := h'.push { cls := .type "dict", data := .dict #[] }) (t' := s1.toks) (fun _ _ q => Heap.get?_push_of_some _ q) (Nat.le_refl _) (dk_empty h' I3.big)
  refine wpAny_subDict (knd := mixKind X.prog X.w) (Nat.le_of_ble_eq_true rfl) ?_
  refine thn ((pps_cons hk hv pps_nil).run pins _ σ _ (fun ps H3 => ∃ k z', ps = [(kV k, z')] ∧ s.heap.objs.size ≠ h'.objs.size ∧ H3 s.heap.objs.size = some (.dK kvs) ∧ H3 h'.objs.size = some (.dK []) ∧ Q (.ref s.heap.objs.size) (upd (upd H3 h'.objs.size (.dK [(k, z')])) s.heap.objs.size (.dK (putK kvs k z')))) I4 (q2 _ (I3.hok.fresh (Nat.le_refl _)))) fun ws s2 ⟨ps, H3, I5, rel2, k, z', eps, npb, hp3, hb3, q3⟩ => ?_
  subst eps
  obtain ⟨rs, c, rk⟩ := carries_of (P := X.prog) (w := X.w) (kvs := [(k, z')]) rel2
  obtain ⟨zb, hdb, vsb, rb, ddb⟩ := dk_of I5.hok hb3
  cases rb
  refine ⟨rs, c, ddb, fun h2 d2 hs2 => ?_⟩
  obtain ⟨zp, hdp, vsp, rp, ddp⟩ := dk_of I5.hok hp3
  cases rk with
  | @cons p1 q1 ps1 qs1 hpq t1 =>
    cases t1
    obtain ⟨kq, wq⟩ := q1
    obtain ⟨ek, rw'⟩ := hpq
    have ek : k = kq := ek
    subst ek
    have ddp2 : h2.DictOf (mixKind X.prog X.w) s.heap.objs.size vsp := ddp.sameBut hs2 npb
    have he2 : ∃ q, h2.get? h'.objs.size = some q := let ⟨q, _, _, hq, _⟩ := d2; ⟨q, hq⟩
    have I6 := d_write (t' := s2.toks + ws.length) I5 (by rw [hb3]; exact True.intro) hs2 he2 (dk_new (kvs := [(k, z')]) (vs := [(k, wq)]) (by rw [sizeLine_eq, List.length_singleton]; omega) hdb (.cons ⟨rfl, rw'⟩ .nil) d2)
    have hp6 : upd H3 h'.objs.size (.dK [(k, z')]) s.heap.objs.size = some (.dK kvs) := by
      rw [upd_ne npb]
      exact hp3
    refine ⟨vsp, k, wq, npb, hdb, by rw [← rp.length]; exact hz, ddp2, d2, fun h3 d3 hs3 => ⟨.ref s.heap.objs.size, _, ?_, rfl, q3⟩⟩
    have he3 : ∃ q, h3.get? s.heap.objs.size = some q := let ⟨q, _, _, hq, _⟩ := d3; ⟨q, hq⟩
    have hz3 : (putK kvs k z').length ≤ sizeLine := Nat.le_trans (length_putK _ _ _) hz
    exact d_write (t' := s2.toks + ws.length) I6 (by rw [hp6]; exact True.intro) hs3 he3 (dk_new hz3 hdp (rp.put k rw') d3)
end
end Inf

set_option Elab.async false
set_option linter.all false
set_option maxRecDepth 100000
set_option maxHeartbeats 4000000
namespace Inf
open PySem PySem.Spec PyProof.Rows L2
/-! ### next(iter(d), None) -/
section
variable {prog : Program} {w : World} {K : Type} [DecidableEq K] {knd : PySem.KeyKind prog w K} {A : Around} {E : Value → Shared → Prop} {s : Shared} {d it : Addr} {kvs : List (K × Value)} {ep : Nat} {v : Value}
theorem itr_ok {Q : Value → Shared → Prop} (lo : (d == sysModules) = false) (hm : s.heap.DictAt knd d kvs ep)
    (h : ∀ o, (s.heap.push o).IsKeyIter s.heap.objs.size d 0 kvs.length ep → Q (.ref s.heap.objs.size) { s with heap := s.heap.push o }) : wpAny (model prog w) A (call (.builtin "iter") [.ref d]) Q E s := by
  refine Calls.call_function_entry (by decide +kernel) (by decide +kernel) PySem.W.kdk_entry_iter (PySem.W.kdk_args_iter _) ?_
  unfold Builtin.«iter»
  refine wpAny_bind (m := someArgs "iter" 1 2 _) (wpAny_of_eq (a := [Value.ref d]) (by first | rfl | kernel_rfl!) ?_)
  show wpAny _ _ (pyIter (.ref d) >>= _) _ _ _
  refine wpAny_bind (wpAny_pyIter_dict lo hm ?_)
  exact wpAny_pure ⟨_, rfl, h _ ⟨_, Heap.get?_push_size _ rfl, rfl, rfl⟩⟩
theorem nxt_ok {Q : Value → Shared → Prop} (hh : A.handled = none) (hit : s.heap.IsKeyIter it d 0 kvs.length ep) (hm : s.heap.DictAt knd d kvs ep)
    (h : ∀ u h', (match kvs with | [] => u = v | kv :: _ => knd.is kv.1 u = true) → Heap.ExtBut it s.heap h' → Q u { s with heap := h' }) : wpAny (model prog w) A (call (.builtin "next") [.ref it, v]) Q E s := by
  refine Calls.call_function_entry (by decide +kernel) (by decide +kernel) PySem.W.kdk_entry_next (PySem.W.kdk_args_next2 _ _) ?_
  unfold Builtin.«next»
  refine wpAny_bind (m := someArgs "next" 1 2 _) (wpAny_of_eq (a := [Value.ref it, v]) (by first | rfl | kernel_rfl!) ?_)
  dsimp only
  refine wpAny_bind (wpAny_specialOf (name := Str.ofString "__next__") hit.typeIs PySem.F.slot_dict_keyiterator_next.lookup ?_)
  refine wpAny_ite_split (fun hab => absurd hab (by decide)) (fun _ => ?_)
  match kvs, hit, hm, h with
  | [], hit, hm, h => exact wpAny_bind (wpAny_pyNext_dict_end (A := A.in1) hh hit hm rfl fun h' k => wpAny_pure ⟨_, rfl, h _ _ rfl k⟩)
  | kv :: r, hit, hm, h => exact wpAny_bind (wpAny_pyNext_dict_item (k := kv.1) (v := kv.2) hit hm rfl fun key h' hk _ sb => wpAny_pure ⟨_, rfl, h _ _ hk sb.extBut⟩)
end
section
variable {X : Cx} {e : Expr} {te : TE}
def fstV (kvs : List (Key × V)) : V := match kvs with
  | [] => .non
  | kv :: _ => kV kv.1
/-- the first key of a dict, None without one -/
def tFirst (te : TE) : TE := fun σ H Q => te σ H fun x H1 => ∃ (a : Addr) (kvs : List (Key × V)), x = .ref a ∧ Rd H1 a (.dK kvs) ∧ Q (fstV kvs) H1
theorem key_rel {k : Key} {u : Value} (h : keyIs k u = true) : RelV (kV k) u := by
  rcases keyIs_shape h with ⟨i, t, ek, ev⟩ | ⟨z, t, ek, ev⟩
  · subst ek
    exact ⟨t, ev⟩
  · subst ek
    exact ⟨t, ev⟩
theorem pe_first {p p2 p3 pos pos2 : Pos} {j : Nat} (hc : X.calm = true) (hgi : Gl X "iter") (hmi : X.mg "iter" = none) (hgn : Gl X "next") (hmn : X.mg "next" = none) (he : PE X e te)
    (hs : starEach [e] X.env = (false, eval e X.env) :: starEach [] X.env := by rfl)
    (hs2 : ∀ a b : Expr, starEach [.Call a [e] [] pos2, b] X.env = (false, eval (.Call a [e] [] pos2) X.env) :: starEach [b] X.env := by intros; rfl) :
    PE X (.Call (.Name "next" p) [.Call (.Name "iter" p2) [e] [] pos2, .Constant .none j p3] [] pos) (tFirst te) := by
  refine ⟨fun pins s σ H Q I h => ?_⟩
  refine wpAny_Call_Name_kw (ld_blt (u := .builtin "next") I hgn hmn (by first | rfl | decide +kernel) ?_ (by decide) (by decide))
  refine PyProof.Rows.callWith_builtin1 ?_ (hs2 _ _) rfl
  rw [hs2]
  show wpAny _ _ (spliced ((false, eval (.Call (.Name "iter" p2) [e] [] pos2) X.env) :: [(false, eval (.Constant .none j p3) X.env)])) _ _ s
  refine Calls.spliced_cons ?_
  refine wpAny_Call_Name_kw (ld_blt (u := .builtin "iter") I hgi hmi (by first | rfl | decide +kernel) ?_ (by decide) (by decide))
  refine PyProof.Rows.callWith_builtin1 ?_ hs rfl
  rw [hs]
  show wpAny _ _ (spliced [(false, eval e X.env)]) _ _ s
  refine Calls.spliced_cons (thn (he.run pins s σ H _ I h) fun u s1 ⟨x, H1, I1, r1, a, kvs, ex, hr, q⟩ => Calls.spliced_nil ?_)
  subst ex
  obtain rfl : u = .ref a := r1
  obtain ⟨z, lo, vs, rel, dd⟩ := dk_rd I1.hok hr
  obtain ⟨ep, hat⟩ := dd.dictAt
  refine itr_ok lo hat fun o hit => ?_
  have hat2 : (s1.heap.push o).DictAt (mixKind X.prog X.w) a vs ep := let ⟨o', es, ho, r⟩ := hat; ⟨o', es, Heap.get?_push_of_some _ ho, r⟩
  refine Calls.spliced_cons (Constant_none (Calls.spliced_nil ?_))
  refine nxt_ok (I1.ok.hd hc) hit hat2 fun u h' hu k => ?_
  have I2 : L2.Inv X pins σ H1 { s1 with heap := h' } := I1.kept (t' := s1.toks) fun b w' e => k b w' (fun z => by
    rw [z] at e
    exact absurd (Heap.lt_size e) (Nat.lt_irrefl _)) (Heap.get?_push_of_some _ e)
  refine ⟨fstV kvs, H1, I2, ?_, q⟩
  cases rel with
  | nil => exact hu
  | @cons a1 b1 _ _ hh t =>
    show L2.RelV (kV a1.1) u
    rw [hh.1]
    exact key_rel hu
end
end Inf

set_option Elab.async false
set_option linter.all false
set_option maxRecDepth 100000
set_option maxHeartbeats 4000000
namespace Inf
open PySem PySem.Spec PyProof.Rows L2 NdefX LamX
/-! ### o.m(..) while the def's cells are told -/
def tMethT (X : Cx) (C : Addr) (m : Str) (sp : Sp) (dvs : List V) (ta : TE) (t : TA) : TE := fun σ H Q => ta σ H fun x H1 => ∃ a dx fs, x = .ref a ∧ H1 a = some (.ins C dx fs) ∧ fs.lookup m = none ∧
  t σ H1 fun vs H2 => ∀ cs HT, Tel X.env.cells X.env.scope.names X.N σ H2 cs HT → sp (x :: (vs ++ dvs)) HT (fun v H3 => (∀ b, b ∈ cs → H3 b = HT b) ∧ Q v (cut cs H3)) E0
section
variable {X : Cx} {k : Nat} {C f : Addr} {m : Str} {fd : FuncData} {ps : List Str} {ds : List Value} {dvs : List V} {sp : Sp} {o e : Expr} {es : List Expr} {ta : TE} {t : TA} {apos pos : Pos} {pl : Sem Bool}
theorem pe_methT (hfn : ∀ x, X.fn x = true) (he : PE X o ta) (c : Cls X.K C) (hm : Meth X.K C m f) (F : FnOk X.prog X.w X.K X.mg X.base CX0 k f fd ps sp) (hr : Room k X.A) (hb : Binds X.K fd ps ds) (hd : Vals dvs ds) (ha : PA X (e :: es) t)
    (hst : starEach (e :: es) X.env = (false, eval e X.env) :: starEach es X.env := by rfl) (hpl : (backTo pos (starEach es X.env)).any (·.1) = false := by rfl)
    (ht : eval (.Call (.Attribute o m apos) (e :: es) [] pos) X.env = (do
      let ov ← eval o X.env
      standAt apos.atName
      let (f, first) ← holding [ov] (getMethod ov m pl)
      callWith pos f first (backTo pos (starEach (e :: es) X.env)) (backToKw pos (keywordEach [] X.env))) := by rfl) :
    PE X (.Call (.Attribute o m apos) (e :: es) [] pos) (tMethT X C m sp dvs ta t) := by
  refine ⟨fun pins s σ H Q I h => ?_⟩
  refine PySem.W.methodCall_KW (pl := pl) (thn (he.run pins s σ H _ I h) fun u s1 ⟨x, H1, I1, rx, a, dx, fs, ex, ea, l, q⟩ => ?_) ht
  subst ex
  obtain rfl : u = Value.ref a := rx
  refine getmeth_ok I1 ea c hm l ?_
  refine PySem.W.callWith_K (first := [.ref a]) (h₀ := X.base) I.ok.mod.kin hm.kp (thn (ha.run pos pins s1 σ H1 _ I1 q) fun us s2 ⟨vs, H2, I2, r, q2⟩ => ⟨I2.kIn, ?_⟩) hst hpl
  exact tel_run (us := .ref a :: us) (vs := .ref a :: vs) F hr hb hd hfn I2 (.cons rfl r) q2
theorem pe_methT0 (hfn : ∀ x, X.fn x = true) (he : PE X o ta) (c : Cls X.K C) (hm : Meth X.K C m f) (F : FnOk X.prog X.w X.K X.mg X.base CX0 k f fd ps sp) (hr : Room k X.A) (hb : Binds X.K fd ps ds) (hd : Vals dvs ds)
    (ht : eval (.Call (.Attribute o m apos) [] [] pos) X.env = (do
      let ov ← eval o X.env
      standAt apos.atName
      let (f, first) ← holding [ov] (getMethod ov m pl)
      callWith pos f first (backTo pos (starEach [] X.env)) (backToKw pos (keywordEach [] X.env))) := by rfl) :
    PE X (.Call (.Attribute o m apos) [] [] pos) (tMethT X C m sp dvs ta tNil) := by
  refine ⟨fun pins s σ H Q I h => ?_⟩
  refine PySem.W.methodCall_KW (pl := pl) (thn (he.run pins s σ H _ I h) fun u s1 ⟨x, H1, I1, rx, a, dx, fs, ex, ea, l, q⟩ => ?_) ht
  subst ex
  obtain rfl : u = Value.ref a := rx
  refine getmeth_ok I1 ea c hm l ?_
  exact PySem.W.callWith_K0 (first := [.ref a]) I1.kIn hm.kp (tel_run (us := [.ref a]) (vs := [.ref a]) F hr hb hd hfn I1 (.cons rfl .nil) q)
end
end Inf

set_option Elab.async false
set_option linter.all false
set_option maxRecDepth 100000
set_option maxHeartbeats 4000000
namespace Inf
open PySem PySem.Spec PyProof.Rows L2
/-! ### d.setdefault(t, x), t a tuple of ints and texts -/
def rSetT : V → List V → Hp → VK → Prop := fun x xs H Q => ∃ (a : Addr) (kvs : List (List L2.Key × V)) (k : List L2.Key) (b : Addr) (d : V), x = .ref a ∧ xs = [.ref b, d] ∧ H a = some (.dT kvs) ∧ H b = some (.tup (k.map kV)) ∧ kvs.length < sizeLine ∧
  (∀ v, valV kvs k = some v → Q v H) ∧ (valV kvs k = none → Q d (upd H a (.dT (putK kvs k d))))
theorem relO_some {o : Option V} {u : Value} (r : RelO o (some u)) : ∃ v, o = some v ∧ RelV v u := by
  cases o with
  | none => exact (show False from r).elim
  | some v => exact ⟨v, rfl, r⟩
theorem relO_none {o : Option V} (r : RelO o none) : o = none := by
  cases o with
  | none => rfl
  | some v => exact (show False from r).elim
theorem mt_setT {X : Cx} (hu : X.A.units + 1 < cLine) : MtR X "dict.setdefault" rSetT := by
  intro pins s σ H x xs v us Q I rx rxs h
  obtain ⟨a, kvs, k, b, d, rfl, rfl, ha, hb, hl, q1, q2⟩ := h
  cases rx
  obtain ⟨u1, u2, rfl, r1, r2⟩ := vals2 rxs
  cases r1
  obtain ⟨z, hd, xs', rel, dd⟩ := dt_of I.hok ha
  have hz : xs'.length ≤ sizeLine := by rw [← Paired.length rel]; exact z
  have hl2 : (putK kvs k d).length ≤ sizeLine := by
    have := length_putK kvs k d
    omega
  have rv := rel.val k
  refine call_setdefault_heap (hsz := hz) (tupleKind_room_in1 hu) (key_of I.hok hb) hd dd (fun p hp => ?_) fun hn h' dd' hs => ?_
  · rw [hp] at rv
    obtain ⟨v0, ev, r0⟩ := relO_some rv
    show EP X pins σ Q p.2 _
    exact ⟨v0, H, I.tok _, r0, q1 v0 ev⟩
  · rw [hn] at rv
    obtain ⟨o, es, ep, hq, h2, h3, h4, _, h5⟩ := dd'
    show EP X pins σ Q u2 _
    refine ⟨d, _, d_write (ob := .dT (putK kvs k d)) I (by rw [ha]; exact True.intro) hs ⟨o, hq⟩ ⟨hl2, hd, _, (rel.put k hb r2).keeps (fun c ys ec => ?_), o, es, ep, hq, h2, h3, h4, h5⟩, r2, q2 (relO_none rv)⟩
    rw [upd_ne (ne_of ec ha (fun z => nomatch z))]
    exact ec
end Inf

set_option Elab.async false
set_option linter.all false
set_option maxRecDepth 100000
set_option maxHeartbeats 4000000
namespace Inf
open PySem PySem.Spec PyProof.Rows L2
/-! ### f(), f a local name that holds a function -/
def tActZ (P : Program) (w : World) (K : PySem.W.Frag) (mg : Str → Option Value) (base : Heap) (CX : CXT) (k i : Nat) (E : L2.St → XK) : TE := fun σ H Q => ∃ f o sp, σ[i]? = some (some (.ref f)) ∧ H f = some o ∧ FnHO f o ∧ FnR P w K mg base CX k f sp ∧ sp [] H Q (E σ)
theorem pe_actZ {X : Cx} {CX : CXT} {k i : Nat} {E : L2.St → XK} {x : Str} {p pos : Pos} (hN : X.N[i]? = some x) (hv : Vis X.env.scope x) (hr : Room k X.A) (hx : ∀ σ, PassesAt CX X σ (E σ)) (hd : (x == ("__debug__" : Str)) = false := by decide) (hcd : (x == ("__classdict__" : Str)) = false := by decide) :
    PE X (.Call (.Name x p) [] [] pos) (tActZ X.prog X.w X.K X.mg X.base CX k i E) := by
  refine ⟨fun pins s σ H Q I h => ?_⟩
  obtain ⟨f, o, sp, hs, hf, ho, hF, q⟩ := h
  refine wpAny_Call_Name_kw (thn ((pe_var (pos := p) hN hv hd hcd).run pins s σ H (fun v H1 => v = .ref f ∧ H1 = H) I ⟨.ref f, hs, rfl, rfl⟩) fun u s1 ⟨v, H1, I1, r1, ev, eH⟩ => ?_)
  subst ev
  rw [eH] at I1
  obtain rfl : u = Value.ref f := r1
  refine PySem.W.callWith_of (P := PySem.W.FnAt f) (by rfl) PySem.W.keeps_F (PyProof.Rows.evalArgs_empty ?_)
  exact ⟨ho _ _ _ _ I1.hok hf, run_fnE hF hr (hx σ) I1 .nil q⟩
end Inf

set_option Elab.async false
set_option linter.all false
set_option maxRecDepth 100000
set_option maxHeartbeats 4000000
namespace Inf
open PySem PySem.Spec PyProof.Rows L2 NdefX LamX
/-! ### a call by names alone while the def's cells are told -/
section
variable {X : Cx} {pins : List (Addr × Obj)} {σ : L2.St} {H : Hp} {s : Shared}
theorem tel_runN {k n : Nat} {f : Addr} {fd : FuncData} {ps ks : List Str} {g : List Value → List Value → List Value} {gV : List V → List V → List V} {sp : Sp} {Q : VK} {us ws : List Value} {vs zs : List V} (F : FnOk X.prog X.w X.K X.mg X.base CX0 k f fd ps sp) (hr : Room k X.A) (hb : KBn X.K fd ps n ks g gV) (hfn : ∀ x, X.fn x = true)
    (I : Inv X pins σ H s) (r : Vals vs us) (rz : Vals zs ws) (l1 : vs.length = n) (l2 : zs.length = ks.length) (h : ∀ cs HT, Tel X.env.cells X.env.scope.names X.N σ H cs HT → sp (gV vs zs) HT (fun v H1 => (∀ b, b ∈ cs → H1 b = HT b) ∧ Q v (cut cs H1)) E0) : wpAny (model X.prog X.w) X.A (call (.ref f) us (ks.zip ws)) (EP X pins σ Q) X.xe s := by
  let cs := frCells X.env.cells
  let HT : Hp := fun b => if b ∈ cs then (match s.heap.get? b with | some o => some (.ext fun h => h.get? b = some o) | Option.none => Option.none) else H b
  have big : ∀ b, b ∈ cs → X.s_0.heap.objs.size ≤ b := fun b hb => by
    obtain ⟨x, e⟩ := mem_frCells hb
    exact I.ok.cab x b (hfn x) e
  have no : ∀ b, b ∈ cs → H b = Option.none := fun b hb => by
    obtain ⟨x, e⟩ := mem_frCells hb
    exact I.freeC x b e
  have inT : ∀ b, b ∈ cs → ∃ v o, s.heap.get? b = some o ∧ o.data = .cell v ∧ HT b = some (.ext fun h => h.get? b = some o) := fun b hb => by
    obtain ⟨x, e⟩ := mem_frCells hb
    obtain ⟨v, o, e1, e2⟩ := I.cell x b e
    refine ⟨v, o, e1, e2, ?_⟩
    show (if b ∈ cs then _ else _) = _
    rw [if_pos hb, e1]
  have outT : ∀ b, b ∉ cs → HT b = H b := fun b hb => if_neg hb
  have nonT : ∀ b, b ∉ cs → H b = Option.none → HT b = Option.none := fun b hb e => (outT b hb).trans e
  have T : Tel X.env.cells X.env.scope.names X.N σ H cs HT := by
    refine ⟨no, fun b hb => ?_, outT, I.ok.inj, fun y h => I.ok.has _ (.inl h), fun i y c v h1 h2 h3 h4 => ?_, fun b hb q hq => ?_, fun y c e => frCells_mem e⟩
    · obtain ⟨v, o, _, _, e⟩ := inT b hb
      exact ⟨_, e⟩
    · obtain ⟨v', o, e1, e2, e3⟩ := inT c (frCells_mem h3)
      obtain ⟨m, hn, hl⟩ := I.loc
      obtain ⟨u, ru, lk⟩ := hl i y v h1 h4 (.inr (.inl h2))
      refine ⟨_, e3, fun h hh => ⟨u, ru, o, hh, ?_⟩⟩
      rcases lk with ⟨z, _⟩ | ⟨_, c', hc', hcell⟩
      · have z' : X.env.scope.names.lookup y = some .local := z
        rw [h2] at z'
        cases z'
      · rw [h3] at hc'
        cases hc'
        obtain ⟨o', g1, g2⟩ := hcell
        rw [e1] at g1
        cases g1
        exact g2
    · obtain ⟨v, o, e1, e2, e3⟩ := inT b hb
      rw [e3] at hq
      have hq := HO.ext.inj (Option.some.inj hq)
      have hq := (congrFun hq s.heap).mp e1
      obtain ⟨oc, vs, t, g1, g2, _⟩ := hq
      rw [e1] at g1
      cases g1
      rw [e2] at g2
      cases g2
  have ncs : ∀ b, b < X.s_0.heap.objs.size → b ∉ cs := fun b l m => Nat.not_lt.mpr (big b m) l
  have e0 := I.env0
  have notfr : ∀ b, b ∈ frs X.stack → b ∉ cs := fun b hb m => by
    rcases List.mem_cons.mp (I.stkSub b hb) with e | hb'
    · obtain ⟨x, ex⟩ := mem_frCells m
      exact I.cne x b ex e
    · obtain ⟨_, o, ho, _⟩ := I.ok.funs.mem hb'
      exact ncs b (Heap.lt_size ho) m
  have nonext : ∀ {b : Addr} {o : HO}, H b = some o → b ∉ cs := fun e m => by
    rw [no _ m] at e
    cases e
  have e1 : Env0 X.prog X.w X.K X.mg X.base X.A X.stack s HT := by
    refine ⟨e0.frames, e0.mod, fun b o q => ⟨(e0.bs b o q).1, nonT b (ncs b (Nat.lt_of_lt_of_le (Heap.lt_size q) I.ok.bsz)) (e0.bs b o q).2⟩, e0.bsz, e0.funs, fun b hb => nonT b (notfr b hb) (e0.frf b hb), fun b o e => ?_, e0.bare⟩
    by_cases hb : b ∈ cs
    · obtain ⟨v, o', g1, g2, g3⟩ := inT b hb
      rw [g3] at e
      cases e
      exact ⟨g1, ⟨o', g1⟩, fun h1 h2 z k => k _ z⟩
    · rw [outT b hb] at e
      refine (e0.hok b o e).stay (fun c u _ q => q) (fun c q => ?_) fun c xs q => ?_
      · rw [outT c (nonext q)]
        exact q
      · rw [outT c (nonext q)]
        exact q
  have hq0 := h cs HT T
  have r2 := hb.rel r rz
  refine wpAny_call (codeAny_mono (F.run X.A X.stack s HT ⟨us, ks.zip ws⟩ (g us ws) (gV vs zs) _ E0 hr e1 (hb.to s us ws I.kIn (r.length.symm.trans l1) (rz.length.symm.trans l2)) r2 hq0) fun r s' hq => ?_)
  cases r with
  | error e => exact False.elim hq
  | ok fl =>
    cases fl with
    | next => exact False.elim hq
    | brk => exact False.elim hq
    | cont => exact False.elim hq
    | ret u =>
      obtain ⟨v, H1, os, bare, un, hok1, rv, kc, q⟩ := hq
      have notin : ∀ {b : Addr} {o : HO}, H1 b = some o → (∀ φ, o ≠ .ext φ) → b ∉ cs := fun {b o} e n m => by
        obtain ⟨v, o', _, _, g3⟩ := inT b m
        rw [kc b m, g3] at e
        exact n _ (Option.some.inj e).symm
      have keepC : ∀ b o, b ∈ cs → s.heap.get? b = some o → s'.heap.get? b = some o := fun b o m e => by
        obtain ⟨v, o', g1, _, g3⟩ := inT b m
        rw [g1] at e
        cases e
        have := hok1 b _ ((kc b m).trans g3)
        exact this.1
      refine I.after ⟨v, cut cs H1, os, bare, ⟨fun b o a n h1 h2 => ?_, fun b o a n h1 h2 => ?_, fun b o a n h2 => ?_, un.there, fun b xs e => ?_, fun b o u e => ?_, fun b ps e => ?_⟩, fun b o e => ?_, rv, q⟩
      · by_cases m : b ∈ cs
        · exact keepC b o m a
        · exact un.keep b o a (nonT b m n) h1 h2
      · exact un.slot b o a (nonT b (notfr b h1) n) h1 h2
      · by_cases m : b ∈ cs
        · exact cut_in m
        · rw [cut_out m]
          exact un.free b o a (nonT b m n) h2
      · have m := nonext e
        rw [cut_out m]
        exact un.tups b xs ((outT b m).trans e)
      · have m := nonext e
        rw [cut_out m]
        exact un.frzs b o u ((outT b m).trans e)
      · have m := nonext e
        rw [cut_out m]
        exact un.tbls b ps ((outT b m).trans e)
      · by_cases m : b ∈ cs
        · rw [cut_in m] at e
          cases e
        · rw [cut_out m] at e
          refine (hok1 b o e).stay (fun c u _ q => q) (fun c q => ?_) fun c xs q => ?_
          · rw [cut_out (notin q (fun φ z => nomatch z))]
            exact q
          · rw [cut_out (notin q (fun φ z => nomatch z))]
            exact q
end
def tCallKT (X : Cx) (m : Nat) (sp : Sp) (gV : List V → List V → List V) (tk : TA) : TE := fun σ H Q => tk σ H fun zs H1 => zs.length = m ∧ ∀ cs HT, Tel X.env.cells X.env.scope.names X.N σ H1 cs HT → sp (gV [] zs) HT (fun v H2 => (∀ b, b ∈ cs → H2 b = HT b) ∧ Q v (cut cs H2)) E0
theorem pe_kwT {X : Cx} {k : Nat} {f : Addr} {fd : FuncData} {ps ks : List Str} {g : List Value → List Value → List Value} {gV : List V → List V → List V} {sp : Sp} {x : Str} {p pos : Pos} {kws : List Keyword} {tk : TA} (hfn : ∀ x, X.fn x = true) (F : FnOk X.prog X.w X.K X.mg X.base CX0 k f fd ps sp) (hr : Room k X.A) (hg : Gl X x) (hm : X.mg x = some (.ref f))
    (hk : PySem.W.keepIn X.K (.ref f) = true) (hb : KBn X.K fd ps 0 ks g gV) (hkw : PK X kws tk)
    (hall : (backToKw pos (keywordEach kws X.env)).all (·.1.isSome) = true := by rfl)
    (hks : (backToKw pos (keywordEach kws X.env)).filterMap (·.1) = ks := by rfl) (hdb : (x == ("__debug__" : Str)) = false := by decide)
    (hpl : ((backTo pos (starEach [] X.env)).any (·.1) || (backToKw pos (keywordEach kws X.env)).any (·.1.isNone)) = false := by rfl) :
    PE X (.Call (.Name x p) [] kws pos) (tCallKT X ks.length sp gV tk) :=
  ⟨fun pins s σ H Q I h => wpAny_Call_Name_kw (ld_glob I hg hm (PySem.W.callWith_KW0 (h₀ := X.base) I.ok.mod.kin hk hall
    (thn (hkw.run pos pins s σ H _ I h) fun ws s2 ⟨zs, H2, I2, rz, l1, q2⟩ => ⟨I2.kIn, by rw [hks]; exact tel_runN (us := []) (vs := []) F hr hb hfn I2 .nil rz rfl l1 q2⟩) hpl) hdb)⟩
end Inf

set_option Elab.async false
set_option linter.all false
set_option maxRecDepth 100000
set_option maxHeartbeats 4000000
namespace Inf
open PySem PySem.Spec PyProof.Rows L2 NdefX LamX
/-! ### sorted(pairs, key=lambda p: (-p[1], p[0])) -/
/-- the lambda F: (-x[1], x[0]) -/
structure KeyLam (F : LF) (x : Str) : Prop where
  sc : NScope [x] [x] [] F.scope
  body : ∃ p1 k1 p2 p3 p4 p5 k2 p6 p7 k3 p8, F.body = .Tuple [.UnaryOp .USub (.Subscript (.Name x p1) (.Constant (.int 1) k1 p2) p3) p4, .Subscript (.Name x p5) (.Constant (.int 0) k2 p6) p7] k3 p8
  bind : ∀ (pm ctv v : Value), bindArgs (PySem.W.kla_fn "<lambda>" F.qual F.params F.body F.scope F.cl pm (.ref F.c) ctv) ⟨[v], []⟩ = pure [(x, v)]
  nd : (x == ("__debug__" : Str)) = false
section
variable {prog : Program} {w : World} {A : Around} {s : Shared} {E : Value → Shared → Prop}
theorem sub_at {env : Env} {x : Str} {p1 p2 p3 : Pos} {k1} {n : Int} {t : Addr} {its : Array Value} {j : Nat} {y : Value} {m : Str → Option Value} {Q : Value → Shared → Prop} (hk : env.scope.kind = .function) (hl : env.kindOf x = some .local) (hn : s.heap.Ns env.locals m) (hm : m x = some (.ref t)) (nd : (x == ("__debug__" : Str)) = false)
    (ht : IsTup s.heap t its) (h1 : -(2 ^ 63) ≤ n) (h2 : n < 2 ^ 63) (h3 : seqIndex? n its.size = some j) (h4 : its[j]? = some y) (q : Q y { s with toks := s.toks + 1 }) :
    wpAny (model prog w) A (eval (.Subscript (.Name x p1) (.Constant (.int n) k1 p2) p3) env) Q E s := by
  refine Subscript_ (wpAny_Name (wpAny_loadName_local hk hl hn hm ?_) nd)
  refine wpAny_Constant_int ?_
  exact subscriptTail_builtinR (s := { s with toks := s.toks + 1 }) (x := y) ht.typeIs slot_tuple_getitem.lookup (getItem_tuple (j := j) (Q := fun r s' => r = y ∧ Q r s') ht h1 h2 h3 h4 ⟨rfl, q⟩) rfl
theorem key_call {f t : Addr} {F : LF} {x : Str} {pm ctv : Value} {i j : Int} {ti tj : Tok} (L : KeyLam F x) (hd : A.depth < recursionLimit) (lim : s.heap.NoLimit) (ho : s.heap.get? f = some (PySem.W.kla_obj "<lambda>" F.qual F.params F.body F.scope F.cl pm F.c ctv)) (hc : s.heap.CodeRec (.ref F.c) F.qual) (ht : IsTup s.heap t #[.int i ti, .int j tj]) :
    wpAny (model prog w) A (call (.ref f) [.ref t]) (PySem.W.KeyPure (.tuple [.int (-j), .int i]) s) (fun _ _ => False) s := by
  refine wpAny_call ?_
  refine PySem.W.kla_callFunE hd ho rfl L.sc.co L.sc.gen rfl hc ?_
  rw [L.bind pm ctv]
  refine wpAny_pure (wpAny_newFunctionEnv L.sc.nocell (fun y hy => ?_) (fun h₁ hns hsb => ⟨lim.fresh _ hsb, ?_⟩) L.sc.kind)
  · rw [List.mem_singleton.mp hy]
    exact L.sc.par x List.mem_cons_self
  have kp : ∀ b o, s.heap.get? b = some o → h₁.get? b = some o := fun b o e => hsb.extBut b o (Nat.ne_of_lt (Heap.lt_size e)) (Heap.get?_push_of_some _ e)
  have ht1 : IsTup h₁ t #[.int i ti, .int j tj] := by
    obtain ⟨o, h1, h2, n, h3⟩ := ht
    exact ⟨o, kp _ _ h1, h2, n, h3⟩
  have hl : F.scope.names.lookup x = some .local := L.sc.par x List.mem_cons_self
  have hm : ([(x, Value.ref t)] : List (Str × Value)).reverse.lookup x = some (.ref t) := by
    show ([(x, Value.ref t)] : List (Str × Value)).lookup x = _
    rw [List.lookup_cons, beq_self_eq_true]
  obtain ⟨p1, k1, p2, p3, p4, p5, k2, p6, p7, k3, p8, hb⟩ := L.body
  refine PySem.W.kla_codeExpr ?_
  rw [hb]
  refine wpAny_Tuple_spliced ?_
  refine Calls.spliced_cons ?_
  refine wpAny_UnaryOp (sub_at (j := 1) (y := .int j tj) L.sc.kind hl hns hm L.nd ht1 (by decide) (by decide) rfl rfl ?_)
  refine neg_int ?_
  refine Calls.spliced_cons ?_
  refine sub_at (j := 0) (y := .int i ti) L.sc.kind hl hns hm L.nd ht1 (by decide) (by decide) rfl rfl ?_
  refine Calls.spliced_nil ⟨(show (2 : Nat) ≤ sizeLine by decide), ?_⟩
  refine ⟨_, _, rfl, fun b o e => Heap.get?_push_of_some _ (kp b o e), ?_⟩
  exact .tuple (Heap.get?_push_size _ rfl) rfl rfl (.cons (as := []) (.int _ _) (.cons (as := []) (.int _ _) .nil))
end
/-- the pairs stand at their addresses; the result goes by the second, the greatest first, then by the first -/
def pairLe (p q : Addr × Int × Int) : Bool := decide (-p.2.2 < -q.2.2 ∨ (-p.2.2 = -q.2.2 ∧ p.2.1 ≤ q.2.1))
def rSortKey (K : PySem.W.Frag) : List V → List V → Hp → VK → Prop := fun vs zs H Q => ∃ (a f : Addr) (F : LF) (x : Str) (bs : List (Addr × Int × Int)), vs = [.ref a] ∧ zs = [.ref f] ∧ SqL K H a (bs.map fun b => V.ref b.1) ∧ (∀ b ∈ bs, H b.1 = some (.tup [.int b.2.1, .int b.2.2])) ∧ KeyLam F x ∧ H f = some (LamO f F) ∧ H F.c = some (CodeO F.c F.qual) ∧
  ∀ p, H p = Option.none → Q (.ref p) (upd H p (.lst ((bs.mergeSort pairLe).map fun b => V.ref b.1)))
def PairIs (h : Heap) (v : Value) (b : Addr × Int × Int) : Prop := v = .ref b.1 ∧ ∃ ti tj, IsTup h b.1 #[.int b.2.1 ti, .int b.2.2 tj]
theorem pairs_each {h : Heap} : ∀ {bs : List (Addr × Int × Int)} {us : List Value}, Vals (bs.map fun b => V.ref b.1) us → (∀ b ∈ bs, ∃ ti tj, IsTup h b.1 #[.int b.2.1 ti, .int b.2.2 tj]) → PySem.W.EachIs (PairIs h) us bs
  | [], _, .nil, _ => .nil
  | b :: bs, _, .cons r t, k => .cons ⟨r, k b List.mem_cons_self⟩ (pairs_each t fun c m => k c (List.mem_cons_of_mem _ m))
theorem each_vals {h : Heap} : ∀ {bs : List (Addr × Int × Int)} {us : List Value}, PySem.W.EachIs (PairIs h) us bs → Vals (bs.map fun b => V.ref b.1) us
  | [], _, .nil => .nil
  | b :: bs, _, .cons r t => .cons r.1 (each_vals t)
theorem cr_sortKey {X : Cx} {k : Nat} (hr : Room k X.A) : CallRK X (.builtin "sorted") [Str.ofString "key"] (rSortKey X.K) := by
  intro pins s σ H vs zs us ws Q I r rz h
  obtain ⟨a, f, F, x, bs, rfl, rfl, hs, hb, L, hf, hcf, q⟩ := h
  obtain ⟨its, rv, hl, hz⟩ := I.list hs
  obtain rfl := Vals.ref1 r
  obtain ⟨w1, rfl, e1⟩ := vals1 rz
  obtain rfl : w1 = Value.ref f := e1
  have hp : ∀ b ∈ bs, ∃ ti tj, IsTup s.heap b.1 #[.int b.2.1 ti, .int b.2.2 tj] := fun b m => by
    obtain ⟨its2, r2, t2, _⟩ := I.tuple (SqT.of (hb b m))
    obtain ⟨u1, u2, rfl, g1, g2⟩ := vals2 r2
    obtain ⟨ti, rfl⟩ := g1
    obtain ⟨tj, rfl⟩ := g2
    exact ⟨ti, tj, t2⟩
  have e0 := I.env0
  have lim : s.heap.NoLimit := e0.mod.nolimit.keeps fun b o e => (e0.bs b o e).1
  obtain ⟨pm, ctv, ho⟩ := lamO_at I.hok hf
  have hc := codeO_at I.hok hcf
  rw [List.length_map] at hz
  refine PySem.W.sorted_key_data (b := false) (R := PairIs s.heap) (fun b : Addr × Int × Int => PyData.tuple [.int (-b.2.2), .int b.2.1]) hl.isList (pairs_each rv hp) (PySem.W.AllAlike.of fun _ _ => by simp [PySem.W.alike, PySem.W.alikeAll]) (PySem.W.Sortable.tuples fun _ => ⟨_, _, rfl⟩) hz (fun b _ => ?_) (ksk_s1 _ _) (fun _ => ksk_l1 _ _) (fun _ => ksk_t1 _ _)
    (fun v b hR _ h tk kp => ?_) fun out c h' tk kp _ hD hlo eo => ?_
  · have hd : (PyData.tuple [.int (-b.2.2), .int b.2.1]).depth = 1 := by simp [PyData.depth, PyData.depthAll]
    have := hr.un
    rw [hd]
    omega
  · obtain ⟨rfl, ti, tj, o, h1, h2, n, h3⟩ := hR
    obtain ⟨c, oc, vs, t, g1, g2, g3, g4⟩ := hc
    exact key_call L (A := X.A.in1.in1) (s := { s with heap := h, toks := tk }) hr.depth (lim.keeps kp) (kp _ _ ho) ⟨c, oc, vs, t, g1, kp _ _ g2, g3, g4⟩ ⟨o, kp _ _ h1, h2, n, h3⟩
  · rw [PySem.W.dataLe_ii (β := Addr × Int × Int) (fun p => -p.2.2) (fun p => p.2.1)] at eo
    have hlen : ((bs.mergeSort pairLe).map fun b => V.ref b.1).length ≤ sizeLine := by
      rw [List.length_map, List.length_mergeSort]
      exact hz
    exact ⟨.ref _, upd H (s.heap.objs.size + 1) (.lst ((bs.mergeSort pairLe).map fun b => V.ref b.1)), I.laid (t' := tk) kp (Nat.le_succ _) ⟨hlen, out, c, each_vals eo, hD⟩, rfl, q _ (I.hok.fresh (Nat.le_succ _))⟩
end Inf

set_option Elab.async false
set_option linter.all false
set_option maxRecDepth 100000
set_option maxHeartbeats 4000000
namespace Inf
open PySem PySem.Spec PyProof.Rows L2 NdefX LamX
/-! ### o.m(.., k=..) while the def's cells are told -/
def tMethKT (X : Cx) (C : Addr) (m : Str) (n r : Nat) (sp : Sp) (gV : List V → List V → List V) (ta : TE) (t tk : TA) : TE := fun σ H Q => ta σ H fun x H1 => ∃ a dx fs, x = .ref a ∧ H1 a = some (.ins C dx fs) ∧ fs.lookup m = none ∧
  t σ H1 fun vs H2 => tk σ H2 fun zs H3 => vs.length = n ∧ zs.length = r ∧ ∀ cs HT, Tel X.env.cells X.env.scope.names X.N σ H3 cs HT → sp (gV (x :: vs) zs) HT (fun v H4 => (∀ b, b ∈ cs → H4 b = HT b) ∧ Q v (cut cs H4)) E0
section
variable {X : Cx} {CX : CXT} {k n : Nat} {f C : Addr} {fd : FuncData} {ps ks : List Str} {sp : Sp} {E : XK} {m : Str} {pos apos : Pos} {e o : Expr} {es : List Expr} {kws : List Keyword} {ta : TE} {t tk : TA} {g : List Value → List Value → List Value} {gV : List V → List V → List V}
theorem pe_methKT {pl : Sem Bool} (hfn : ∀ x, X.fn x = true) (he : PE X o ta) (c : Cls X.K C) (hm : Meth X.K C m f) (F : FnOk X.prog X.w X.K X.mg X.base CX0 k f fd ps sp) (hr : Room k X.A) (hb : KBn X.K fd ps (n + 1) ks g gV) (ha : PA X (e :: es) t) (hkw : PK X kws tk)
    (hall : (backToKw pos (keywordEach kws X.env)).all (·.1.isSome) = true := by rfl) (hks : (backToKw pos (keywordEach kws X.env)).filterMap (·.1) = ks := by rfl)
    (hst : starEach (e :: es) X.env = (false, eval e X.env) :: starEach es X.env := by rfl)
    (hpl : ((backTo pos (starEach (e :: es) X.env)).any (·.1) || (backToKw pos (keywordEach kws X.env)).any (·.1.isNone)) = false := by rfl)
    (ht : eval (.Call (.Attribute o m apos) (e :: es) kws pos) X.env = (do
      let ov ← eval o X.env
      standAt apos.atName
      let (f, first) ← holding [ov] (getMethod ov m pl)
      callWith pos f first (backTo pos (starEach (e :: es) X.env)) (backToKw pos (keywordEach kws X.env))) := by rfl) :
    PE X (.Call (.Attribute o m apos) (e :: es) kws pos) (tMethKT X C m n ks.length sp gV ta t tk) := by
  refine ⟨fun pins s σ H Q I h => ?_⟩
  refine PySem.W.methodCall_KW (pl := pl) (thn (he.run pins s σ H _ I h) fun u s1 ⟨x, H1, I1, rx, a, dx, fs, ex, ea, l, q⟩ => ?_) ht
  subst ex
  obtain rfl : u = Value.ref a := rx
  refine getmeth_ok I1 ea c hm l ?_
  refine PySem.W.callWith_KW (first := [.ref a]) (h₀ := X.base) I.ok.mod.kin hm.kp hall (thn (ha.run pos pins s1 σ H1 _ I1 q) fun us s2 ⟨vs, H2, I2, r, q2⟩ => ?_) hpl hst
  refine thn (hkw.run pos pins s2 σ H2 _ I2 q2) fun ws s3 ⟨zs, H3, I3, rz, l1, l2, q3⟩ => ⟨I3.kIn, ?_⟩
  rw [hks]
  exact tel_runN (us := .ref a :: us) (vs := .ref a :: vs) F hr hb hfn I3 (.cons rfl r) rz (congrArg Nat.succ l1) l2 q3
end
end Inf

set_option Elab.async false
set_option linter.all false
set_option maxRecDepth 100000
set_option maxHeartbeats 4000000
namespace Inf
open PySem PySem.Spec PyProof.Rows L2 NdefX LamX
/-! ### sorted(numbers, key=lambda n: (-ranks[n], n)), ranks a name that the def has in a cell -/
structure KeyLamR (F : LF) (x y : Str) : Prop where
  sc : NScope [x, y] [x] [y] F.scope
  body : ∃ p1 p2 p3 p4 p5 k p6, F.body = .Tuple [.UnaryOp .USub (.Subscript (.Name y p1) (.Name x p2) p3) p4, .Name x p5] k p6
  bind : ∀ (pm ctv v : Value), bindArgs (PySem.W.kla_fn "<lambda>" F.qual F.params F.body F.scope F.cl pm (.ref F.c) ctv) ⟨[v], []⟩ = pure [(x, v)]
  ndx : (x == ("__debug__" : Str)) = false
  ndy : (y == ("__debug__" : Str)) = false
  ncy : (y == ("__classdict__" : Str)) = false
section
variable {P : Program} {w : World} {A : Around} {s : Shared}
theorem keyR_call {f c d : Addr} {F : LF} {x y : Str} {pm ctv : Value} {n r : Int} {tn : Tok} {vs : List (Key × Value)} (L : KeyLamR F x y) (hd : A.depth < recursionLimit) (lim : s.heap.NoLimit) (ho : s.heap.get? f = some (PySem.W.kla_obj "<lambda>" F.qual F.params F.body F.scope F.cl pm F.c ctv)) (hc : s.heap.CodeRec (.ref F.c) F.qual)
    (hcl : F.cl.lookup y = some c) (hcell : s.heap.IsCell c (some (.ref d))) (hds : (d == sysModules) = false) (hdk : s.heap.DictOf (mixKind P w) d vs) {rt : Tok} (hv : valueAt vs (.inl n) = some (.int r rt)) :
    wpAny (model P w) A (call (.ref f) [.int n tn]) (PySem.W.KeyPure (.tuple [.int (-r), .int n]) s) (fun _ _ => False) s := by
  refine wpAny_call ?_
  refine PySem.W.kla_callFunE hd ho rfl L.sc.co L.sc.gen rfl hc ?_
  rw [L.bind pm ctv]
  refine wpAny_pure (wpAny_newFunctionEnv L.sc.nocell (fun z hz => ?_) (fun h₁ hns hsb => ⟨lim.fresh _ hsb, ?_⟩) L.sc.kind)
  · rw [List.mem_singleton.mp hz]
    exact L.sc.par x List.mem_cons_self
  have kp : ∀ b o, s.heap.get? b = some o → h₁.get? b = some o := fun b o e => hsb.extBut b o (Nat.ne_of_lt (Heap.lt_size e)) (Heap.get?_push_of_some _ e)
  have hcell1 : h₁.IsCell c (some (.ref d)) := by
    obtain ⟨o, h1, h2⟩ := hcell
    exact ⟨o, kp _ _ h1, h2⟩
  have hdk1 : h₁.DictOf (mixKind P w) d vs := hdk.keep kp
  have hl : F.scope.names.lookup x = some .local := L.sc.par x List.mem_cons_self
  have hfr : F.scope.names.lookup y = some .free := L.sc.frk y List.mem_cons_self
  have hm : ([(x, Value.int n tn)] : List (Str × Value)).reverse.lookup x = some (.int n tn) := by
    show ([(x, Value.int n tn)] : List (Str × Value)).lookup x = _
    rw [List.lookup_cons, beq_self_eq_true]
  obtain ⟨p1, p2, p3, p4, p5, k, p6, hb⟩ := L.body
  refine PySem.W.kla_codeExpr ?_
  rw [hb]
  refine wpAny_Tuple_spliced ?_
  refine Calls.spliced_cons ?_
  refine wpAny_UnaryOp ?_
  refine Subscript_ (wpAny_Name (wpAny_loadName_free L.sc.kind hfr hcl hcell1 ?_ L.ncy) L.ndy)
  refine wpAny_Name (wpAny_loadName_local L.sc.kind hl hns hm ?_) L.ndx
  refine subscriptTail_builtinR (x := .int r rt) hdk1.typeIs PySem.F.slot_dict_getitem.lookup (wpAny_getItem_of (f := valueAt vs) (Q := fun u s' => u = .int r rt ∧ _) (kV_is (k := .inl n) ⟨tn, rfl⟩) hdk1.mapOf hv ⟨rfl, ?_⟩) rfl
  refine neg_int ?_
  refine Calls.spliced_cons ?_
  refine wpAny_Name (wpAny_loadName_local L.sc.kind hl hns hm ?_) L.ndx
  refine Calls.spliced_nil ⟨(show (2 : Nat) ≤ sizeLine by decide), ?_⟩
  refine ⟨_, _, rfl, fun b o e => Heap.get?_push_of_some _ (kp b o e), ?_⟩
  exact .tuple (Heap.get?_push_size _ rfl) rfl rfl (.cons (as := []) (.int _ _) (.cons (as := []) (.int _ _) .nil))
end
/-! ### a built-in called with keywords, by what the def's names hold -/
def CallRKs (X : Cx) (f : Value) (ks : List Str) (r : L2.St → List V → List V → Hp → VK → Prop) : Prop :=
  ∀ (pins : List (Addr × Obj)) (s : Shared) (σ : L2.St) (H : Hp) (xs zs : List V) (us ws : List Value) (Q : VK), Inv X pins σ H s → Vals xs us → Vals zs ws → r σ xs zs H Q → wpAny (model X.prog X.w) X.A (call f us (ks.zip ws)) (EP X pins σ Q) X.xe s
def tCKs (r : L2.St → List V → List V → Hp → VK → Prop) (t tk : TA) : TE := fun σ H Q => t σ H fun vs H1 => tk σ H1 fun zs H2 => r σ vs zs H2 Q
theorem pe_callBKs {X : Cx} {x : Str} {p pos : Pos} {e : Expr} {es : List Expr} {kws : List Keyword} {t tk : TA} {id : String} {ks : List Str} {r : L2.St → List V → List V → Hp → VK → Prop} (hc : CallRKs X (.builtin id) ks r) (hg : Gl X x) (hm : X.mg x = none) (hv : bootBuiltins x = some (.builtin id)) (ha : PA X (e :: es) t) (hk : PK X kws tk) (hn : x ≠ "__name__" := by decide) (hdb : (x == ("__debug__" : Str)) = false := by decide)
    (he : backTo pos (starEach (e :: es) X.env) = (false, eval e X.env) :: backTo pos (starEach es X.env) := by rfl) (hpl : (backTo pos (starEach (e :: es) X.env)).any (·.1) = false := by rfl)
    (hall : (backToKw pos (keywordEach kws X.env)).all (·.1.isSome) = true := by rfl) (hnone : (backToKw pos (keywordEach kws X.env)).any (·.1.isNone) = false := by rfl) (hks : (backToKw pos (keywordEach kws X.env)).filterMap (·.1) = ks := by rfl) :
    PE X (.Call (.Name x p) (e :: es) kws pos) (tCKs r t tk) := by
  refine ⟨fun pins s σ H Q I h => ?_⟩
  refine wpAny_Call_Name_kw (ld_blt I hg hm hv ?_ hn hdb)
  refine PyProof.Rows.callWith_kw (thn (ha.run pos pins s σ H _ I h) fun us s1 ⟨vs, H1, I1, r1, q1⟩ => thn (hk.run pos pins s1 σ H1 _ I1 q1) fun ws s2 ⟨zs, H2, I2, r2, q2⟩ => ?_) he hpl hall hnone
  rw [hks]
  exact hc pins s2 σ H2 vs zs us ws Q I2 r1 r2 q2
/-- the numbers by their ranks, the greatest first, then by themselves -/
def ordLe (rk : Int → Int) (n m : Int) : Bool := decide (-rk n < -rk m ∨ (-rk n = -rk m ∧ n ≤ m))
def rSortC (X : Cx) (i : Nat) (x y : Str) : L2.St → List V → List V → Hp → VK → Prop := fun σ vs zs H Q => ∃ (a f d : Addr) (F : LF) (ns : List Int) (rk : Int → Int) (kvs : List (Key × V)), vs = [.ref a] ∧ zs = [.ref f] ∧ SqL X.K H a (ns.map V.int) ∧ KeyLamR F x y ∧ F.cl = cloFrom X.env.cells F.scope.names [] ∧ H f = some (LamO f F) ∧ H F.c = some (CodeO F.c F.qual) ∧
  σ[i]? = some (some (.ref d)) ∧ H d = some (.dK kvs) ∧ (∀ n ∈ ns, valV kvs (.inl n) = some (.int (rk n))) ∧ ∀ p, H p = Option.none → Q (.ref p) (upd H p (.lst ((ns.mergeSort (ordLe rk)).map V.int)))
def IntIs (v : Value) (n : Int) : Prop := ∃ t, v = .int n t
theorem ints_each : ∀ {ns : List Int} {us : List Value}, Vals (ns.map V.int) us → PySem.W.EachIs IntIs us ns
  | [], _, .nil => .nil
  | n :: ns, _, .cons r t => .cons r (ints_each t)
theorem each_ints : ∀ {ns : List Int} {us : List Value}, PySem.W.EachIs IntIs us ns → Vals (ns.map V.int) us
  | [], _, .nil => .nil
  | n :: ns, _, .cons r t => .cons r (each_ints t)
theorem cr_sortC {X : Cx} {k i : Nat} {x y : Str} (hr : Room k X.A) (hN : X.N[i]? = some y) (hy : X.env.scope.names.lookup y = some .cell) : CallRKs X (.builtin "sorted") [Str.ofString "key"] (rSortC X i x y) := by
  intro pins s σ H vs zs us ws Q I r rz h
  obtain ⟨a, f, d, F, ns, rk, kvs, rfl, rfl, hs, L, hcl, hf, hcf, hσ, hd, hrk, q⟩ := h
  obtain ⟨its, rv, hl, hz⟩ := I.list hs
  obtain rfl := Vals.ref1 r
  obtain ⟨w1, rfl, e1⟩ := vals1 rz
  obtain rfl : w1 = Value.ref f := e1
  have e0 := I.env0
  have lim : s.heap.NoLimit := e0.mod.nolimit.keeps fun b o e => (e0.bs b o e).1
  obtain ⟨pm, ctv, ho⟩ := lamO_at I.hok hf
  have hc := codeO_at I.hok hcf
  obtain ⟨_, hds, kv, rel, dd⟩ := dk_of I.hok hd
  obtain ⟨c, hcc, hcell⟩ : ∃ c, X.env.cells.lookup y = some c ∧ s.heap.IsCell c (some (.ref d)) := by
    obtain ⟨m, hn, hlo⟩ := I.loc
    obtain ⟨u, ru, lk⟩ := hlo i y (.ref d) hN hσ (.inr (.inl hy))
    obtain rfl : u = Value.ref d := ru
    rcases lk with ⟨z, _⟩ | ⟨_, c', hc', hcell⟩
    · have z' : X.env.scope.names.lookup y = some .local := z
      rw [hy] at z'
      cases z'
    · exact ⟨c', hc', hcell⟩
  have hclo : F.cl.lookup y = some c := by
    rw [hcl]
    refine clo_has (fun z hz e => ?_) (PySem.mem_of_lookup (L.sc.frk y List.mem_cons_self)) hcc
    have := L.sc.free z hz e
    rw [List.mem_singleton.mp this]
    exact ⟨c, hcc⟩
  rw [List.length_map] at hz
  refine PySem.W.sorted_key_data (b := false) (R := IntIs) (fun n : Int => PyData.tuple [.int (-rk n), .int n]) hl.isList (ints_each rv) (PySem.W.AllAlike.of fun _ _ => by simp [PySem.W.alike, PySem.W.alikeAll]) (PySem.W.Sortable.tuples fun _ => ⟨_, _, rfl⟩) hz (fun n _ => ?_) (ksk_s1 _ _) (fun _ => ksk_l1 _ _) (fun _ => ksk_t1 _ _)
    (fun v n hR hm h tk kp => ?_) fun out c' h' tk kp _ hD hlo eo => ?_
  · have hd : (PyData.tuple [.int (-rk n), .int n]).depth = 1 := by simp [PyData.depth, PyData.depthAll]
    have := hr.un
    rw [hd]
    omega
  · obtain ⟨tn, rfl⟩ := hR
    obtain ⟨c2, oc, vs, t, g1, g2, g3, g4⟩ := hc
    obtain ⟨w', hw, rt, rfl⟩ := RelO.some_of (v := V.int (rk n)) (o := valueAt kv (.inl n)) (by rw [← hrk n hm]; exact rel.val (.inl n))
    refine keyR_call L (A := X.A.in1.in1) (s := { s with heap := h, toks := tk }) hr.depth (lim.keeps kp) (kp _ _ ho) ⟨c2, oc, vs, t, g1, kp _ _ g2, g3, g4⟩ hclo ?_ hds (dd.keep kp) hw
    obtain ⟨o, h1, h2⟩ := hcell
    exact ⟨o, kp _ _ h1, h2⟩
  · rw [PySem.W.dataLe_ii (β := Int) (fun n => -rk n) (fun n => n)] at eo
    have hlen : ((ns.mergeSort (ordLe rk)).map V.int).length ≤ sizeLine := by
      rw [List.length_map, List.length_mergeSort]
      exact hz
    exact ⟨.ref _, upd H (s.heap.objs.size + 1) (.lst ((ns.mergeSort (ordLe rk)).map V.int)), I.laid (t' := tk) kp (Nat.le_succ _) ⟨hlen, out, c', each_ints eo, hD⟩, rfl, q _ (I.hok.fresh (Nat.le_succ _))⟩
end Inf

set_option Elab.async false
set_option linter.all false
set_option maxRecDepth 100000
set_option maxHeartbeats 4000000
namespace Inf
open PySem PySem.Spec PyProof.Rows L2 NdefX LamX RT
/-! ### list(reversed(xs)) -/
section
variable {prog : Program} {w : World} {A : Around} {E : Value → Shared → Prop} {s : Shared}
theorem ext_rev {R : Result → Shared → Prop} {J ll D : Addr} {vals : Array Value} {c0 : Nat} (quiet : A.handled = none) (atJ : s.heap.IsRevIter J ll ((vals.size : Int) - 1)) (atL : s.heap.IsList ll vals) (apart : ll ≠ J) (DJ : D ≠ J) (DL : D ≠ ll) (room : vals.size ≤ sizeLine) (atD : s.heap.get? D = some { cls := .type "list", data := .seq #[] c0 })
    (fin : ∀ (g : Heap) (tk : Nat) (acc : Array Value) (c' : Nat), (∀ b o, b ≠ D → b ≠ J → s.heap.get? b = some o → g.get? b = some o) → g.get? D = some { cls := .type "list", dict := none, data := .seq acc c', slots := #[] } → ItemsOf (fun i v => vals[vals.size - 1 - i]? = some v) acc vals.size → R (.ok (.ret .none)) { s with heap := g, toks := tk }) :
    wpAny (model prog w) A.in1 (Builtin.List.listExtendWith (.ref D) (.ref J) .none)
      (fun fl u => match fl with | .done f => R (.ok f) u | .again k => k.quiet = true ∧ codeAny (model prog w) A k R u) (fun e u => R (.error e) u) s := by
  have W := (Walks.listRev (prog := prog) (w := w) (A := A.in1) quiet J ll apart vals).toS
  have ty : s.TypeIs (.ref J) "list_reverseiterator" := atJ.typeIs
  have far : D ∉ [J, ll] := by simp only [List.mem_cons, List.not_mem_nil, or_false, not_or]; exact ⟨DJ, DL⟩
  unfold Builtin.List.listExtendWith
  refine wpAny_bind (wpAny_typeOf ty ?_)
  rw [if_neg (by simp [Builtin.List.listSameRef, DJ])]
  refine wpAny_bind (wpAny_pyIter_revIter atJ ?_)
  refine wpAny_bind (wpAny_holding ?_)
  unfold Builtin.List.listLengthHint
  refine wpAny_bind (wpAny_specialOf ty nolen_lri ?_)
  show wpAny _ A.in1 (specialOf _ _ >>= _) _ _ s
  refine wpAny_bind (wpAny_specialOf ty hint_lri ?_)
  generalize nm : ("list_reverseiterator.__length_hint__" : String) = idh
  wp_delta
  rw [show splitId idh = some ("list_reverseiterator", "__length_hint__") from by subst nm; decide +kernel]
  subst nm
  refine wpAny_bind (wpAny_isInstance (b := true) ty (by rw [isSubtype_type]; kernel_rfl) (wpAny_pure ?_))
  rw [if_neg (by decide)]
  have z0 : ((vals.size : Nat) : Int) - 1 - ((0 : Nat) : Int) = (vals.size : Int) - 1 := by omega
  refine wpAny_pure ⟨plainId_quiet F.plain_extend_loop _, codeAny_extend_loopS W room _ far _ vals.size 0 _ _ _ rfl (Nat.zero_le _) ⟨Nat.zero_le _, by rw [z0]; exact atJ, atL⟩ atD (ItemsOf.nil _) fun u acc c' mv at' its => ?_⟩
  rw [Moved.eq_with mv]
  refine fin u.heap u.toks acc c' (fun b o n1 n2 e => mv.heap b o (fun hm => ?_) e) at' its
  rcases List.mem_cons.mp hm with e' | hm
  · exact n1 e'
  · exact n2 (List.mem_singleton.mp hm)
theorem init_rev {R : Result → Shared → Prop} {J ll D : Addr} {vals : Array Value} (quiet : A.handled = none) (atJ : s.heap.IsRevIter J ll ((vals.size : Int) - 1)) (atL : s.heap.IsList ll vals) (apart : ll ≠ J) (DJ : D ≠ J) (DL : D ≠ ll) (room : vals.size ≤ sizeLine) (atD : s.heap.get? D = some { cls := .type "list", data := .seq #[] })
    (fin : ∀ (g : Heap) (tk : Nat) (acc : Array Value) (c' : Nat), (∀ b o, b ≠ D → b ≠ J → s.heap.get? b = some o → g.get? b = some o) → g.get? D = some { cls := .type "list", dict := none, data := .seq acc c', slots := #[] } → ItemsOf (fun i v => vals[vals.size - 1 - i]? = some v) acc vals.size → R (.ok (.ret .none)) { s with heap := g, toks := tk }) :
    wpAny (model prog w) A.in1 (Builtin.«list.__init__» ⟨[.ref D, .ref J], []⟩)
      (fun fl u => match fl with | .done f => R (.ok f) u | .again k => k.quiet = true ∧ codeAny (model prog w) A k R u) (fun e u => R (.error e) u) s := by
  show wpAny _ A.in1 (Builtin.List.listItems (.ref D) >>= fun old => Builtin.List.listUpdate (.ref D) (fun _ => #[]) >>= fun _ => letGo old.toList.reverse >>= fun _ => Builtin.List.listExtendWith (.ref D) (.ref J) .none) _ _ s
  refine wpAny_bind ?_
  unfold Builtin.List.listItems
  refine wpAny_bind (wpAny_seqItems atD rfl (wpAny_pure ?_))
  refine wpAny_bind ?_
  show wpAny _ A.in1 (updateSeq D (fun _ => #[])) _ _ s
  refine wpAny_updateSeq atD rfl ?_
  have atD2 := Heap.get?_update_self (Obj.mapSeq (fun _ => (#[] : Array Value))) atD rfl
  have rest : ∀ b o, b ≠ D → s.heap.get? b = some o → (s.heap.update D (Obj.mapSeq (fun _ => (#[] : Array Value)))).get? b = some o := fun b o n e => (Heap.get?_update_other _ _ (Ne.symm n)).trans e
  refine wpAny_bind (wpAny_letGo ?_)
  obtain ⟨ol, l1, l2, l3⟩ := atL
  refine ext_rev (A := A) quiet (atJ.at fun o e => rest J o DJ.symm e) ⟨ol, rest ll ol DL.symm l1, l2, l3⟩ apart DJ DL room atD2 fun g tk acc c' k a i => ?_
  exact fin g tk acc c' (fun b o n1 n2 e => k b o n1 n2 (rest b o n1 e)) a i
theorem call_list_rev {Q : Value → Shared → Prop} {J ll : Addr} {vals : Array Value} (quiet : A.handled = none) (atJ : s.heap.IsRevIter J ll ((vals.size : Int) - 1)) (atL : s.heap.IsList ll vals) (apart : ll ≠ J) (room : vals.size ≤ sizeLine)
    (fin : ∀ (g : Heap) (tk : Nat) (acc : Array Value) (c' : Nat), (∀ b o, b ≠ J → s.heap.get? b = some o → g.get? b = some o) → g.get? s.heap.objs.size = some { cls := .type "list", dict := none, data := .seq acc c', slots := #[] } → ItemsOf (fun i v => vals[vals.size - 1 - i]? = some v) acc vals.size → Q (.ref s.heap.objs.size) { s with heap := g, toks := tk }) :
    wpAny (model prog w) A (call (.type "list") [.ref J]) Q E s := by
  obtain ⟨oj, j1, j2⟩ := id atJ
  obtain ⟨ol, l1, l2⟩ := id atL
  have DJ : s.heap.objs.size ≠ J := Nat.ne_of_gt (Heap.lt_size j1)
  have DL : s.heap.objs.size ≠ ll := Nat.ne_of_gt (Heap.lt_size l1)
  refine callType_codes (Q₁ := fun obj s₁ => obj = .ref s.heap.objs.size ∧ s₁ = { s with heap := s.heap.push { cls := .type "list", data := .seq #[] } }) F.called_list (F.typeCall_list_1 _) F.entry_list_init (code_list_new _ ⟨rfl, rfl⟩) fun obj s₁ h₁ => ?_
  obtain ⟨rfl, rfl⟩ := h₁
  have atD : (s.heap.push { cls := .type "list", data := .seq #[] }).get? s.heap.objs.size = some { cls := .type "list", data := .seq #[] } := Heap.get?_push_size _ rfl
  refine ⟨⟨_, atD, rfl⟩, F.args_list_init_2 _ _, init_rev (A := A.in1) quiet (atJ.at fun o e => Heap.get?_push_of_some _ e) (atL.push _) apart DJ DL room atD fun g tk acc c' k a i => ?_⟩
  exact ⟨rfl, fin g tk acc c' (fun b o n e => k b o (Nat.ne_of_lt (Heap.lt_size e)) n (Heap.get?_push_of_some _ e)) a i⟩
end
/-- a new list of what the list holds, from behind -/
def tLstRev (K : PySem.W.Frag) (te : TE) : TE := fun σ H Q => te σ H fun v H1 => ∃ (a : Addr) (xs : List V), v = .ref a ∧ SqL K H1 a xs ∧ ∀ q, H1 q = Option.none → Q (.ref q) (upd H1 q (.lst xs.reverse))
theorem pe_lstRev {X : Cx} {e : Expr} {te : TE} {p p2 pos pos2 : Pos} (calm : X.calm = true) (g1 : Gl X "list") (m1 : X.mg "list" = Option.none) (g2 : Gl X "reversed") (m2 : X.mg "reversed" = Option.none) (he : PE X e te)
    (st1 : starEach [e] X.env = (false, eval e X.env) :: starEach [] X.env := by rfl)
    (st2 : starEach [.Call (.Name "reversed" p2) [e] [] pos2] X.env = (false, eval (.Call (.Name "reversed" p2) [e] [] pos2) X.env) :: starEach [] X.env := by rfl) :
    PE X (.Call (.Name "list" p) [.Call (.Name "reversed" p2) [e] [] pos2] [] pos) (tLstRev X.K te) :=
  ⟨fun pins s σ H Q I h => by
  refine Call_ (ld_blt I g1 m1 boot_list (PyProof.Rows.callWith_type1 (args_cons (Call_ (ld_blt I g2 m2 PyProof.Rows.boot_reversed (PyProof.Rows.callWith_type1 (args_cons (thn (he.run pins s σ H _ I h) fun u s1 ⟨v, H1, I1, r1, a, xs, ev, hq, q⟩ => args_nil ?_) st1) st1 rfl))) st2) st2 rfl))
  subst ev
  obtain rfl : u = Value.ref a := r1
  obtain ⟨its, rv, pl, room⟩ := I1.list hq
  refine call_reversed_list pl.isList (args_nil ?_)
  have keep : ∀ b o, s1.heap.get? b = some o → (s1.heap.push (revObj a ((its.toArray.size : Int) - 1))).get? b = some o := fun b o e => Heap.get?_push_of_some _ e
  have hl := pl.isList
  obtain ⟨ol, hol, _⟩ := id hl
  have apart : a ≠ s1.heap.objs.size := Nat.ne_of_lt (Heap.lt_size hol)
  have roomN : its.toArray.size ≤ sizeLine := by rw [List.size_toArray, ← rv.length]; exact room
  refine call_list_rev (s := { s1 with heap := s1.heap.push (revObj a ((its.toArray.size : Int) - 1)) }) (I1.ok.hd calm) ⟨_, Heap.get?_push_size _ rfl, rfl, rfl⟩ (hl.push _) apart roomN fun g tk acc c' kept hat hits => ?_
  have le : s1.heap.objs.size ≤ (s1.heap.push (revObj a ((its.toArray.size : Int) - 1))).objs.size := by
    show s1.heap.objs.size ≤ (s1.heap.objs.push _).size
    rw [Array.size_push]
    exact Nat.le_succ _
  refine ⟨.ref (s1.heap.push (revObj a ((its.toArray.size : Int) - 1))).objs.size, upd H1 (s1.heap.push (revObj a ((its.toArray.size : Int) - 1))).objs.size (.lst xs.reverse), I1.laid (t' := tk) (fun b o e => kept b o (Nat.ne_of_lt (Heap.lt_size e)) (keep b o e)) le (show ObjOk X.prog X.w _ _ _ (.lst xs.reverse) from ⟨?_, acc.toList, c', vals_rev rv hits, ?_⟩), rfl, q _ (I1.hok.fresh le)⟩
  · rw [List.length_reverse]
    exact room
  · rw [Array.toArray_toList]
    exact hat⟩
end Inf

set_option Elab.async false
set_option linter.all false
set_option maxRecDepth 100000
set_option maxHeartbeats 4000000
namespace Inf
open PySem PySem.Spec PyProof.Rows L2 NdefX LamX
/-! ### sorted(numbers, key=lambda n: (0 - ranks[n], n)), ranks a list that the def has in a cell -/
structure KeyLamL (F : LF) (x y : Str) : Prop where
  sc : NScope [x, y] [x] [y] F.scope
  body : ∃ j p0 p1 p2 p3 p4 p5 k p6, F.body = .Tuple [.BinOp (.Constant (.int 0) j p0) .Sub (.Subscript (.Name y p1) (.Name x p2) p3) p4, .Name x p5] k p6
  bind : ∀ (pm ctv v : Value), bindArgs (PySem.W.kla_fn "<lambda>" F.qual F.params F.body F.scope F.cl pm (.ref F.c) ctv) ⟨[v], []⟩ = pure [(x, v)]
  ndx : (x == ("__debug__" : Str)) = false
  ndy : (y == ("__debug__" : Str)) = false
  ncy : (y == ("__classdict__" : Str)) = false
section
variable {P : Program} {w : World} {A : Around} {s : Shared}
theorem keyL_call {f c d : Addr} {F : LF} {x y : Str} {pm ctv : Value} {n : Nat} {r : Int} {tn : Tok} {its : Array Value} (L : KeyLamL F x y) (hd : A.depth < recursionLimit) (lim : s.heap.NoLimit) (ho : s.heap.get? f = some (PySem.W.kla_obj "<lambda>" F.qual F.params F.body F.scope F.cl pm F.c ctv)) (hc : s.heap.CodeRec (.ref F.c) F.qual)
    (hcl : F.cl.lookup y = some c) (hcell : s.heap.IsCell c (some (.ref d))) (hlst : s.heap.IsList d its) (hsz : (its.size : Int) < 9223372036854775808) {rt : Tok} (hv : its[n]? = some (.int r rt)) :
    wpAny (model P w) A (call (.ref f) [.int (n : Int) tn]) (PySem.W.KeyPure (.tuple [.int (-r), .int (n : Int)]) s) (fun _ _ => False) s := by
  refine wpAny_call ?_
  refine PySem.W.kla_callFunE hd ho rfl L.sc.co L.sc.gen rfl hc ?_
  rw [L.bind pm ctv]
  refine wpAny_pure (wpAny_newFunctionEnv L.sc.nocell (fun z hz => ?_) (fun h₁ hns hsb => ⟨lim.fresh _ hsb, ?_⟩) L.sc.kind)
  · rw [List.mem_singleton.mp hz]
    exact L.sc.par x List.mem_cons_self
  have kp : ∀ b o, s.heap.get? b = some o → h₁.get? b = some o := fun b o e => hsb.extBut b o (Nat.ne_of_lt (Heap.lt_size e)) (Heap.get?_push_of_some _ e)
  have hcell1 : h₁.IsCell c (some (.ref d)) := by
    obtain ⟨o, h1, h2⟩ := hcell
    exact ⟨o, kp _ _ h1, h2⟩
  have hl1 : h₁.IsList d its := by
    obtain ⟨o, h1, h2⟩ := hlst
    exact ⟨o, kp _ _ h1, h2⟩
  have hl : F.scope.names.lookup x = some .local := L.sc.par x List.mem_cons_self
  have hfr : F.scope.names.lookup y = some .free := L.sc.frk y List.mem_cons_self
  have hm : ([(x, Value.int (n : Int) tn)] : List (Str × Value)).reverse.lookup x = some (.int (n : Int) tn) := by
    show ([(x, Value.int (n : Int) tn)] : List (Str × Value)).lookup x = _
    rw [List.lookup_cons, beq_self_eq_true]
  obtain ⟨j, p0, p1, p2, p3, p4, p5, k, p6, hb⟩ := L.body
  refine PySem.W.kla_codeExpr ?_
  rw [hb]
  refine wpAny_Tuple_spliced ?_
  refine Calls.spliced_cons ?_
  refine wpAny_BinOp (wpAny_Constant_int ?_)
  refine Subscript_ (wpAny_Name (wpAny_loadName_free L.sc.kind hfr hcl hcell1 ?_ L.ncy) L.ndy)
  refine wpAny_Name (wpAny_loadName_local L.sc.kind hl hns hm ?_) L.ndx
  have hn : n < its.size := (Array.getElem?_eq_some_iff.mp hv).1
  refine item_listR (x := .int r rt) hl1 (Int.natCast_nonneg n) (by omega) (by rw [Int.toNat_natCast]; exact hv) ?_ rfl
  refine sub_int ?_
  rw [show (0 : Int) - r = -r by omega]
  refine Calls.spliced_cons ?_
  refine wpAny_Name (wpAny_loadName_local L.sc.kind hl hns hm ?_) L.ndx
  refine Calls.spliced_nil ⟨(show (2 : Nat) ≤ sizeLine by decide), ?_⟩
  refine ⟨_, _, rfl, fun b o e => Heap.get?_push_of_some _ (kp b o e), ?_⟩
  exact .tuple (Heap.get?_push_size _ rfl) rfl rfl (.cons (as := []) (.int _ _) (.cons (as := []) (.int _ _) .nil))
end
def rSortL (X : Cx) (i : Nat) (x y : Str) : L2.St → List V → List V → Hp → VK → Prop := fun σ vs zs H Q => ∃ (a f d : Addr) (F : LF) (ns : List Nat) (rk : Nat → Int) (xs : List V), vs = [.ref a] ∧ zs = [.ref f] ∧ SqL X.K H a (ns.map fun n : Nat => V.int (n : Int)) ∧ KeyLamL F x y ∧ F.cl = cloFrom X.env.cells F.scope.names [] ∧ H f = some (LamO f F) ∧ H F.c = some (CodeO F.c F.qual) ∧
  σ[i]? = some (some (.ref d)) ∧ SqL X.K H d xs ∧ (∀ n ∈ ns, xs[n]? = some (.int (rk n))) ∧ ∀ p, H p = Option.none → Q (.ref p) (upd H p (.lst (((ns.map fun n : Nat => (n : Int)).mergeSort (ordLe fun n => rk n.toNat)).map V.int)))
theorem cr_sortL {X : Cx} {k i : Nat} {x y : Str} (hr : Room k X.A) (hN : X.N[i]? = some y) (hy : X.env.scope.names.lookup y = some .cell) : CallRKs X (.builtin "sorted") [Str.ofString "key"] (rSortL X i x y) := by
  intro pins s σ H vs zs us ws Q I r rz h
  obtain ⟨a, f, d, F, ns, rk, xs, rfl, rfl, hs, L, hcl, hf, hcf, hσ, hd, hrk, q⟩ := h
  have hs : SqL X.K H a ((ns.map fun n : Nat => (n : Int)).map V.int) := by
    rw [List.map_map]
    exact hs
  obtain ⟨its, rv, hl, hz⟩ := I.list hs
  obtain rfl := Vals.ref1 r
  obtain ⟨w1, rfl, e1⟩ := vals1 rz
  obtain rfl : w1 = Value.ref f := e1
  have e0 := I.env0
  have lim : s.heap.NoLimit := e0.mod.nolimit.keeps fun b o e => (e0.bs b o e).1
  obtain ⟨pm, ctv, ho⟩ := lamO_at I.hok hf
  have hc := codeO_at I.hok hcf
  obtain ⟨jts, rj, hlj, hzj⟩ := I.list hd
  obtain ⟨c, hcc, hcell⟩ : ∃ c, X.env.cells.lookup y = some c ∧ s.heap.IsCell c (some (.ref d)) := by
    obtain ⟨m, hn, hlo⟩ := I.loc
    obtain ⟨u, ru, lk⟩ := hlo i y (.ref d) hN hσ (.inr (.inl hy))
    obtain rfl : u = Value.ref d := ru
    rcases lk with ⟨z, _⟩ | ⟨_, c', hc', hcell⟩
    · have z' : X.env.scope.names.lookup y = some .local := z
      rw [hy] at z'
      cases z'
    · exact ⟨c', hc', hcell⟩
  have hclo : F.cl.lookup y = some c := by
    rw [hcl]
    refine clo_has (fun z hz e => ?_) (PySem.mem_of_lookup (L.sc.frk y List.mem_cons_self)) hcc
    have := L.sc.free z hz e
    rw [List.mem_singleton.mp this]
    exact ⟨c, hcc⟩
  rw [List.length_map] at hz
  refine PySem.W.sorted_key_data (b := false) (R := IntIs) (fun n : Int => PyData.tuple [.int (-rk n.toNat), .int n]) hl.isList (ints_each rv) (PySem.W.AllAlike.of fun _ _ => by simp [PySem.W.alike, PySem.W.alikeAll]) (PySem.W.Sortable.tuples fun _ => ⟨_, _, rfl⟩) hz (fun n _ => ?_) (ksk_s1 _ _) (fun _ => ksk_l1 _ _) (fun _ => ksk_t1 _ _)
    (fun v n hR hm h tk kp => ?_) fun out c' h' tk kp _ hD hlo eo => ?_
  · have hd : (PyData.tuple [.int (-rk n.toNat), .int n]).depth = 1 := by simp [PyData.depth, PyData.depthAll]
    have := hr.un
    rw [hd]
    omega
  · obtain ⟨tn, rfl⟩ := hR
    obtain ⟨j, hj, rfl⟩ := List.mem_map.mp hm
    obtain ⟨c2, oc, vs, t, g1, g2, g3, g4⟩ := hc
    obtain ⟨w', hw, rt, rfl⟩ := rj.get (hrk j hj)
    have hls := hlj.isList
    rw [Int.toNat_natCast]
    refine keyL_call (d := d) L (A := X.A.in1.in1) (s := { s with heap := h, toks := tk }) (its := jts.toArray) (rt := rt) hr.depth (lim.keeps kp) (kp _ _ ho) ⟨c2, oc, vs, t, g1, kp _ _ g2, g3, g4⟩ hclo ?_ ?_ ?_ (by simpa using hw)
    · obtain ⟨o, h1, h2⟩ := hcell
      exact ⟨o, kp _ _ h1, h2⟩
    · obtain ⟨o, h1, h2⟩ := hls
      exact ⟨o, kp _ _ h1, h2⟩
    · have := line63
      rw [List.size_toArray, ← rj.length]
      omega
  · rw [PySem.W.dataLe_ii (β := Int) (fun n => -rk n.toNat) (fun n => n)] at eo
    have hlen : (((ns.map fun n : Nat => (n : Int)).mergeSort (ordLe fun n => rk n.toNat)).map V.int).length ≤ sizeLine := by
      rw [List.length_map, List.length_mergeSort]
      exact hz
    exact ⟨.ref _, upd H (s.heap.objs.size + 1) (.lst (((ns.map fun n : Nat => (n : Int)).mergeSort (ordLe fun n => rk n.toNat)).map V.int)), I.laid (t' := tk) kp (Nat.le_succ _) ⟨hlen, out, c', each_ints eo, hD⟩, rfl, q _ (I.hok.fresh (Nat.le_succ _))⟩
end Inf

set_option Elab.async false
set_option linter.all false
set_option maxRecDepth 100000
set_option maxHeartbeats 4000000
namespace Inf
open PySem PySem.Spec PyProof.Rows L2
/-! ### xs[:0:-1] -/
theorem rvt_range (n : Nat) : sliceRange (n : Int) 0 (-1) = ((List.range n).map (1 + ·)).reverse := by
  unfold sliceRange
  have h1 : ¬ ((-1 : Int) > 0) := by decide
  have e : ((List.range n).map (1 + ·)).reverse = (List.range n).map fun k => n - k := by
    apply List.ext_getElem
    · simp
    · intro i h1 h2
      rw [List.length_map, List.length_range] at h2
      simp only [List.getElem_reverse, List.getElem_map, List.getElem_range, List.length_map, List.length_range]
      omega
  rw [e]
  by_cases h : (n : Int) > 0
  · have e2 : ((n : Int) - 0 - -1 - 1) / (- -1) = (n : Int) := by
      rw [show (- -1 : Int) = 1 by decide, Int.ediv_one]
      omega
    simp only [h1, if_false, h, if_true, e2, Int.toNat_natCast]
    apply List.map_congr_left
    intro k hk
    have := List.mem_range.mp hk
    omega
  · have e2 : n = 0 := by omega
    subst e2
    simp
theorem rvt_pick (items : Array Value) : slicePick items none (some 0) (some (-1)) = (items.toList.drop 1).reverse.toArray := by
  unfold slicePick
  cases hn : items.size with
  | zero =>
    have e : items.toList = [] := List.length_eq_zero_iff.mp (by rw [Array.length_toList]; exact hn)
    rw [e]
    rfl
  | succ n =>
    have hb : sliceBounds none (some 0) (some (-1)) (n + 1) = ((n : Int), 0, -1) := by
      have h1 : ¬ ((-1 : Int) > 0) := by decide
      simp only [sliceBounds, Option.getD_some, h1, if_false]
      refine Prod.ext ?_ (Prod.ext ?_ rfl)
      · show ((n + 1 : Nat) : Int) - 1 = (n : Int)
        omega
      · show max (-1 : Int) (min (if (0 : Int) < 0 then 0 + ((n + 1 : Nat) : Int) else 0) (((n + 1 : Nat) : Int) - 1)) = 0
        rw [if_neg (by decide)]
        omega
    rw [hb]
    show ((sliceRange (n : Int) 0 (-1)).filterMap (items[·]?)).toArray = _
    rw [rvt_range, List.filterMap_reverse, pick_run]
    rw [List.take_of_length_le (by rw [List.length_drop, Array.length_toList]; omega)]
def tRevT (K : PySem.W.Frag) (te : TE) : TE := fun σ H Q => te σ H fun x H1 => ∃ a xs, x = .ref a ∧ SqL K H1 a xs ∧ ∀ p, H1 p = Option.none → Q (.ref p) (upd H1 p (.lst (xs.drop 1).reverse))
theorem pe_revT {X : Cx} {e : Expr} {te : TE} {k k0 : Nat} {p0 p1 p2 p3 pos : Pos} (he : PE X e te) : PE X (.Subscript e (.Slice Option.none (some (.Constant (.int 0) k0 p0)) (some (.UnaryOp .USub (.Constant (.int 1) k p1) p2)) p3) pos) (tRevT X.K te) := by
  refine ⟨fun pins s σ H Q I h => ?_⟩
  refine Subscript_ (thn (he.run pins s σ H _ I h) fun v s1 ⟨x, H1, I1, r1, q1⟩ => ?_)
  obtain ⟨a, xs, ex, hx, q⟩ := q1
  subst ex
  cases r1
  have hst : PO X (some (.UnaryOp .USub (.Constant (.int 1) k p1) p2)) (tPart (tUn (rU fun i => .int (-i)) (tC (.int 1)))) := po_some (pe_un un_neg pe_int)
  have hup : PO X (some (.Constant (.int 0) k0 p0)) (tPart (tC (.int 0))) := po_some pe_int
  refine wpAny_Slice (thn (po_none.run pins s1 σ H1 (fun o H2 => o = Option.none ∧ H2 = H1) I1 ⟨rfl, rfl⟩) fun vl s2 ⟨l, H2, I2, pl, el, e2⟩ => ?_)
  subst el e2
  refine thn (hup.run pins s2 σ H2 (fun o H3 => o = some 0 ∧ H3 = H2) I2 ⟨0, rfl, rfl, rfl⟩) fun vu s3 ⟨u, H3, I3, pu, eu, e3⟩ => ?_
  subst eu e3
  refine thn (hst.run pins s3 σ H3 (fun o H4 => o = some (-1) ∧ H4 = H3) I3 ⟨1, rfl, -1, rfl, rfl, rfl⟩) fun vs s4 ⟨o, H4, I4, ps, eo, e4⟩ => ?_
  subst eo e4
  have I5 : Inv X pins σ H4 { s4 with heap := s4.heap.push { cls := .type "slice", data := .fields #[vl, vu, vs] } } := I4.kept (t' := s4.toks) fun b ob q => Heap.get?_push_of_some _ q
  obtain ⟨its, r, ht, hz⟩ := I5.list hx
  have hlen := r.length
  show wpAny (model X.prog X.w) X.A (subscriptTail e (.Slice Option.none (some (.Constant (.int 0) k0 p0)) (some (.UnaryOp .USub (.Constant (.int 1) k p1) p2)) p3) (.ref a) (.ref s4.heap.objs.size)) (EP X pins σ Q) X.xe { s4 with heap := s4.heap.push { cls := .type "slice", data := .fields #[vl, vu, vs] } }
  refine tail_any (ops := [.ref a, .ref s4.heap.objs.size]) ht.isList.typeIs (PySem.slot_list_getitem.lookup) ?_ (by with_unfolding_all rfl)
  refine wpAny_getItem_list_slice ht.isList (Heap.IsSliceOf.new _ vl vu vs) pl pu ps (by decide) ?_ (by rw [List.size_toArray]; omega)
  rw [rvt_pick]
  refine ⟨.ref _, _, I5.laid (t' := s4.toks) (o := .lst (xs.drop 1).reverse) (fun b ob q => Heap.get?_push_of_some _ q) (Nat.le_refl _) ?_, rfl, q _ (I5.hok.fresh (Nat.le_refl _))⟩
  exact ⟨by rw [List.length_reverse, List.length_drop]; omega, _, 0, (r.drop 1).reverse, Heap.get?_push_size _ rfl⟩
end Inf

set_option Elab.async false
set_option linter.all false
set_option maxRecDepth 100000
set_option maxHeartbeats 4000000
namespace Inf
open PySem PySem.Spec PyProof.Rows L2
/-! ### xs[:] = ys, two lists -/
section
variable {prog : Program} {w : World} {A : Around} {E : Value → Shared → Prop} {s : Shared}
theorem setItem_all {l b sl : Addr} {items new : Array Value} {n n2 : Nat} {vl vu : Value} {Q : Unit → Shared → Prop}
    (e : s.heap.get? l = some { cls := .type "list", data := .seq items n }) (e2 : s.heap.get? b = some { cls := .type "list", data := .seq new n2 }) (hne : l ≠ b)
    (hs : s.heap.IsSliceOf sl vl vu .none) (pl : IsPart vl Option.none) (pu : IsPart vu Option.none)
    (hsz : items.size + new.size ≤ sizeLine) (h : Q () { s with heap := s.heap.update l (Obj.mapSeq fun xs => xs.extract 0 (Int.toNat 0) ++ new ++ xs.extract (max (0 : Int) (items.size : Int)).toNat xs.size) }) :
    wpAny (model prog w) A (setItem (.ref l) (.ref sl) (.ref b)) Q E s := by
  have hl : s.heap.IsList l items := PySem.IsL.isList e
  have hb : s.heap.IsList b new := PySem.IsL.isList e2
  obtain ⟨os, hos, hcs, hds⟩ := id hs
  have hTs : s.TypeIs (.ref sl) "slice" := ⟨os, hos, hcs⟩
  have hstep : ¬ ((rawPart Option.none == rawInt 0) = true) := Bool.false_ne_true
  have hsame : Builtin.List.listSameRef (.ref l) (.ref b) = false := by
    unfold Builtin.List.listSameRef
    exact beq_eq_false_iff_ne.mpr hne
  have hb0 : sliceIndices (rawPart Option.none) (rawPart Option.none) (rawPart Option.none) items.size = pure ((0 : Int), (items.size : Int), (1 : Int)) := sliceIndices_raw Option.none Option.none Option.none items.size (fun z => nomatch z)
  have hmx : (max (0 : Int) (items.size : Int)).toNat = items.size := by omega
  have hz0 : items.size ≤ sizeLine := by omega
  unfold setItem
  refine wpAny_holding (wpAny_bind (wpAny_sequenceKey hl.typeIs (by decide) (wpAny_bind (wpAny_callSpecial?_slot (name := Str.ofString "__setitem__") hl.typeIs slot_list_setitem (wpAny_call_entry slot_list_setitem hl.typeIs entry_list_setitem ?_ (args_list_setitem _ _ _))))))
  refine wpAny_bind (m := Builtin.List.listSubscript? (.ref sl)) ?_
  unfold Builtin.List.listSubscript? Builtin.List.listAllItems Builtin.List.listItems
  refine wpAny_bind (wpAny_specialOf hTs slice_no_index (wpAny_pure ?_))
  refine wpAny_bind (m := typeOf (.ref sl)) (wpAny_typeOf hTs ?_)
  rw [if_neg (by decide), listSliceParts_eq]
  refine wpAny_bind (wpAny_bind (wpAny_field hos hds (x := .none) rfl (wpAny_bind (wpAny_listPart .none ?_))))
  rw [if_neg hstep]
  refine wpAny_bind (wpAny_field hos hds (x := vl) rfl (wpAny_bind (wpAny_listPart pl (wpAny_bind (wpAny_field hos hds (x := vu) rfl (wpAny_bind (wpAny_listPart pu (wpAny_pure ?_))))))))
  simp only [hsame, Bool.false_eq_true, if_false]
  refine wpAny_bind (wpAny_bind (wpAny_typeOf hb.typeIs ?_))
  simp only [beq_self_eq_true, Bool.true_or, if_true]
  refine wpAny_bind (wpAny_seqItems e2 rfl (wpAny_pure (wpAny_bind (wpAny_bind (wpAny_seqItems e rfl (wpAny_pure ?_))))))
  refine wpAny_bind (wpAny_of_eq hb0 ?_)
  show wpAny _ _ (if ((1 : Int) == 1) = true then _ else _) _ _ s
  rw [if_pos (by decide)]
  refine wpAny_bind (wpAny_rule ?_)
  simp only [notLongL hsz, Bool.false_eq_true, if_false]
  have hfun : (fun xs : Array Value => xs.extract 0 (Int.toNat 0) ++ new ++ xs.extract (max (0 : Int) (items.size : Int)).toNat xs.size) items = new := by
    show items.extract 0 0 ++ new ++ items.extract (max (0 : Int) (items.size : Int)).toNat items.size = new
    rw [hmx]
    simp
  show wpAny _ _ (updateSeq l (fun xs => xs.extract 0 (Int.toNat 0) ++ new ++ xs.extract (max (0 : Int) (items.size : Int)).toNat xs.size) >>= _) _ _ s
  refine wpAny_bind (wpAny_updateSeq (hz := hz0) (_hz' := Nat.le_trans (Nat.le_of_eq (congrArg Array.size hfun)) (by omega)) e rfl (wpAny_bind (wpAny_letGo (wpAny_pure ⟨.none, rfl, wpAny_pure ?_⟩))))
  exact h
end
def sAll (to tv : TE) : TS := fun D σ H => tv σ H fun y H1 => to σ H1 fun x H2 => ∃ l b xs ys, x = .ref l ∧ y = .ref b ∧ H2 l = some (.lst xs) ∧ H2 b = some (.lst ys) ∧ l ≠ b ∧ xs.length + ys.length ≤ sizeLine ∧ D.nx σ (upd H2 l (.lst ys))
theorem ps_setAll {X : Cx} {o value : Expr} {to tv : TE} {p pos' pos : Pos} (ho : PE X o to) (hv : PE X value tv) (hs : swapsWith value (some (.Subscript o (.Slice Option.none Option.none Option.none p) pos')) pos.line X.env = pure false) :
    PS X (.Assign [.Subscript o (.Slice Option.none Option.none Option.none p) pos'] value pos) (sAll to tv) := by
  refine ⟨fun pins s σ H D I h => ?_⟩
  refine wpAny_Assign_Subscript (thn (hv.run pins s σ H _ I h) fun r s1 ⟨y, H1, I1, ry, q1⟩ => thn (ho.run pins s1 σ H1 _ I1 q1) fun u s2 ⟨x, H2, I2, rx, l, b, xs, ys, ex, ey, el, eb, hne, hz, q⟩ => ?_) hs
  subst ex ey
  obtain rfl : u = Value.ref l := rx
  obtain rfl : r = Value.ref b := ry
  refine wpAny_Slice (thn (po_none.run pins s2 σ H2 (fun o H3 => o = Option.none ∧ H3 = H2) I2 ⟨rfl, rfl⟩) fun vl s3 ⟨a1, H3, I3, pl, ea1, e3⟩ => ?_)
  subst ea1 e3
  refine thn (po_none.run pins s3 σ H3 (fun o H4 => o = Option.none ∧ H4 = H3) I3 ⟨rfl, rfl⟩) fun vu s4 ⟨a2, H4, I4, pu, ea2, e4⟩ => ?_
  subst ea2 e4
  refine thn (po_none.run pins s4 σ H4 (fun o H5 => o = Option.none ∧ H5 = H4) I4 ⟨rfl, rfl⟩) fun vs s5 ⟨a3, H5, I5, ps, ea3, e5⟩ => ?_
  subst ea3 e5
  cases ps
  have I6 : Inv X pins σ H5 { s5 with heap := s5.heap.push { cls := .type "slice", data := .fields #[vl, vu, .none] } } := I5.kept (t' := s5.toks) fun b ob q => Heap.get?_push_of_some _ q
  obtain ⟨z, its, n, r1, hl, e⟩ := I6.lstM el
  obtain ⟨z2, its2, n2, r2, hl2, e2⟩ := I6.lstM eb
  have l1 := r1.length
  have l2 := r2.length
  refine setItem_all e e2 hne (Heap.IsSliceOf.new _ vl vu .none) pl pu (by rw [List.size_toArray, List.size_toArray]; omega) ⟨σ, _, I6.lset (its' := its2) (t' := s5.toks) el e ?_ r2 (by omega), q⟩
  show its.toArray.extract 0 0 ++ its2.toArray ++ its.toArray.extract (max (0 : Int) (its.toArray.size : Int)).toNat its.toArray.size = its2.toArray
  rw [show (max (0 : Int) (its.toArray.size : Int)).toNat = its.toArray.size by omega]
  simp
end Inf

set_option Elab.async false
set_option linter.all false
set_option maxRecDepth 100000
set_option maxHeartbeats 4000000
namespace Inf
open PySem PySem.Spec PyProof.Rows L2 GenW
open Sem (wp)
/-! ### for, in a generator's body -/
section
variable {M : Model} {A : Around} {R : GenEnd} {Y : Protocol} {n : Nat} {s₀ : Shared} {c : Code} {fs : List Frame} {s : Shared} {env : Env}
  {K : Flow → Sem PySem.Fin} {Hx : Value → Sem PySem.Fin} {gd : Bool → Bool} {lv : List Value → List Value}
theorem seg_For {tg iter : Expr} {body orelse : List Stmt} {pos : Pos} (hs : ∀ x, foldedSetIterable iter env x = pure x)
    (h : wpAny M (A.over c fs) (eval iter env) (fun x s1 => wpAny M (A.over c fs) (pyIter x) (fun it s2 =>
      ∀ p, Seg M A R Y n s₀ (.forLoop tg it body orelse env) (M.den (.forLoop tg it body orelse env))
        (.ret (fun r => ((match r with | .ok f => (.pure f : Sem Flow) | .error e => .raise e).onRaise (cameBack env)).wrap K Hx gd lv) none (gd false) (lv []) c p [] :: fs) s2)
      (fun e s' => Seg M A R Y n s₀ c (Hx e) fs s') s1) (fun e s' => Seg M A R Y n s₀ c (Hx e) fs s') s) :
    Seg M A R Y n s₀ c ((exec (.For tg iter body orelse pos) env).wrap K Hx gd lv) fs s := by
  rw [exec_For]
  refine seg_at ?_
  show Seg M A R Y n s₀ c ((eval iter env >>= fun v => (foldedSetIterable iter env v >>= fun x => (standAt iter.pos >>= fun _ => (holding [x] (pyIter x) >>= fun it => runOwn (.forLoop tg it body orelse env) env)))).wrap K Hx gd lv) fs s
  rw [Sem.bind_eq_wrap', Sem.wrap_wrap]
  refine seg_wrap (wpAny_mono h (fun x s1 h1 => ?_) fun _ _ e => e)
  show Seg M A R Y n s₀ c ((foldedSetIterable iter env x >>= fun x => (standAt iter.pos >>= fun _ => (holding [x] (pyIter x) >>= fun it => runOwn (.forLoop tg it body orelse env) env))).wrap K Hx gd lv) fs s1
  rw [hs x]
  refine seg_at ?_
  show Seg M A R Y n s₀ c ((holding [x] (pyIter x) >>= fun it => runOwn (.forLoop tg it body orelse env) env).wrap K Hx gd lv) fs s1
  rw [Sem.bind_eq_wrap', Sem.wrap_wrap]
  refine seg_wrap (wpAny_holding (wpAny_mono h1 (fun it s2 h2 => ?_) fun _ _ e => e))
  exact seg_call h2
end
section
variable {prog : Program} {w : World} {A : Around} {R : GenEnd} {Y : Protocol} {n : Nat} {s₀ : Shared} {fs : List Frame} {s : Shared} {env : Env}
def eHand (env : Env) (e : Value) : Sem PySem.Fin := (do noteFrame e env; theTreesLotGoes e : Sem Unit).wrap (fun _ => .raise e) .raise id id
theorem seg_forLoop {tg : Expr} {it : Value} {body : List Stmt}
    (h : wpAny (model prog w) (A.over (.forLoop tg it body [] env) fs) (pyNext it) (fun r s1 => match r with
        | none => Seg (model prog w) A R Y n s₀ (.forLoop tg it body [] env) (.pure (.again (.block [] env))) fs s1
        | some v => wpAny (model prog w) (A.over (.forLoop tg it body [] env) fs) (letOwnedTupleGo tg it v) (fun _ s2 => wpAny (model prog w) (A.over (.forLoop tg it body [] env) fs) (assign tg env v) (fun _ s3 =>
            Seg (model prog w) A R Y n s₀ (.forLoop tg it body [] env) ((execs body env).wrap (fun f => match f with
              | .next | .cont => .pure (.again (.forLoop tg it body [] env))
              | .brk => .pure (.done .next)
              | .ret v => .pure (.done (.ret v))) (eHand env) id id) fs s3)
            (fun x s' => Seg (model prog w) A R Y n s₀ (.forLoop tg it body [] env) (eHand env x) fs s') s2)
            (fun x s' => Seg (model prog w) A R Y n s₀ (.forLoop tg it body [] env) (eHand env x) fs s') s1)
      (fun x s' => Seg (model prog w) A R Y n s₀ (.forLoop tg it body [] env) (eHand env x) fs s') s) :
    Seg (model prog w) A R Y n s₀ (.forLoop tg it body [] env) ((model prog w).den (.forLoop tg it body [] env)) fs s := by
  show Seg _ A R Y n s₀ _ ((forTurn tg it body [] env).onRaise (fun x => do noteFrame x env; theTreesLotGoes x)) fs s
  unfold forTurn
  rw [Sem.onRaise_eq_wrap]
  refine seg_at ?_
  have eH : (fun e => ((do noteFrame e env; theTreesLotGoes e : Sem Unit).bind fun _ => (Sem.raise e : Sem PySem.Fin))) = eHand env := by
    funext e
    exact Sem.bind_eq_wrap _ _
  rw [eH]
  show Seg (model prog w) A R Y n s₀ (Code.forLoop tg it body [] env) (((pyNext it).onRaise (fun _ => standAt { tg.pos with line := 0 }) >>= fun r => (match r with
      | none => again (Code.block [] env)
      | some v => (letOwnedTupleGo tg it v >>= fun _ => (assign tg env v >>= fun _ => (execs body env >>= fun f => (match f with
        | .next | .cont => again (Code.forLoop tg it body [] env)
        | .brk => pure (Fin.done Flow.next)
        | .ret v => pure (Fin.done (Flow.ret v)) : Sem PySem.Fin)))) : Sem PySem.Fin)).wrap Sem.pure (eHand env) id id) fs s
  rw [Sem.bind_eq_wrap', Sem.wrap_wrap, Sem.onRaise_eq_wrap, Sem.wrap_wrap]
  refine seg_wrap (wpAny_mono h (fun r s1 h1 => ?_) fun e s' h' => ?_)
  · cases r with
    | none => exact h1
    | some v =>
      show Seg (model prog w) A R Y n s₀ (Code.forLoop tg it body [] env) ((letOwnedTupleGo tg it v >>= fun _ => (assign tg env v >>= fun _ => (execs body env >>= fun f => (match f with
        | .next | .cont => again (Code.forLoop tg it body [] env)
        | .brk => pure (Fin.done Flow.next)
        | .ret v => pure (Fin.done (Flow.ret v)) : Sem PySem.Fin)))).wrap Sem.pure (eHand env) id id) fs s1
      rw [Sem.bind_eq_wrap', Sem.wrap_wrap]
      refine seg_wrap (wpAny_mono h1 (fun _ s2 h2 => ?_) fun _ _ e => e)
      rw [Sem.bind_eq_wrap', Sem.wrap_wrap]
      refine seg_wrap (wpAny_mono h2 (fun _ s3 h3 => ?_) fun _ _ e => e)
      rw [Sem.bind_eq_wrap', Sem.wrap_wrap]
      have e := Sem.wrap_congr (execs body env) (K := fun f => match f with
            | .next | .cont => (.pure (.again (.forLoop tg it body [] env)) : Sem PySem.Fin)
            | .brk => .pure (.done .next)
            | .ret v => .pure (.done (.ret v))) (K' := fun f => Sem.wrap Sem.pure (eHand env) id id (match f with
            | .next | .cont => again (.forLoop tg it body [] env)
            | .brk => pure (.done .next)
            | .ret v => pure (.done (.ret v)))) (H := eHand env) (H' := eHand env) id id (fun f => by cases f <;> rfl) (fun e => rfl)
      rw [e] at h3
      exact h3
  · exact seg_at h'
end
/-! ### the loop itself -/
def tGFor (wi : TI) (g : TG) (tb : TGn) : TGn := fun D ys σ H => wi σ H fun J H1 => ∃ W : Nat → Nat → List V → L2.St → Hp → Prop, (∃ m, W 0 m ys σ H1) ∧ ∀ i m ys σ H, W i m ys σ H →
  (J.stop i H ∧ D.nx ys σ H) ∨ (J.go i H ∧ ∃ N : List V → L2.St → Hp → Prop, (∀ ys' σ' H', N ys' σ' H' → ∃ m', m' < m ∧ W (i + 1) m' ys' σ' H') ∧ ∀ x H', J.yld i H x H' → g x σ H' fun σ2 H2 => tb { D with nx := N, ct := N, bk := D.nx } ys σ2 H2)
section
variable {X : Cx}
theorem gs_for {tg iter : Expr} {body : List Stmt} {wi : TI} {g : TG} {tb : TGn} {pos : Pos} (hp : PassesOwn (model X.prog X.w) X.A X.env X.xe) (hc : X.calm = true) (hi : PI X tg iter wi) (hg : PG X tg g) (hb : GSs X body tb)
    (hs : ∀ x, foldedSetIterable iter X.env x = pure x := by intro _; rfl) : GS X (.For tg iter body [] pos) (tGFor wi g tb) := by
  refine ⟨fun A S ip R n ys s₀ c fs K J gd lv s σ H D gc hn k hI ht => ?_⟩
  obtain ⟨acc, cc, r, I⟩ := hI
  refine seg_For hs ?_
  rw [gc.over]
  refine wpAny_mono (hi.run _ s σ H _ I ht) (fun v s1 h1 => wpAny_mono h1 (fun itv s2 h2 p => ?_) fun x s' hx => k.exc n s₀ x s' hx) fun x s' hx => k.exc n s₀ x s' hx
  obtain ⟨it, fp, tn, Jt, H2, e, I2, T, st2, f2, W, ⟨m0, w0⟩, turn⟩ := h2
  subst e
  have stat : ∀ {ac : Array Value} {ck : Nat} {H' : Hp}, (∀ b ∈ fp, H' b = none) → ∀ b ∈ fp, FpOk X ((S, lstObj ac ck) :: ip) H' b := fun hn b hb => by
    obtain ⟨_, f1, f2', f3, f4, f5⟩ := f2 b hb
    refine ⟨hn b hb, f1, f2', f3, f4, fun q hq => ?_⟩
    rcases List.mem_append.mp hq with hq | hq
    · exact f5 q (List.mem_append_left _ hq)
    · rcases List.mem_cons.mp hq with rfl | hq
      · exact f5 (S, lstObj acc cc) (List.mem_append_right _ (List.mem_cons_self ..))
      · exact f5 q (List.mem_append_right _ (List.mem_cons_of_mem _ hq))
  have fS : ∀ b ∈ fp, b ≠ S := fun b hb z => (f2 b hb).2.2.2.2.2 (S, lstObj acc cc) (List.mem_append_right _ (List.mem_cons_self ..)) z.symm
  have gl := fun (kk : Result → Sem PySem.Fin) => gc_loop (k := kk) (c' := .forLoop tg (.ref it) body [] X.env) (l := lv []) (kp := []) (p := p) gc rfl rfl
  have loop : ∀ (m n i : Nat) (ys : List V) (s₀ s : Shared) (acc : Array Value) (cc : Nat) (σ : L2.St) (H : Hp), n + ys.length = sizeLine → W i m ys σ H → Vals ys acc.toList → L2.Inv X ((S, lstObj acc cc) :: ip) σ H s → tn i s.heap → (∀ b ∈ fp, H b = none) →
      Seg (model X.prog X.w) A R (GY X S) n s₀ (.forLoop tg (.ref it) body [] X.env) ((model X.prog X.w).den (.forLoop tg (.ref it) body [] X.env))
        (.ret (fun r => ((match r with | .ok f => (.pure f : Sem Flow) | .error e => .raise e).onRaise (cameBack X.env)).wrap K J gd lv) none (gd false) (lv []) c p [] :: fs) s := by
    intro m
    induction m using Nat.strongRecOn with
    | ind m ih =>
      intro n i ys s₀ s3 acc cc σ3 H3 hn w3 r3 I3 st3 fr3
      have ee : ∀ (n : Nat) (s₀ : Shared) (x : Value) (s' : Shared), X.xe x s' → Seg (model X.prog X.w) A R (GY X S) n s₀ (.forLoop tg (.ref it) body [] X.env) (eHand X.env x)
          (.ret (fun r => ((match r with | .ok f => (.pure f : Sem Flow) | .error e => .raise e).onRaise (cameBack X.env)).wrap K J gd lv) none (gd false) (lv []) c p [] :: fs) s' := fun n s₀ x s' hx => by
        refine seg_wrap ?_
        rw [(gl _).over]
        refine wpAny_bind (wpAny_mono (hp x s' hx) (fun _ s'' hcb => wpAny_theTreesLotGoes ?_) fun y s'' hcb => ?_)
        · exact seg_leaf (.error x) (seg_cameBack gc k hcb)
        · exact seg_leaf (.error y) (seg_cameBack gc k hcb)
      refine seg_forLoop ?_
      rw [(gl _).over]
      rcases turn i m ys σ3 H3 w3 with ⟨stop, qn⟩ | ⟨go, N, hN, step⟩
      · refine wpAny_mono (T.done X rfl rfl rfl hc i _ s3 σ3 H3 _ I3 (stat fr3) st3 stop) (fun q s4 ⟨hq, I4⟩ => ?_) fun _ _ e => e
        subst hq
        refine seg_again rfl ?_
        exact seg_leaf (.ok .next) (k.ok n ys s₀ s4 .next hn ⟨σ3, H3, ⟨acc, cc, r3, I4⟩, qn⟩)
      · refine wpAny_mono (T.item X rfl rfl rfl hc i _ s3 σ3 H3 _ I3 (stat fr3) st3 go) (fun q s4 ⟨u, hq, h4⟩ => ?_) fun _ _ e => e
        subst hq
        refine wpAny_mono h4 (fun _ s5 ⟨x, H5, I5, r5, y5, st5, fr5⟩ => ?_) fun _ _ e => e
        have I5' : L2.Inv X ((S, lstObj acc cc) :: (ip ++ pinsAt fp s5.heap)) σ3 H5 s5 := I5.pinned (stat fr5) (T.obj _ _ st5)
        refine wpAny_mono (hg.run _ s5 σ3 H5 x u _ I5' r5 (step x H5 y5)) (fun _ s6 ⟨σ6, H6, I6, q6⟩ => ?_) fun x s' hx => ee n s₀ x s' hx
        have un : ∀ {acc : Array Value} {cc : Nat} {σ7 : L2.St} {H7 : Hp} {s7 : Shared}, L2.Inv X ((S, lstObj acc cc) :: (ip ++ pinsAt fp s5.heap)) σ7 H7 s7 → L2.Inv X ((S, lstObj acc cc) :: ip) σ7 H7 s7 := fun I7 => Inv.unpinned (pins := (S, lstObj _ _) :: ip) I7
        have again : ∀ {acc7 : Array Value} {cc7 n' : Nat} {ys' : List V} {s₀' : Shared} {σ7 : L2.St} {H7 : Hp} {s7 : Shared}, n' + ys'.length = sizeLine → Vals ys' acc7.toList → L2.Inv X ((S, lstObj acc7 cc7) :: (ip ++ pinsAt fp s5.heap)) σ7 H7 s7 → N ys' σ7 H7 →
            Seg (model X.prog X.w) A R (GY X S) n' s₀' (.forLoop tg (.ref it) body [] X.env) (.pure (.again (.forLoop tg (.ref it) body [] X.env)))
              (.ret (fun r => ((match r with | .ok f => (.pure f : Sem Flow) | .error e => .raise e).onRaise (cameBack X.env)).wrap K J gd lv) none (gd false) (lv []) c p [] :: fs) s7 := fun {acc7 cc7 n' ys' s₀' σ7 H7 s7} hn' r7 I7 n7 => by
          obtain ⟨m', hm, w7⟩ := hN ys' σ7 H7 n7
          refine seg_again rfl (ih m' hm n' (i + 1) ys' s₀' s7 acc7 cc7 σ7 H7 hn' w7 r7 (un I7) (T.keep _ _ _ st5 fun b hb o e => (I7.pin (b, o) (List.mem_append_right _ (List.mem_cons_of_mem _ (List.mem_append_right _ (mem_pinsAt hb e))))).1) fun b hb => ?_)
          obtain ⟨o, e, d⟩ := T.obj _ _ st5 b hb
          exact (I7.pin (b, o) (List.mem_append_right _ (List.mem_cons_of_mem _ (List.mem_append_right _ (mem_pinsAt hb e))))).2.1
        have gi : ∀ q ∈ ip ++ pinsAt fp s5.heap, q.1 ≠ S := fun q hq => by
          rcases List.mem_append.mp hq with hq | hq
          · exact gc.ip q hq
          · exact fS _ (of_pinsAt hq).1
        refine hb.run A S (ip ++ pinsAt fp s5.heap) R n ys s₀ _ _ _ _ id id s6 σ6 H6 { D with nx := N, ct := N, bk := D.nx } { gl _ with ip := gi } hn ⟨fun n' ys' s₀' s7 f hn' hs => ?_, fun n' s₀' x s7 hx => ee n' s₀' x s7 hx⟩ ⟨acc, cc, r3, I6⟩ q6
        cases f with
        | next =>
          obtain ⟨σ7, H7, ⟨acc7, cc7, r7, I7⟩, n7⟩ := hs
          exact again hn' r7 I7 n7
        | cont =>
          obtain ⟨σ7, H7, ⟨acc7, cc7, r7, I7⟩, n7⟩ := hs
          exact again hn' r7 I7 n7
        | brk =>
          obtain ⟨σ7, H7, ⟨acc7, cc7, r7, I7⟩, q7⟩ := hs
          exact seg_leaf (.ok .next) (k.ok n' ys' s₀' s7 .next hn' ⟨σ7, H7, ⟨acc7, cc7, r7, un I7⟩, q7⟩)
        | ret v =>
          obtain ⟨x7, σ7, H7, ⟨acc7, cc7, r7, I7⟩, rv, q7⟩ := hs
          exact seg_leaf (.ok (.ret v)) (k.ok n' ys' s₀' s7 (.ret v) hn' ⟨x7, σ7, H7, ⟨acc7, cc7, r7, un I7⟩, rv, q7⟩)
  exact loop m0 n 0 ys s₀ s2 acc cc σ H2 hn w0 r I2 st2 fun b hb => (f2 b hb).1
/-- a statement of a generator's body while the thing at d is locked -/
def tGLock (t : TGn) : TGn := fun D ys σ H => ∃ d u, H d = some u ∧ Mut (some u) ∧ ∀ od, t ⟨fun ys' σ' H' => H' d = some (.frz od u) ∧ D.nx ys' σ' (upd H' d u), fun ys' v H' => H' d = some (.frz od u) ∧ D.rt ys' v (upd H' d u), fun ys' σ' H' => H' d = some (.frz od u) ∧ D.bk ys' σ' (upd H' d u), fun ys' σ' H' => H' d = some (.frz od u) ∧ D.ct ys' σ' (upd H' d u)⟩ ys σ (upd H d (.frz od u))
theorem gs_lock {st : Stmt} {t : TGn} (h : GS X st t) : GS X st (tGLock t) := by
  refine ⟨fun A S ip R n ys s₀ c fs K J gd lv s σ H D gc hn k hI ht => ?_⟩
  obtain ⟨acc, cc, r, I⟩ := hI
  obtain ⟨d, u, hd, mu, hw⟩ := ht
  obtain ⟨od, I1⟩ := I.lock hd mu
  refine h.run A S ip R n ys s₀ c fs K J gd lv s σ _ _ gc hn ⟨fun n' ys' s₀' s' f hn' hs => k.ok n' ys' s₀' s' f hn' ?_, k.exc⟩ ⟨acc, cc, r, I1⟩ (hw od)
  cases f with
  | next => obtain ⟨σ', H', ⟨acc', cc', r', I2⟩, e, q⟩ := hs; exact ⟨σ', _, ⟨acc', cc', r', I2.unlock e (I.nofrz hd mu)⟩, q⟩
  | brk => obtain ⟨σ', H', ⟨acc', cc', r', I2⟩, e, q⟩ := hs; exact ⟨σ', _, ⟨acc', cc', r', I2.unlock e (I.nofrz hd mu)⟩, q⟩
  | cont => obtain ⟨σ', H', ⟨acc', cc', r', I2⟩, e, q⟩ := hs; exact ⟨σ', _, ⟨acc', cc', r', I2.unlock e (I.nofrz hd mu)⟩, q⟩
  | ret v => obtain ⟨x, σ', H', ⟨acc', cc', r', I2⟩, rv, e, q⟩ := hs; exact ⟨x, σ', _, ⟨acc', cc', r', I2.unlock e (I.nofrz hd mu)⟩, rv, q⟩
end
theorem gfor_it {J : It} {n : Nat} {G : Hp → Prop} {Y : Nat → Hp → V → Hp → Prop} (w : Walk J n G Y) {g : TG} {tb : TGn} {D : GEnds} {ys : List V} {σ : L2.St} {H : Hp} (Pv : Nat → List V → L2.St → Hp → Prop) (h0 : Pv 0 ys σ H) (hG : ∀ i ys σ H, i ≤ n → Pv i ys σ H → G H)
    (hs : ∀ i x ys σ H H', i < n → Pv i ys σ H → Y i H x H' → g x σ H' fun σ2 H2 => tb { D with nx := Pv (i + 1), ct := Pv (i + 1), bk := D.nx } ys σ2 H2) (hd : ∀ ys σ H, Pv n ys σ H → D.nx ys σ H) :
    ∃ W : Nat → Nat → List V → L2.St → Hp → Prop, (∃ m, W 0 m ys σ H) ∧ ∀ i m ys σ H, W i m ys σ H →
      (J.stop i H ∧ D.nx ys σ H) ∨ (J.go i H ∧ ∃ N : List V → L2.St → Hp → Prop, (∀ ys' σ' H', N ys' σ' H' → ∃ m', m' < m ∧ W (i + 1) m' ys' σ' H') ∧ ∀ x H', J.yld i H x H' → g x σ H' fun σ2 H2 => tb { D with nx := N, ct := N, bk := D.nx } ys σ2 H2) := by
  refine ⟨fun i m ys σ H => m = n - i ∧ i ≤ n ∧ Pv i ys σ H, ⟨n, by simp, Nat.zero_le _, h0⟩, ?_⟩
  rintro i m ys σ H ⟨rfl, hi, p⟩
  have q := hG i ys σ H hi p
  by_cases hlt : i < n
  · exact .inr ⟨w.goes i H hlt q, Pv (i + 1), fun ys' σ' H' p' => ⟨n - (i + 1), by omega, rfl, hlt, p'⟩, fun x H' y => hs i x ys σ H H' hlt p (w.yields i H x H' hlt q y)⟩
  · have e : i = n := by omega
    subst e
    exact .inl ⟨w.stops H q, hd ys σ H p⟩
end Inf

set_option Elab.async false
set_option linter.all false
set_option maxRecDepth 100000
set_option maxHeartbeats 4000000
namespace Inf
open PySem PySem.Spec PyProof.Rows L2 NdefX LamX
/-! ### min(xs) of a list of pairs of ints: the pair itself -/
def p2D (z : Int × Int) : PyData := .tuple [.int z.1, .int z.2]
def rMinT (K : PySem.W.Frag) : List V → Hp → VK → Prop := fun vs H Q => ∃ (a : Addr) (ps : List Addr) (x : Int × Int) (xs : List (Int × Int)), vs = [V.ref a] ∧ SqL K H a (ps.map V.ref) ∧ DpAll K H (ps.map V.ref) ((x :: xs).map p2D) ∧
  ∀ (i : Nat) (p : Addr), ps[i]? = some p → (x :: xs)[i]? = some (PySem.W.minOf x xs) → Q (.ref p) H
theorem dpAll_at {K : PySem.W.Frag} {H : Hp} : ∀ {vs : List V} {ds : List PyData}, DpAll K H vs ds → ∀ {i : Nat} {v : V}, vs[i]? = some v → ∃ d, ds[i]? = some d ∧ Dp K H v d
  | _, _, .nil, i, v, e => by cases i <;> cases e
  | _, _, .cons h t, 0, v, e => by
    cases e
    exact ⟨_, rfl, h⟩
  | _, _, .cons h t, i + 1, v, e => dpAll_at t (i := i) e
theorem cr_minT {X : Cx} (hc : X.calm = true) (hu : X.A.units + 65 < cLine) : CallR X (.builtin "min") (rMinT X.K) := by
  intro pins s σ H vs us Q I r h
  obtain ⟨a, ps, x, xs, rfl, hs, hd, q⟩ := h
  obtain ⟨its, rv, hl, _⟩ := I.list hs
  rw [Vals.ref1 r]
  obtain ⟨as, hr⟩ := Dp.readsAll I _ _ _ hd rv
  have H1 : PySem.W.HoldAll s.heap its.toArray.toList (x :: xs) := ⟨as, hr⟩
  have hdp : PySem.W.Datum.depth (Int × Int) ≤ 60 := by decide
  have hroom : X.A.units + 1 + PySem.W.Datum.depth (Int × Int) < cLine := by omega
  refine PySem.W.min_list_datum (I.ok.hd hc) hl.isList H1 hroom fun i v h' tk hi hv hk => ?_
  rw [List.getElem?_toArray] at hi
  have hlen := rv.length
  have hi2 : i < (ps.map V.ref).length := by
    rw [hlen]
    exact (List.getElem?_eq_some_iff.mp hi).1
  obtain ⟨p, hp⟩ : ∃ p, ps[i]? = some p := ⟨_, List.getElem?_eq_getElem (by rw [List.length_map] at hi2; exact hi2)⟩
  have hpm : (ps.map V.ref)[i]? = some (V.ref p) := by rw [List.getElem?_map, hp]; rfl
  obtain ⟨d, hdd, hDp⟩ := dpAll_at hd hpm
  rw [List.getElem?_map] at hdd
  obtain ⟨z, hz, rfl⟩ := Option.map_eq_some_iff.mp hdd
  obtain ⟨u, hu1, hrel⟩ := rv.get hpm
  obtain rfl : v = u := Option.some.inj (hi.symm.trans hu1)
  have hrel2 : v = Value.ref p := hrel
  subst hrel2
  obtain ⟨bs, r1⟩ := Dp.reads I _ _ _ hDp hrel
  obtain ⟨cs, r2⟩ := hv
  have e := ((PySem.Reads.unique (Reads.keeps hk r1) _ _ r2).1 : p2D z = _)
  have ez : z = PySem.W.minOf x xs := by
    have e : PyData.tuple [.int z.1, .int z.2] = PyData.tuple [.int (PySem.W.minOf x xs).1, .int (PySem.W.minOf x xs).2] := e
    injection e with e
    injection e with e1 e2
    injection e2 with e2 _
    injection e1 with e1
    injection e2 with e2
    exact Prod.ext e1 e2
  exact ⟨.ref p, H, I.kept hk, rfl, q i p hp (by rw [hz, ez])⟩
end Inf

set_option Elab.async false
set_option linter.all false
set_option maxRecDepth 100000
set_option maxHeartbeats 4000000
namespace Inf
open PySem PySem.Spec PyProof.Rows L2 NdefX LamX
/-! ### o.m(), where what leaves it depends on the locals -/
section
variable {X : Cx} {CX : CXT} {k : Nat} {f C : Addr} {fd : FuncData} {ps : List Str} {sp : Sp} {E : L2.St → XK} {m : Str} {apos pos : Pos} {o : Expr} {ta : TE}
def tMeth0S (C : Addr) (m : Str) (sp : Sp) (E : L2.St → XK) (ta : TE) : TE := fun σ H Q => ta σ H fun x H1 => ∃ a dx fs, x = .ref a ∧ H1 a = some (.ins C dx fs) ∧ fs.lookup m = none ∧ sp [x] H1 Q (E σ)
theorem pe_meth0S {pl : Sem Bool} (he : PE X o ta) (c : Cls X.K C) (hm : Meth X.K C m f) (F : FnOk X.prog X.w X.K X.mg X.base CX k f fd ps sp) (hr : Room k X.A) (hb : Binds X.K fd ps []) (hx : ∀ σ, PassesAt CX X σ (E σ))
    (ht : eval (.Call (.Attribute o m apos) [] [] pos) X.env = (do
      let ov ← eval o X.env
      standAt apos.atName
      let (f, first) ← holding [ov] (getMethod ov m pl)
      callWith pos f first (backTo pos (starEach [] X.env)) (backToKw pos (keywordEach [] X.env))) := by rfl) :
    PE X (.Call (.Attribute o m apos) [] [] pos) (tMeth0S C m sp E ta) := by
  refine ⟨fun pins s σ H Q I h => ?_⟩
  refine PySem.W.methodCall_KW (pl := pl) (thn (he.run pins s σ H _ I h) fun u s1 ⟨x, H1, I1, rx, a, dx, fs, ex, ea, l, q⟩ => ?_) ht
  subst ex
  obtain rfl : u = Value.ref a := rx
  refine getmeth_ok I1 ea c hm l ?_
  exact PySem.W.callWith_K0 (first := [.ref a]) I1.kIn hm.kp (run_fnS (us := [.ref a]) (vs := [.ref a]) F hr hb (hx σ) I1 (.cons rfl .nil) q)
end
end Inf

set_option Elab.async false
set_option linter.all false
set_option maxRecDepth 100000
set_option maxHeartbeats 4000000
namespace Inf
open PySem PySem.Spec PyProof.Rows L2 NdefX LamX
/-! ### a call of a def that shows data, while the def's cells are told -/
section
variable {X : Cx} {pins : List (Addr × Obj)} {σ : L2.St} {H : Hp} {s : Shared}
theorem tel_runG {k : Nat} {f : Addr} {fd : FuncData} {ps : List Str} {ds : List Value} {dvs : List V} {sp : Sp} {Q : VK} {us : List Value} {vs : List V} (F : FnOkG X.prog X.w X.K X.mg X.base CX0 k f fd ps sp) (hG : X.A.guards = some []) (hr : Room k X.A) (hb : Binds X.K fd ps ds) (hd : Vals dvs ds) (hfn : ∀ x, X.fn x = true)
    (I : Inv X pins σ H s) (r : Vals vs us) (h : ∀ cs HT, Tel X.env.cells X.env.scope.names X.N σ H cs HT → sp (vs ++ dvs) HT (fun v H1 => (∀ b, b ∈ cs → H1 b = HT b) ∧ Q v (cut cs H1)) E0) : wpAny (model X.prog X.w) X.A (call (.ref f) us) (EP X pins σ Q) X.xe s := by
  let cs := frCells X.env.cells
  let HT : Hp := fun b => if b ∈ cs then (match s.heap.get? b with | some o => some (.ext fun h => h.get? b = some o) | Option.none => Option.none) else H b
  have big : ∀ b, b ∈ cs → X.s_0.heap.objs.size ≤ b := fun b hb => by
    obtain ⟨x, e⟩ := mem_frCells hb
    exact I.ok.cab x b (hfn x) e
  have no : ∀ b, b ∈ cs → H b = Option.none := fun b hb => by
    obtain ⟨x, e⟩ := mem_frCells hb
    exact I.freeC x b e
  have inT : ∀ b, b ∈ cs → ∃ v o, s.heap.get? b = some o ∧ o.data = .cell v ∧ HT b = some (.ext fun h => h.get? b = some o) := fun b hb => by
    obtain ⟨x, e⟩ := mem_frCells hb
    obtain ⟨v, o, e1, e2⟩ := I.cell x b e
    refine ⟨v, o, e1, e2, ?_⟩
    show (if b ∈ cs then _ else _) = _
    rw [if_pos hb, e1]
  have outT : ∀ b, b ∉ cs → HT b = H b := fun b hb => if_neg hb
  have nonT : ∀ b, b ∉ cs → H b = Option.none → HT b = Option.none := fun b hb e => (outT b hb).trans e
  have T : Tel X.env.cells X.env.scope.names X.N σ H cs HT := by
    refine ⟨no, fun b hb => ?_, outT, I.ok.inj, fun y h => I.ok.has _ (.inl h), fun i y c v h1 h2 h3 h4 => ?_, fun b hb q hq => ?_, fun y c e => frCells_mem e⟩
    · obtain ⟨v, o, _, _, e⟩ := inT b hb
      exact ⟨_, e⟩
    · obtain ⟨v', o, e1, e2, e3⟩ := inT c (frCells_mem h3)
      obtain ⟨m, hn, hl⟩ := I.loc
      obtain ⟨u, ru, lk⟩ := hl i y v h1 h4 (.inr (.inl h2))
      refine ⟨_, e3, fun h hh => ⟨u, ru, o, hh, ?_⟩⟩
      rcases lk with ⟨z, _⟩ | ⟨_, c', hc', hcell⟩
      · have z' : X.env.scope.names.lookup y = some .local := z
        rw [h2] at z'
        cases z'
      · rw [h3] at hc'
        cases hc'
        obtain ⟨o', g1, g2⟩ := hcell
        rw [e1] at g1
        cases g1
        exact g2
    · obtain ⟨v, o, e1, e2, e3⟩ := inT b hb
      rw [e3] at hq
      have hq := HO.ext.inj (Option.some.inj hq)
      have hq := (congrFun hq s.heap).mp e1
      obtain ⟨oc, vs, t, g1, g2, _⟩ := hq
      rw [e1] at g1
      cases g1
      rw [e2] at g2
      cases g2
  have ncs : ∀ b, b < X.s_0.heap.objs.size → b ∉ cs := fun b l m => Nat.not_lt.mpr (big b m) l
  have e0 := I.env0
  have notfr : ∀ b, b ∈ frs X.stack → b ∉ cs := fun b hb m => by
    rcases List.mem_cons.mp (I.stkSub b hb) with e | hb'
    · obtain ⟨x, ex⟩ := mem_frCells m
      exact I.cne x b ex e
    · obtain ⟨_, o, ho, _⟩ := I.ok.funs.mem hb'
      exact ncs b (Heap.lt_size ho) m
  have nonext : ∀ {b : Addr} {o : HO}, H b = some o → b ∉ cs := fun e m => by
    rw [no _ m] at e
    cases e
  have e1 : Env0 X.prog X.w X.K X.mg X.base X.A X.stack s HT := by
    refine ⟨e0.frames, e0.mod, fun b o q => ⟨(e0.bs b o q).1, nonT b (ncs b (Nat.lt_of_lt_of_le (Heap.lt_size q) I.ok.bsz)) (e0.bs b o q).2⟩, e0.bsz, e0.funs, fun b hb => nonT b (notfr b hb) (e0.frf b hb), fun b o e => ?_, e0.bare⟩
    by_cases hb : b ∈ cs
    · obtain ⟨v, o', g1, g2, g3⟩ := inT b hb
      rw [g3] at e
      cases e
      exact ⟨g1, ⟨o', g1⟩, fun h1 h2 z k => k _ z⟩
    · rw [outT b hb] at e
      refine (e0.hok b o e).stay (fun c u _ q => q) (fun c q => ?_) fun c xs q => ?_
      · rw [outT c (nonext q)]
        exact q
      · rw [outT c (nonext q)]
        exact q
  have hq0 := h cs HT T
  have r2 : Vals (vs ++ dvs) (us ++ ds) := r.append hd
  have hl : (us ++ ds).length = ps.length := by rw [← r2.length]; exact F.len _ _ _ _ hq0
  refine wpAny_call (codeAny_mono (F.run X.A X.stack s HT ⟨us, []⟩ (us ++ ds) (vs ++ dvs) _ E0 hG hr e1 (hb s us I.kIn hl) r2 hq0) fun r s' hq => ?_)
  cases r with
  | error e => exact False.elim hq
  | ok fl =>
    cases fl with
    | next => exact False.elim hq
    | brk => exact False.elim hq
    | cont => exact False.elim hq
    | ret u =>
      obtain ⟨v, H1, os, bare, un, hok1, rv, kc, q⟩ := hq
      have notin : ∀ {b : Addr} {o : HO}, H1 b = some o → (∀ φ, o ≠ .ext φ) → b ∉ cs := fun {b o} e n m => by
        obtain ⟨v, o', _, _, g3⟩ := inT b m
        rw [kc b m, g3] at e
        exact n _ (Option.some.inj e).symm
      have keepC : ∀ b o, b ∈ cs → s.heap.get? b = some o → s'.heap.get? b = some o := fun b o m e => by
        obtain ⟨v, o', g1, _, g3⟩ := inT b m
        rw [g1] at e
        cases e
        have := hok1 b _ ((kc b m).trans g3)
        exact this.1
      refine I.after ⟨v, cut cs H1, os, bare, ⟨fun b o a n h1 h2 => ?_, fun b o a n h1 h2 => ?_, fun b o a n h2 => ?_, un.there, fun b xs e => ?_, fun b o u e => ?_, fun b ps e => ?_⟩, fun b o e => ?_, rv, q⟩
      · by_cases m : b ∈ cs
        · exact keepC b o m a
        · exact un.keep b o a (nonT b m n) h1 h2
      · exact un.slot b o a (nonT b (notfr b h1) n) h1 h2
      · by_cases m : b ∈ cs
        · exact cut_in m
        · rw [cut_out m]
          exact un.free b o a (nonT b m n) h2
      · have m := nonext e
        rw [cut_out m]
        exact un.tups b xs ((outT b m).trans e)
      · have m := nonext e
        rw [cut_out m]
        exact un.frzs b o u ((outT b m).trans e)
      · have m := nonext e
        rw [cut_out m]
        exact un.tbls b ps ((outT b m).trans e)
      · by_cases m : b ∈ cs
        · rw [cut_in m] at e
          cases e
        · rw [cut_out m] at e
          refine (hok1 b o e).stay (fun c u _ q => q) (fun c q => ?_) fun c xs q => ?_
          · rw [cut_out (notin q (fun φ z => nomatch z))]
            exact q
          · rw [cut_out (notin q (fun φ z => nomatch z))]
            exact q
end
theorem pe_callTG {X : Cx} {k : Nat} {f : Addr} {fd : FuncData} {ps : List Str} {ds : List Value} {dvs : List V} {sp : Sp} {x : Str} {p pos : Pos} {e : Expr} {es : List Expr} {t : TA} (hfn : ∀ x, X.fn x = true) (F : FnOkG X.prog X.w X.K X.mg X.base CX0 k f fd ps sp) (hG : X.A.guards = some []) (hr : Room k X.A) (hg : Gl X x) (hm : X.mg x = some (.ref f)) (hk : PySem.W.keepIn X.K (.ref f) = true) (hb : Binds X.K fd ps ds) (hd : Vals dvs ds)
    (ha : PA X (e :: es) t) (hdb : (x == ("__debug__" : Str)) = false := by decide) (he : starEach (e :: es) X.env = (false, eval e X.env) :: starEach es X.env := by rfl) (hpl : (backTo pos (starEach es X.env)).any (·.1) = false := by rfl) :
    PE X (.Call (.Name x p) (e :: es) [] pos) (tCallT X sp dvs t) := by
  refine ⟨fun pins s σ H Q I h => ?_⟩
  refine wpAny_Call_Name_kw (ld_glob I hg hm ?_ hdb)
  refine PySem.W.callWith_K (h₀ := X.base) I.ok.mod.kin hk (thn (ha.run pos pins s σ H _ I h) fun us s1 ⟨vs, H1, I1, r, q⟩ => ⟨I1.kIn, ?_⟩) he hpl
  exact tel_runG F hG hr hb hd hfn I1 r q
end Inf

set_option Elab.async false
set_option linter.all false
set_option maxRecDepth 100000
set_option maxHeartbeats 4000000
namespace Inf
open PySem PySem.Spec PyProof.Rows L2 NdefX LamX
/-! ### the total of a tuple of ints -/
def rSumT (K : PySem.W.Frag) : List V → Hp → VK → Prop := fun vs H Q => ∃ (a : Addr) (ns : List Int), vs = [V.ref a] ∧ SqT K H a (ns.map V.int) ∧ Q (.int ns.sum) H
theorem cr_sumT {X : Cx} (hc : X.calm = true) : CallR X (.builtin "sum") (rSumT X.K) := by
  intro pins s σ H vs us Q I r h
  obtain ⟨a, ns, rfl, hs, q⟩ := h
  obtain ⟨its, rv, hT, _⟩ := I.tuple hs
  rw [Vals.ref1 r]
  have hi := rv.ints
  obtain ⟨xs, e⟩ := hi.allInts.items
  have hn : numsOf (intItems xs).toList = ns := by rw [← e]; exact hi.numsOf
  rw [nums_intItems] at hn
  rw [e] at hT
  refine PySem.W.ktm_sumG (I.ok.hd hc) hT fun h' tk t' hk => ⟨.int _, H, I.kept hk, ⟨_, rfl⟩, ?_⟩
  rw [preSum_eq, List.take_of_length_le (by simp), hn]
  exact q
end Inf

set_option Elab.async false
set_option linter.all false
set_option maxRecDepth 100000
set_option maxHeartbeats 4000000
namespace Inf
open PySem PySem.Spec PyProof.Rows L2 NdefX LamX
/-! ### xs.remove(x), plain data -/
def rRemD (K : PySem.W.Frag) : V → List V → Hp → VK → Prop := fun x xs H Q => ∃ (l : Addr) (ys : List V) (v : V) (ds : List PyData) (d : PyData) (j : Nat), x = .ref l ∧ xs = [v] ∧ H l = some (.lst ys) ∧ DpAll K H ys ds ∧ Dp K H v d ∧ PyData.plainAll ds = true ∧ d.plain = true ∧ d.depth ≤ 60 ∧
  ds.findIdx? (fun y => PyData.eqv y d) = some j ∧ Q .non (upd H l (.lst (ys.eraseIdx j)))
theorem mt_removeD {X : Cx} (hu : X.A.units + 65 < cLine) : MtM X "list.remove" (rRemD X.K) := by
  intro pins s σ H x xs v us Q I rx rxs h
  obtain ⟨l, ys, y, ds, d, j, rfl, rfl, hH, hds, hd, h1, h2, h3, hj, q⟩ := h
  cases rx
  obtain ⟨u, rfl, ru⟩ := rxs.one
  obtain ⟨z, its, n, r, hl, e⟩ := I.lstM hH
  obtain ⟨as, rs⟩ := Dp.readsAll I _ _ _ hds r
  obtain ⟨bs, rd⟩ := Dp.reads I _ _ _ hd ru
  have hm : min (PyData.depthAll ds) d.depth ≤ 60 := Nat.le_trans (Nat.min_le_right _ _) h3
  refine PySem.SeqAt.remove_list_data (vs := its.toArray) ⟨_, e, rfl, n, rfl⟩ rs rd h1 h2 (by omega) hj (by rw [List.size_toArray]; omega) ?_
  have rr := r.eraseIdx j
  refine ⟨.non, _, I.lset (its' := its.eraseIdx j) (t' := s.toks) hH e ?_ rr ?_, rfl, q⟩
  · show its.toArray.eraseIdxIfInBounds j = (its.eraseIdx j).toArray
    rw [List.eraseIdxIfInBounds_toArray]
  · have := List.length_eraseIdx_le ys j
    omega
end Inf

set_option Elab.async false
set_option linter.all false
set_option maxRecDepth 100000
set_option maxHeartbeats 4000000
namespace Inf
open PySem PySem.Spec PyProof.Rows L2
/-! ### sorted(set(xs)), xs a list of ints (the library has set(xs) for a tuple: our rows follow its way through the model's function) -/
/-- a set as it is made -/
abbrev sNew (w : World) : Obj := ⟨.type "set", none, .set #[] 0 (.fresh 0 0 (!w.params.followText "set-order")), #[]⟩
/-- h' has the set of ns at S, and all that h had -/
def SBuilt (w : World) (h : Heap) (S : Addr) (ns : List Int) (h' : Heap) : Prop := (∃ c, SetR w h' S (fun j => decide (j ∈ ns)) c ∧ c ≤ ns.length) ∧ ∀ b o, h.get? b = some o → h'.get? b = some o
section
variable {P : Program} {w : World} {A : Around} {E : Value → Shared → Prop} {s : Shared}
theorem set_ofL {l : Addr} {its : Array Value} (ns : List Int) {Q : Value → Shared → Prop} (ha : A.handled = none) (hl : s.heap.IsList l its) (hi : IntsAre its.toList ns) (hn : ns.length + 1 < scanBound)
    (q : ∀ h' tk, SBuilt w s.heap s.heap.objs.size ns h' → Q (.ref s.heap.objs.size) { s with heap := h', toks := tk }) : wpAny (model P w) A (call (.type "set") [.ref l]) Q E s := by
  have hz : its.size = ns.length := (Array.length_toList ..).symm.trans (IntsAre.length hi)
  have c1 := @F.called_set
  obtain ⟨c, tl, m1⟩ := c1.mro
  have m2 := c1.made; have m3 := c1.sub; have m4 := c1.notType; have m5 := c1.canCreate
  have m6 := F.typeCall_set_1 (.ref l)
  refine wpAny_call (codeAny_of_tree (show wpAny _ _ (callAny (.type "set") _) _ _ _ from wpAny_pure ⟨Code.quiet_builtin _ (by decide +kernel), codeAny_builtin F.entry_type_call ?_⟩))
  have m7 := weight_type_call_type "set" [.ref l] []
  rw [Around.under_plain m7 rfl]
  repeat (any_goals (first | wp_step | assumption))
  have sp : s.heap.push (sNew w) = s.heap.push (sNew w) := rfl
  refine codeAny_mono (code_set_led1 (.ref l) (E := E) (Q₁ := fun v t => v = .ref s.heap.objs.size ∧ t = { s with heap := s.heap.push (sNew w) }) ⟨rfl, rfl⟩) fun r t1 hr => ?_
  match r, hr with
  | .error _, hr => exact hr
  | .ok (.ret v), hr =>
    obtain ⟨rfl, rfl⟩ := hr
    have gS : (s.heap.push (sNew w)).get? s.heap.objs.size = some (sNew w) := Heap.get?_push_size _ rfl
    have i1 := c1.init.lookup; have i2 := c1.init.bind (.ref s.heap.objs.size)
    repeat (any_goals (first | wp_step | assumption))
    refine codeAny_mono (codeAny_call_builtin (R := wants (fun v t => v = .none ∧ ∃ h' tk, t = { s with heap := h', toks := tk } ∧ SBuilt w s.heap s.heap.objs.size ns h') E) c1.init.plain F.entry_set_init (check_set_init_1 ⟨_, gS, rfl⟩ ?_)) fun r t2 hr => ?_
    · obtain ⟨⟨lc, ld, la, lo⟩, g1, rfl, nl, rfl⟩ := id hl
      have lt : l < s.heap.objs.size := Heap.lt_size g1
      have l1 : (s.heap.push (sNew w)).IsList l its := by obtain ⟨o, e, z⟩ := hl; exact ⟨o, Heap.get?_push_of_some _ e, z⟩
      have g2 := Heap.get?_push_of_some (sNew w) g1
      have d1 := F.sub_list_set; have d2 := F.sub_list_frozenset
      have d3 : (Value.type "list" == Value.type "dict") = false := by decide
      have z1 : (s.heap.push (sNew w)).objs.size = s.heap.objs.size + 1 := Heap.size_push ..
      have nl2 : l ≠ (s.heap.push (sNew w)).objs.size := by rw [z1]; exact Nat.ne_of_lt (Nat.lt_succ_of_lt lt)
      have nS : s.heap.objs.size ∉ [(s.heap.push (sNew w)).objs.size, l] := fun z => by
        rw [z1] at z
        rcases List.mem_cons.mp z with e | e
        · exact absurd e (Nat.ne_of_lt (Nat.lt_succ_self _))
        · exact absurd (List.mem_singleton.mp e) (Nat.ne_of_gt lt)
      unfold Builtin.«set.__init__» noKeywords
      unfold Builtin.Frozenset.updateFrom
      generalize ePI : pyIter = PI
      wp_walk
      rw [← ePI]
      refine wpAny_pyIter_list l1 (wpAny_bind (wpAny_runValue ?_))
      have a3 : A.in1.in1.in1.handled = none := by simp [ha]
      refine set_update_ints ((Walks.list a3 _ l nl2 its).toS) s.heap.objs.size nS ns hz hn (fun i v e => ?_) its.size 0 _ rfl (Nat.zero_le _) ⟨⟨_, Heap.get?_push_size _ rfl, rfl, rfl⟩, l1.push _⟩ ⟨0, Nat.le_refl 0, setR_new_at (Heap.get?_push_of_some _ gS)⟩ fun t3 c3 mv hc3 R3 => ?_
      · have e' : its.toList[i]? = some v := by rw [Array.getElem?_toList]; exact e
        have lti : i < ns.length := by rw [← hz]; exact (Array.getElem?_eq_some_iff.mp e).1
        obtain ⟨tk, e2⟩ := PyProof.Rows.IntsAre.int_at hi i v e'
        rw [List.getD_eq_getElem?_getD, List.getElem?_eq_getElem lti] at e2
        exact ⟨ns[i], tk, List.getElem?_eq_getElem lti, e2⟩
      · obtain ⟨h3, g3, d3, tk3, o3⟩ := t3
        obtain rfl : g3 = s.gens := mv.gens
        obtain rfl : d3 = s.drawn := mv.drawn
        obtain rfl : o3 = s.os := mv.os
        refine (show wpAny _ _ _ _ _ _ from wpAny_pure (show wpAny _ _ (ret Value.none) _ _ _ from wpAny_pure ⟨rfl, h3, tk3, rfl, ⟨c3, R3, by rw [← hz]; exact hc3⟩, fun b o e => ?_⟩))
        have bz : b < s.heap.objs.size := Heap.lt_size e
        refine mv.heap b o (fun z => ?_) (Heap.get?_push_of_some _ (Heap.get?_push_of_some _ e))
        rcases List.mem_cons.mp z with y | y
        · exact absurd y (Nat.ne_of_lt bz)
        · rw [List.mem_singleton, z1] at y
          exact absurd y (Nat.ne_of_lt (Nat.lt_succ_of_lt bz))
    · match r, hr with
      | .error _, hr => exact hr
      | .ok (.ret v), hr =>
        obtain ⟨rfl, h', tk, rfl, z⟩ := hr
        repeat (any_goals (first | wp_step | assumption))
        exact q _ _ z
end
/-- set(xs) -/
def rSetLI (K : PySem.W.Frag) (w : World) : List V → Hp → VK → Prop := fun vs H Q => ∃ (l : Addr) (ns : List Int), vs = [.ref l] ∧ SqL K H l (ns.map V.int) ∧ ns.length ≤ 1000 ∧ ∀ a c, H a = none → c ≤ ns.length → Q (.ref a) (upd H a (SetO w a (fun j => decide (j ∈ ns)) c))
theorem cr_setLI {X : Cx} (hc : X.calm = true) : CallR X (.type "set") (rSetLI X.K X.w) := by
  intro pins s σ H vs us Q I r h
  obtain ⟨l, ns, rfl, hl, hn, q⟩ := h
  rw [Vals.ref1 r]
  obtain ⟨its, rv, pl, _⟩ := I.list hl
  refine set_ofL (P := X.prog) (w := X.w) ns (I.ok.hd hc) pl.isList (by simpa using rv.ints) (by unfold scanBound; omega) fun h' tk b => ?_
  obtain ⟨⟨c, R, hle⟩, k⟩ := b
  exact ⟨.ref s.heap.objs.size, upd H s.heap.objs.size (SetO X.w s.heap.objs.size (fun j => decide (j ∈ ns)) c), I.laid (t' := tk) k (Nat.le_refl _) (setO_new R), rfl, q _ c (I.hok.fresh (Nat.le_refl _)) hle⟩
end Inf

set_option Elab.async false
set_option linter.all false
set_option maxRecDepth 100000
set_option maxHeartbeats 4000000
namespace Inf
open PySem PySem.Spec PyProof.Rows L2 NdefX LamX
/-! ### a lambda that captures cells and may raise -/
section
variable {P : Program} {w : World} {K : PySem.W.Frag} {mg : Str → Option Value} {base : Heap} {k : Nat} {f : Addr} {F : LF} {N ps fr : List Str} {sp : List (Option V) → Sp} {CX : CXT}
theorem lam_runX (S : NScope N ps fr F.scope) (hb : ∀ (pm ctv : Value) (us : List Value), us.length = ps.length → bindArgs (PySem.W.kla_fn "<lambda>" F.qual F.params F.body F.scope F.cl pm (.ref F.c) ctv) ⟨us, []⟩ = pure (ps.zip us))
    (len : ∀ ws vs H Q E, sp ws vs H Q E → vs.length = ps.length)
    (hbody : ∀ (A : Around) (outer : List Env) (s : Shared) (H : Hp) (vs : List V) (ws : List (Option V)) (Q : VK) (E : XK), Room k (A.deeper (envF F.nf f s.heap.objs.size)) → ws.length = fr.length → sp ws vs H Q E → ∃ te, PE (ncx CX P w K mg base N F.nf f A outer s H E) F.body te ∧ te (startF N vs ws) H Q)
    (A : Around) (outer : List Env) (s : Shared) (H : Hp) (us : List Value) (vs : List V) (ws : List (Option V)) (Q : VK) (E : XK) (hr : Room (k + 1) A) (e0 : Env0 P w K mg base A outer s H) (hf : H f = some (LamO f F)) (hc : H F.c = some (CodeO F.c F.qual)) (C : CellsAt F.cl fr ws s.heap H) (r : Vals vs us) (hsp : sp ws vs H Q E) :
    codeAny (model P w) A (.call (.ref f) ⟨us, []⟩) (CR CX outer P w H s Q E) s := by
  have hl := len _ _ _ _ _ hsp
  have lim : s.heap.NoLimit := e0.mod.nolimit.keeps fun b o e => (e0.bs b o e).1
  obtain ⟨pm, ctv, ho⟩ := lamO_at e0.hok hf
  refine PySem.W.kla_callFunE hr.depth ho rfl S.co S.gen rfl (codeO_at e0.hok hc) ?_
  rw [hb pm ctv us (by rw [← r.length]; exact hl)]
  refine wpAny_pure (wpAny_newFunctionEnv S.nocell (fun ⟨n, _⟩ hy => S.par n (List.of_mem_zip hy).1) (fun h₁ hns hsb => ⟨lim.fresh _ hsb, ?_⟩) S.kind)
  obtain ⟨te, ht, hq⟩ := hbody A outer s H vs ws Q E (hr.deeper _) C.len hsp
  have kp : ∀ b o, s.heap.get? b = some o → h₁.get? b = some o := fun b o e => hsb.extBut b o (Nat.ne_of_lt (Heap.lt_size e)) (Heap.get?_push_of_some _ e)
  have I := inv_startN (CX := CX) (P := P) (w := w) (K := K) (mg := mg) (base := base) (F := F.nf) (f := f) (A := A) (outer := outer) (E := E) (tk := s.toks + (ps.zip us).length) S hr.hd e0 hl r C hns kp
  refine PySem.W.kla_codeExpr (wpAny_mono (ht.run [] _ (startF N vs ws) H Q I hq) (fun u s' hs => ?_) fun e s' hs => hs)
  obtain ⟨v, H', J, rv, q⟩ := hs
  exact ⟨v, H', J.os, J.bare, J.base, J.hok, rv, q⟩
/-- the same of one that may raise -/
theorem lam_cloX (S : NScope N ps fr F.scope) (hb : ∀ (pm ctv : Value) (us : List Value), us.length = ps.length → bindArgs (PySem.W.kla_fn "<lambda>" F.qual F.params F.body F.scope F.cl pm (.ref F.c) ctv) ⟨us, []⟩ = pure (ps.zip us))
    (len : ∀ ws vs H Q E, sp ws vs H Q E → vs.length = ps.length)
    (hbody : ∀ (A : Around) (outer : List Env) (s : Shared) (H : Hp) (vs : List V) (ws : List (Option V)) (Q : VK) (E : XK), Room k (A.deeper (envF F.nf f s.heap.objs.size)) → ws.length = fr.length → sp ws vs H Q E → ∃ te, PE (ncx (L2.CX P w) P w K mg base N F.nf f A outer s H E) F.body te ∧ te (startF N vs ws) H Q) :
    FnR P w K mg base (L2.CX P w) (k + 1) f (fun vs H Q E => ∃ ws, LClo H f F fr ws ∧ sp (ws.map some) vs (cut (cellsOf F.nf fr) H) (fun v H1 => (∀ b, b ∈ cellsOf F.nf fr → H1 b = Option.none) → Q v (mend (cellsOf F.nf fr) H H1)) (fun cls d H1 => (∀ b, b ∈ cellsOf F.nf fr → H1 b = Option.none) → E cls d (mend (cellsOf F.nf fr) H H1))) := by
  intro A outer s H us vs Q E hr e0 r hsp
  obtain ⟨ws, hc, hsp⟩ := hsp
  have cellAt : ∀ b, b ∈ cellsOf F.nf fr → ∃ v, CellAt H b v := fun b hb => hc.cell hb
  have isC : ∀ b, b ∈ cellsOf F.nf fr → ∃ u, s.heap.IsCell b (some u) := fun b hb => by
    obtain ⟨v, e⟩ := cellAt b hb
    obtain ⟨u, _, z⟩ := e.at_ e0.hok
    exact ⟨u, z⟩
  have fnout : f ∉ cellsOf F.nf fr := fun hb => by
    obtain ⟨u, o, e1, e2⟩ := isC f hb
    obtain ⟨pm, ctv, e3⟩ := lamO_at e0.hok hc.fn
    rw [e1] at e3
    cases e3
    cases e2
  have cout : F.c ∉ cellsOf F.nf fr := fun hb => by
    obtain ⟨u, o, e1, e2⟩ := isC F.c hb
    obtain ⟨⟨oc, vs', t, h1, h2, h3⟩, _, _⟩ := e0.hok F.c _ hc.code
    rw [e1] at h1
    cases h1
    rw [e2] at h2
    cases h2
  have hokc : HOk P w (cut (cellsOf F.nf fr) H) s.heap := fun b o e => by
    by_cases hb : b ∈ cellsOf F.nf fr
    · rw [cut_in hb] at e
      cases e
    · rw [cut_out hb] at e
      refine (e0.hok b o e).stay (fun c u _ q => q) (fun c q => ?_) fun c xs q => ?_
      · rw [cut_out (hc.out q (fun φ z => nomatch z))]
        exact q
      · rw [cut_out (hc.out q (fun φ z => nomatch z))]
        exact q
  have noneC : ∀ b, H b = Option.none → cut (cellsOf F.nf fr) H b = Option.none := fun b e => by
    by_cases hb : b ∈ cellsOf F.nf fr
    · exact cut_in hb
    · rw [cut_out hb]
      exact e
  have e1 : Env0 P w K mg base A outer s (cut (cellsOf F.nf fr) H) := ⟨e0.frames, e0.mod, fun b o q => ⟨(e0.bs b o q).1, noneC b (e0.bs b o q).2⟩, e0.bsz, e0.funs, fun b hb => noneC b (e0.frf b hb), hokc, e0.bare⟩
  have C : CellsAt F.cl fr (ws.map some) s.heap (cut (cellsOf F.nf fr) H) := by
    refine ⟨by rw [List.length_map]; exact hc.len, fun y c e => ?_, hc.inj, fun i y e => ?_⟩
    · have hb : c ∈ cellsOf F.nf fr := mem_cells.mpr ⟨y, hc.dom y c e, e⟩
      obtain ⟨u, z⟩ := isC c hb
      exact ⟨cut_in hb, _, z⟩
    · obtain ⟨c, v, a, b, d⟩ := hc.at_ i y e
      refine ⟨c, a, fun v' e' => ?_⟩
      rw [List.getElem?_map, b] at e'
      cases e'
      obtain ⟨u, r', z⟩ := d.at_ e0.hok
      exact ⟨u, r', z⟩
  refine codeAny_mono (lam_runX S hb len hbody A outer s (cut (cellsOf F.nf fr) H) us vs (ws.map some) _ _ hr e1 (by rw [cut_out fnout]; exact hc.fn) (by rw [cut_out cout]; exact hc.code) C r hsp) fun res s' hq => ?_
  cases res with
  | error e =>
    obtain ⟨a, B, H1, cls, d, rfl, fl, hok1, ub, na, os, ag, hE⟩ := hq
    have gone : ∀ b, b ∈ cellsOf F.nf fr → H1 b = Option.none := fun b hb => by
      obtain ⟨u, o, z1, z2⟩ := isC b hb
      exact ub.free b o z1 (cut_in hb)
    have notfr : ∀ b, b ∈ cellsOf F.nf fr → b ∉ frs outer := fun b hb z => by
      obtain ⟨v, φ, d, _⟩ := cellAt b hb
      rw [e0.frf b z] at d
      cases d
    have nac : a ∉ cellsOf F.nf fr := fun hb => by
      obtain ⟨u, o, z1, z2⟩ := isC a hb
      have := ub.keep a o z1 (cut_in hb) (notfr a hb)
      rw [fl.2.1] at this
      cases this
    refine ⟨a, B, mend (cellsOf F.nf fr) H H1, cls, d, rfl, fl, fun b o e => ?_, ⟨fun b o a n h1 => ub.keep b o a (noneC b n) h1, ub.slot, fun b o a n => ?_, ub.there, fun b xs e => ?_, fun b o u e => ?_, fun b ps e => ?_⟩, ?_, os, ag, hE gone⟩
    · by_cases hb : b ∈ cellsOf F.nf fr
      · rw [mend_in hb] at e
        obtain ⟨v', φ, d, _⟩ := cellAt b hb
        rw [d] at e
        cases e
        obtain ⟨z, ⟨o', z1⟩, st⟩ := e0.hok b _ d
        have z2 := ub.keep b o' z1 (cut_in hb) (notfr b hb)
        refine ⟨st _ _ z (fun x hx => ?_), ⟨o', z2⟩, st⟩
        rw [z1] at hx
        cases hx
        exact z2
      · rw [mend_out hb] at e
        refine (hok1 b o e).stay (fun c u _ q => q) (fun c q => ?_) fun c xs q => ?_
        · have hb' : c ∉ cellsOf F.nf fr := fun z => by
            rw [gone c z] at q
            cases q
          rw [mend_out hb']
          exact q
        · have hb' : c ∉ cellsOf F.nf fr := fun z => by
            rw [gone c z] at q
            cases q
          rw [mend_out hb']
          exact q
    · by_cases hb : b ∈ cellsOf F.nf fr
      · rw [mend_in hb]
        exact n
      · rw [mend_out hb]
        exact ub.free b o a (noneC b n)
    · have hb := hc.out e (fun φ z => nomatch z)
      rw [mend_out hb]
      exact ub.tups b xs (by rw [cut_out hb]; exact e)
    · have hb := hc.out e (fun φ z => nomatch z)
      rw [mend_out hb]
      exact ub.frzs b o u (by rw [cut_out hb]; exact e)
    · have hb := hc.out e (fun φ z => nomatch z)
      rw [mend_out hb]
      exact ub.tbls b ps (by rw [cut_out hb]; exact e)
    · rw [mend_out nac]
      exact na
  | ok fl =>
    cases fl with
    | next => exact hq
    | brk => exact hq
    | cont => exact hq
    | ret u =>
      obtain ⟨v, H1, os, bare, un, hok1, rv, q⟩ := hq
      have gone : ∀ b, b ∈ cellsOf F.nf fr → H1 b = Option.none := fun b hb => by
        obtain ⟨u, o, z1, z2⟩ := isC b hb
        exact un.free b o z1 (cut_in hb) (by simp)
      have notfr : ∀ b, b ∈ cellsOf F.nf fr → b ∉ frs outer := fun b hb z => by
        obtain ⟨v, φ, d, _⟩ := cellAt b hb
        rw [e0.frf b z] at d
        cases d
      refine ⟨v, mend (cellsOf F.nf fr) H H1, os, bare, ⟨fun b o a n h1 h2 => un.keep b o a (noneC b n) h1 h2, fun b o a n h1 h2 => un.slot b o a (noneC b n) h1 h2, fun b o a n h2 => ?_, un.there, fun b xs e => ?_, fun b o u e => ?_, fun b ps e => ?_⟩, fun b o e => ?_, rv, q gone⟩
      · by_cases hb : b ∈ cellsOf F.nf fr
        · rw [mend_in hb]
          exact n
        · rw [mend_out hb]
          exact un.free b o a (noneC b n) h2
      · have hb := hc.out e (fun φ z => nomatch z)
        rw [mend_out hb]
        exact un.tups b xs (by rw [cut_out hb]; exact e)
      · have hb := hc.out e (fun φ z => nomatch z)
        rw [mend_out hb]
        exact un.frzs b o u (by rw [cut_out hb]; exact e)
      · have hb := hc.out e (fun φ z => nomatch z)
        rw [mend_out hb]
        exact un.tbls b ps (by rw [cut_out hb]; exact e)
      · by_cases hb : b ∈ cellsOf F.nf fr
        · rw [mend_in hb] at e
          obtain ⟨v', φ, d, _⟩ := cellAt b hb
          rw [d] at e
          cases e
          obtain ⟨z, ⟨o', z1⟩, st⟩ := e0.hok b _ d
          have z2 := un.keep b o' z1 (cut_in hb) (notfr b hb) (by simp)
          refine ⟨st _ _ z (fun x hx => ?_), ⟨o', z2⟩, st⟩
          rw [z1] at hx
          cases hx
          exact z2
        · rw [mend_out hb] at e
          refine (hok1 b o e).stay (fun c u _ q => q) (fun c q => ?_) fun c xs q => ?_
          · have hb' : c ∉ cellsOf F.nf fr := fun z => by
              rw [gone c z] at q
              cases q
            rw [mend_out hb']
            exact q
          · have hb' : c ∉ cellsOf F.nf fr := fun z => by
              rw [gone c z] at q
              cases q
            rw [mend_out hb']
            exact q
end
end Inf


set_option Elab.async false
set_option linter.all false
set_option maxRecDepth 100000
set_option maxHeartbeats 4000000
namespace Ob
open PySem PySem.Spec PyProof.Rows L2
/-! ### a def whose code object is named: it makes functions -/
structure FunT (K : PySem.W.Frag) (x qual : Str) (st : Stmt) (f : Addr) (fd : FuncData) (c : Addr) : Prop where
  ex : ∃ (oc : Value) (od : Option Addr) (kV doc pm : Value) (an : Option Addr) (ct : Value) (osl : Array (Option Value)),
    fd = PySem.W.fnOf x qual (defArgs st) (defBody st) (defScope st) .none kV doc pm an (.ref c) ct ∧ K.lookup f = some ⟨oc, od, .func fd, osl⟩ ∧ PySem.W.codeIn K (.ref c) qual = true
  kp : PySem.W.keepIn K (.ref f) = true
theorem FunT.ok {P : Program} {w : World} {K : PySem.W.Frag} {mg : Str → Option Value} {base : Heap} {x qual : Str} {st : Stmt} {f c : Addr} {fd : FuncData} {CX : CXT} {N ps : List Str} {k : Nat} {sp : Sp} (F : FunT K x qual st f fd c) (S : FnScope N ps (defScope st)) (len : ∀ vs H Q E, sp vs H Q E → vs.length = ps.length)
    (hbody : ∀ (A : Around) (outer : List Env) (s : Shared) (H : Hp) (vs : List V) (Q : VK) (E : XK), Room k (A.deeper (envOfC qual (defScope st) s.heap.objs.size f (.ref c))) → sp vs H Q E →
      ∃ t, PSs (cxOf CX P w K mg base N qual (defScope st) f (.ref c) A outer s H E) (defBody st) t ∧ t { nx := fun _ H' => Q .non H', rt := Q } (L2.start N vs) H) : FnOk P w K mg base CX (k + 1) f fd ps sp := by
  obtain ⟨oc, od, kV, doc, pm, an, ct, osl, rfl, lk, hcd⟩ := F.ex
  exact fn_of lk hcd S len fun A outer s H vs Q E hr hsp => hbody A outer s H vs Q E hr hsp
theorem FunT.okC {P : Program} {w : World} {K : PySem.W.Frag} {mg : Str → Option Value} {base : Heap} {x qual : Str} {st : Stmt} {f c : Addr} {fd : FuncData} {N ps : List Str} {k : Nat} {sp : Sp} (F : FunT K x qual st f fd c) (S : FnScope N ps (defScope st)) (len : ∀ vs H Q E, sp vs H Q E → vs.length = ps.length)
    (hbody : ∀ (A : Around) (outer : List Env) (s : Shared) (H : Hp) (vs : List V) (Q : VK) (E : XK), Room k (A.deeper (envOfC qual (defScope st) s.heap.objs.size f (.ref c))) → sp vs H Q E →
      ∃ t, Inf.PSsR (cxOf CX0 P w K mg base N qual (defScope st) f (.ref c) A outer s H E).nox (defBody st) t ∧
        t (fun σ v H' => ∀ H'', Inf.Fin (envOfC qual (defScope st) s.heap.objs.size f (.ref c)).cells (defScope st).names N σ H' H'' → Q v H'') (L2.start N vs) H) : FnOk P w K mg base CX0 (k + 1) f fd ps sp := by
  obtain ⟨oc, od, kV, doc, pm, an, ct, osl, rfl, lk, hcd⟩ := F.ex
  exact Inf.okC_of lk hcd S len hbody
theorem all_cons {α : Type} {P : α → Prop} {a : α} {l : List α} (h : P a) (t : ∀ x ∈ l, P x) : ∀ x ∈ a :: l, P x := fun x m => (List.mem_cons.mp m).elim (fun e => by rw [e]; exact h) (t x)

/-! ### the text -/
def topS (i : Nat) : Stmt := PySem.Challenge.pw_oncebuilt_k66_queues_without_members.main.body.getD i (.Pass ⟨0, 0, 0, 0⟩)
abbrev s_Calls_init : Stmt := inClass (topS 9) 0
abbrev n_Calls_init : List Str := ["self"]
theorem sc_Calls_init : FnScope n_Calls_init ["self"] (defScope s_Calls_init) := ⟨rfl, rfl, rfl, by decide +kernel, rfl, by decide +kernel, by decide +kernel⟩
abbrev s_Calls_check : Stmt := inClass (topS 9) 1
abbrev n_Calls_check : List Str := ["self"]
theorem sc_Calls_check : FnScope n_Calls_check ["self"] (defScope s_Calls_check) := ⟨rfl, rfl, rfl, by decide +kernel, rfl, by decide +kernel, by decide +kernel⟩
abbrev s_Calls_run : Stmt := inClass (topS 9) 2
abbrev n_Calls_run : List Str := ["self", "entry", "action", "values", "result"]
theorem sc_Calls_run : FnScope n_Calls_run ["self", "entry", "action", "values"] (defScope s_Calls_run) := ⟨rfl, rfl, rfl, by decide +kernel, rfl, by decide +kernel, by decide +kernel⟩
abbrev s_check_filled : Stmt := topS 11
abbrev n_check_filled : List Str := ["held"]
theorem sc_check_filled : FnScope n_check_filled ["held"] (defScope s_check_filled) := ⟨rfl, rfl, rfl, by decide +kernel, rfl, by decide +kernel, by decide +kernel⟩
abbrev s_oldest : Stmt := topS 12
abbrev n_oldest : List Str := ["held"]
theorem sc_oldest : FnScope n_oldest ["held"] (defScope s_oldest) := ⟨rfl, rfl, rfl, by decide +kernel, rfl, by decide +kernel, by decide +kernel⟩
abbrev s_without : Stmt := topS 13
abbrev n_without : List Str := ["held", "numbers", "member", "number"]
theorem sc_without : FnScope n_without ["held", "numbers"] (defScope s_without) := ⟨rfl, rfl, rfl, by decide +kernel, rfl, by decide +kernel, by decide +kernel⟩
abbrev s_Joiner_init : Stmt := inClass (topS 15) 0
abbrev n_Joiner_init : List Str := ["self", "calls", "join"]
theorem sc_Joiner_init : FnScope n_Joiner_init ["self", "calls", "join"] (defScope s_Joiner_init) := ⟨rfl, rfl, rfl, by decide +kernel, rfl, by decide +kernel, by decide +kernel⟩
abbrev s_Joiner_joined : Stmt := inClass (topS 15) 1
abbrev n_Joiner_joined : List Str := ["self", "one", "other", "value"]
theorem sc_Joiner_joined : FnScope n_Joiner_joined ["self", "one", "other"] (defScope s_Joiner_joined) := ⟨rfl, rfl, rfl, by decide +kernel, rfl, by decide +kernel, by decide +kernel⟩
abbrev s_Planner_init : Stmt := inClass (topS 16) 0
abbrev n_Planner_init : List Str := ["self"]
theorem sc_Planner_init : FnScope n_Planner_init ["self"] (defScope s_Planner_init) := ⟨rfl, rfl, rfl, by decide +kernel, rfl, by decide +kernel, by decide +kernel⟩
abbrev s_Planner_joined : Stmt := inClass (topS 16) 1
abbrev n_Planner_joined : List Str := ["self", "one", "other"]
theorem sc_Planner_joined : FnScope n_Planner_joined ["self", "one", "other"] (defScope s_Planner_joined) := ⟨rfl, rfl, rfl, by decide +kernel, rfl, by decide +kernel, by decide +kernel⟩
abbrev s_join_entry : Stmt := topS 17
abbrev n_join_entry : List Str := ["one", "other"]
theorem sc_join_entry : FnScope n_join_entry ["one", "other"] (defScope s_join_entry) := ⟨rfl, rfl, rfl, by decide +kernel, rfl, by decide +kernel, by decide +kernel⟩
abbrev s_single : Stmt := topS 18
abbrev n_single : List Str := ["number", "member"]
theorem sc_single : FnScope n_single ["number", "member"] (defScope s_single) := ⟨rfl, rfl, rfl, by decide +kernel, rfl, by decide +kernel, by decide +kernel⟩
abbrev s_span_length : Stmt := topS 19
abbrev n_span_length : List Str := ["span"]
theorem sc_span_length : FnScope n_span_length ["span"] (defScope s_span_length) := ⟨rfl, rfl, rfl, by decide +kernel, rfl, by decide +kernel, by decide +kernel⟩
abbrev s_extended : Stmt := topS 20
abbrev n_extended : List Str := ["joiner", "span", "number", "member"]
theorem sc_extended : FnScope n_extended ["joiner", "span", "number", "member"] (defScope s_extended) := ⟨rfl, rfl, rfl, by decide +kernel, rfl, by decide +kernel, by decide +kernel⟩
abbrev s_deepened : Stmt := topS 21
abbrev n_deepened : List Str := ["joiner", "spans", "number", "member", "alone"]
theorem sc_deepened : FnScope n_deepened ["joiner", "spans", "number", "member"] (defScope s_deepened) := ⟨rfl, rfl, rfl, by decide +kernel, rfl, by decide +kernel, by decide +kernel⟩
abbrev s_all_spans : Stmt := topS 22
abbrev n_all_spans : List Str := ["joiner", "held", "spans", "number", "member"]
theorem sc_all_spans : FnScope n_all_spans ["joiner", "held"] (defScope s_all_spans) := ⟨rfl, rfl, rfl, by decide +kernel, rfl, by decide +kernel, by decide +kernel⟩
abbrev s_whole_span : Stmt := topS 23
abbrev n_whole_span : List Str := ["joiner", "spans", "whole", "span"]
theorem sc_whole_span : FnScope n_whole_span ["joiner", "spans"] (defScope s_whole_span) := ⟨rfl, rfl, rfl, by decide +kernel, rfl, by decide +kernel, by decide +kernel⟩
abbrev s_TwoStacks_init : Stmt := inClass (topS 25) 1
abbrev n_TwoStacks_init : List Str := ["self", "join", "zero"]
theorem sc_TwoStacks_init : FnScope n_TwoStacks_init ["self", "join", "zero"] (defScope s_TwoStacks_init) := ⟨rfl, rfl, rfl, by decide +kernel, rfl, by decide +kernel, by decide +kernel⟩
abbrev s_TwoStacks_add : Stmt := inClass (topS 25) 2
abbrev n_TwoStacks_add : List Str := ["self", "member", "number"]
theorem sc_TwoStacks_add : FnScope n_TwoStacks_add ["self", "member"] (defScope s_TwoStacks_add) := ⟨rfl, rfl, rfl, by decide +kernel, rfl, by decide +kernel, by decide +kernel⟩
abbrev s_TwoStacks_remove_oldest : Stmt := inClass (topS 25) 3
abbrev n_TwoStacks_remove_oldest : List Str := ["self", "number"]
theorem sc_TwoStacks_remove_oldest : FnScope n_TwoStacks_remove_oldest ["self"] (defScope s_TwoStacks_remove_oldest) := ⟨rfl, rfl, rfl, by decide +kernel, rfl, by decide +kernel, by decide +kernel⟩
abbrev s_TwoStacks_total : Stmt := inClass (topS 25) 4
abbrev n_TwoStacks_total : List Str := ["self"]
theorem sc_TwoStacks_total : FnScope n_TwoStacks_total ["self"] (defScope s_TwoStacks_total) := ⟨rfl, rfl, rfl, by decide +kernel, rfl, by decide +kernel, by decide +kernel⟩
abbrev s_TwoStacks_members : Stmt := inClass (topS 25) 5
abbrev n_TwoStacks_members : List Str := ["self"]
theorem sc_TwoStacks_members : FnScope n_TwoStacks_members ["self"] (defScope s_TwoStacks_members) := ⟨rfl, rfl, rfl, by decide +kernel, rfl, by decide +kernel, by decide +kernel⟩
abbrev s_TwoStacks_numbers : Stmt := inClass (topS 25) 7
abbrev n_TwoStacks_numbers : List Str := ["self"]
theorem sc_TwoStacks_numbers : FnScope n_TwoStacks_numbers ["self"] (defScope s_TwoStacks_numbers) := ⟨rfl, rfl, rfl, by decide +kernel, rfl, by decide +kernel, by decide +kernel⟩
abbrev s_TwoStacks_plan_add : Stmt := inClass (topS 25) 8
abbrev n_TwoStacks_plan_add : List Str := ["self", "planner"]
theorem sc_TwoStacks_plan_add : FnScope n_TwoStacks_plan_add ["self"] (defScope s_TwoStacks_plan_add) := ⟨rfl, rfl, rfl, by decide +kernel, rfl, by decide +kernel, by decide +kernel⟩
abbrev s_TwoStacks_plan_remove : Stmt := inClass (topS 25) 9
abbrev n_TwoStacks_plan_remove : List Str := ["self", "planner"]
theorem sc_TwoStacks_plan_remove : FnScope n_TwoStacks_plan_remove ["self"] (defScope s_TwoStacks_plan_remove) := ⟨rfl, rfl, rfl, by decide +kernel, rfl, by decide +kernel, by decide +kernel⟩
abbrev s_TwoStacks_plan_total : Stmt := inClass (topS 25) 10
abbrev n_TwoStacks_plan_total : List Str := ["self", "planner"]
theorem sc_TwoStacks_plan_total : FnScope n_TwoStacks_plan_total ["self"] (defScope s_TwoStacks_plan_total) := ⟨rfl, rfl, rfl, by decide +kernel, rfl, by decide +kernel, by decide +kernel⟩
abbrev s_TwoStacks_log : Stmt := inClass (topS 25) 11
abbrev n_TwoStacks_log : List Str := ["self"]
theorem sc_TwoStacks_log : FnScope n_TwoStacks_log ["self"] (defScope s_TwoStacks_log) := ⟨rfl, rfl, rfl, by decide +kernel, rfl, by decide +kernel, by decide +kernel⟩
abbrev s_TwoStacks_len : Stmt := inClass (topS 25) 12
abbrev n_TwoStacks_len : List Str := ["self"]
theorem sc_TwoStacks_len : FnScope n_TwoStacks_len ["self"] (defScope s_TwoStacks_len) := ⟨rfl, rfl, rfl, by decide +kernel, rfl, by decide +kernel, by decide +kernel⟩
abbrev s_EvenSums_init : Stmt := inClass (topS 26) 1
abbrev n_EvenSums_init : List Str := ["self", "join", "zero"]
theorem sc_EvenSums_init : FnScope n_EvenSums_init ["self", "join", "zero"] (defScope s_EvenSums_init) := ⟨rfl, rfl, rfl, by decide +kernel, rfl, by decide +kernel, by decide +kernel⟩
abbrev s_EvenSums_add : Stmt := inClass (topS 26) 2
abbrev n_EvenSums_add : List Str := ["self", "member", "number", "held"]
theorem sc_EvenSums_add : FnScope n_EvenSums_add ["self", "member"] (defScope s_EvenSums_add) := ⟨rfl, rfl, rfl, by decide +kernel, rfl, by decide +kernel, by decide +kernel⟩
abbrev s_EvenSums_remove_oldest : Stmt := inClass (topS 26) 3
abbrev n_EvenSums_remove_oldest : List Str := ["self", "number", "held"]
theorem sc_EvenSums_remove_oldest : FnScope n_EvenSums_remove_oldest ["self"] (defScope s_EvenSums_remove_oldest) := ⟨rfl, rfl, rfl, by decide +kernel, rfl, by decide +kernel, by decide +kernel⟩
abbrev s_EvenSums_total : Stmt := inClass (topS 26) 4
abbrev n_EvenSums_total : List Str := ["self"]
theorem sc_EvenSums_total : FnScope n_EvenSums_total ["self"] (defScope s_EvenSums_total) := ⟨rfl, rfl, rfl, by decide +kernel, rfl, by decide +kernel, by decide +kernel⟩
abbrev s_EvenSums_members : Stmt := inClass (topS 26) 5
abbrev n_EvenSums_members : List Str := ["self"]
theorem sc_EvenSums_members : FnScope n_EvenSums_members ["self"] (defScope s_EvenSums_members) := ⟨rfl, rfl, rfl, by decide +kernel, rfl, by decide +kernel, by decide +kernel⟩
abbrev s_EvenSums_numbers : Stmt := inClass (topS 26) 7
abbrev n_EvenSums_numbers : List Str := ["self"]
theorem sc_EvenSums_numbers : FnScope n_EvenSums_numbers ["self"] (defScope s_EvenSums_numbers) := ⟨rfl, rfl, rfl, by decide +kernel, rfl, by decide +kernel, by decide +kernel⟩
abbrev s_EvenSums_plan_add : Stmt := inClass (topS 26) 8
abbrev n_EvenSums_plan_add : List Str := ["self", "planner"]
theorem sc_EvenSums_plan_add : FnScope n_EvenSums_plan_add ["self"] (defScope s_EvenSums_plan_add) := ⟨rfl, rfl, rfl, by decide +kernel, rfl, by decide +kernel, by decide +kernel⟩
abbrev s_EvenSums_plan_remove : Stmt := inClass (topS 26) 9
abbrev n_EvenSums_plan_remove : List Str := ["self", "planner"]
theorem sc_EvenSums_plan_remove : FnScope n_EvenSums_plan_remove ["self"] (defScope s_EvenSums_plan_remove) := ⟨rfl, rfl, rfl, by decide +kernel, rfl, by decide +kernel, by decide +kernel⟩
abbrev s_EvenSums_plan_total : Stmt := inClass (topS 26) 10
abbrev n_EvenSums_plan_total : List Str := ["self", "planner"]
theorem sc_EvenSums_plan_total : FnScope n_EvenSums_plan_total ["self"] (defScope s_EvenSums_plan_total) := ⟨rfl, rfl, rfl, by decide +kernel, rfl, by decide +kernel, by decide +kernel⟩
abbrev s_EvenSums_log : Stmt := inClass (topS 26) 11
abbrev n_EvenSums_log : List Str := ["self"]
theorem sc_EvenSums_log : FnScope n_EvenSums_log ["self"] (defScope s_EvenSums_log) := ⟨rfl, rfl, rfl, by decide +kernel, rfl, by decide +kernel, by decide +kernel⟩
abbrev s_EvenSums_len : Stmt := inClass (topS 26) 12
abbrev n_EvenSums_len : List Str := ["self"]
theorem sc_EvenSums_len : FnScope n_EvenSums_len ["self"] (defScope s_EvenSums_len) := ⟨rfl, rfl, rfl, by decide +kernel, rfl, by decide +kernel, by decide +kernel⟩
abbrev s_Shape_init : Stmt := inClass (topS 27) 0
abbrev n_Shape_init : List Str := ["self", "front", "back", "late", "renewed"]
theorem sc_Shape_init : FnScope n_Shape_init ["self", "front", "back", "late", "renewed"] (defScope s_Shape_init) := ⟨rfl, rfl, rfl, by decide +kernel, rfl, by decide +kernel, by decide +kernel⟩
abbrev s_shape_after_addition : Stmt := topS 28
abbrev n_shape_after_addition : List Str := ["joiner", "shape", "held", "number", "back", "late"]
theorem sc_shape_after_addition : FnScope n_shape_after_addition ["joiner", "shape", "held", "number"] (defScope s_shape_after_addition) := ⟨rfl, rfl, rfl, by decide +kernel, rfl, by decide +kernel, by decide +kernel⟩
abbrev s_shape_after_removal : Stmt := topS 29
abbrev n_shape_after_removal : List Str := ["joiner", "shape", "held"]
theorem sc_shape_after_removal : FnScope n_shape_after_removal ["joiner", "shape", "held"] (defScope s_shape_after_removal) := ⟨rfl, rfl, rfl, by decide +kernel, rfl, by decide +kernel, by decide +kernel⟩
abbrev s_worked_shape : Stmt := topS 30
abbrev n_worked_shape : List Str := ["joiner", "shape", "held", "renewed", "number"]
theorem sc_worked_shape : FnScope n_worked_shape ["joiner", "shape", "held"] (defScope s_worked_shape) := ⟨rfl, rfl, rfl, by decide +kernel, rfl, by decide +kernel, by decide +kernel⟩
abbrev s_reaches : Stmt := topS 31
abbrev n_reaches : List Str := ["renewed", "number"]
theorem sc_reaches : FnScope n_reaches ["renewed", "number"] (defScope s_reaches) := ⟨rfl, rfl, rfl, by decide +kernel, rfl, by decide +kernel, by decide +kernel⟩
abbrev s_shape_spans : Stmt := topS 32
abbrev n_shape_spans : List Str := ["shape"]
theorem sc_shape_spans : FnScope n_shape_spans ["shape"] (defScope s_shape_spans) := ⟨rfl, rfl, rfl, by decide +kernel, rfl, by decide +kernel, by decide +kernel⟩
abbrev s_filled_spans : Stmt := topS 33
abbrev n_filled_spans : List Str := ["front", "backs", "span"]
theorem sc_filled_spans : FnScope n_filled_spans ["front", "backs"] (defScope s_filled_spans) := ⟨rfl, rfl, rfl, by decide +kernel, rfl, by decide +kernel, by decide +kernel⟩
abbrev s_l_bag : Stmt := topS 35
abbrev n_l_bag : List Str := ["_law_script", "_law_at", "_law_cell", "_law_great", "_law_primes"]
theorem sc_l_bag : FnScope n_l_bag ["_law_script", "_law_at"] (defScope s_l_bag) := ⟨rfl, rfl, rfl, by decide +kernel, rfl, by decide +kernel, by decide +kernel⟩
abbrev s_l_take : Stmt := topS 36
abbrev n_l_take : List Str := ["_law_bag_here", "_law_many", "_law_digit"]
theorem sc_l_take : FnScope n_l_take ["_law_bag_here", "_law_many"] (defScope s_l_take) := ⟨rfl, rfl, rfl, by decide +kernel, rfl, by decide +kernel, by decide +kernel⟩
abbrev s_l_queue : Stmt := topS 37
abbrev n_l_queue : List Str := ["_law_form", "_law_call", "_law_empty_here"]
theorem sc_l_queue : FnScope n_l_queue ["_law_form", "_law_call", "_law_empty_here"] (defScope s_l_queue) := ⟨rfl, rfl, rfl, by decide +kernel, rfl, by decide +kernel, by decide +kernel⟩
abbrev s_l_empty : Stmt := topS 38
abbrev n_l_empty : List Str := ["_law_deed", "e"]
theorem sc_l_empty : FnScope n_l_empty ["_law_deed"] (defScope s_l_empty) := ⟨rfl, rfl, rfl, by decide +kernel, rfl, by decide +kernel, by decide +kernel⟩
abbrev s_l_bare_right : Stmt := topS 39
abbrev n_l_bare_right : List Str := ["_law_queue_here", "_law_empty_here", "_law_log", "_law_total"]
theorem sc_l_bare_right : FnScope n_l_bare_right ["_law_queue_here", "_law_empty_here", "_law_log"] (defScope s_l_bare_right) := ⟨rfl, rfl, rfl, by decide +kernel, rfl, by decide +kernel, by decide +kernel⟩
abbrev s_law : Stmt := topS 40
abbrev n_law : List Str := ["_law_script", "_law_at", "_law_bag_here", "_law_form", "_law_empty_here", "_law_number", "_law_queue_here", "_law_other", "_law_turn", "_law_many", "_law_k", "_law_thing"]
theorem sc_law : FnScope n_law ["_law_script"] (defScope s_law) := ⟨rfl, rfl, rfl, by decide +kernel, rfl, by decide +kernel, by decide +kernel⟩
structure Txt (K : PySem.W.Frag) (mg : Str → Option Value) where
  C_Calls : Addr
  gc_Calls : mg "Calls" = some (.ref C_Calls)
  C_Joiner : Addr
  gc_Joiner : mg "Joiner" = some (.ref C_Joiner)
  C_Planner : Addr
  gc_Planner : mg "Planner" = some (.ref C_Planner)
  C_EvenSums : Addr
  gc_EvenSums : mg "EvenSums" = some (.ref C_EvenSums)
  C_Shape : Addr
  gc_Shape : mg "Shape" = some (.ref C_Shape)
  C_TwoStacks : Addr
  gc_TwoStacks : mg "TwoStacks" = some (.ref C_TwoStacks)
  f_Calls_init : Addr
  d_Calls_init : FuncData
  -- 
  F_Calls_init : Fun K "__init__" "Calls.__init__" s_Calls_init f_Calls_init d_Calls_init
  b_Calls_init : Binds K d_Calls_init ["self"] []
  m_Calls_init : PySem.W.findIn K (.ref C_Calls) "__init__" = some (some (.ref f_Calls_init))
  t_Calls_init : PySem.W.isFn K (.ref f_Calls_init) = true
  y_Calls_init : PySem.W.typeIn K (.ref f_Calls_init) = some (.type "function")
  k_Calls_init : PySem.W.keepIn K (.ref f_Calls_init) = true
  f_Calls_check : Addr
  d_Calls_check : FuncData
  -- 
  F_Calls_check : Fun K "check" "Calls.check" s_Calls_check f_Calls_check d_Calls_check
  b_Calls_check : Binds K d_Calls_check ["self"] []
  m_Calls_check : PySem.W.findIn K (.ref C_Calls) "check" = some (some (.ref f_Calls_check))
  t_Calls_check : PySem.W.isFn K (.ref f_Calls_check) = true
  y_Calls_check : PySem.W.typeIn K (.ref f_Calls_check) = some (.type "function")
  k_Calls_check : PySem.W.keepIn K (.ref f_Calls_check) = true
  f_Calls_run : Addr
  d_Calls_run : FuncData
  -- 
  F_Calls_run : Fun K "run" "Calls.run" s_Calls_run f_Calls_run d_Calls_run
  m_Calls_run : PySem.W.findIn K (.ref C_Calls) "run" = some (some (.ref f_Calls_run))
  t_Calls_run : PySem.W.isFn K (.ref f_Calls_run) = true
  y_Calls_run : PySem.W.typeIn K (.ref f_Calls_run) = some (.type "function")
  k_Calls_run : PySem.W.keepIn K (.ref f_Calls_run) = true
  f_Joiner_init : Addr
  d_Joiner_init : FuncData
  -- 
  F_Joiner_init : Fun K "__init__" "Joiner.__init__" s_Joiner_init f_Joiner_init d_Joiner_init
  b_Joiner_init : Binds K d_Joiner_init ["self", "calls", "join"] []
  m_Joiner_init : PySem.W.findIn K (.ref C_Joiner) "__init__" = some (some (.ref f_Joiner_init))
  t_Joiner_init : PySem.W.isFn K (.ref f_Joiner_init) = true
  y_Joiner_init : PySem.W.typeIn K (.ref f_Joiner_init) = some (.type "function")
  k_Joiner_init : PySem.W.keepIn K (.ref f_Joiner_init) = true
  f_Joiner_joined : Addr
  d_Joiner_joined : FuncData
  -- 
  F_Joiner_joined : Fun K "joined" "Joiner.joined" s_Joiner_joined f_Joiner_joined d_Joiner_joined
  b_Joiner_joined : Binds K d_Joiner_joined ["self", "one", "other"] []
  m_Joiner_joined : PySem.W.findIn K (.ref C_Joiner) "joined" = some (some (.ref f_Joiner_joined))
  t_Joiner_joined : PySem.W.isFn K (.ref f_Joiner_joined) = true
  y_Joiner_joined : PySem.W.typeIn K (.ref f_Joiner_joined) = some (.type "function")
  k_Joiner_joined : PySem.W.keepIn K (.ref f_Joiner_joined) = true
  f_Planner_init : Addr
  d_Planner_init : FuncData
  -- 
  F_Planner_init : Fun K "__init__" "Planner.__init__" s_Planner_init f_Planner_init d_Planner_init
  b_Planner_init : Binds K d_Planner_init ["self"] []
  m_Planner_init : PySem.W.findIn K (.ref C_Planner) "__init__" = some (some (.ref f_Planner_init))
  t_Planner_init : PySem.W.isFn K (.ref f_Planner_init) = true
  y_Planner_init : PySem.W.typeIn K (.ref f_Planner_init) = some (.type "function")
  k_Planner_init : PySem.W.keepIn K (.ref f_Planner_init) = true
  f_Planner_joined : Addr
  d_Planner_joined : FuncData
  -- 
  F_Planner_joined : Fun K "joined" "Planner.joined" s_Planner_joined f_Planner_joined d_Planner_joined
  b_Planner_joined : Binds K d_Planner_joined ["self", "one", "other"] []
  m_Planner_joined : PySem.W.findIn K (.ref C_Planner) "joined" = some (some (.ref f_Planner_joined))
  t_Planner_joined : PySem.W.isFn K (.ref f_Planner_joined) = true
  y_Planner_joined : PySem.W.typeIn K (.ref f_Planner_joined) = some (.type "function")
  k_Planner_joined : PySem.W.keepIn K (.ref f_Planner_joined) = true
  f_TwoStacks_init : Addr
  d_TwoStacks_init : FuncData
  -- 
  F_TwoStacks_init : FunD K "__init__" "TwoStacks.__init__" (defArgs s_TwoStacks_init) (defBody s_TwoStacks_init) (defScope s_TwoStacks_init) [] [("zero", V.non)] f_TwoStacks_init d_TwoStacks_init
  m_TwoStacks_init : PySem.W.findIn K (.ref C_TwoStacks) "__init__" = some (some (.ref f_TwoStacks_init))
  t_TwoStacks_init : PySem.W.isFn K (.ref f_TwoStacks_init) = true
  y_TwoStacks_init : PySem.W.typeIn K (.ref f_TwoStacks_init) = some (.type "function")
  k_TwoStacks_init : PySem.W.keepIn K (.ref f_TwoStacks_init) = true
  f_TwoStacks_add : Addr
  d_TwoStacks_add : FuncData
  -- 
  F_TwoStacks_add : Fun K "add" "TwoStacks.add" s_TwoStacks_add f_TwoStacks_add d_TwoStacks_add
  b_TwoStacks_add : Binds K d_TwoStacks_add ["self", "member"] []
  m_TwoStacks_add : PySem.W.findIn K (.ref C_TwoStacks) "add" = some (some (.ref f_TwoStacks_add))
  t_TwoStacks_add : PySem.W.isFn K (.ref f_TwoStacks_add) = true
  y_TwoStacks_add : PySem.W.typeIn K (.ref f_TwoStacks_add) = some (.type "function")
  k_TwoStacks_add : PySem.W.keepIn K (.ref f_TwoStacks_add) = true
  f_TwoStacks_remove_oldest : Addr
  d_TwoStacks_remove_oldest : FuncData
  -- 
  F_TwoStacks_remove_oldest : Fun K "remove_oldest" "TwoStacks.remove_oldest" s_TwoStacks_remove_oldest f_TwoStacks_remove_oldest d_TwoStacks_remove_oldest
  b_TwoStacks_remove_oldest : Binds K d_TwoStacks_remove_oldest ["self"] []
  m_TwoStacks_remove_oldest : PySem.W.findIn K (.ref C_TwoStacks) "remove_oldest" = some (some (.ref f_TwoStacks_remove_oldest))
  t_TwoStacks_remove_oldest : PySem.W.isFn K (.ref f_TwoStacks_remove_oldest) = true
  y_TwoStacks_remove_oldest : PySem.W.typeIn K (.ref f_TwoStacks_remove_oldest) = some (.type "function")
  k_TwoStacks_remove_oldest : PySem.W.keepIn K (.ref f_TwoStacks_remove_oldest) = true
  f_TwoStacks_total : Addr
  d_TwoStacks_total : FuncData
  -- 
  F_TwoStacks_total : Fun K "total" "TwoStacks.total" s_TwoStacks_total f_TwoStacks_total d_TwoStacks_total
  b_TwoStacks_total : Binds K d_TwoStacks_total ["self"] []
  m_TwoStacks_total : PySem.W.findIn K (.ref C_TwoStacks) "total" = some (some (.ref f_TwoStacks_total))
  t_TwoStacks_total : PySem.W.isFn K (.ref f_TwoStacks_total) = true
  y_TwoStacks_total : PySem.W.typeIn K (.ref f_TwoStacks_total) = some (.type "function")
  k_TwoStacks_total : PySem.W.keepIn K (.ref f_TwoStacks_total) = true
  f_TwoStacks_members : Addr
  d_TwoStacks_members : FuncData
  -- 
  F_TwoStacks_members : Fun K "members" "TwoStacks.members" s_TwoStacks_members f_TwoStacks_members d_TwoStacks_members
  b_TwoStacks_members : Binds K d_TwoStacks_members ["self"] []
  m_TwoStacks_members : PySem.W.findIn K (.ref C_TwoStacks) "members" = some (some (.ref f_TwoStacks_members))
  t_TwoStacks_members : PySem.W.isFn K (.ref f_TwoStacks_members) = true
  y_TwoStacks_members : PySem.W.typeIn K (.ref f_TwoStacks_members) = some (.type "function")
  k_TwoStacks_members : PySem.W.keepIn K (.ref f_TwoStacks_members) = true
  f_TwoStacks_numbers : Addr
  d_TwoStacks_numbers : FuncData
  -- 
  F_TwoStacks_numbers : Fun K "numbers" "TwoStacks.numbers" s_TwoStacks_numbers f_TwoStacks_numbers d_TwoStacks_numbers
  b_TwoStacks_numbers : Binds K d_TwoStacks_numbers ["self"] []
  m_TwoStacks_numbers : PySem.W.findIn K (.ref C_TwoStacks) "numbers" = some (some (.ref f_TwoStacks_numbers))
  t_TwoStacks_numbers : PySem.W.isFn K (.ref f_TwoStacks_numbers) = true
  y_TwoStacks_numbers : PySem.W.typeIn K (.ref f_TwoStacks_numbers) = some (.type "function")
  k_TwoStacks_numbers : PySem.W.keepIn K (.ref f_TwoStacks_numbers) = true
  f_TwoStacks_plan_add : Addr
  d_TwoStacks_plan_add : FuncData
  -- 
  F_TwoStacks_plan_add : Fun K "plan_add" "TwoStacks.plan_add" s_TwoStacks_plan_add f_TwoStacks_plan_add d_TwoStacks_plan_add
  b_TwoStacks_plan_add : Binds K d_TwoStacks_plan_add ["self"] []
  m_TwoStacks_plan_add : PySem.W.findIn K (.ref C_TwoStacks) "plan_add" = some (some (.ref f_TwoStacks_plan_add))
  t_TwoStacks_plan_add : PySem.W.isFn K (.ref f_TwoStacks_plan_add) = true
  y_TwoStacks_plan_add : PySem.W.typeIn K (.ref f_TwoStacks_plan_add) = some (.type "function")
  k_TwoStacks_plan_add : PySem.W.keepIn K (.ref f_TwoStacks_plan_add) = true
  f_TwoStacks_plan_remove : Addr
  d_TwoStacks_plan_remove : FuncData
  -- 
  F_TwoStacks_plan_remove : Fun K "plan_remove" "TwoStacks.plan_remove" s_TwoStacks_plan_remove f_TwoStacks_plan_remove d_TwoStacks_plan_remove
  b_TwoStacks_plan_remove : Binds K d_TwoStacks_plan_remove ["self"] []
  m_TwoStacks_plan_remove : PySem.W.findIn K (.ref C_TwoStacks) "plan_remove" = some (some (.ref f_TwoStacks_plan_remove))
  t_TwoStacks_plan_remove : PySem.W.isFn K (.ref f_TwoStacks_plan_remove) = true
  y_TwoStacks_plan_remove : PySem.W.typeIn K (.ref f_TwoStacks_plan_remove) = some (.type "function")
  k_TwoStacks_plan_remove : PySem.W.keepIn K (.ref f_TwoStacks_plan_remove) = true
  f_TwoStacks_plan_total : Addr
  d_TwoStacks_plan_total : FuncData
  -- 
  F_TwoStacks_plan_total : Fun K "plan_total" "TwoStacks.plan_total" s_TwoStacks_plan_total f_TwoStacks_plan_total d_TwoStacks_plan_total
  b_TwoStacks_plan_total : Binds K d_TwoStacks_plan_total ["self"] []
  m_TwoStacks_plan_total : PySem.W.findIn K (.ref C_TwoStacks) "plan_total" = some (some (.ref f_TwoStacks_plan_total))
  t_TwoStacks_plan_total : PySem.W.isFn K (.ref f_TwoStacks_plan_total) = true
  y_TwoStacks_plan_total : PySem.W.typeIn K (.ref f_TwoStacks_plan_total) = some (.type "function")
  k_TwoStacks_plan_total : PySem.W.keepIn K (.ref f_TwoStacks_plan_total) = true
  f_TwoStacks_log : Addr
  d_TwoStacks_log : FuncData
  -- 
  F_TwoStacks_log : Fun K "log" "TwoStacks.log" s_TwoStacks_log f_TwoStacks_log d_TwoStacks_log
  b_TwoStacks_log : Binds K d_TwoStacks_log ["self"] []
  m_TwoStacks_log : PySem.W.findIn K (.ref C_TwoStacks) "log" = some (some (.ref f_TwoStacks_log))
  t_TwoStacks_log : PySem.W.isFn K (.ref f_TwoStacks_log) = true
  y_TwoStacks_log : PySem.W.typeIn K (.ref f_TwoStacks_log) = some (.type "function")
  k_TwoStacks_log : PySem.W.keepIn K (.ref f_TwoStacks_log) = true
  f_TwoStacks_len : Addr
  d_TwoStacks_len : FuncData
  -- 
  F_TwoStacks_len : Fun K "__len__" "TwoStacks.__len__" s_TwoStacks_len f_TwoStacks_len d_TwoStacks_len
  b_TwoStacks_len : Binds K d_TwoStacks_len ["self"] []
  m_TwoStacks_len : PySem.W.findIn K (.ref C_TwoStacks) "__len__" = some (some (.ref f_TwoStacks_len))
  t_TwoStacks_len : PySem.W.isFn K (.ref f_TwoStacks_len) = true
  y_TwoStacks_len : PySem.W.typeIn K (.ref f_TwoStacks_len) = some (.type "function")
  k_TwoStacks_len : PySem.W.keepIn K (.ref f_TwoStacks_len) = true
  f_EvenSums_init : Addr
  d_EvenSums_init : FuncData
  -- 
  F_EvenSums_init : FunD K "__init__" "EvenSums.__init__" (defArgs s_EvenSums_init) (defBody s_EvenSums_init) (defScope s_EvenSums_init) [] [("zero", V.non)] f_EvenSums_init d_EvenSums_init
  m_EvenSums_init : PySem.W.findIn K (.ref C_EvenSums) "__init__" = some (some (.ref f_EvenSums_init))
  t_EvenSums_init : PySem.W.isFn K (.ref f_EvenSums_init) = true
  y_EvenSums_init : PySem.W.typeIn K (.ref f_EvenSums_init) = some (.type "function")
  k_EvenSums_init : PySem.W.keepIn K (.ref f_EvenSums_init) = true
  f_EvenSums_add : Addr
  d_EvenSums_add : FuncData
  -- 
  F_EvenSums_add : Fun K "add" "EvenSums.add" s_EvenSums_add f_EvenSums_add d_EvenSums_add
  b_EvenSums_add : Binds K d_EvenSums_add ["self", "member"] []
  m_EvenSums_add : PySem.W.findIn K (.ref C_EvenSums) "add" = some (some (.ref f_EvenSums_add))
  t_EvenSums_add : PySem.W.isFn K (.ref f_EvenSums_add) = true
  y_EvenSums_add : PySem.W.typeIn K (.ref f_EvenSums_add) = some (.type "function")
  k_EvenSums_add : PySem.W.keepIn K (.ref f_EvenSums_add) = true
  f_EvenSums_remove_oldest : Addr
  d_EvenSums_remove_oldest : FuncData
  -- 
  F_EvenSums_remove_oldest : Fun K "remove_oldest" "EvenSums.remove_oldest" s_EvenSums_remove_oldest f_EvenSums_remove_oldest d_EvenSums_remove_oldest
  b_EvenSums_remove_oldest : Binds K d_EvenSums_remove_oldest ["self"] []
  m_EvenSums_remove_oldest : PySem.W.findIn K (.ref C_EvenSums) "remove_oldest" = some (some (.ref f_EvenSums_remove_oldest))
  t_EvenSums_remove_oldest : PySem.W.isFn K (.ref f_EvenSums_remove_oldest) = true
  y_EvenSums_remove_oldest : PySem.W.typeIn K (.ref f_EvenSums_remove_oldest) = some (.type "function")
  k_EvenSums_remove_oldest : PySem.W.keepIn K (.ref f_EvenSums_remove_oldest) = true
  f_EvenSums_total : Addr
  d_EvenSums_total : FuncData
  -- 
  F_EvenSums_total : Fun K "total" "EvenSums.total" s_EvenSums_total f_EvenSums_total d_EvenSums_total
  b_EvenSums_total : Binds K d_EvenSums_total ["self"] []
  m_EvenSums_total : PySem.W.findIn K (.ref C_EvenSums) "total" = some (some (.ref f_EvenSums_total))
  t_EvenSums_total : PySem.W.isFn K (.ref f_EvenSums_total) = true
  y_EvenSums_total : PySem.W.typeIn K (.ref f_EvenSums_total) = some (.type "function")
  k_EvenSums_total : PySem.W.keepIn K (.ref f_EvenSums_total) = true
  f_EvenSums_members : Addr
  d_EvenSums_members : FuncData
  -- 
  F_EvenSums_members : Fun K "members" "EvenSums.members" s_EvenSums_members f_EvenSums_members d_EvenSums_members
  b_EvenSums_members : Binds K d_EvenSums_members ["self"] []
  m_EvenSums_members : PySem.W.findIn K (.ref C_EvenSums) "members" = some (some (.ref f_EvenSums_members))
  t_EvenSums_members : PySem.W.isFn K (.ref f_EvenSums_members) = true
  y_EvenSums_members : PySem.W.typeIn K (.ref f_EvenSums_members) = some (.type "function")
  k_EvenSums_members : PySem.W.keepIn K (.ref f_EvenSums_members) = true
  f_EvenSums_numbers : Addr
  d_EvenSums_numbers : FuncData
  -- 
  F_EvenSums_numbers : Fun K "numbers" "EvenSums.numbers" s_EvenSums_numbers f_EvenSums_numbers d_EvenSums_numbers
  b_EvenSums_numbers : Binds K d_EvenSums_numbers ["self"] []
  m_EvenSums_numbers : PySem.W.findIn K (.ref C_EvenSums) "numbers" = some (some (.ref f_EvenSums_numbers))
  t_EvenSums_numbers : PySem.W.isFn K (.ref f_EvenSums_numbers) = true
  y_EvenSums_numbers : PySem.W.typeIn K (.ref f_EvenSums_numbers) = some (.type "function")
  k_EvenSums_numbers : PySem.W.keepIn K (.ref f_EvenSums_numbers) = true
  f_EvenSums_plan_add : Addr
  d_EvenSums_plan_add : FuncData
  -- 
  F_EvenSums_plan_add : Fun K "plan_add" "EvenSums.plan_add" s_EvenSums_plan_add f_EvenSums_plan_add d_EvenSums_plan_add
  b_EvenSums_plan_add : Binds K d_EvenSums_plan_add ["self"] []
  m_EvenSums_plan_add : PySem.W.findIn K (.ref C_EvenSums) "plan_add" = some (some (.ref f_EvenSums_plan_add))
  t_EvenSums_plan_add : PySem.W.isFn K (.ref f_EvenSums_plan_add) = true
  y_EvenSums_plan_add : PySem.W.typeIn K (.ref f_EvenSums_plan_add) = some (.type "function")
  k_EvenSums_plan_add : PySem.W.keepIn K (.ref f_EvenSums_plan_add) = true
  f_EvenSums_plan_remove : Addr
  d_EvenSums_plan_remove : FuncData
  -- 
  F_EvenSums_plan_remove : Fun K "plan_remove" "EvenSums.plan_remove" s_EvenSums_plan_remove f_EvenSums_plan_remove d_EvenSums_plan_remove
  b_EvenSums_plan_remove : Binds K d_EvenSums_plan_remove ["self"] []
  m_EvenSums_plan_remove : PySem.W.findIn K (.ref C_EvenSums) "plan_remove" = some (some (.ref f_EvenSums_plan_remove))
  t_EvenSums_plan_remove : PySem.W.isFn K (.ref f_EvenSums_plan_remove) = true
  y_EvenSums_plan_remove : PySem.W.typeIn K (.ref f_EvenSums_plan_remove) = some (.type "function")
  k_EvenSums_plan_remove : PySem.W.keepIn K (.ref f_EvenSums_plan_remove) = true
  f_EvenSums_plan_total : Addr
  d_EvenSums_plan_total : FuncData
  -- 
  F_EvenSums_plan_total : Fun K "plan_total" "EvenSums.plan_total" s_EvenSums_plan_total f_EvenSums_plan_total d_EvenSums_plan_total
  b_EvenSums_plan_total : Binds K d_EvenSums_plan_total ["self"] []
  m_EvenSums_plan_total : PySem.W.findIn K (.ref C_EvenSums) "plan_total" = some (some (.ref f_EvenSums_plan_total))
  t_EvenSums_plan_total : PySem.W.isFn K (.ref f_EvenSums_plan_total) = true
  y_EvenSums_plan_total : PySem.W.typeIn K (.ref f_EvenSums_plan_total) = some (.type "function")
  k_EvenSums_plan_total : PySem.W.keepIn K (.ref f_EvenSums_plan_total) = true
  f_EvenSums_log : Addr
  d_EvenSums_log : FuncData
  -- 
  F_EvenSums_log : Fun K "log" "EvenSums.log" s_EvenSums_log f_EvenSums_log d_EvenSums_log
  b_EvenSums_log : Binds K d_EvenSums_log ["self"] []
  m_EvenSums_log : PySem.W.findIn K (.ref C_EvenSums) "log" = some (some (.ref f_EvenSums_log))
  t_EvenSums_log : PySem.W.isFn K (.ref f_EvenSums_log) = true
  y_EvenSums_log : PySem.W.typeIn K (.ref f_EvenSums_log) = some (.type "function")
  k_EvenSums_log : PySem.W.keepIn K (.ref f_EvenSums_log) = true
  f_EvenSums_len : Addr
  d_EvenSums_len : FuncData
  -- 
  F_EvenSums_len : Fun K "__len__" "EvenSums.__len__" s_EvenSums_len f_EvenSums_len d_EvenSums_len
  b_EvenSums_len : Binds K d_EvenSums_len ["self"] []
  m_EvenSums_len : PySem.W.findIn K (.ref C_EvenSums) "__len__" = some (some (.ref f_EvenSums_len))
  t_EvenSums_len : PySem.W.isFn K (.ref f_EvenSums_len) = true
  y_EvenSums_len : PySem.W.typeIn K (.ref f_EvenSums_len) = some (.type "function")
  k_EvenSums_len : PySem.W.keepIn K (.ref f_EvenSums_len) = true
  f_Shape_init : Addr
  d_Shape_init : FuncData
  -- 
  F_Shape_init : Fun K "__init__" "Shape.__init__" s_Shape_init f_Shape_init d_Shape_init
  b_Shape_init : Binds K d_Shape_init ["self", "front", "back", "late", "renewed"] []
  m_Shape_init : PySem.W.findIn K (.ref C_Shape) "__init__" = some (some (.ref f_Shape_init))
  t_Shape_init : PySem.W.isFn K (.ref f_Shape_init) = true
  y_Shape_init : PySem.W.typeIn K (.ref f_Shape_init) = some (.type "function")
  k_Shape_init : PySem.W.keepIn K (.ref f_Shape_init) = true
  f_check_filled : Addr
  d_check_filled : FuncData
  F_check_filled : Fun K "check_filled" "check_filled" s_check_filled f_check_filled d_check_filled
  b_check_filled : Binds K d_check_filled ["held"] []
  g_check_filled : mg "check_filled" = some (.ref f_check_filled)
  f_oldest : Addr
  d_oldest : FuncData
  F_oldest : Fun K "oldest" "oldest" s_oldest f_oldest d_oldest
  b_oldest : Binds K d_oldest ["held"] []
  g_oldest : mg "oldest" = some (.ref f_oldest)
  f_without : Addr
  d_without : FuncData
  F_without : Fun K "without" "without" s_without f_without d_without
  b_without : Binds K d_without ["held", "numbers"] []
  g_without : mg "without" = some (.ref f_without)
  f_join_entry : Addr
  d_join_entry : FuncData
  F_join_entry : Fun K "join_entry" "join_entry" s_join_entry f_join_entry d_join_entry
  b_join_entry : Binds K d_join_entry ["one", "other"] []
  g_join_entry : mg "join_entry" = some (.ref f_join_entry)
  f_single : Addr
  d_single : FuncData
  F_single : Fun K "single" "single" s_single f_single d_single
  b_single : Binds K d_single ["number", "member"] []
  g_single : mg "single" = some (.ref f_single)
  f_span_length : Addr
  d_span_length : FuncData
  F_span_length : Fun K "span_length" "span_length" s_span_length f_span_length d_span_length
  b_span_length : Binds K d_span_length ["span"] []
  g_span_length : mg "span_length" = some (.ref f_span_length)
  f_extended : Addr
  d_extended : FuncData
  F_extended : Fun K "extended" "extended" s_extended f_extended d_extended
  b_extended : Binds K d_extended ["joiner", "span", "number", "member"] []
  g_extended : mg "extended" = some (.ref f_extended)
  f_deepened : Addr
  d_deepened : FuncData
  F_deepened : Fun K "deepened" "deepened" s_deepened f_deepened d_deepened
  b_deepened : Binds K d_deepened ["joiner", "spans", "number", "member"] []
  g_deepened : mg "deepened" = some (.ref f_deepened)
  f_all_spans : Addr
  d_all_spans : FuncData
  F_all_spans : Fun K "all_spans" "all_spans" s_all_spans f_all_spans d_all_spans
  b_all_spans : Binds K d_all_spans ["joiner", "held"] []
  g_all_spans : mg "all_spans" = some (.ref f_all_spans)
  f_whole_span : Addr
  d_whole_span : FuncData
  F_whole_span : Fun K "whole_span" "whole_span" s_whole_span f_whole_span d_whole_span
  b_whole_span : Binds K d_whole_span ["joiner", "spans"] []
  g_whole_span : mg "whole_span" = some (.ref f_whole_span)
  f_shape_after_addition : Addr
  d_shape_after_addition : FuncData
  F_shape_after_addition : Fun K "shape_after_addition" "shape_after_addition" s_shape_after_addition f_shape_after_addition d_shape_after_addition
  b_shape_after_addition : Binds K d_shape_after_addition ["joiner", "shape", "held", "number"] []
  g_shape_after_addition : mg "shape_after_addition" = some (.ref f_shape_after_addition)
  f_shape_after_removal : Addr
  d_shape_after_removal : FuncData
  F_shape_after_removal : Fun K "shape_after_removal" "shape_after_removal" s_shape_after_removal f_shape_after_removal d_shape_after_removal
  b_shape_after_removal : Binds K d_shape_after_removal ["joiner", "shape", "held"] []
  g_shape_after_removal : mg "shape_after_removal" = some (.ref f_shape_after_removal)
  f_worked_shape : Addr
  d_worked_shape : FuncData
  F_worked_shape : Fun K "worked_shape" "worked_shape" s_worked_shape f_worked_shape d_worked_shape
  b_worked_shape : Binds K d_worked_shape ["joiner", "shape", "held"] []
  g_worked_shape : mg "worked_shape" = some (.ref f_worked_shape)
  f_reaches : Addr
  d_reaches : FuncData
  F_reaches : Fun K "reaches" "reaches" s_reaches f_reaches d_reaches
  b_reaches : Binds K d_reaches ["renewed", "number"] []
  g_reaches : mg "reaches" = some (.ref f_reaches)
  f_shape_spans : Addr
  d_shape_spans : FuncData
  F_shape_spans : Fun K "shape_spans" "shape_spans" s_shape_spans f_shape_spans d_shape_spans
  b_shape_spans : Binds K d_shape_spans ["shape"] []
  g_shape_spans : mg "shape_spans" = some (.ref f_shape_spans)
  f_filled_spans : Addr
  d_filled_spans : FuncData
  F_filled_spans : Fun K "filled_spans" "filled_spans" s_filled_spans f_filled_spans d_filled_spans
  b_filled_spans : Binds K d_filled_spans ["front", "backs"] []
  g_filled_spans : mg "filled_spans" = some (.ref f_filled_spans)
  f_l_bag : Addr
  d_l_bag : FuncData
  F_l_bag : Fun K "_law_bag" "_law_bag" s_l_bag f_l_bag d_l_bag
  b_l_bag : Binds K d_l_bag ["_law_script", "_law_at"] []
  g_l_bag : mg "_law_bag" = some (.ref f_l_bag)
  f_l_take : Addr
  d_l_take : FuncData
  F_l_take : Fun K "_law_take" "_law_take" s_l_take f_l_take d_l_take
  b_l_take : Binds K d_l_take ["_law_bag_here", "_law_many"] []
  g_l_take : mg "_law_take" = some (.ref f_l_take)
  f_l_queue : Addr
  d_l_queue : FuncData
  F_l_queue : Fun K "_law_queue" "_law_queue" s_l_queue f_l_queue d_l_queue
  b_l_queue : Binds K d_l_queue ["_law_form", "_law_call", "_law_empty_here"] []
  g_l_queue : mg "_law_queue" = some (.ref f_l_queue)
  f_l_empty : Addr
  d_l_empty : FuncData
  F_l_empty : Fun K "_law_empty" "_law_empty" s_l_empty f_l_empty d_l_empty
  b_l_empty : Binds K d_l_empty ["_law_deed"] []
  g_l_empty : mg "_law_empty" = some (.ref f_l_empty)
  f_l_bare_right : Addr
  d_l_bare_right : FuncData
  c_l_bare_right : Addr
  p_l_bare_right : Addr
  F_l_bare_right : FunT K "_law_bare_right" "_law_bare_right" s_l_bare_right f_l_bare_right d_l_bare_right c_l_bare_right
  b_l_bare_right : Binds K d_l_bare_right ["_law_queue_here", "_law_empty_here", "_law_log"] []
  g_l_bare_right : mg "_law_bare_right" = some (.ref f_l_bare_right)
  c_law : Addr
  p_law : Addr
  pne_l_bare_right_law : p_l_bare_right ≠ p_law
  z_IndexError : mg "IndexError" = none
  z_abs : mg "abs" = none
  z_enumerate : mg "enumerate" = none
  z_isinstance : mg "isinstance" = none
  z_iter : mg "iter" = none
  z_len : mg "len" = none
  z_list : mg "list" = none
  z_max : mg "max" = none
  z_min : mg "min" = none
  z_next : mg "next" = none
  z_range : mg "range" = none
  z_reversed : mg "reversed" = none
  z_sum : mg "sum" = none
  cl_Calls : Cls K C_Calls
  mk_Calls : PySem.W.makesIn K C_Calls = true
  kp_Calls : PySem.W.keepIn K (.ref C_Calls) = true
  n_Calls_entries : NoAttr K C_Calls "entries"
  n_Calls_running : NoAttr K C_Calls "running"
  cl_Joiner : Cls K C_Joiner
  mk_Joiner : PySem.W.makesIn K C_Joiner = true
  kp_Joiner : PySem.W.keepIn K (.ref C_Joiner) = true
  n_Joiner_calls : NoAttr K C_Joiner "calls"
  n_Joiner_join_call : NoAttr K C_Joiner "join_call"
  cl_Planner : Cls K C_Planner
  mk_Planner : PySem.W.makesIn K C_Planner = true
  kp_Planner : PySem.W.keepIn K (.ref C_Planner) = true
  n_Planner_entries : NoAttr K C_Planner "entries"
  cl_EvenSums : Cls K C_EvenSums
  mk_EvenSums : PySem.W.makesIn K C_EvenSums = true
  kp_EvenSums : PySem.W.keepIn K (.ref C_EvenSums) = true
  n_EvenSums_calls : NoAttr K C_EvenSums "calls"
  n_EvenSums_joiner : NoAttr K C_EvenSums "joiner"
  n_EvenSums_zero : NoAttr K C_EvenSums "zero"
  n_EvenSums_given : NoAttr K C_EvenSums "given"
  n_EvenSums_held : NoAttr K C_EvenSums "held"
  n_EvenSums_shape : NoAttr K C_EvenSums "shape"
  cl_Shape : Cls K C_Shape
  mk_Shape : PySem.W.makesIn K C_Shape = true
  kp_Shape : PySem.W.keepIn K (.ref C_Shape) = true
  n_Shape_front : NoAttr K C_Shape "front"
  n_Shape_back : NoAttr K C_Shape "back"
  n_Shape_late : NoAttr K C_Shape "late"
  n_Shape_renewed : NoAttr K C_Shape "renewed"
  cl_TwoStacks : Cls K C_TwoStacks
  mk_TwoStacks : PySem.W.makesIn K C_TwoStacks = true
  kp_TwoStacks : PySem.W.keepIn K (.ref C_TwoStacks) = true
  n_TwoStacks_calls : NoAttr K C_TwoStacks "calls"
  n_TwoStacks_joiner : NoAttr K C_TwoStacks "joiner"
  n_TwoStacks_zero : NoAttr K C_TwoStacks "zero"
  n_TwoStacks_given : NoAttr K C_TwoStacks "given"
  n_TwoStacks_held : NoAttr K C_TwoStacks "held"
  n_TwoStacks_front : NoAttr K C_TwoStacks "front"
  n_TwoStacks_back : NoAttr K C_TwoStacks "back"
  C_Empty : Addr
  gc_Empty : mg "Empty" = some (.ref C_Empty)
  C_Busy : Addr
  gc_Busy : mg "Busy" = some (.ref C_Busy)
  C_NoMember : Addr
  gc_NoMember : mg "NoMember" = some (.ref C_NoMember)
  C_NotTorn : Addr
  gc_NotTorn : mg "NotTorn" = some (.ref C_NotTorn)
  C_OnceError : Addr
  gc_OnceError : mg "OnceError" = some (.ref C_OnceError)
  C_Torn : Addr
  gc_Torn : mg "Torn" = some (.ref C_Torn)
  xE : PySem.W.excIn K C_Empty [.type "IndexError", .type "LookupError", .type "Exception", .type "BaseException", .type "object"] "IndexError.__new__" = true
  kE : PySem.W.keepIn K (.ref C_Empty) = true
  bE : PySem.W.subIn K (.ref C_Empty) (.type "BaseException") = some true
  tE : PySem.W.typeIn K (.ref C_Empty) = some (.type "type")
  eE : PySem.W.exmOne K (.ref C_Empty) (.ref C_Empty) = some true
  iE : ExcC K C_Empty
  k2E : PySem.W.kitAny K (.ref C_Empty) [.ref C_Busy, .ref C_NoMember, .ref C_NotTorn, .ref C_OnceError, .ref C_Torn] = some false
  k1E : PySem.W.kitOne K (.ref C_Empty) (.type "IndexError") = some true

theorem log_lo {n : Nat} (h : n ≠ 0) : 2 ^ n.log2 ≤ n := Nat.log2_self_le h
theorem log_hi {n : Nat} : n < 2 ^ (n.log2 + 1) := Nat.lt_log2_self
theorem log_lt {n f : Nat} (h : n ≠ 0) (hf : n < 2 ^ f) : n.log2 < f := (Nat.log2_lt h).mpr hf
theorem rest_lt {n : Nat} (h : n ≠ 0) : n - 2 ^ n.log2 < 2 ^ n.log2 := by
  have a := log_hi (n := n)
  have b := log_lo h
  rw [Nat.pow_succ] at a
  omega
theorem rest_lt' {n f : Nat} (h : n ≠ 0) (hf : n < 2 ^ (f + 1)) : n - 2 ^ n.log2 < 2 ^ f := by
  have a := rest_lt h
  have b := log_lt h hf
  have c : 2 ^ n.log2 ≤ 2 ^ f := Nat.pow_le_pow_right (by decide) (by omega)
  omega
/-- the lowest power -/
def low (n : Nat) : Nat := if h : n = 0 then 1 else if n % 2 = 0 then 2 * low (n / 2) else 1
termination_by n
decreasing_by omega
theorem low_even {n : Nat} (h : n ≠ 0) (e : n % 2 = 0) : low n = 2 * low (n / 2) := by
  rw [low, dif_neg h, if_pos e]
theorem low_odd {n : Nat} (e : n % 2 = 1) : low n = 1 := by
  rw [low, dif_neg (by omega), if_neg (by omega)]
theorem low_is : ∀ (j n : Nat), n ≠ 0 → n % 2 ^ j = 0 → ¬ n % 2 ^ (j + 1) = 0 → low n = 2 ^ j
  | 0, n, h, _, e => by
    rw [Nat.zero_add, Nat.pow_one] at e
    exact low_odd (by omega)
  | j + 1, n, h, a, b => by
    have e2 : n % 2 = 0 := by
      rw [Nat.pow_succ] at a
      have := Nat.mod_mod_of_dvd n (show 2 ∣ 2 ^ j * 2 from ⟨2 ^ j, Nat.mul_comm _ _⟩)
      rw [a] at this
      omega
    obtain ⟨m, rfl⟩ : ∃ m, n = 2 * m := ⟨n / 2, by omega⟩
    have hm : m ≠ 0 := by omega
    rw [low_even h e2, Nat.mul_div_cancel_left _ (by decide), Nat.pow_succ, Nat.mul_comm]
    have a' : m % 2 ^ j = 0 := by
      rw [Nat.pow_succ, Nat.mul_comm (2 ^ j) 2, Nat.mul_mod_mul_left] at a
      omega
    have b' : ¬ m % 2 ^ (j + 1) = 0 := fun z => by
      rw [Nat.pow_succ, Nat.mul_comm (2 ^ (j + 1)) 2, Nat.mul_mod_mul_left, z] at b
      exact b rfl
    rw [low_is j m hm a' b']
theorem low_pow (j : Nat) : low (2 ^ j) = 2 ^ j := by
  refine low_is j _ (Nat.pos_iff_ne_zero.mp (Nat.two_pow_pos j)) (Nat.mod_self _) fun z => ?_
  rw [Nat.mod_eq_of_lt (Nat.pow_lt_pow_right (by decide) (by omega))] at z
  have := Nat.two_pow_pos j
  omega

theorem ifT {c : Bool} {A B : Prop} (hc : c = true) (h : A) : if c = true then A else B := by
  rw [if_pos hc]
  exact h
theorem ifF {c : Bool} {A B : Prop} (hc : c = false) (h : B) : if c = true then A else B := by
  rw [hc, if_neg Bool.false_ne_true]
  exact h
theorem dF {p : Prop} [Decidable p] (h : ¬ p) : decide p = false := decide_eq_false h
theorem dT {p : Prop} [Decidable p] (h : p) : decide p = true := decide_eq_true h
theorem bits_nat {n : Nat} (h : n ≠ 0) : (Builtin.Int.intBits (n : Int) : Nat) = n.log2 + 1 := by
  unfold Builtin.Int.intBits
  rw [if_neg (show ¬ ((n : Int) == 0) = true by simpa using (show (n : Int) ≠ 0 by omega))]
  rfl
theorem gp_eq {n : Nat} (h : n ≠ 0) : (1 : Int) * 2 ^ (((Builtin.Int.intBits (n : Int) : Nat) : Int) - 1).toNat = ((2 ^ n.log2 : Nat) : Int) := by
  rw [bits_nat h, show (((n.log2 + 1 : Nat) : Int) - 1).toNat = n.log2 by omega, Int.one_mul]
  exact (PySem.W.kbt_cast _).symm
theorem gp_ok {n : Nat} (h : n ≠ 0) (hn : n < 2 ^ 200) : CShl 1 (((Builtin.Int.intBits (n : Int) : Nat) : Int) - 1) := by
  have a := log_lt h hn
  rw [bits_nat h, show (((n.log2 + 1 : Nat) : Int) - 1) = (n.log2 : Int) by omega]
  exact shl_ok (n := 1) (by decide) (by omega)
theorem nat_cast_lt {a : Nat} {n : Nat} (h : n < 2 ^ a) : (n : Int).natAbs < 2 ^ a := h
theorem pow_nat (k : Nat) : (2 : Int) ^ k = ((2 ^ k : Nat) : Int) := (PySem.W.kbt_cast k).symm
theorem p10 : (10 : Int) ^ Int.toNat 30 = ((10 ^ 30 : Nat) : Int) := by decide +kernel
theorem le6 : 6 ≤ sizeLine := by decide
theorem p100 : (10 ^ 30 : Nat) < 2 ^ 100 := by decide +kernel
def intAt (σ : L2.St) (i : Nat) : Nat := match σ[i]? with
  | some (some (V.int r)) => r.toNat
  | _ => 0
theorem le2 : 2 ≤ sizeLine := by decide
theorem cdiv_nat (a b : Nat) : ((a : Int) / (b : Int)) = ((a / b : Nat) : Int) := rfl

/-! ### heaps -/
theorem same_put {H H1 : Hp} {p : Addr} {o : HO} (h : Same H H1) (n : H p = none) : Same H (upd H1 p o) := fun b u e => by
  rw [upd_ne (ne_of_none e n)]
  exact h b u e
theorem same_new {H : Hp} {p : Addr} {o : HO} (n : H p = none) : Same H (upd H p o) := same_put (Same.refl H) n
theorem same_no {H H1 : Hp} {p : Addr} (h : Same H H1) (n : H1 p = none) : H p = none := h.free n
/-- all but p is as it was -/
def But (p : Addr) (H H' : Hp) : Prop := ∀ b o, H b = some o → b ≠ p → H' b = some o
theorem but_refl (p : Addr) (H : Hp) : But p H H := fun _ _ h _ => h
theorem but_trans {p : Addr} {H H1 H2 : Hp} (a : But p H H1) (b : But p H1 H2) : But p H H2 := fun c o h n => b c o (a c o h n) n
theorem but_of_same {p : Addr} {H H1 : Hp} (a : Same H H1) : But p H H1 := fun c o h _ => a c o h
theorem but_upd (p : Addr) (H : Hp) (o : HO) : But p H (upd H p o) := fun b u e n => by
  rw [upd_ne n]
  exact e
theorem but_fresh {p : Addr} {H0 H H1 : Hp} (s : Same H0 H) (n : H0 p = none) (b : But p H H1) : Same H0 H1 := fun c o e => b c o (s c o e) (ne_of_none e n)
/-! ### a bag of digits -/
def Bag (H : Hp) (p : Addr) : Prop := ∃ g m c : Int, H p = some (.lst [.int g, .int m, .int c]) ∧ 0 ≤ g ∧ 0 ≤ m ∧ m < 2147483648
theorem fm0 {a b : Int} (h : 0 < b) : 0 ≤ a.fmod b := by
  rw [Int.fmod_eq_emod_of_nonneg a (by omega)]
  exact Int.emod_nonneg a (by omega)
theorem fm1 {a b : Int} (h : 0 < b) : a.fmod b < b := by
  rw [Int.fmod_eq_emod_of_nonneg a (by omega)]
  exact Int.emod_lt_of_pos a h
theorem nz1 : (2147483647 : Int) ≠ 0 := by decide
theorem nz2 : (2147483629 : Int) ≠ 0 := by decide
section
variable {P : Program} {w : World} {K : PySem.W.Frag} {mg : Str → Option Value} {base : Heap}
def spTake : Sp := fun vs H Q _ => ∃ (p : Addr) (n : Int), vs = [.ref p, .int n] ∧ Bag H p ∧ 0 < n ∧ n.natAbs < 2 ^ 200 ∧
  ∀ r H', 0 ≤ r → r < n → Bag H' p → But p H H' → Q (.int r) H'
theorem ok_take (T : Txt K mg) : FnOk P w K mg base CX0 1 T.f_l_take T.d_l_take ["_law_bag_here", "_law_many"] spTake := by
  refine T.F_l_take.ok sc_l_take (fun vs H Q E h => ?_) (fun cdv A outer s H vs Q E hr h => ?_)
  · obtain ⟨p, n, rfl, _⟩ := h
    rfl
  · obtain ⟨p, n, rfl, ⟨g, m, c, hb, g0, m0, m1⟩, n0, n1, q⟩ := h
    refine ⟨_, (pss_cons (ps_if (pt_cmpR op_gt (pe_ix (r := rIxL K) ix_list (pv 0) pe_int (fun _ _ => rfl)) pe_int (nomark _)) (pss_cons (ps_set (i := 2) sc_l_take.nd rfl (.inl rfl) (pe_op op_modN (pe_ix (r := rIxL K) ix_list (pv 0) pe_int (fun _ _ => rfl)) (pv 1)))
        (pss_cons (ps_asg (pe_op op_fdivW (pe_ix (r := rIxL K) ix_list (pv 0) pe_int (fun _ _ => rfl)) (pv 1)) (pg_sub (pv 0) pe_int set_list))
        (pss_one (ps_ret (pv 2))))) pss_nil)
      (pss_cons (ps_asg (pe_op op_add (pe_ix (r := rIxL K) ix_list (pv 0) pe_int (fun _ _ => rfl)) pe_int) (pg_sub (pv 0) pe_int set_list))
      (pss_cons (ps_asg (pe_op op_modN (pe_op op_add (pe_op op_add (pe_op op_mul (pe_ix (r := rIxL K) ix_list (pv 0) pe_int (fun _ _ => rfl)) pe_int) (pe_op op_mul pe_int (pe_ix (r := rIxL K) ix_list (pv 0) pe_int (fun _ _ => rfl)))) pe_int) pe_int) (pg_sub (pv 0) pe_int set_list))
      (pss_one (ps_ret (pe_op op_modN (pe_op op_modN (pe_op op_pow (pe_op op_fdivW (pe_ix (r := rIxL K) ix_list (pv 0) pe_int (fun _ _ => rfl)) pe_int) pe_int) pe_int) (pv 1))))))), ?_⟩
    have hB : SqL K H p [.int g, .int m, .int c] := .inl (.inl hb)
    refine ⟨_, rfl, p, _, 0, .int g, rfl, rfl, hB, atI_nat (j := 0) rfl, _, _, rfl, rfl, _, rfl, ite2 (fun e => ?_) (fun e => ?_)⟩
    · refine ⟨_, rfl, p, _, 0, .int g, rfl, rfl, hB, atI_nat (j := 0) rfl, _, rfl, _, _, rfl, rfl, (by omega), ?_⟩
      refine ⟨_, rfl, p, _, 0, .int g, rfl, rfl, hB, atI_nat (j := 0) rfl, _, rfl, _, _, rfl, rfl, wide_div n0 n1 (by decide) (by decide), ?_⟩
      refine ⟨_, rfl, p, _, _, 0, rfl, rfl, hb, rfl, ?_⟩
      refine ⟨_, rfl, ?_⟩
      exact q _ _ (fm0 n0) (fm1 n0) ⟨g / n, m, c, upd_same, Int.ediv_nonneg g0 (by omega), m0, m1⟩ (but_upd _ _ _)
    · refine ⟨_, rfl, p, _, 2, .int c, rfl, rfl, hB, atI_nat (j := 2) rfl, _, _, rfl, rfl, ?_⟩
      refine ⟨_, rfl, p, _, _, 2, rfl, rfl, hb, rfl, ?_⟩
      have h2 : upd H p (.lst [.int g, .int m, .int (c + 1)]) p = some (.lst [.int g, .int m, .int (c + 1)]) := upd_same
      have hB2 : SqL K (upd H p (.lst [.int g, .int m, .int (c + 1)])) p [.int g, .int m, .int (c + 1)] := .inl (.inl h2)
      refine ⟨_, rfl, p, _, 1, .int m, rfl, rfl, hB2, atI_nat (j := 1) rfl, _, _, rfl, rfl, .inr ⟨by decide, by decide⟩, _, rfl, p, _, 2, .int (c + 1), rfl, rfl, hB2, atI_nat (j := 2) rfl, _, _, rfl, rfl, .inl ⟨by decide, by decide⟩, _, _, rfl, rfl, _, _, rfl, rfl, _, _, rfl, rfl, nz1, ?_⟩
      refine ⟨_, rfl, p, _, _, 1, rfl, rfl, h2, rfl, ?_⟩
      have m0' := fm0 (a := m * 48271 + 6661 * (c + 1) + 17) (show (0 : Int) < 2147483647 by decide)
      have m1' := fm1 (a := m * 48271 + 6661 * (c + 1) + 17) (show (0 : Int) < 2147483647 by decide)
      refine ⟨_, rfl, p, _, 1, _, rfl, rfl, .inl (.inl upd_same), atI_nat (j := 1) rfl, _, _, rfl, rfl, ⟨by decide, by decide⟩, _, _, rfl, rfl, ⟨by decide, by decide, ?_⟩, _, _, rfl, rfl, nz2, _, rfl, _, _, rfl, rfl, (by omega), ?_⟩
      · omega
      exact q _ _ (fm0 n0) (fm1 n0) ⟨g, _, c + 1, upd_same, g0, m0', by omega⟩ (but_trans (but_upd _ _ _) (but_upd _ _ _))
theorem le3 : 3 ≤ sizeLine := by decide
theorem nz3 : (8 : Int) ≠ 0 := by decide
theorem primes_at (k : Nat) : ∃ v : Int, 0 < v ∧ v < 2147483648 ∧ atI [V.int 2147483629, V.int 2147483587, V.int 2147483579, V.int 2147483563, V.int 2147483549, V.int 2147483543, V.int 2147483497, V.int 2147483489] ((k : Int).fmod 8) = some (.int v) := by
  have e : (k : Int).fmod 8 = ((k % 8 : Nat) : Int) := by
    rw [Int.fmod_eq_emod_of_nonneg _ (by decide)]
    rfl
  have h : k % 8 < 8 := Nat.mod_lt _ (by decide)
  rw [e]
  generalize k % 8 = j at h
  match j, h with
  | 0, _ => exact ⟨_, by decide, by decide, atI_nat (j := 0) rfl⟩
  | 1, _ => exact ⟨_, by decide, by decide, atI_nat (j := 1) rfl⟩
  | 2, _ => exact ⟨_, by decide, by decide, atI_nat (j := 2) rfl⟩
  | 3, _ => exact ⟨_, by decide, by decide, atI_nat (j := 3) rfl⟩
  | 4, _ => exact ⟨_, by decide, by decide, atI_nat (j := 4) rfl⟩
  | 5, _ => exact ⟨_, by decide, by decide, atI_nat (j := 5) rfl⟩
  | 6, _ => exact ⟨_, by decide, by decide, atI_nat (j := 6) rfl⟩
  | 7, _ => exact ⟨_, by decide, by decide, atI_nat (j := 7) rfl⟩
  | n + 8, h => exact absurd h (by omega)
def spBag (K : PySem.W.Frag) : Sp := fun vs H Q _ => ∃ (a : Addr) (ns : List Int) (k : Nat), vs = [.ref a, .int (k : Int)] ∧ SqL K H a (ns.map V.int) ∧ k ≤ 1000 ∧
  ∀ p H', H p = none → Same H H' → Bag H' p → Q (.ref p) H'
theorem ok_bag (T : Txt K mg) : FnOk P w K mg base CX0 1 T.f_l_bag T.d_l_bag ["_law_script", "_law_at"] (spBag K) := by
  refine T.F_l_bag.ok sc_l_bag (fun vs H Q E h => ?_) (fun cdv A outer s H vs Q E hr h => ?_)
  · obtain ⟨a, ns, k, rfl, _⟩ := h
    rfl
  · obtain ⟨a, ns, k, rfl, hS, hk, q⟩ := h
    refine ⟨_, (pss_cons (ps_set (i := 2) sc_l_bag.nd rfl (.inl rfl) pe_int)
      (C8.pss_cut (ps_if (pt_cmpR op_lt (pv 1) (pe_callB call_len_seq (by rfl) T.z_len (by decide +kernel) (pa_cons (pv 0) pa_nil)) (nomark _)) (pss_one (ps_set (i := 2) sc_l_bag.nd rfl (.inl rfl) (pe_ix (r := rIxL K) ix_list (pv 0) (pv 1) (fun _ _ => rfl)))) pss_nil)
      (pss_cons (ps_set (i := 3) sc_l_bag.nd rfl (.inl rfl) pe_int)
      (C8.pss_cut (ps_if (pt_cmpR op_ge (pe_callB call_abs (by rfl) T.z_abs (by decide +kernel) (pa_cons (pv 2) pa_nil)) (pe_op op_pow pe_int pe_int) (nomark _)) (pss_one (ps_set (i := 3) sc_l_bag.nd rfl (.inl rfl) (pe_callB call_abs (by rfl) T.z_abs (by decide +kernel) (pa_cons (pv 2) pa_nil)))) pss_nil)
      (pss_cons (ps_set (i := 4) sc_l_bag.nd rfl (.inl rfl) (pe_lst (pa_cons pe_int (pa_cons pe_int (pa_cons pe_int (pa_cons pe_int (pa_cons pe_int (pa_cons pe_int (pa_cons pe_int (pa_cons pe_int pa_nil))))))))))
      (pss_one (ps_ret (pe_lst (pa_cons (pv 3) (pa_cons (pe_op op_modN (pe_op op_pow (pe_op op_add (pe_op op_add (pe_op op_modN (pv 2) pe_int) (pe_op op_mul pe_int (pv 1))) pe_int) pe_int) (pe_ix (r := rIxL K) ix_list (pv 4) (pe_op op_modN (pv 1) pe_int) (fun _ _ => rfl))) (pa_cons pe_int pa_nil))))))))))), ?_⟩
    refine ⟨fun σ' H' => H' = H ∧ ∃ c : Int, σ' = [some (.ref a), some (.int (k : Int)), some (.int c), none, none], ?_, fun σ' H' hM => ?_⟩
    · refine ⟨_, rfl, _, rfl, a, _, rfl, .inl hS, _, _, rfl, rfl, _, rfl, ite2 (fun e => ?_) (fun e => ?_)⟩
      · have e2 := of_decide_eq_true e
        have e3 : k < ns.length := by
          rw [List.length_map] at e2
          omega
        have e4 : (ns.map V.int)[k]? = some (.int ns[k]) := by
          rw [List.getElem?_map, List.getElem?_eq_getElem e3]
          rfl
        exact ⟨_, rfl, _, rfl, a, _, _, _, rfl, rfl, hS, atI_nat e4, rfl, _, rfl⟩
      · exact ⟨rfl, _, rfl⟩
    · obtain ⟨rfl, c, rfl⟩ := hM
      refine ⟨fun σ'' H'' => H'' = H' ∧ ∃ g : Int, σ'' = [some (.ref a), some (.int (k : Int)), some (.int c), some (.int g), none] ∧ 0 ≤ g, ?_, fun σ'' H'' hM => ?_⟩
      · refine ⟨_, rfl, _, rfl, _, _, rfl, rfl, ⟨by decide, by decide, by decide⟩, _, _, rfl, rfl, _, rfl, ite2 (fun e => ?_) (fun e => ?_)⟩
        · refine ⟨_, rfl, _, rfl, rfl, _, rfl, ?_⟩
          split <;> omega
        · exact ⟨rfl, _, rfl, by decide⟩
      · obtain ⟨rfl, g, rfl, g0⟩ := hM
        refine ⟨by decide, fun o no => ?_⟩
        obtain ⟨v, v0, v1, hv⟩ := primes_at k
        have h0 := fm0 (a := c) (show (0 : Int) < 2147483647 by decide)
        have h1 := fm1 (a := c) (show (0 : Int) < 2147483647 by decide)
        refine ⟨_, rfl, _, rfl, _, _, rfl, rfl, nz1, _, rfl, _, _, rfl, rfl, .inl ⟨by decide, by decide⟩, _, _, rfl, rfl, _, _, rfl, rfl, _, _, rfl, rfl, ⟨by decide, by decide, by omega⟩, _, rfl, _, rfl, _, _, rfl, rfl, nz3, o, _, _, _, rfl, rfl, .inl (.inl upd_same), hv, _, _, rfl, rfl, by omega, ?_⟩
        refine ⟨le3, fun p np => ?_⟩
        have np' : H'' p = none := (same_new no).free np
        exact q _ _ np' (same_put (same_new no) np') ⟨g, _, 0, upd_same, g0, fm0 v0, by have := fm1 (a := (c.fmod 2147483647 + 104717 * (k : Int) + 13) ^ Int.toNat 5) v0; omega⟩
end
theorem but_put {p q : Addr} {H H1 : Hp} {o : HO} (b : But p H H1) (n : H1 q = none) : But p H (upd H1 q o) := fun c u e nc => by
  have e1 := b c u e nc
  rw [upd_ne (ne_of_none e1 n)]
  exact e1
theorem bag_put {p q : Addr} {H : Hp} {o : HO} (b : Bag H p) (n : H q = none) : Bag (upd H q o) p := by
  obtain ⟨g, m, c, e, r⟩ := b
  exact ⟨g, m, c, by rw [upd_ne (ne_of_none e n)]; exact e, r⟩
theorem bag_same {p : Addr} {H H1 : Hp} (b : Bag H p) (s : Same H H1) : Bag H1 p := by
  obtain ⟨g, m, c, e, r⟩ := b
  exact ⟨g, m, c, s _ _ e, r⟩
theorem bag_ne {p q : Addr} {H : Hp} (b : Bag H p) (n : H q = none) : q ≠ p := by
  obtain ⟨g, m, c, e, r⟩ := b
  exact (ne_of_none e n).symm

end Ob

set_option Elab.async false
set_option linter.all false
set_option maxRecDepth 100000
set_option maxHeartbeats 1000000
namespace Ob
open PySem PySem.Spec PyProof.Rows L2
open LamX (Tabs TabB TabS ExtN)

/-- nothing stands there -/
structure Fr (H : Hp) (p : Addr) : Prop where
  h : H p = none
theorem neN {H : Hp} {a b : Addr} {o : HO} (h' : Fr H b) (h : H a = some o) : a ≠ b := ne_of_none h h'.h
theorem neN' {H : Hp} {a b : Addr} {o : HO} (h' : Fr H a) (h : H b = some o) : a ≠ b := (ne_of_none h h'.h).symm
theorem atNew {H : Hp} {a p : Addr} {o u : HO} (n : Fr H p) (h : H a = some o) : upd H p u a = some o := (upd_ne (ne_of_none h n.h)).trans h
theorem atNe {H : Hp} {a p : Addr} {o u : HO} (n : a ≠ p) (h : H a = some o) : upd H p u a = some o := (upd_ne n).trans h
theorem atSame {H H1 : Hp} {a : Addr} {o : HO} (s : Same H H1) (h : H a = some o) : H1 a = some o := s _ _ h
/-- all is kept but what stands in cs -/
structure Kp (cs : List Addr) (H H' : Hp) : Prop where
  at_ : ∀ b o, H b = some o → b ∉ cs → H' b = some o
theorem kp_refl (cs : List Addr) (H : Hp) : Kp cs H H := ⟨fun _ _ e _ => e⟩
theorem kp_trans {cs : List Addr} {H H1 H2 : Hp} (a : Kp cs H H1) (b : Kp cs H1 H2) : Kp cs H H2 := ⟨fun c o e n => b.at_ c o (a.at_ c o e n) n⟩
theorem kp_up {cs : List Addr} {H H1 : Hp} {a : Addr} {o : HO} (m : a ∈ cs) (h : Kp cs H H1) : Kp cs H (upd H1 a o) := ⟨fun b u e n => by
  rw [upd_ne (show b ≠ a from fun z => n (by rw [z]; exact m))]
  exact h.at_ b u e n⟩
theorem kp_new {cs : List Addr} {H H1 : Hp} {a : Addr} {o : HO} (m : Fr H1 a) (h : Kp cs H H1) : Kp cs H (upd H1 a o) := ⟨fun b u e n => by
  rw [upd_ne (ne_of_none (h.at_ b u e n) m.h)]
  exact h.at_ b u e n⟩
theorem kp_newF {cs : List Addr} {H H1 : Hp} {a : Addr} {o : HO} (m : Fr H a) (h : Kp cs H H1) : Kp cs H (upd H1 a o) := ⟨fun b u e n => by
  rw [upd_ne (ne_of_none e m.h)]
  exact h.at_ b u e n⟩
theorem kp_same {cs : List Addr} {H H1 : Hp} (s : Same H H1) : Kp cs H H1 := ⟨fun b o e _ => s b o e⟩
theorem kp_more {cs ds : List Addr} {H H1 : Hp} (h : Kp cs H H1) (m : ∀ a ∈ cs, a ∈ ds) : Kp ds H H1 := ⟨fun b o e n => h.at_ b o e fun z => n (m b z)⟩
/-- what is changed is new, as H sees it -/
theorem kp_fresh {cs ds : List Addr} {H H1 H2 : Hp} (a : Kp cs H H1) (b : Kp ds H1 H2) (n : ∀ x ∈ ds, x ∈ cs ∨ Fr H x) : Kp cs H H2 := ⟨fun x o e m => b.at_ x o (a.at_ x o e m) fun z => (n x z).elim m fun f => ne_of_none e f.h rfl⟩
theorem atKp {cs : List Addr} {H H1 : Hp} {a : Addr} {o : HO} (s : Kp cs H H1) (n : a ∉ cs) (h : H a = some o) : H1 a = some o := s.at_ _ _ h n
theorem not_nil {a : Addr} : a ∉ ([] : List Addr) := fun z => nomatch z
theorem not_cons {a b : Addr} {l : List Addr} (h : a ≠ b) (t : a ∉ l) : a ∉ b :: l := fun z => (List.mem_cons.mp z).elim h t
theorem not_app {a : Addr} {l m : List Addr} (h : a ∉ l) (t : a ∉ m) : a ∉ l ++ m := fun z => (List.mem_append.mp z).elim h t
theorem sqlOf {K : PySem.W.Frag} {H : Hp} {a : Addr} {xs : List V} (h : H a = some (.lst xs)) : SqL K H a xs := .inl (.inl h)
theorem sqtOf {K : PySem.W.Frag} {H : Hp} {a : Addr} {xs : List V} (h : H a = some (.tup xs)) : SqT K H a xs := .inl (.inl h)
theorem sqlSame {K : PySem.W.Frag} {H H1 : Hp} {a : Addr} {xs : List V} (s : Same H H1) (h : SqL K H a xs) : SqL K H1 a xs := s.seq h
theorem neO {H : Hp} {a b : Addr} {x y : HO} (ha : H a = some x) (hb : H b = some y) (n : x ≠ y) : a ≠ b := fun z => by
  rw [z, hb] at ha
  exact n (Option.some.inj ha).symm
theorem noneOf {H H1 : Hp} {p : Addr} (h : Fr H1 p) (k : ∀ o, H p = some o → ∃ u, H1 p = some u) : Fr H p := ⟨by
  cases e : H p with
  | none => rfl
  | some o =>
    obtain ⟨u, z⟩ := k o e
    rw [h.h] at z
    cases z⟩
theorem same_newF {H : Hp} {p : Addr} {o : HO} (n : Fr H p) : Same H (upd H p o) := same_new n.h
theorem same_putF {H H1 : Hp} {p : Addr} {o : HO} (n : Fr H1 p) (h : Same H H1) : Same H (upd H1 p o) := h.trans (same_new n.h)
theorem same_putG {H H1 : Hp} {p : Addr} {o : HO} (n : Fr H p) (h : Same H H1) : Same H (upd H1 p o) := same_put h n.h
theorem memA {a : Addr} {l : List Addr} : a ∈ a :: l := List.mem_cons_self ..
theorem memB {a b : Addr} {l : List Addr} (h : a ∈ l) : a ∈ b :: l := List.mem_cons_of_mem _ h
theorem memL {a : Addr} {l m : List Addr} (h : a ∈ l) : a ∈ l ++ m := List.mem_append.mpr (.inl h)
theorem memR {a : Addr} {l m : List Addr} (h : a ∈ m) : a ∈ l ++ m := List.mem_append.mpr (.inr h)
theorem kp_transR {cs : List Addr} {H H1 H2 : Hp} (b : Kp cs H1 H2) (a : Kp cs H H1) : Kp cs H H2 := kp_trans a b
theorem kp_sameR {cs : List Addr} {H H1 H2 : Hp} (b : Same H1 H2) (a : Kp cs H H1) : Kp cs H H2 := kp_trans a (kp_same b)
theorem kp_freshR {cs ds : List Addr} {H H1 H2 : Hp} (b : Kp ds H1 H2) (n : ∀ x ∈ ds, x ∈ cs ∨ Fr H x) (a : Kp cs H H1) : Kp cs H H2 := kp_fresh a b n
theorem same_transR {H H1 H2 : Hp} (b : Same H1 H2) (a : Same H H1) : Same H H2 := a.trans b
theorem subNil {P : Addr → Prop} : ∀ x ∈ ([] : List Addr), P x := fun _ h => nomatch h
theorem subCons {P : Addr → Prop} {a : Addr} {l : List Addr} (h : P a) (t : ∀ x ∈ l, P x) : ∀ x ∈ a :: l, P x := fun x m => (List.mem_cons.mp m).elim (fun e => by rw [e]; exact h) (t x)
theorem subApp {P : Addr → Prop} {l m : List Addr} (h : ∀ x ∈ l, P x) (t : ∀ x ∈ m, P x) : ∀ x ∈ l ++ m, P x := fun x e => (List.mem_append.mp e).elim (h x) (t x)
theorem sqtAll {K : PySem.W.Frag} {H : Hp} {a : Addr} {xs : List V} (h : ∀ H, SqT K H a xs) : SqT K H a xs := h H
theorem sqtSame {K : PySem.W.Frag} {H H1 : Hp} {a : Addr} {xs : List V} (s : Same H H1) (h : SqT K H a xs) : SqT K H1 a xs := by
  rcases h with (h | ⟨o, h⟩) | h
  · exact .inl (.inl (s _ _ h))
  · exact .inl (.inr ⟨o, s _ _ h⟩)
  · exact .inr h
theorem frUp {H : Hp} {a p : Addr} {o : HO} (n : p ≠ a) (h : Fr H p) : Fr (upd H a o) p := ⟨by rw [upd_ne n]; exact h.h⟩
theorem bag_putF {p q : Addr} {H : Hp} {o : HO} (n : Fr H q) (b : Bag H p) : Bag (upd H q o) p := bag_put b n.h
theorem bag_kpR {p : Addr} {cs : List Addr} {H H1 : Hp} (k : Kp cs H H1) (n : p ∉ cs) (h : Bag H p) : Bag H1 p := by
  obtain ⟨g, m, c, e, z⟩ := h
  exact ⟨g, m, c, k.at_ _ _ e n, z⟩

/-- a promise that a run does not open by itself -/
structure Bx (p : Prop) : Prop where
  h : p
def bx (sp : Sp) : Sp := fun vs H Q E => Bx (sp vs H Q E)
theorem fnBx {P : Program} {w : World} {K : PySem.W.Frag} {mg : Str → Option Value} {base : Heap} {CX : CXT} {k : Nat} {f : Addr} {fd : FuncData} {ps : List Str} {sp : Sp} (F : FnOk P w K mg base CX k f fd ps sp) : FnOk P w K mg base CX k f fd ps (bx sp) := F.imp fun _ _ _ _ h => h.h

set_option hygiene false in
local macro_rules
  | `(tactic| kp_flats) => `(tactic| first
    | assumption
    | exact upd_same
    | (apply atNew; assumption; kp_flats)
    | (apply atNe; (next => kbo_bools); kp_flats)
    | (apply atSame; assumption; kp_flats)
    | (apply atKp; assumption; (next => kaf_pre); kp_flats))
set_option hygiene false in
local macro_rules
  | `(tactic| kaf_pre) => `(tactic| first
    | assumption
    | exact not_nil
    | (apply not_cons; (next => kbo_bools); kaf_pre)
    | (apply not_app; (next => kaf_pre); kaf_pre))
set_option hygiene false in
local macro_rules
  | `(tactic| kbo_bools) => `(tactic| first
    | assumption
    | (apply Ne.symm; assumption)
    | (apply neN; assumption; kp_flats)
    | (apply neN'; assumption; kp_flats))
set_option hygiene false in
local macro_rules
  | `(tactic| o_reads) => `(tactic| first
    | with_reducible rfl
    | assumption
    | rfl
    | kp_flats
    | (show SqL _ _ _ _; first | assumption | (apply sqlOf; kp_flats) | (apply sqlSame; assumption; o_reads))
    | (show SqT _ _ _ _; first | assumption | (apply sqtOf; kp_flats) | (apply sqtAll; assumption) | (apply sqtSame; assumption; o_reads))
    | (show Cls _ _; first | exact T.cl_Calls | exact T.cl_Joiner | exact T.cl_Planner | exact T.cl_EvenSums | exact T.cl_Shape | exact T.cl_TwoStacks)
    | (show NoAttr _ _ _; first | exact T.n_Calls_entries | exact T.n_Calls_running | exact T.n_Joiner_calls | exact T.n_Joiner_join_call | exact T.n_Planner_entries | exact T.n_EvenSums_calls | exact T.n_EvenSums_joiner | exact T.n_EvenSums_zero | exact T.n_EvenSums_given | exact T.n_EvenSums_held | exact T.n_EvenSums_shape | exact T.n_Shape_front | exact T.n_Shape_back | exact T.n_Shape_late | exact T.n_Shape_renewed | exact T.n_TwoStacks_calls | exact T.n_TwoStacks_joiner | exact T.n_TwoStacks_zero | exact T.n_TwoStacks_given | exact T.n_TwoStacks_held | exact T.n_TwoStacks_front | exact T.n_TwoStacks_back)
    | (apply Or.inl; o_reads)
    | (apply Or.inr; o_reads)
    | (apply And.intro; (next => o_reads); o_reads)
    | (apply Exists.intro; o_reads)
    | exact Nat.le_of_ble_eq_true rfl
    | exact Nat.succ_ne_zero _
    | (show Fr _ _; kba_ints)
    | (show Same _ _; kd_subs)
    | (show Kp _ _ _; kxs_still)
    | (show (_ : Nat) ≤ _; simp only [List.length_append, List.length_map, List.length_cons, List.length_nil, List.length_take, List.length_drop, List.length_replicate, List.length_range, sizeLine_eq]; omega)
    | (show _ = none; apply Fr.h; kba_ints)
    | (show Bag _ _; first | assumption | (apply bag_putF; assumption; o_reads) | (apply bag_neF; (next => kbo_bools); o_reads) | (apply bag_kpR; assumption; (next => kaf_pre); o_reads))
    | omega
    | decide)
local macro_rules
  | `(tactic| o_readsAll) => `(tactic| repeat (first
    | (refine fun (pNew : Addr) (nNew : _ = none) => ?_; replace nNew := Fr.mk nNew)
    | (refine fun (xNew dNew : Addr) (nNew : _ = none) (mNew : _ = none) (eNew : dNew ≠ xNew) => ?_; replace nNew := Fr.mk nNew; replace mNew := Fr.mk mNew)
    | (apply And.intro; next => o_reads)
    | apply Exists.intro (α := V)
    | apply Exists.intro (α := Addr)
    | apply Exists.intro (α := Int)
    | apply Exists.intro (α := Bool)
    | apply Exists.intro (α := List V)
    | apply Exists.intro (α := List Nat)
    | apply Exists.intro (α := List (Str × V))
    | apply Exists.intro (α := List _)
    | apply Exists.intro (α := Str)
    | apply Exists.intro (α := HO)
    | apply Exists.intro (α := Sp)
    | apply Exists.intro (α := VK)))
set_option hygiene false in
local macro_rules
  | `(tactic| kba_ints) => `(tactic| first
    | assumption
    | (apply frUp; (first | assumption | (apply Ne.symm; assumption)); kba_ints)
    | (apply noneOf; assumption; intro oF eF; apply Exists.intro; kp_flats)
    | (apply frUp; (next => kbo_bools); kba_ints))
set_option hygiene false in
local macro_rules
  | `(tactic| kxs_still) => `(tactic| first
    | assumption
    | exact kp_refl _ _
    | (apply kp_newF; assumption; kxs_still)
    | (apply kp_new; assumption; kxs_still)
    | (apply kp_up; (next => o_fieldsN); kxs_still)
    | (apply kp_new; (next => kba_ints); kxs_still)
    | (apply kp_sameR; assumption; kxs_still)
    | (apply kp_transR; assumption; kxs_still)
    | (apply kp_freshR; assumption; (next => kaf_suf); kxs_still))
set_option hygiene false in
local macro_rules
  | `(tactic| kaf_suf) => `(tactic| first
    | assumption
    | exact subNil
    | (apply subCons; (first | (apply Or.inl; o_fieldsN) | (apply Or.inr; kba_ints)); kaf_suf)
    | (apply subApp; (next => kaf_suf); kaf_suf))
set_option hygiene false in
local macro_rules
  | `(tactic| o_fieldsN) => `(tactic| first
    | assumption
    | exact memA
    | (apply memB; o_fieldsN)
    | (apply memL; o_fieldsN)
    | (apply memR; o_fieldsN))
set_option hygiene false in
local macro_rules
  | `(tactic| kd_subs) => `(tactic| first
    | assumption
    | exact Same.refl _
    | (apply same_putF; assumption; kd_subs)
    | (apply same_putG; assumption; kd_subs)
    | (apply same_putF; (next => kba_ints); kd_subs)
    | (apply same_transR; assumption; kd_subs))

/-! ### the calls of a collection -/
def CO (C dx l : Addr) (r : Bool) : HO := .ins C dx [("entries", .ref l), ("running", .bl r)]
section
variable {P : Program} {w : World} {K : PySem.W.Frag} {mg : Str → Option Value} {base : Heap} {n : Nat}
def spCI (C : Addr) : Sp := fun vs H Q _ => ∃ (a dx : Addr), vs = [.ref a] ∧ H a = some (.ins C dx []) ∧ ∀ l H', Fr H l → H' a = some (CO C dx l false) → H' l = some (.lst []) → Kp [a] H H' → Q .non H'
theorem ok_ci (T : Txt K mg) : FnOk P w K mg base CX0 1 T.f_Calls_init T.d_Calls_init ["self"] (spCI T.C_Calls) := by
  refine T.F_Calls_init.ok sc_Calls_init (fun vs H Q E h => ?_) (fun cdv A outer s H vs Q E hr h => ?_)
  · obtain ⟨a, dx, rfl, _⟩ := h
    rfl
  · obtain ⟨a, dx, rfl, ha, q⟩ := h
    refine ⟨_, (pss_cons (ps_fld (pv 0) (pe_lst pa_nil) rfl)
      (pss_one (ps_fld (pv 0) pe_bl rfl))), ?_⟩
    o_readsAll
    rename_i l nl
    exact q _ _ nl (by kp_flats) (by kp_flats) (by kxs_still)
def spChk (C : Addr) : Sp := fun vs H Q _ => ∃ (c dx l : Addr), vs = [.ref c] ∧ H c = some (CO C dx l false) ∧ Q .non H
theorem ok_chk (T : Txt K mg) : FnOk P w K mg base CX0 1 T.f_Calls_check T.d_Calls_check ["self"] (spChk T.C_Calls) := by
  refine T.F_Calls_check.ok sc_Calls_check (fun vs H Q E h => ?_) (fun cdv A outer s H vs Q E hr h => ?_)
  · obtain ⟨a, dx, l, rfl, _⟩ := h
    rfl
  · obtain ⟨c, dx, l, rfl, hc, q⟩ := h
    refine ⟨_, (pss_one (ps_if (pt_val (pe_fld (pv 0) rfl)) pss_never pss_nil)), ?_⟩
    o_readsAll
    exact iteF q
/-- the callable f, called with xs in H: what it does brings Q -/
def Act (P : Program) (w : World) (K : PySem.W.Frag) (mg : Str → Option Value) (base : Heap) (n : Nat) (f : V) (xs : List V) (H : Hp) (Q : VK) : Prop :=
  ∃ (a : Addr) (sp : Sp) (Q0 : VK), f = .ref a ∧ Inf.FnIs K H a ∧ FnR P w K mg base CX0 n a sp ∧ sp xs H Q0 E0 ∧ ∀ v H', Q0 v H' → Q v H'
theorem Act.imp {f : V} {xs : List V} {H : Hp} {Q Q' : VK} (h : Act P w K mg base n f xs H Q) (i : ∀ v H', Q v H' → Q' v H') : Act P w K mg base n f xs H Q' := by
  obtain ⟨a, sp, Q0, h1, h3, h4, h5, h6⟩ := h
  exact ⟨a, sp, Q0, h1, h3, h4, h5, fun v H' z => i _ _ (h6 _ _ z)⟩
theorem fnR_q {k : Nat} {f : Addr} {sp : Sp} (F : FnR P w K mg base CX0 k f sp) : FnR P w K mg base CX0 k f (fun vs H Q E => ∃ Q0 : VK, sp vs H Q0 E ∧ ∀ v H', Q0 v H' → Q v H') := fun A outer s H us vs Q E hr e0 r h => by
  obtain ⟨Q0, h0, hi⟩ := h
  refine codeAny_mono (F A outer s H us vs Q0 E hr e0 r h0) fun res s' hq => ?_
  match res, hq with
  | .error e, z => exact z
  | .ok .next, z => exact z
  | .ok .brk, z => exact z
  | .ok .cont, z => exact z
  | .ok (.ret u), z =>
    obtain ⟨v, H', h1, h2, h3, h4, h5, h6⟩ := z
    exact ⟨v, H', h1, h2, h3, h4, h5, hi _ _ h6⟩
/-- run(entry, action, *values) -/
def spRun (P : Program) (w : World) (K : PySem.W.Frag) (mg : Str → Option Value) (base : Heap) (C : Addr) (n : Nat) : Sp := fun vs H Q E => ∃ (c dx l : Addr) (en f : V) (xs : List V), vs = [.ref c, en, f] ++ xs ∧ xs.length ≤ sizeLine ∧ H c = some (CO C dx l false) ∧
  ∀ H1, Kp [c] H H1 → H1 c = some (CO C dx l true) → Act P w K mg base n f xs H1 (fun v H2 => H2 c = some (CO C dx l true) ∧ ∃ es, H2 l = some (.lst es) ∧ es.length < sizeLine ∧
    ∀ H3, Kp [c, l] H2 H3 → H3 c = some (CO C dx l false) → H3 l = some (.lst (es ++ [en])) → Q v H3)
theorem ok_run (T : Txt K mg) : FnR P w K mg base CX0 (n + 1) T.f_Calls_run (spRun P w K mg base T.C_Calls n) := by
  obtain ⟨oc, od, kV, doc, pm, an, cdv, ct, osl, hfd, lk, hcd⟩ := T.F_Calls_run.ex
  rw [hfd] at lk
  have key := StX.fn_star (P := P) (w := w) (mg := mg) (base := base) (CX := CX0) (k := n) (ps := ["self", "entry", "action"]) (pv := "values") (sp := fun us H Q E => ∃ ws rest p H0, us = ws ++ [.ref p] ∧ ws.length = 3 ∧ H0 p = none ∧ H = upd H0 p (.tup rest) ∧ spRun P w K mg base T.C_Calls n (ws ++ rest) H0 Q E) lk hcd sc_Calls_run StX.cxUp_none (fun us rest hl => ?_) (fun A outer s H vs Q E hr h => ?_)
  · refine key.imp fun vs H Q E h => ?_
    have h' := h
    obtain ⟨c, dx, l, en, f, xs, rfl, lx, _⟩ := h
    exact ⟨[.ref c, en, f], xs, rfl, rfl, lx, fun p np => ⟨[.ref c, en, f], xs, p, H, rfl, rfl, np, rfl, h'⟩⟩
  · match us, hl, rest with
    | [a, b, c], _, [] => rfl
    | [a, b, c], _, r :: rs => rfl
  · obtain ⟨ws, rest, p, H0, rfl, hw, np, rfl, c, dx, l, en, f, xs, e1, lx, hc, q⟩ := h
    obtain ⟨rfl, rfl⟩ := List.append_inj e1 hw
    replace np := Fr.mk np
    refine ⟨_, (pss_cons (ps_fld (pv 0) pe_bl rfl)
      (pss_cons (Inf.ps_fin0 (pss_one (ps_set (i := 4) sc_Calls_run.nd rfl (.inl rfl) (Inf.pe_actG (i := 2) (CX := CX0) (k := n) (E := fun _ => E0) rfl (.inl rfl) hr (fun _ _ _ _ _ _ _ z => False.elim z) (pv 3)))) (pss_one (ps_fld (pv 0) pe_bl rfl)))
      (pss_cons (ps_expr (pe_bm PySem.F.plainAttrs_list PySem.F.slot_list_append PySem.F.type_list_append mt_append (pe_fld (pv 0) rfl) (pa_cons (pv 1) pa_nil)))
      (pss_one (ps_ret (pv 4)))))), ?_⟩
    obtain ⟨a, sp, Q0, rfl, h3, h4, h5, h6⟩ := q (upd (upd H0 p (.tup rest)) c (CO T.C_Calls dx l true)) (by kxs_still) upd_same
    replace h4 := fnR_q h4
    o_readsAll
    intro v H2 hv
    obtain ⟨hc2, es, hl, hs, q2⟩ := h6 v H2 hv
    have hlc : l ≠ c := neO hl hc2 (fun z => nomatch z)
    o_readsAll
    exact q2 _ (by kxs_still) (by kp_flats) (by kp_flats)
end
end Ob

set_option Elab.async false
set_option linter.all false
set_option maxRecDepth 100000
set_option maxHeartbeats 1000000
namespace Ob
open PySem PySem.Spec PyProof.Rows L2
open LamX (Tabs TabB TabS ExtN)

set_option hygiene false in
local macro_rules
  | `(tactic| kp_flats) => `(tactic| first
    | assumption
    | exact upd_same
    | (apply atNew; assumption; kp_flats)
    | (apply atNe; (next => kbo_bools); kp_flats)
    | (apply atSame; assumption; kp_flats)
    | (apply atKp; assumption; (next => kaf_pre); kp_flats))
set_option hygiene false in
local macro_rules
  | `(tactic| kaf_pre) => `(tactic| first
    | assumption
    | exact not_nil
    | (apply not_cons; (next => kbo_bools); kaf_pre)
    | (apply not_app; (next => kaf_pre); kaf_pre))
set_option hygiene false in
local macro_rules
  | `(tactic| kbo_bools) => `(tactic| first
    | assumption
    | (apply Ne.symm; assumption)
    | (apply neN; assumption; kp_flats)
    | (apply neN'; assumption; kp_flats))
set_option hygiene false in
local macro_rules
  | `(tactic| o_reads) => `(tactic| first
    | with_reducible rfl
    | assumption
    | rfl
    | kp_flats
    | (show SqL _ _ _ _; first | assumption | (apply sqlOf; kp_flats) | (apply sqlSame; assumption; o_reads))
    | (show SqT _ _ _ _; first | assumption | (apply sqtOf; kp_flats) | (apply sqtAll; assumption) | (apply sqtSame; assumption; o_reads))
    | (show Cls _ _; first | exact T.cl_Calls | exact T.cl_Joiner | exact T.cl_Planner | exact T.cl_EvenSums | exact T.cl_Shape | exact T.cl_TwoStacks)
    | (show NoAttr _ _ _; first | exact T.n_Calls_entries | exact T.n_Calls_running | exact T.n_Joiner_calls | exact T.n_Joiner_join_call | exact T.n_Planner_entries | exact T.n_EvenSums_calls | exact T.n_EvenSums_joiner | exact T.n_EvenSums_zero | exact T.n_EvenSums_given | exact T.n_EvenSums_held | exact T.n_EvenSums_shape | exact T.n_Shape_front | exact T.n_Shape_back | exact T.n_Shape_late | exact T.n_Shape_renewed | exact T.n_TwoStacks_calls | exact T.n_TwoStacks_joiner | exact T.n_TwoStacks_zero | exact T.n_TwoStacks_given | exact T.n_TwoStacks_held | exact T.n_TwoStacks_front | exact T.n_TwoStacks_back)
    | (apply Or.inl; o_reads)
    | (apply Or.inr; o_reads)
    | (apply And.intro; (next => o_reads); o_reads)
    | (apply Exists.intro; o_reads)
    | exact Nat.le_of_ble_eq_true rfl
    | exact Nat.succ_ne_zero _
    | (show Fr _ _; kba_ints)
    | (show Same _ _; kd_subs)
    | (show Kp _ _ _; kxs_still)
    | (show (_ : Nat) ≤ _; simp only [List.length_append, List.length_map, List.length_cons, List.length_nil, List.length_take, List.length_drop, List.length_replicate, List.length_range, sizeLine_eq]; omega)
    | (show _ = none; apply Fr.h; kba_ints)
    | (show Bag _ _; first | assumption | (apply bag_putF; assumption; o_reads) | (apply bag_neF; (next => kbo_bools); o_reads) | (apply bag_kpR; assumption; (next => kaf_pre); o_reads))
    | omega
    | decide)
local macro_rules
  | `(tactic| o_readsAll) => `(tactic| repeat (first
    | (refine fun (pNew : Addr) (nNew : _ = none) => ?_; replace nNew := Fr.mk nNew)
    | (refine fun (xNew dNew : Addr) (nNew : _ = none) (mNew : _ = none) (eNew : dNew ≠ xNew) => ?_; replace nNew := Fr.mk nNew; replace mNew := Fr.mk mNew)
    | (apply And.intro; next => o_reads)
    | apply Exists.intro (α := V)
    | apply Exists.intro (α := Addr)
    | apply Exists.intro (α := Int)
    | apply Exists.intro (α := Bool)
    | apply Exists.intro (α := List V)
    | apply Exists.intro (α := List Nat)
    | apply Exists.intro (α := List (Str × V))
    | apply Exists.intro (α := List _)
    | apply Exists.intro (α := Str)
    | apply Exists.intro (α := HO)
    | apply Exists.intro (α := Sp)
    | apply Exists.intro (α := VK)))
set_option hygiene false in
local macro_rules
  | `(tactic| kba_ints) => `(tactic| first
    | assumption
    | (apply frUp; (first | assumption | (apply Ne.symm; assumption)); kba_ints)
    | (apply noneOf; assumption; intro oF eF; apply Exists.intro; kp_flats)
    | (apply frUp; (next => kbo_bools); kba_ints))
set_option hygiene false in
local macro_rules
  | `(tactic| kxs_still) => `(tactic| first
    | assumption
    | exact kp_refl _ _
    | (apply kp_newF; assumption; kxs_still)
    | (apply kp_new; assumption; kxs_still)
    | (apply kp_up; (next => o_fieldsN); kxs_still)
    | (apply kp_new; (next => kba_ints); kxs_still)
    | (apply kp_sameR; assumption; kxs_still)
    | (apply kp_transR; assumption; kxs_still)
    | (apply kp_freshR; assumption; (next => kaf_suf); kxs_still))
set_option hygiene false in
local macro_rules
  | `(tactic| kaf_suf) => `(tactic| first
    | assumption
    | exact subNil
    | (apply subCons; (first | (apply Or.inl; o_fieldsN) | (apply Or.inr; kba_ints)); kaf_suf)
    | (apply subApp; (next => kaf_suf); kaf_suf))
set_option hygiene false in
local macro_rules
  | `(tactic| o_fieldsN) => `(tactic| first
    | assumption
    | exact memA
    | (apply memB; o_fieldsN)
    | (apply memL; o_fieldsN)
    | (apply memR; o_fieldsN))
set_option hygiene false in
local macro_rules
  | `(tactic| kd_subs) => `(tactic| first
    | assumption
    | exact Same.refl _
    | (apply same_putF; assumption; kd_subs)
    | (apply same_putG; assumption; kd_subs)
    | (apply same_putF; (next => kba_ints); kd_subs)
    | (apply same_transR; assumption; kd_subs))

def Mu (H : Hp) (cs : List Addr) : Prop := ∀ a ∈ cs, ∃ o, H a = some o ∧ (∀ xs, o ≠ .tup xs) ∧ ∀ φ, o ≠ .ext φ
theorem Mu.tup {H : Hp} {cs : List Addr} {t : Addr} {xs : List V} (n : Mu H cs) (h : H t = some (.tup xs)) : t ∉ cs := fun m => by
  obtain ⟨o, e, k, _⟩ := n t m
  rw [h] at e
  exact k xs (Option.some.inj e).symm
theorem Mu.ext {H : Hp} {cs : List Addr} {t : Addr} {φ : Heap → Prop} (n : Mu H cs) (h : H t = some (.ext φ)) : t ∉ cs := fun m => by
  obtain ⟨o, e, _, k⟩ := n t m
  rw [h] at e
  exact k φ (Option.some.inj e).symm
theorem Mu.fr {H : Hp} {cs : List Addr} {a : Addr} (n : Mu H cs) (f : Fr H a) : a ∉ cs := fun m => by
  obtain ⟨o, e, _⟩ := n a m
  rw [f.h] at e
  cases e
theorem Mu.sub {H : Hp} {cs ds : List Addr} (n : Mu H cs) (s : ∀ a ∈ ds, a ∈ cs) : Mu H ds := fun a m => n a (s a m)
theorem mu_nil {H : Hp} : Mu H [] := fun _ m => nomatch m
theorem mu_cons {H : Hp} {a : Addr} {o : HO} {l : List Addr} (e : H a = some o) (k : ∀ xs, o ≠ .tup xs) (k2 : ∀ φ, o ≠ .ext φ) (t : Mu H l) : Mu H (a :: l) := fun x m => (List.mem_cons.mp m).elim (fun z => by rw [z]; exact ⟨o, e, k, k2⟩) (t x)
theorem mu_lst {H : Hp} {a : Addr} {xs : List V} {l : List Addr} (e : H a = some (.lst xs)) (t : Mu H l) : Mu H (a :: l) := mu_cons e (fun _ z => nomatch z) (fun _ z => nomatch z) t
theorem mu_ins {H : Hp} {a C dx : Addr} {fs : List (Str × V)} {l : List Addr} (e : H a = some (.ins C dx fs)) (t : Mu H l) : Mu H (a :: l) := mu_cons e (fun _ z => nomatch z) (fun _ z => nomatch z) t
theorem mu_app {H : Hp} {l m : List Addr} (a : Mu H l) (b : Mu H m) : Mu H (l ++ m) := fun x h => (List.mem_append.mp h).elim (a x) (b x)
/-- what does not change stays; what changes is told again -/
theorem Mu.kp {H H1 : Hp} {cs ds : List Addr} (n : Mu H cs) (k : Kp ds H H1) (m : Mu H1 ds) : Mu H1 cs := fun a ha => by
  by_cases e : a ∈ ds
  · exact m a e
  · obtain ⟨o, h1, h2⟩ := n a ha
    exact ⟨o, k.at_ _ _ h1 e, h2⟩
theorem Mu.same {H H1 : Hp} {cs : List Addr} (n : Mu H cs) (s : Same H H1) : Mu H1 cs := fun a m => (n a m).imp fun _ z => ⟨s _ _ z.1, z.2⟩
theorem kp_tup {cs : List Addr} {H H1 : Hp} (k : Kp cs H H1) (n : Mu H cs) {t : Addr} {xs : List V} (h : H t = some (.tup xs)) : H1 t = some (.tup xs) := k.at_ _ _ h (n.tup h)

/-- either of two readings -/
def tEither (a b : TE) : TE := fun σ H Q => a σ H Q ∨ b σ H Q
theorem pe_either {X : Cx} {e : Expr} {a b : TE} (h : PE X e a) (k : PE X e b) : PE X e (tEither a b) := ⟨fun pins s σ H Q I z => z.elim (h.run pins s σ H Q I) (k.run pins s σ H Q I)⟩

set_option pp.maxSteps 900
/-! ### spans, and what joins them -/
def seg (ms : List V) (i j : Nat) : List V := (ms.drop i).take (j - i)
theorem seg_app {ms : List V} {i j k : Nat} (a : i ≤ j) (b : j ≤ k) : seg ms i j ++ seg ms j k = seg ms i k := by
  unfold seg
  have e : k - i = (j - i) + (k - j) := by omega
  rw [e, List.take_add, List.drop_drop]
  rw [show i + (j - i) = j by omega]
theorem seg_one {ms : List V} {i : Nat} {m : V} (h : ms[i]? = some m) : seg ms i (i + 1) = [m] := by
  unfold seg
  obtain ⟨l, rfl⟩ := List.getElem?_eq_some_iff.mp h
  rw [List.drop_eq_getElem_cons l, show i + 1 - i = 1 by omega]
  rfl
theorem seg_len {ms : List V} {i j : Nat} (b : j ≤ ms.length) : (seg ms i j).length = j - i := by
  unfold seg
  rw [List.length_take, List.length_drop]
  omega
theorem seg_more {ms ns : List V} {i j : Nat} (b : j ≤ ms.length) : seg (ms ++ ns) i j = seg ms i j := by
  unfold seg
  by_cases c : i ≤ ms.length
  · rw [List.drop_append_of_le_length c, List.take_append_of_le_length (by rw [List.length_drop]; omega)]
  · rw [show j - i = 0 by omega]
    rfl
abbrev JEv := V × V × V × (Nat × Nat × Nat)
/-- the entry of an event -/
abbrev entOf (ev : JEv) : Nat × Nat × Nat := ev.2.2.2
section
variable {P : Program} {w : World} {K : PySem.W.Frag} {mg : Str → Option Value} {base : Heap} {n : Nat}
/-- what a join does: of values of two runs of members it makes that of both, and notes the call -/
structure JS (P : Program) (w : World) (K : PySem.W.Frag) (mg : Str → Option Value) (base : Heap) (n : Nat) (lb : Bool) (uv : List Addr) (f : V) (UR : List JEv → Hp → Prop) (Val : Nat → List V → V → Hp → Prop) : Prop where
  ur : ∀ {cs : List Addr} {u : List JEv} {H H1 : Hp}, UR u H → Kp cs H H1 → Mu H cs → (∀ a ∈ uv, a ∉ cs) → UR u H1
  val : ∀ {cs : List Addr} {i : Nat} {xs : List V} {v : V} {H H1 : Hp}, Val i xs v H → Kp cs H H1 → Mu H cs → Val i xs v H1
  mu : ∀ {u : List JEv} {H : Hp}, UR u H → Mu H uv
  pl : lb = false → ∀ (u : List JEv) (i : Nat) (xs : List V) (v : V) (H : Hp), UR u H ∧ Val i xs v H
  act : lb = true → ∀ {i : Nat} {xs ys : List V} {a b : V} {u : List JEv} {H : Hp} {Q : VK}, Val i xs a H → Val (i + xs.length) ys b H → UR u H → u.length < 90000 → xs.length + ys.length < 90000 → (∀ v H', Kp uv H H' → UR (u ++ [(a, b, v, (i, i + xs.length, i + xs.length + ys.length))]) H' → Val i (xs ++ ys) v H' → Q v H') → Act P w K mg base n f [a, b] H Q
def SpanAt (Val : Nat → List V → V → Hp → Prop) (ms : List V) (s : V) (i j : Nat) (H : Hp) : Prop := i < j ∧ j ≤ ms.length ∧ ∃ (p : Addr) (v : V), s = .ref p ∧ H p = some (.tup [.int i, .int j, v]) ∧ Val i (seg ms i j) v H
theorem SpanAt.kp {lb : Bool} {uv : List Addr} {f : V} {UR : List JEv → Hp → Prop} {Val : Nat → List V → V → Hp → Prop} (U : JS P w K mg base n lb uv f UR Val) {ms : List V} {s : V} {i j : Nat} {H H1 : Hp} {cs : List Addr} (h : SpanAt Val ms s i j H) (k : Kp cs H H1) (m : Mu H cs) : SpanAt Val ms s i j H1 := by
  obtain ⟨h1, h2, p, v, h3, h4, h5⟩ := h
  exact ⟨h1, h2, p, v, h3, kp_tup k m h4, U.val h5 k m⟩
theorem SpanAt.more {Val : Nat → List V → V → Hp → Prop} {ms ns : List V} {s : V} {i j : Nat} {H : Hp} (h : SpanAt Val ms s i j H) : SpanAt Val (ms ++ ns) s i j H := by
  obtain ⟨h1, h2, p, v, h3, h4, h5⟩ := h
  exact ⟨h1, by rw [List.length_append]; omega, p, v, h3, h4, by rw [seg_more h2]; exact h5⟩
/-- an entry of the log -/
def JEnt (H : Hp) (x : V) (e : Nat × Nat × Nat) : Prop := ∃ p a b : Addr, x = .ref p ∧ H p = some (.tup [.str "join", .ref a, .ref b]) ∧ H a = some (.tup [.int e.1, .int e.2.1]) ∧ H b = some (.tup [.int e.2.1, .int e.2.2])
structure JLog (H : Hp) (xs : List V) (es : List (Nat × Nat × Nat)) : Prop where
  len : xs.length = es.length
  at_ : ∀ (q : Nat) (x : V) (e : Nat × Nat × Nat), xs[q]? = some x → es[q]? = some e → JEnt H x e
theorem JEnt.kp {H H1 : Hp} {x : V} {e : Nat × Nat × Nat} {cs : List Addr} (h : JEnt H x e) (k : Kp cs H H1) (m : Mu H cs) : JEnt H1 x e := by
  obtain ⟨p, a, b, h1, h2, h3, h4⟩ := h
  exact ⟨p, a, b, h1, kp_tup k m h2, kp_tup k m h3, kp_tup k m h4⟩
theorem JLog.kp {H H1 : Hp} {xs : List V} {es : List (Nat × Nat × Nat)} {cs : List Addr} (h : JLog H xs es) (k : Kp cs H H1) (m : Mu H cs) : JLog H1 xs es := ⟨h.len, fun q x e a b => (h.at_ q x e a b).kp k m⟩
theorem JLog.add {H : Hp} {xs : List V} {es : List (Nat × Nat × Nat)} {x : V} {e : Nat × Nat × Nat} (h : JLog H xs es) (g : JEnt H x e) : JLog H (xs ++ [x]) (es ++ [e]) := by
  refine ⟨by rw [List.length_append, List.length_append, h.len]; rfl, fun q y d a b => ?_⟩
  by_cases c : q < xs.length
  · rw [List.getElem?_append_left c] at a
    rw [List.getElem?_append_left (by rw [← h.len]; exact c)] at b
    exact h.at_ q y d a b
  · rw [List.getElem?_append_right (by omega)] at a
    rw [List.getElem?_append_right (by rw [← h.len]; omega), ← h.len] at b
    match q - xs.length, a, b with
    | 0, a, b =>
      cases a
      cases b
      exact g
    | r + 1, a, b => cases a
/-- a planner, with its entries -/
def PO (C dx l : Addr) : HO := .ins C dx [("entries", .ref l)]
abbrev CJ {K : PySem.W.Frag} {mg : Str → Option Value} (T : Txt K mg) : Addr × Addr := (T.C_Joiner, T.C_Planner)
def JO (C dx c : Addr) (f : V) : HO := .ins C dx [("calls", .ref c), ("join_call", f)]
theorem jo_co {C dx c C' dx' l : Addr} {f : V} {r : Bool} : JO C dx c f ≠ CO C' dx' l r := fun z => by
  unfold JO CO at z
  injection z with _ _ z
  injection z with z _
  injection z with z _
  revert z
  decide
theorem fr_kp {cs : List Addr} {H H1 : Hp} {p : Addr} (k : Kp cs H H1) (m : Mu H1 cs) (f : Fr H1 p) : Fr H p := noneOf f fun o e => by
  by_cases c : p ∈ cs
  · obtain ⟨u, h, _⟩ := m p c
    exact ⟨u, h⟩
  · exact ⟨o, k.at_ _ _ e c⟩
/-- the joiner of a queue, its log and what its join has noted -/
structure JW (Cj : Addr × Addr) (Cc : Addr) (lb : Bool) (uv : List Addr) (f : V) (UR : List JEv → Hp → Prop) (j jdx c cdx l : Addr) (u : List JEv) (es : List (Nat × Nat × Nat)) (H : Hp) : Prop where
  st : (lb = true ∧ H j = some (JO Cj.1 jdx c f) ∧ H c = some (CO Cc cdx l false)) ∨ (lb = false ∧ c = j ∧ H j = some (PO Cj.2 jdx l))
  lg : ∃ xs, H l = some (.lst xs) ∧ JLog H xs es
  ur : UR u H
  ue : es = u.map entOf
  nj : j ∉ uv
  nc : c ∉ uv
  nl : l ∉ uv
variable {lb : Bool} {uv : List Addr} {f : V} {UR : List JEv → Hp → Prop} {Val : Nat → List V → V → Hp → Prop} {Cj : Addr × Addr} {Cc j jdx c cdx l : Addr} {u : List JEv} {es : List (Nat × Nat × Nat)} {H H1 : Hp}
theorem JW.hj (h : JW Cj Cc true uv f UR j jdx c cdx l u es H) : H j = some (JO Cj.1 jdx c f) := by
  rcases h.st with ⟨_, z, _⟩ | ⟨z, _⟩
  · exact z
  · cases z
theorem JW.hc (h : JW Cj Cc true uv f UR j jdx c cdx l u es H) : H c = some (CO Cc cdx l false) := by
  rcases h.st with ⟨_, _, z⟩ | ⟨z, _⟩
  · exact z
  · cases z
theorem JW.mk1 (hj : H j = some (JO Cj.1 jdx c f)) (hc : H c = some (CO Cc cdx l false)) (lg : ∃ xs, H l = some (.lst xs) ∧ JLog H xs es) (ur : UR u H) (ue : es = u.map entOf) (nj : j ∉ uv) (nc : c ∉ uv) (nl : l ∉ uv) : JW Cj Cc true uv f UR j jdx c cdx l u es H := ⟨.inl ⟨rfl, hj, hc⟩, lg, ur, ue, nj, nc, nl⟩
theorem JW.mu (U : JS P w K mg base n lb uv f UR Val) (h : JW Cj Cc lb uv f UR j jdx c cdx l u es H) : Mu H ([c, l] ++ uv) := by
  obtain ⟨xs, h1, h2⟩ := h.lg
  rcases h.st with ⟨_, _, hc⟩ | ⟨_, e, hj⟩
  · exact mu_app (mu_ins hc (mu_lst h1 mu_nil)) (U.mu h.ur)
  · exact mu_app (mu_ins (by rw [e]; exact hj) (mu_lst h1 mu_nil)) (U.mu h.ur)
theorem JW.kp (U : JS P w K mg base n lb uv f UR Val) {cs : List Addr} (h : JW Cj Cc lb uv f UR j jdx c cdx l u es H) (k : Kp cs H H1) (m : Mu H cs) (nj : j ∉ cs) (nc : c ∉ cs) (nl : l ∉ cs) (nu : ∀ a ∈ uv, a ∉ cs) : JW Cj Cc lb uv f UR j jdx c cdx l u es H1 := by
  obtain ⟨xs, h1, h2⟩ := h.lg
  refine ⟨?_, ⟨xs, k.at_ _ _ h1 nl, h2.kp k m⟩, U.ur h.ur k m nu, h.ue, h.nj, h.nc, h.nl⟩
  rcases h.st with ⟨e, hj, hc⟩ | ⟨e, ec, hj⟩
  · exact .inl ⟨e, k.at_ _ _ hj nj, k.at_ _ _ hc nc⟩
  · exact .inr ⟨e, ec, k.at_ _ _ hj nj⟩
theorem JW.same (U : JS P w K mg base n lb uv f UR Val) (h : JW Cj Cc lb uv f UR j jdx c cdx l u es H) (s : Same H H1) : JW Cj Cc lb uv f UR j jdx c cdx l u es H1 := h.kp U (cs := []) (kp_same s) mu_nil not_nil not_nil not_nil fun _ _ => not_nil
def spEnt : Sp := fun vs H Q _ => ∃ (p q : Addr) (i j k : Nat) (a b : V), vs = [.ref p, .ref q] ∧ H p = some (.tup [.int i, .int j, a]) ∧ H q = some (.tup [.int j, .int k, b]) ∧ ∀ x H', Same H H' → JEnt H' (.ref x) (i, j, k) → Q (.ref x) H'
theorem ok_ent (T : Txt K mg) : FnOk P w K mg base CX0 1 T.f_join_entry T.d_join_entry ["one", "other"] spEnt := by
  refine T.F_join_entry.ok sc_join_entry (fun vs H Q E h => ?_) (fun cdv A outer s H vs Q E hr h => ?_)
  · obtain ⟨p, q, i, j, k, a, b, rfl, _⟩ := h
    rfl
  · obtain ⟨p, q, i, j, k, a, b, rfl, h1, h2, hq⟩ := h
    refine ⟨_, (pss_one (ps_ret (pe_tup (pa_cons pe_str (pa_cons (pe_tup (pa_cons (pe_ix (r := rIxT K) ix_tup (pv 0) pe_int (fun _ _ => rfl)) (pa_cons (pe_ix (r := rIxT K) ix_tup (pv 0) pe_int (fun _ _ => rfl)) pa_nil))) (pa_cons (pe_tup (pa_cons (pe_ix (r := rIxT K) ix_tup (pv 1) pe_int (fun _ _ => rfl)) (pa_cons (pe_ix (r := rIxT K) ix_tup (pv 1) pe_int (fun _ _ => rfl)) pa_nil))) pa_nil)))))), ?_⟩
    refine ⟨_, rfl, p, _, 0, _, rfl, rfl, sqtOf h1, atI_nat (j := 0) rfl, _, rfl, p, _, 1, _, rfl, rfl, sqtOf h1, atI_nat (j := 1) rfl, le2, fun x1 n1 => ?_⟩
    have f1 := Fr.mk n1
    have s1 : Same H (upd H x1 (.tup [.int i, .int j])) := same_newF f1
    refine ⟨_, rfl, q, _, 0, _, rfl, rfl, sqtOf (s1 _ _ h2), atI_nat (j := 0) rfl, _, rfl, q, _, 1, _, rfl, rfl, sqtOf (s1 _ _ h2), atI_nat (j := 1) rfl, le2, fun x2 n2 => ⟨(by decide : 3 ≤ sizeLine), fun x3 n3 => ?_⟩⟩
    have f2 := Fr.mk n2
    have f3 := Fr.mk n3
    have s2 : Same (upd H x1 (.tup [.int i, .int j])) (upd (upd H x1 (.tup [.int i, .int j])) x2 (.tup [.int j, .int k])) := same_newF f2
    have s3 : Same (upd (upd H x1 (.tup [.int i, .int j])) x2 (.tup [.int j, .int k])) (upd (upd (upd H x1 (.tup [.int i, .int j])) x2 (.tup [.int j, .int k])) x3 (.tup [.str "join", .ref x1, .ref x2])) := same_newF f3
    exact hq x3 _ (s1.trans (s2.trans s3)) ⟨x3, x1, x2, rfl, upd_same, s3 _ _ (s2 _ _ upd_same), s3 _ _ upd_same⟩
def spSingle : Sp := fun vs H Q _ => ∃ (i : Nat) (m : V), vs = [.int i, m] ∧ ∀ p H', H' = upd H p (.tup [.int i, .int (i + 1 : Nat), m]) → Fr H p → Q (.ref p) H'
theorem ok_single (T : Txt K mg) : FnOk P w K mg base CX0 1 T.f_single T.d_single ["number", "member"] spSingle := by
  refine T.F_single.ok sc_single (fun vs H Q E h => ?_) (fun cdv A outer s H vs Q E hr h => ?_)
  · obtain ⟨i, m, rfl, _⟩ := h
    rfl
  · obtain ⟨i, m, rfl, q⟩ := h
    refine ⟨_, (pss_one (ps_ret (pe_tup (pa_cons (pv 0) (pa_cons (pe_op op_add (pv 0) pe_int) (pa_cons (pv 1) pa_nil)))))), ?_⟩
    refine ⟨_, rfl, _, rfl, _, _, rfl, rfl, _, rfl, (by decide : 3 ≤ sizeLine), fun p np => ?_⟩
    exact q p _ rfl (Fr.mk np)
/-- a span, or None where there is no member -/
def OptSpan (Val : Nat → List V → V → Hp → Prop) (ms : List V) (s : V) (i j : Nat) (H : Hp) : Prop := (s = .non ∧ i = j ∧ j ≤ ms.length) ∨ SpanAt Val ms s i j H
def spLen (Val : Nat → List V → V → Hp → Prop) : Sp := fun vs H Q _ => ∃ (ms : List V) (s : V) (i j : Nat), vs = [s] ∧ OptSpan Val ms s i j H ∧ Q (.int ((j - i : Nat) : Int)) H
theorem ok_splen (T : Txt K mg) (Val : Nat → List V → V → Hp → Prop) : FnOk P w K mg base CX0 1 T.f_span_length T.d_span_length ["span"] (spLen Val) := by
  refine T.F_span_length.ok sc_span_length (fun vs H Q E h => ?_) (fun cdv A outer s H vs Q E hr h => ?_)
  · obtain ⟨ms, x, i, j, rfl, _⟩ := h
    rfl
  · obtain ⟨ms, x, i, j, rfl, hs, q⟩ := h
    refine ⟨_, (pss_cons (ps_if (pt_cmpR op_isN (pv 0) pe_non (nomark _)) (pss_one (ps_ret pe_int)) pss_nil)
      (pss_one (ps_ret (pe_op op_sub (pe_ix (r := rIxT K) ix_tup (pv 0) pe_int (fun _ _ => rfl)) (pe_ix (r := rIxT K) ix_tup (pv 0) pe_int (fun _ _ => rfl)))))), ?_⟩
    rcases hs with ⟨rfl, rfl, l⟩ | ⟨h1, h2, p, v, rfl, h3, _⟩
    · refine ⟨_, rfl, rfl, _, rfl, ?_⟩
      refine ifT (decide_eq_true rfl) ?_
      rw [Nat.sub_self] at q
      exact q
    · refine ⟨_, rfl, rfl, _, rfl, ?_⟩
      refine ifF (decide_eq_false fun z => nomatch z) ?_
      refine ⟨_, rfl, p, _, 1, _, rfl, rfl, sqtOf h3, atI_nat (j := 1) rfl, _, rfl, p, _, 0, _, rfl, rfl, sqtOf h3, atI_nat (j := 0) rfl, _, _, rfl, rfl, ?_⟩
      rw [show ((j - i : Nat) : Int) = (j : Int) - (i : Int) by omega] at q
      exact q
/-- joined(one, other) -/
def spJoined (P : Program) (w : World) (K : PySem.W.Frag) (mg : Str → Option Value) (base : Heap) (Cj : Addr × Addr) (Cc : Addr) (n : Nat) (lb : Bool) : Sp := fun vs H Q _ => ∃ (uv : List Addr) (f : V) (UR : List JEv → Hp → Prop) (Val : Nat → List V → V → Hp → Prop) (j jdx c cdx l : Addr) (u : List JEv) (es : List (Nat × Nat × Nat)) (ms : List V) (s t : V) (i m k : Nat),
  vs = [.ref j, s, t] ∧ JS P w K mg base n lb uv f UR Val ∧ JW Cj Cc lb uv f UR j jdx c cdx l u es H ∧ u.length < 90000 ∧ es.length < 90000 ∧ ms.length < 90000 ∧ SpanAt Val ms s i m H ∧ SpanAt Val ms t m k H ∧
  ∀ p (ev : JEv) H', Fr H p → Kp ([c, l] ++ uv) H H' → JW Cj Cc lb uv f UR j jdx c cdx l (u ++ [ev]) (es ++ [(i, m, k)]) H' → SpanAt Val ms (.ref p) i k H' → Q (.ref p) H'
theorem ok_joined (T : Txt K mg) : FnOk P w K mg base CX0 (n + 4) T.f_Joiner_joined T.d_Joiner_joined ["self", "one", "other"] (spJoined P w K mg base (CJ T) T.C_Calls n true) := by
  have G_join_entry := ok_ent (P := P) (w := w) (base := base) T
  have G_Calls_run := ok_run (P := P) (w := w) (base := base) (n := n) T
  refine T.F_Joiner_joined.ok sc_Joiner_joined (fun vs H Q E h => ?_) (fun cdv A outer s H vs Q E hr h => ?_)
  · obtain ⟨uv, f, UR, Val, j, jdx, c, cdx, l, u, es, ms, s, t, i, m, k, rfl, _⟩ := h
    rfl
  · obtain ⟨uv, f, UR, Val, j, jdx, c, cdx, l, u, es, ms, s, t, i, m, k, rfl, U, jw, lu, le, lms, ⟨h1, h2, p1, v1, rfl, h3, h4⟩, ⟨h5, h6, p2, v2, rfl, h7, h8⟩, q⟩ := h
    refine ⟨_, (pss_cons (ps_set (i := 3) sc_Joiner_joined.nd rfl (.inl rfl) (pe_methR (pe_fld (pv 0) rfl) T.cl_Calls ⟨T.m_Calls_run, T.t_Calls_run, T.k_Calls_run⟩ G_Calls_run (hr.mono (by omega)) pass0 (pa_cons (pe_call G_join_entry (hr.mono (by omega)) rfl T.g_join_entry T.F_join_entry.kp T.b_join_entry .nil pass0 (pa_cons (pv 1) (pa_cons (pv 2) pa_nil))) (pa_cons (pe_fld (pv 0) rfl) (pa_cons (pe_ix (r := rIxT K) ix_tup (pv 1) pe_int (fun _ _ => rfl)) (pa_cons (pe_ix (r := rIxT K) ix_tup (pv 2) pe_int (fun _ _ => rfl)) pa_nil))))))
      (pss_one (ps_ret (pe_tup (pa_cons (pe_ix (r := rIxT K) ix_tup (pv 1) pe_int (fun _ _ => rfl)) (pa_cons (pe_ix (r := rIxT K) ix_tup (pv 2) pe_int (fun _ _ => rfl)) (pa_cons (pv 3) pa_nil))))))), ?_⟩
    have hj := jw.hj
    have hc := jw.hc
    o_readsAll
    intro x H1 s1 je
    have jw1 := jw.same U s1
    have hj1 := jw1.hj
    have hc1 := jw1.hc
    have e3 := s1 _ _ h3
    have e7 := s1 _ _ h7
    refine ⟨_, rfl, j, _, _, _, f, rfl, hj1, T.cl_Joiner, T.n_Joiner_join_call, rfl, _, rfl, p1, _, 2, _, rfl, rfl, sqtOf e3, atI_nat (j := 2) rfl, _, rfl, p2, _, 2, _, rfl, rfl, sqtOf e7, atI_nat (j := 2) rfl, c, cdx, l, .ref x, f, [v1, v2], rfl, (by decide : 2 ≤ sizeLine), hc1, fun H2 k2 c2 => ?_⟩
    have m1 : Mu H1 [c] := mu_ins hc1 mu_nil
    obtain ⟨xs1, l1, g1⟩ := jw1.lg
    have nlc : l ≠ c := neO l1 hc1 (fun z => nomatch z)
    have njc : j ≠ c := neO hj1 hc1 jo_co
    have k02 : Kp [c] H H2 := kp_trans (kp_same s1) k2
    have m0 : Mu H [c] := mu_ins hc mu_nil
    have ur2 := U.ur jw.ur k02 m0 fun a m => not_cons (fun z => jw.nc (by rw [← z]; exact m)) not_nil
    have hv1 := U.val h4 k02 m0
    have hv2 := U.val h8 k02 m0
    have ee1 : i + (seg ms i m).length = m := by rw [seg_len h2]; omega
    have ee2 : m + (seg ms m k).length = k := by rw [seg_len h6]; omega
    refine U.act rfl (i := i) hv1 (by rw [ee1]; exact hv2) ur2 lu (by rw [seg_len h2, seg_len h6]; omega) fun v H3 k3 ur3 hv3 => ?_
    rw [ee1, ee2] at ur3
    have mu2 := U.mu ur2
    have c3 := k3.at_ _ _ c2 jw.nc
    have l2 : H2 l = some (.lst xs1) := k2.at_ _ _ l1 (not_cons nlc not_nil)
    have l3 := k3.at_ _ _ l2 jw.nl
    refine ⟨c3, xs1, l3, by rw [g1.len, sizeLine_eq]; omega, fun H4 k4 c4 l4 => ?_⟩
    have m3 : Mu H3 [c, l] := mu_ins c3 (mu_lst l3 mu_nil)
    have m2 : Mu H2 uv := mu2
    have ur4 := U.ur ur3 k4 m3 fun a m => not_cons (fun z => jw.nc (by rw [← z]; exact m)) (not_cons (fun z => jw.nl (by rw [← z]; exact m)) not_nil)
    have e1 := kp_tup k4 m3 (kp_tup k3 m2 (kp_tup k2 m1 e3))
    have e2 := kp_tup k4 m3 (kp_tup k3 m2 (kp_tup k2 m1 e7))
    have je4 := ((je.kp k2 m1).kp k3 m2).kp k4 m3
    have g4 := ((g1.kp k2 m1).kp k3 m2).kp k4 m3
    have hj4 := k4.at_ _ _ (k3.at_ _ _ (k2.at_ _ _ hj1 (not_cons njc not_nil)) jw.nj) (not_cons njc (not_cons (neO hj1 l1 (fun z => nomatch z)) not_nil))
    have jw4 : JW (CJ T) T.C_Calls true uv f UR j jdx c cdx l (u ++ [(v1, v2, v, (i, m, k))]) (es ++ [(i, m, k)]) H4 := JW.mk1 hj4 c4 ⟨_, l4, g4.add je4⟩ ur4 (by rw [List.map_append, ← jw.ue]; rfl) jw.nj jw.nc jw.nl
    have kk : Kp ([c, l] ++ uv) H H4 := kp_trans (kp_more k02 (subCons (memL memA) subNil)) (kp_trans (kp_more k3 fun a m => memR m) (kp_more k4 fun a m => memL m))
    refine ⟨_, rfl, p1, _, 0, _, rfl, rfl, sqtOf e1, atI_nat (j := 0) rfl, _, rfl, p2, _, 1, _, rfl, rfl, sqtOf e2, atI_nat (j := 1) rfl, _, rfl, (by decide : 3 ≤ sizeLine), fun p np => ?_⟩
    have fp := Fr.mk np
    have sp : Same H4 (upd H4 p (.tup [.int i, .int k, v])) := same_newF fp
    rw [seg_app (Nat.le_of_lt h1) (Nat.le_of_lt h5)] at hv3
    exact q p (v1, v2, v, (i, m, k)) _ (fr_kp kk (jw4.mu U) fp) (kp_trans kk (kp_same sp)) (jw4.same U sp) ⟨Nat.lt_trans h1 h5, h6, p, v, rfl, upd_same, U.val (U.val hv3 k4 m3) (kp_same (cs := []) sp) mu_nil⟩
/-- joined(one, other) of a planner -/
theorem ok_pjoined (T : Txt K mg) : FnOk P w K mg base CX0 (n + 4) T.f_Planner_joined T.d_Planner_joined ["self", "one", "other"] (spJoined P w K mg base (CJ T) T.C_Calls n false) := by
  have G_join_entry := ok_ent (P := P) (w := w) (base := base) T
  refine T.F_Planner_joined.ok sc_Planner_joined (fun vs H Q E h => ?_) (fun cdv A outer s H vs Q E hr h => ?_)
  · obtain ⟨uv, f, UR, Val, j, jdx, c, cdx, l, u, es, ms, s, t, i, m, k, rfl, _⟩ := h
    rfl
  · obtain ⟨uv, f, UR, Val, j, jdx, c, cdx, l, u, es, ms, s, t, i, m, k, rfl, U, jw, lu, le, lms, ⟨h1, h2, p1, v1, rfl, h3, h4⟩, ⟨h5, h6, p2, v2, rfl, h7, h8⟩, q⟩ := h
    refine ⟨_, (pss_cons (ps_expr (pe_bm PySem.F.plainAttrs_list PySem.F.slot_list_append PySem.F.type_list_append mt_append (pe_fld (pv 0) rfl) (pa_cons (pe_call G_join_entry (hr.mono (by omega)) rfl T.g_join_entry T.F_join_entry.kp T.b_join_entry .nil pass0 (pa_cons (pv 1) (pa_cons (pv 2) pa_nil))) pa_nil)))
      (pss_one (ps_ret (pe_tup (pa_cons (pe_ix (r := rIxT K) ix_tup (pv 1) pe_int (fun _ _ => rfl)) (pa_cons (pe_ix (r := rIxT K) ix_tup (pv 2) pe_int (fun _ _ => rfl)) (pa_cons pe_non pa_nil))))))), ?_⟩
    have hj : c = j ∧ H j = some (PO (CJ T).2 jdx l) := by
      rcases jw.st with ⟨z, _⟩ | ⟨_, z⟩
      · cases z
      · exact z
    obtain ⟨ec, hj⟩ := hj
    obtain ⟨xs, hl, hg⟩ := jw.lg
    refine ⟨_, rfl, j, _, _, _, .ref l, rfl, hj, T.cl_Planner, T.n_Planner_entries, rfl, .inl ⟨rfl, _, sqlOf hl⟩, _, rfl, _, rfl, p1, p2, i, m, k, v1, v2, rfl, h3, h7, fun x H1 s1 je => ?_⟩
    have hl1 := s1 _ _ hl
    have hj1 := s1 _ _ hj
    have e3 := s1 _ _ h3
    have e7 := s1 _ _ h7
    have g1 := hg.kp (kp_same (cs := []) s1) mu_nil
    refine ⟨l, _, _, rfl, rfl, hl1, by rw [hg.len, sizeLine_eq]; omega, ?_⟩
    have k2 : Kp [l] H1 (upd H1 l (.lst (xs ++ [.ref x]))) := kp_up memA (kp_refl _ _)
    have m1 : Mu H1 [l] := mu_lst hl1 mu_nil
    have e2 : upd H1 l (.lst (xs ++ [.ref x])) l = some (.lst (xs ++ [.ref x])) := upd_same
    have njl : j ≠ l := neO hj hl (fun z => nomatch z)
    refine ⟨_, rfl, p1, _, 0, _, rfl, rfl, sqtOf (kp_tup k2 m1 e3), atI_nat (j := 0) rfl, _, rfl, p2, _, 1, _, rfl, rfl, sqtOf (kp_tup k2 m1 e7), atI_nat (j := 1) rfl, (by decide : 3 ≤ sizeLine), fun p np => ?_⟩
    have fp := Fr.mk np
    have sp : Same (upd H1 l (.lst (xs ++ [.ref x]))) (upd (upd H1 l (.lst (xs ++ [.ref x]))) p (.tup [.int i, .int k, .non])) := same_newF fp
    have kk : Kp ([c, l] ++ uv) H (upd H1 l (.lst (xs ++ [.ref x]))) := kp_trans (kp_same s1) (kp_more k2 (subCons (memB memA) subNil))
    have jw2 : JW (CJ T) T.C_Calls false uv f UR j jdx c cdx l (u ++ [(v1, v2, .non, (i, m, k))]) (es ++ [(i, m, k)]) (upd H1 l (.lst (xs ++ [.ref x]))) := ⟨.inr ⟨rfl, ec, k2.at_ _ _ hj1 (not_cons njl not_nil)⟩, ⟨_, e2, (g1.kp k2 m1).add (je.kp k2 m1)⟩, (U.pl rfl _ 0 [] .non _).1, (by rw [List.map_append, ← jw.ue]; rfl), jw.nj, jw.nc, jw.nl⟩
    exact q p (v1, v2, .non, (i, m, k)) _ (fr_kp kk (jw2.mu U) fp) (kp_trans kk (kp_same sp)) (jw2.same U sp) ⟨Nat.lt_trans h1 h5, h6, p, .non, rfl, upd_same, (U.pl rfl [] _ _ _ _).2⟩
end
end Ob

set_option Elab.async false
set_option linter.all false
set_option maxRecDepth 100000
set_option maxHeartbeats 1000000
namespace Ob
open PySem PySem.Spec PyProof.Rows L2
open LamX (Tabs TabB TabS ExtN)

set_option hygiene false in
local macro_rules
  | `(tactic| kp_flats) => `(tactic| first
    | assumption
    | exact upd_same
    | (apply atNew; assumption; kp_flats)
    | (apply atNe; (next => kbo_bools); kp_flats)
    | (apply atSame; assumption; kp_flats)
    | (apply atKp; assumption; (next => kaf_pre); kp_flats))
set_option hygiene false in
local macro_rules
  | `(tactic| kaf_pre) => `(tactic| first
    | assumption
    | exact not_nil
    | (apply not_cons; (next => kbo_bools); kaf_pre)
    | (apply not_app; (next => kaf_pre); kaf_pre))
set_option hygiene false in
local macro_rules
  | `(tactic| kbo_bools) => `(tactic| first
    | assumption
    | (apply Ne.symm; assumption)
    | (apply neN; assumption; kp_flats)
    | (apply neN'; assumption; kp_flats))
set_option hygiene false in
local macro_rules
  | `(tactic| o_reads) => `(tactic| first
    | with_reducible rfl
    | assumption
    | rfl
    | kp_flats
    | (show SqL _ _ _ _; first | assumption | (apply sqlOf; kp_flats) | (apply sqlSame; assumption; o_reads))
    | (show SqT _ _ _ _; first | assumption | (apply sqtOf; kp_flats) | (apply sqtAll; assumption) | (apply sqtSame; assumption; o_reads))
    | (show Cls _ _; first | exact T.cl_Calls | exact T.cl_Joiner | exact T.cl_Planner | exact T.cl_EvenSums | exact T.cl_Shape | exact T.cl_TwoStacks)
    | (show NoAttr _ _ _; first | exact T.n_Calls_entries | exact T.n_Calls_running | exact T.n_Joiner_calls | exact T.n_Joiner_join_call | exact T.n_Planner_entries | exact T.n_EvenSums_calls | exact T.n_EvenSums_joiner | exact T.n_EvenSums_zero | exact T.n_EvenSums_given | exact T.n_EvenSums_held | exact T.n_EvenSums_shape | exact T.n_Shape_front | exact T.n_Shape_back | exact T.n_Shape_late | exact T.n_Shape_renewed | exact T.n_TwoStacks_calls | exact T.n_TwoStacks_joiner | exact T.n_TwoStacks_zero | exact T.n_TwoStacks_given | exact T.n_TwoStacks_held | exact T.n_TwoStacks_front | exact T.n_TwoStacks_back)
    | (apply Or.inl; o_reads)
    | (apply Or.inr; o_reads)
    | (apply And.intro; (next => o_reads); o_reads)
    | (apply Exists.intro; o_reads)
    | exact Nat.le_of_ble_eq_true rfl
    | exact Nat.succ_ne_zero _
    | (show Fr _ _; kba_ints)
    | (show Same _ _; kd_subs)
    | (show Kp _ _ _; kxs_still)
    | (show (_ : Nat) ≤ _; simp only [List.length_append, List.length_map, List.length_cons, List.length_nil, List.length_take, List.length_drop, List.length_replicate, List.length_range, sizeLine_eq]; omega)
    | (show _ = none; apply Fr.h; kba_ints)
    | (show Bag _ _; first | assumption | (apply bag_putF; assumption; o_reads) | (apply bag_neF; (next => kbo_bools); o_reads) | (apply bag_kpR; assumption; (next => kaf_pre); o_reads))
    | omega
    | decide)
local macro_rules
  | `(tactic| o_readsAll) => `(tactic| repeat (first
    | (refine fun (pNew : Addr) (nNew : _ = none) => ?_; replace nNew := Fr.mk nNew)
    | (refine fun (xNew dNew : Addr) (nNew : _ = none) (mNew : _ = none) (eNew : dNew ≠ xNew) => ?_; replace nNew := Fr.mk nNew; replace mNew := Fr.mk mNew)
    | (apply And.intro; next => o_reads)
    | apply Exists.intro (α := V)
    | apply Exists.intro (α := Addr)
    | apply Exists.intro (α := Int)
    | apply Exists.intro (α := Bool)
    | apply Exists.intro (α := List V)
    | apply Exists.intro (α := List Nat)
    | apply Exists.intro (α := List (Str × V))
    | apply Exists.intro (α := List _)
    | apply Exists.intro (α := Str)
    | apply Exists.intro (α := HO)
    | apply Exists.intro (α := Sp)
    | apply Exists.intro (α := VK)))
set_option hygiene false in
local macro_rules
  | `(tactic| kba_ints) => `(tactic| first
    | assumption
    | (apply frUp; (first | assumption | (apply Ne.symm; assumption)); kba_ints)
    | (apply noneOf; assumption; intro oF eF; apply Exists.intro; kp_flats)
    | (apply frUp; (next => kbo_bools); kba_ints))
set_option hygiene false in
local macro_rules
  | `(tactic| kxs_still) => `(tactic| first
    | assumption
    | exact kp_refl _ _
    | (apply kp_newF; assumption; kxs_still)
    | (apply kp_new; assumption; kxs_still)
    | (apply kp_up; (next => o_fieldsN); kxs_still)
    | (apply kp_new; (next => kba_ints); kxs_still)
    | (apply kp_sameR; assumption; kxs_still)
    | (apply kp_transR; assumption; kxs_still)
    | (apply kp_freshR; assumption; (next => kaf_suf); kxs_still))
set_option hygiene false in
local macro_rules
  | `(tactic| kaf_suf) => `(tactic| first
    | assumption
    | exact subNil
    | (apply subCons; (first | (apply Or.inl; o_fieldsN) | (apply Or.inr; kba_ints)); kaf_suf)
    | (apply subApp; (next => kaf_suf); kaf_suf))
set_option hygiene false in
local macro_rules
  | `(tactic| o_fieldsN) => `(tactic| first
    | assumption
    | exact memA
    | (apply memB; o_fieldsN)
    | (apply memL; o_fieldsN)
    | (apply memR; o_fieldsN))
set_option hygiene false in
local macro_rules
  | `(tactic| kd_subs) => `(tactic| first
    | assumption
    | exact Same.refl _
    | (apply same_putF; assumption; kd_subs)
    | (apply same_putG; assumption; kd_subs)
    | (apply same_putF; (next => kba_ints); kd_subs)
    | (apply same_transR; assumption; kd_subs))

set_option pp.maxSteps 900
section
variable {P : Program} {w : World} {K : PySem.W.Frag} {mg : Str → Option Value} {base : Heap} {n : Nat}
def extE (i m : Nat) : List (Nat × Nat × Nat) := if i = m then [] else [(i, m, m + 1)]
/-- a member, as it stands alone -/
def Alone (Val : Nat → List V → V → Hp → Prop) (ms : List V) (i : Nat) (m : V) (H : Hp) : Prop := ms[i]? = some m ∧ Val i [m] m H
theorem Alone.kp {lb : Bool} {uv : List Addr} {f : V} {UR : List JEv → Hp → Prop} {Val : Nat → List V → V → Hp → Prop} (U : JS P w K mg base n lb uv f UR Val) {ms : List V} {m : V} {i : Nat} {H H1 : Hp} {cs : List Addr} (h : Alone Val ms i m H) (k : Kp cs H H1) (mu : Mu H cs) : Alone Val ms i m H1 := ⟨h.1, U.val h.2 k mu⟩
theorem Alone.span {Val : Nat → List V → V → Hp → Prop} {ms : List V} {m : V} {i : Nat} {H : Hp} {p : Addr} (h : Alone Val ms i m H) (e : H p = some (.tup [.int i, .int (i + 1 : Nat), m])) : SpanAt Val ms (.ref p) i (i + 1) H := by
  refine ⟨Nat.lt_succ_self i, (List.getElem?_eq_some_iff.mp h.1).1, p, m, rfl, e, ?_⟩
  rw [seg_one h.1]
  exact h.2
def spExt (P : Program) (w : World) (K : PySem.W.Frag) (mg : Str → Option Value) (base : Heap) (Cj : Addr × Addr) (Cc : Addr) (n : Nat) : Sp := fun vs H Q _ => ∃ (lb : Bool) (uv : List Addr) (f : V) (UR : List JEv → Hp → Prop) (Val : Nat → List V → V → Hp → Prop) (j jdx c cdx l : Addr) (u : List JEv) (es : List (Nat × Nat × Nat)) (ms : List V) (s mem : V) (i m : Nat),
  vs = [.ref j, s, .int m, mem] ∧ JS P w K mg base n lb uv f UR Val ∧ JW Cj Cc lb uv f UR j jdx c cdx l u es H ∧ u.length < 90000 ∧ es.length < 90000 ∧ ms.length < 90000 ∧ OptSpan Val ms s i m H ∧ Alone Val ms m mem H ∧
  ∀ r d H', d.length = (extE i m).length → Kp ([c, l] ++ uv) H H' → JW Cj Cc lb uv f UR j jdx c cdx l (u ++ d) (es ++ extE i m) H' → SpanAt Val ms r i (m + 1) H' → Q r H'
theorem ok_ext (T : Txt K mg) : FnOk P w K mg base CX0 (n + 6) T.f_extended T.d_extended ["joiner", "span", "number", "member"] (spExt P w K mg base (CJ T) T.C_Calls n) := by
  have G_single := ok_single (P := P) (w := w) (base := base) T
  have G_Joiner_joined := ok_joined (P := P) (w := w) (base := base) (n := n) T
  have G_Planner_joined := ok_pjoined (P := P) (w := w) (base := base) (n := n) T
  refine T.F_extended.ok sc_extended (fun vs H Q E h => ?_) (fun cdv A outer s H vs Q E hr h => ?_)
  · obtain ⟨lb, uv, f, UR, Val, j, jdx, c, cdx, l, u, es, ms, s, mem, i, m, rfl, _⟩ := h
    rfl
  · obtain ⟨lb, uv, f, UR, Val, j, jdx, c, cdx, l, u, es, ms, s, mem, i, m, rfl, U, jw, lu, le, lms, hs, ha, q⟩ := h
    refine ⟨_, (pss_cons (ps_if (pt_cmpR op_isN (pv 1) pe_non (nomark _)) (pss_one (ps_ret (pe_call G_single (hr.mono (by omega)) rfl T.g_single T.F_single.kp T.b_single .nil pass0 (pa_cons (pv 2) (pa_cons (pv 3) pa_nil))))) pss_nil)
      (pss_one (ps_ret (pe_either (pe_meth (pv 0) T.cl_Joiner ⟨T.m_Joiner_joined, T.t_Joiner_joined, T.k_Joiner_joined⟩ G_Joiner_joined (hr.mono (by omega)) T.b_Joiner_joined .nil pass0 (pa_cons (pv 1) (pa_cons (pe_call G_single (hr.mono (by omega)) rfl T.g_single T.F_single.kp T.b_single .nil pass0 (pa_cons (pv 2) (pa_cons (pv 3) pa_nil))) pa_nil))) (pe_meth (pv 0) T.cl_Planner ⟨T.m_Planner_joined, T.t_Planner_joined, T.k_Planner_joined⟩ G_Planner_joined (hr.mono (by omega)) T.b_Planner_joined .nil pass0 (pa_cons (pv 1) (pa_cons (pe_call G_single (hr.mono (by omega)) rfl T.g_single T.F_single.kp T.b_single .nil pass0 (pa_cons (pv 2) (pa_cons (pv 3) pa_nil))) pa_nil))))))), ?_⟩
    rcases hs with ⟨rfl, rfl, lm⟩ | hs
    · refine ⟨_, rfl, rfl, _, rfl, ?_⟩
      refine ifT (decide_eq_true rfl) ?_
      refine ⟨_, rfl, _, rfl, i, mem, rfl, fun p H1 e1 fp => ?_⟩
      subst e1
      have sp : Same H (upd H p (.tup [.int i, .int (i + 1 : Nat), mem])) := same_newF fp
      refine q (.ref p) [] _ (by unfold extE; rw [if_pos rfl]; rfl) (kp_same sp) ?_ ((ha.kp U (cs := []) (kp_same sp) mu_nil).span upd_same)
      unfold extE
      rw [if_pos rfl, List.append_nil, List.append_nil]
      exact jw.same U sp
    · obtain ⟨h1, h2, p0, v0, rfl, h3, h4⟩ := id hs
      refine ⟨_, rfl, rfl, _, rfl, ?_⟩
      refine ifF (decide_eq_false fun z => nomatch z) ?_
      rcases jw.st with ⟨elv, hj, hc⟩ | ⟨elv, ecj, hj⟩
      · subst elv
        refine .inl ⟨_, rfl, j, jdx, _, rfl, hj, rfl, _, rfl, _, rfl, _, rfl, m, mem, rfl, fun p H1 e1 fp => ?_⟩
        subst e1
        have sp : Same H (upd H p (.tup [.int m, .int (m + 1 : Nat), mem])) := same_newF fp
        have ha1 := (ha.kp U (cs := []) (kp_same sp) mu_nil).span upd_same
        refine ⟨uv, f, UR, Val, j, jdx, c, cdx, l, u, es, ms, _, _, i, m, m + 1, rfl, U, jw.same U sp, lu, le, lms, hs.kp U (cs := []) (kp_same sp) mu_nil, ha1, fun r evt H2 fr k2 jw2 hs2 => ?_⟩
        have e : extE i m = [(i, m, m + 1)] := by
          unfold extE
          exact if_neg (Nat.ne_of_lt h1)
        exact q (.ref r) [evt] H2 (by rw [e]; rfl) (kp_trans (kp_same sp) k2) (by rw [e]; exact jw2) hs2
      · subst elv
        refine .inr ⟨_, rfl, j, jdx, _, rfl, hj, rfl, _, rfl, _, rfl, _, rfl, m, mem, rfl, fun p H1 e1 fp => ?_⟩
        subst e1
        have sp : Same H (upd H p (.tup [.int m, .int (m + 1 : Nat), mem])) := same_newF fp
        have ha1 := (ha.kp U (cs := []) (kp_same sp) mu_nil).span upd_same
        refine ⟨uv, f, UR, Val, j, jdx, c, cdx, l, u, es, ms, _, _, i, m, m + 1, rfl, U, jw.same U sp, lu, le, lms, hs.kp U (cs := []) (kp_same sp) mu_nil, ha1, fun r evt H2 fr k2 jw2 hs2 => ?_⟩
        have e : extE i m = [(i, m, m + 1)] := by
          unfold extE
          exact if_neg (Nat.ne_of_lt h1)
        exact q (.ref r) [evt] H2 (by rw [e]; rfl) (kp_trans (kp_same sp) k2) (by rw [e]; exact jw2) hs2
/-- spans that end at one member, the shortest first -/
structure SpansTo (Val : Nat → List V → V → Hp → Prop) (ms : List V) (xs : List V) (e k : Nat) (H : Hp) : Prop where
  len : xs.length = k
  le : k ≤ e
  lm : e ≤ ms.length
  at_ : ∀ q s, xs[q]? = some s → SpanAt Val ms s (e - 1 - q) e H
theorem SpansTo.kp {lb : Bool} {uv : List Addr} {f : V} {UR : List JEv → Hp → Prop} {Val : Nat → List V → V → Hp → Prop} (U : JS P w K mg base n lb uv f UR Val) {ms xs : List V} {e k : Nat} {H H1 : Hp} {cs : List Addr} (h : SpansTo Val ms xs e k H) (kk : Kp cs H H1) (m : Mu H cs) : SpansTo Val ms xs e k H1 := ⟨h.len, h.le, h.lm, fun q s e => (h.at_ q s e).kp U kk m⟩
theorem SpansTo.more {Val : Nat → List V → V → Hp → Prop} {ms ns xs : List V} {e k : Nat} {H : Hp} (h : SpansTo Val ms xs e k H) : SpansTo Val (ms ++ ns) xs e k H := ⟨h.len, h.le, by rw [List.length_append]; have := h.lm; omega, fun q s e => (h.at_ q s e).more⟩
theorem SpansTo.add {Val : Nat → List V → V → Hp → Prop} {ms xs : List V} {e k : Nat} {H : Hp} {s : V} (h : SpansTo Val ms xs e k H) (l : k < e) (hs : SpanAt Val ms s (e - 1 - k) e H) : SpansTo Val ms (xs ++ [s]) e (k + 1) H := by
  refine ⟨by rw [List.length_append, h.len]; rfl, l, h.lm, fun q t z => ?_⟩
  by_cases c : q < xs.length
  · rw [List.getElem?_append_left c] at z
    exact h.at_ q t z
  · rw [List.getElem?_append_right (by omega)] at z
    match hz : q - xs.length, z with
    | 0, z =>
      cases z
      rw [show q = k by have := h.len; omega]
      exact hs
    | r + 1, z => cases z
theorem SpansTo.cut {Val : Nat → List V → V → Hp → Prop} {ms xs : List V} {e k : Nat} {H : Hp} (h : SpansTo Val ms xs e (k + 1) H) : SpansTo Val ms (xs.take (xs.length - 1)) e k H := by
  have := h.len
  have := h.le
  refine ⟨by rw [List.length_take]; omega, by omega, h.lm, fun q t z => ?_⟩
  rw [List.getElem?_take] at z
  split at z
  · exact h.at_ q t z
  · cases z
theorem atI_end {xs : List V} {k : Nat} {s : V} (l : xs.length = k + 1) (h : xs[k]? = some s) : atI xs (-1) = some s := by
  have e : xs = xs.take k ++ [s] := by
    have := List.take_succ (l := xs) (i := k)
    rw [h, ← l, List.take_length] at this
    exact this
  rw [e]
  exact atI_last _ _
def deepE (e k : Nat) : List (Nat × Nat × Nat) := if k = 0 then [] else [(e - 1 - k, e - k, e)]
def spDeep (P : Program) (w : World) (K : PySem.W.Frag) (mg : Str → Option Value) (base : Heap) (Cj : Addr × Addr) (Cc : Addr) (n : Nat) : Sp := fun vs H Q _ => ∃ (lb : Bool) (uv : List Addr) (f : V) (UR : List JEv → Hp → Prop) (Val : Nat → List V → V → Hp → Prop) (j jdx c cdx l : Addr) (u : List JEv) (es : List (Nat × Nat × Nat)) (ms xs : List V) (a : Addr) (mem : V) (e k : Nat),
  vs = [.ref j, .ref a, .int (e - 1 - k : Nat), mem] ∧ JS P w K mg base n lb uv f UR Val ∧ JW Cj Cc lb uv f UR j jdx c cdx l u es H ∧ u.length < 90000 ∧ es.length < 90000 ∧ ms.length < 90000 ∧ H a = some (.lst xs) ∧ a ∉ [c, l] ++ uv ∧ SpansTo Val ms xs e k H ∧ k < e ∧ k < 90000 ∧ Alone Val ms (e - 1 - k) mem H ∧
  ∀ r ys d H', d.length = (deepE e k).length → Fr H r → Kp ([c, l] ++ uv) H H' → JW Cj Cc lb uv f UR j jdx c cdx l (u ++ d) (es ++ deepE e k) H' → H' r = some (.lst ys) → SpansTo Val ms ys e (k + 1) H' → Q (.ref r) H'
theorem ok_deep (T : Txt K mg) : FnOk P w K mg base CX0 (n + 6) T.f_deepened T.d_deepened ["joiner", "spans", "number", "member"] (spDeep P w K mg base (CJ T) T.C_Calls n) := by
  have G_single := ok_single (P := P) (w := w) (base := base) T
  have G_Joiner_joined := ok_joined (P := P) (w := w) (base := base) (n := n) T
  have G_Planner_joined := ok_pjoined (P := P) (w := w) (base := base) (n := n) T
  refine T.F_deepened.ok sc_deepened (fun vs H Q E h => ?_) (fun cdv A outer s H vs Q E hr h => ?_)
  · obtain ⟨lb, uv, f, UR, Val, j, jdx, c, cdx, l, u, es, ms, xs, a, mem, e, k, rfl, _⟩ := h
    rfl
  · obtain ⟨lb, uv, f, UR, Val, j, jdx, c, cdx, l, u, es, ms, xs, a, mem, e, k, rfl, U, jw, lu, le, lms, hl, na, hs, lk, l9, ha, q⟩ := h
    refine ⟨_, (pss_cons (ps_set (i := 4) sc_deepened.nd rfl (.inl rfl) (pe_call G_single (hr.mono (by omega)) rfl T.g_single T.F_single.kp T.b_single .nil pass0 (pa_cons (pv 2) (pa_cons (pv 3) pa_nil))))
      (pss_cons (ps_if (pt_cmpR op_eq (pe_callB call_len_seq (by rfl) T.z_len (by decide +kernel) (pa_cons (pv 1) pa_nil)) pe_int (nomark _)) (pss_one (ps_ret (pe_lst (pa_cons (pv 4) pa_nil)))) pss_nil)
      (pss_one (ps_ret (pe_op op_cat (pv 1) (pe_lst (pa_cons (pe_either (pe_meth (pv 0) T.cl_Joiner ⟨T.m_Joiner_joined, T.t_Joiner_joined, T.k_Joiner_joined⟩ G_Joiner_joined (hr.mono (by omega)) T.b_Joiner_joined .nil pass0 (pa_cons (pv 4) (pa_cons (pe_ix (r := rIxL K) ix_list (pv 1) (pe_un un_neg pe_int) (fun _ _ => rfl)) pa_nil))) (pe_meth (pv 0) T.cl_Planner ⟨T.m_Planner_joined, T.t_Planner_joined, T.k_Planner_joined⟩ G_Planner_joined (hr.mono (by omega)) T.b_Planner_joined .nil pass0 (pa_cons (pv 4) (pa_cons (pe_ix (r := rIxL K) ix_list (pv 1) (pe_un un_neg pe_int) (fun _ _ => rfl)) pa_nil)))) pa_nil))))))), ?_⟩
    refine ⟨_, rfl, _, rfl, e - 1 - k, mem, rfl, fun p H1 e1 fp => ?_⟩
    have ei : e - 1 - k + 1 = e - k := by omega
    rw [ei] at e1
    subst e1
    have sp : Same H (upd H p (.tup [.int (e - 1 - k : Nat), .int (e - k : Nat), mem])) := same_newF fp
    have k1 : Kp ([c, l] ++ uv) H (upd H p (.tup [.int (e - 1 - k : Nat), .int (e - k : Nat), mem])) := kp_same sp
    have ha1 : SpanAt Val ms (.ref p) (e - 1 - k) (e - k) (upd H p (.tup [.int (e - 1 - k : Nat), .int (e - k : Nat), mem])) := by
      have := (ha.kp U (cs := []) (kp_same sp) mu_nil).span (p := p) (by rw [ei]; exact upd_same)
      rw [ei] at this
      exact this
    have jw1 := jw.same U sp
    have hs1 := hs.kp U (cs := []) (kp_same sp) mu_nil
    have hl1 := sp _ _ hl
    generalize upd H p (.tup [.int (e - 1 - k : Nat), .int (e - k : Nat), mem]) = H1 at *
    refine ⟨_, rfl, a, _, rfl, .inl (sqlOf hl1), rfl, _, rfl, ?_⟩
    by_cases c0 : k = 0
    · subst c0
      have ex : xs = [] := List.length_eq_zero_iff.mp hs.len
      subst ex
      refine ifT (decide_eq_true rfl) ?_
      refine ⟨_, rfl, (by decide : 1 ≤ sizeLine), fun r nr => ?_⟩
      have fr := Fr.mk nr
      have sr : Same H1 (upd H1 r (.lst [.ref p])) := same_newF fr
      have kr := kp_same (cs := []) sr
      refine q r [.ref p] [] _ (by unfold deepE; rw [if_pos rfl]; rfl) (fr_kp k1 (jw1.mu U) fr) (kp_trans k1 (kp_same sr)) ?_ upd_same ?_
      · unfold deepE
        rw [if_pos rfl, List.append_nil, List.append_nil]
        exact jw1.same U sr
      · have := (hs1.kp U kr mu_nil).add lk (ha1.kp U kr mu_nil)
        exact this
    · have ln := hs.len
      have hx : ∃ s0, xs[k - 1]? = some s0 := ⟨_, List.getElem?_eq_getElem (by omega)⟩
      obtain ⟨s0, hx⟩ := hx
      have h0 := hs1.at_ _ _ hx
      rw [show e - 1 - (k - 1) = e - k by omega] at h0
      refine ifF (decide_eq_false fun z => ?_) ?_
      · injection z with z
        omega
      rcases jw1.st with ⟨elv, hj, hc⟩ | ⟨elv, ecj, hj⟩
      · subst elv
        refine ⟨_, rfl, .inl ⟨_, rfl, j, jdx, _, rfl, hj, rfl, _, rfl, _, rfl, 1, rfl, a, _, -1, s0, rfl, rfl, sqlOf hl1, atI_end (k := k - 1) (by omega) hx, ?_⟩⟩
        refine ⟨uv, f, UR, Val, j, jdx, c, cdx, l, u, es, ms, _, _, e - 1 - k, e - k, e, rfl, U, jw1, lu, le, lms, ha1, h0, fun r evt H2 fr k2 jw2 hs2 => ⟨(by decide : 1 ≤ sizeLine), fun r2 nr2 => ?_⟩⟩
        have m1 := jw1.mu U
        have fr2 := Fr.mk nr2
        have hl2 := k2.at_ _ _ hl1 na
        have na2 : a ≠ r2 := ne_of_none hl2 nr2
        refine ⟨a, r2, xs, [.ref r], rfl, rfl, atNe na2 hl2, upd_same, by rw [ln, sizeLine_eq]; show k + 1 ≤ _; omega, fun r3 nr3 => ?_⟩
        have fr3 := Fr.mk nr3
        have s2 : Same H2 (upd H2 r2 (.lst [.ref r])) := same_newF fr2
        have s3 : Same H2 (upd (upd H2 r2 (.lst [.ref r])) r3 (.lst (xs ++ [.ref r]))) := s2.trans (same_newF fr3)
        have f3 : Fr H2 r3 := Fr.mk (s2.free nr3)
        have ed : deepE e k = [(e - 1 - k, e - k, e)] := by
          unfold deepE
          exact if_neg c0
        have k12 := kp_trans k1 k2
        refine q r3 (xs ++ [.ref r]) [evt] _ (by rw [ed]; rfl) (fr_kp k12 (jw2.mu U) f3) (kp_trans k12 (kp_same s3)) (by rw [ed]; exact jw2.same U s3) upd_same ?_
        exact ((hs1.kp U k2 m1).kp U (cs := []) (kp_same s3) mu_nil).add lk (hs2.kp U (cs := []) (kp_same s3) mu_nil)
      · subst elv
        refine ⟨_, rfl, .inr ⟨_, rfl, j, jdx, _, rfl, hj, rfl, _, rfl, _, rfl, 1, rfl, a, _, -1, s0, rfl, rfl, sqlOf hl1, atI_end (k := k - 1) (by omega) hx, ?_⟩⟩
        refine ⟨uv, f, UR, Val, j, jdx, c, cdx, l, u, es, ms, _, _, e - 1 - k, e - k, e, rfl, U, jw1, lu, le, lms, ha1, h0, fun r evt H2 fr k2 jw2 hs2 => ⟨(by decide : 1 ≤ sizeLine), fun r2 nr2 => ?_⟩⟩
        have m1 := jw1.mu U
        have fr2 := Fr.mk nr2
        have hl2 := k2.at_ _ _ hl1 na
        have na2 : a ≠ r2 := ne_of_none hl2 nr2
        refine ⟨a, r2, xs, [.ref r], rfl, rfl, atNe na2 hl2, upd_same, by rw [ln, sizeLine_eq]; show k + 1 ≤ _; omega, fun r3 nr3 => ?_⟩
        have fr3 := Fr.mk nr3
        have s2 : Same H2 (upd H2 r2 (.lst [.ref r])) := same_newF fr2
        have s3 : Same H2 (upd (upd H2 r2 (.lst [.ref r])) r3 (.lst (xs ++ [.ref r]))) := s2.trans (same_newF fr3)
        have f3 : Fr H2 r3 := Fr.mk (s2.free nr3)
        have ed : deepE e k = [(e - 1 - k, e - k, e)] := by
          unfold deepE
          exact if_neg c0
        have k12 := kp_trans k1 k2
        refine q r3 (xs ++ [.ref r]) [evt] _ (by rw [ed]; rfl) (fr_kp k12 (jw2.mu U) f3) (kp_trans k12 (kp_same s3)) (by rw [ed]; exact jw2.same U s3) upd_same ?_
        exact ((hs1.kp U k2 m1).kp U (cs := []) (kp_same s3) mu_nil).add lk (hs2.kp U (cs := []) (kp_same s3) mu_nil)
end
end Ob

set_option Elab.async false
set_option linter.all false
set_option maxRecDepth 100000
set_option maxHeartbeats 1000000
namespace Ob
open PySem PySem.Spec PyProof.Rows L2
open LamX (Tabs TabB TabS ExtN)

set_option hygiene false in
local macro_rules
  | `(tactic| kp_flats) => `(tactic| first
    | assumption
    | exact upd_same
    | (apply atNew; assumption; kp_flats)
    | (apply atNe; (next => kbo_bools); kp_flats)
    | (apply atSame; assumption; kp_flats)
    | (apply atKp; assumption; (next => kaf_pre); kp_flats))
set_option hygiene false in
local macro_rules
  | `(tactic| kaf_pre) => `(tactic| first
    | assumption
    | exact not_nil
    | (apply not_cons; (next => kbo_bools); kaf_pre)
    | (apply not_app; (next => kaf_pre); kaf_pre))
set_option hygiene false in
local macro_rules
  | `(tactic| kbo_bools) => `(tactic| first
    | assumption
    | (apply Ne.symm; assumption)
    | (apply neN; assumption; kp_flats)
    | (apply neN'; assumption; kp_flats))
set_option hygiene false in
local macro_rules
  | `(tactic| o_reads) => `(tactic| first
    | with_reducible rfl
    | assumption
    | rfl
    | kp_flats
    | (show SqL _ _ _ _; first | assumption | (apply sqlOf; kp_flats) | (apply sqlSame; assumption; o_reads))
    | (show SqT _ _ _ _; first | assumption | (apply sqtOf; kp_flats) | (apply sqtAll; assumption) | (apply sqtSame; assumption; o_reads))
    | (show Cls _ _; first | exact T.cl_Calls | exact T.cl_Joiner | exact T.cl_Planner | exact T.cl_EvenSums | exact T.cl_Shape | exact T.cl_TwoStacks)
    | (show NoAttr _ _ _; first | exact T.n_Calls_entries | exact T.n_Calls_running | exact T.n_Joiner_calls | exact T.n_Joiner_join_call | exact T.n_Planner_entries | exact T.n_EvenSums_calls | exact T.n_EvenSums_joiner | exact T.n_EvenSums_zero | exact T.n_EvenSums_given | exact T.n_EvenSums_held | exact T.n_EvenSums_shape | exact T.n_Shape_front | exact T.n_Shape_back | exact T.n_Shape_late | exact T.n_Shape_renewed | exact T.n_TwoStacks_calls | exact T.n_TwoStacks_joiner | exact T.n_TwoStacks_zero | exact T.n_TwoStacks_given | exact T.n_TwoStacks_held | exact T.n_TwoStacks_front | exact T.n_TwoStacks_back)
    | (apply Or.inl; o_reads)
    | (apply Or.inr; o_reads)
    | (apply And.intro; (next => o_reads); o_reads)
    | (apply Exists.intro; o_reads)
    | exact Nat.le_of_ble_eq_true rfl
    | exact Nat.succ_ne_zero _
    | (show Fr _ _; kba_ints)
    | (show Same _ _; kd_subs)
    | (show Kp _ _ _; kxs_still)
    | (show (_ : Nat) ≤ _; simp only [List.length_append, List.length_map, List.length_cons, List.length_nil, List.length_take, List.length_drop, List.length_replicate, List.length_range, sizeLine_eq]; omega)
    | (show _ = none; apply Fr.h; kba_ints)
    | (show Bag _ _; first | assumption | (apply bag_putF; assumption; o_reads) | (apply bag_neF; (next => kbo_bools); o_reads) | (apply bag_kpR; assumption; (next => kaf_pre); o_reads))
    | omega
    | decide)
local macro_rules
  | `(tactic| o_readsAll) => `(tactic| repeat (first
    | (refine fun (pNew : Addr) (nNew : _ = none) => ?_; replace nNew := Fr.mk nNew)
    | (refine fun (xNew dNew : Addr) (nNew : _ = none) (mNew : _ = none) (eNew : dNew ≠ xNew) => ?_; replace nNew := Fr.mk nNew; replace mNew := Fr.mk mNew)
    | (apply And.intro; next => o_reads)
    | apply Exists.intro (α := V)
    | apply Exists.intro (α := Addr)
    | apply Exists.intro (α := Int)
    | apply Exists.intro (α := Bool)
    | apply Exists.intro (α := List V)
    | apply Exists.intro (α := List Nat)
    | apply Exists.intro (α := List (Str × V))
    | apply Exists.intro (α := List _)
    | apply Exists.intro (α := Str)
    | apply Exists.intro (α := HO)
    | apply Exists.intro (α := Sp)
    | apply Exists.intro (α := VK)))
set_option hygiene false in
local macro_rules
  | `(tactic| kba_ints) => `(tactic| first
    | assumption
    | (apply frUp; (first | assumption | (apply Ne.symm; assumption)); kba_ints)
    | (apply noneOf; assumption; intro oF eF; apply Exists.intro; kp_flats)
    | (apply frUp; (next => kbo_bools); kba_ints))
set_option hygiene false in
local macro_rules
  | `(tactic| kxs_still) => `(tactic| first
    | assumption
    | exact kp_refl _ _
    | (apply kp_newF; assumption; kxs_still)
    | (apply kp_new; assumption; kxs_still)
    | (apply kp_up; (next => o_fieldsN); kxs_still)
    | (apply kp_new; (next => kba_ints); kxs_still)
    | (apply kp_sameR; assumption; kxs_still)
    | (apply kp_transR; assumption; kxs_still)
    | (apply kp_freshR; assumption; (next => kaf_suf); kxs_still))
set_option hygiene false in
local macro_rules
  | `(tactic| kaf_suf) => `(tactic| first
    | assumption
    | exact subNil
    | (apply subCons; (first | (apply Or.inl; o_fieldsN) | (apply Or.inr; kba_ints)); kaf_suf)
    | (apply subApp; (next => kaf_suf); kaf_suf))
set_option hygiene false in
local macro_rules
  | `(tactic| o_fieldsN) => `(tactic| first
    | assumption
    | exact memA
    | (apply memB; o_fieldsN)
    | (apply memL; o_fieldsN)
    | (apply memR; o_fieldsN))
set_option hygiene false in
local macro_rules
  | `(tactic| kd_subs) => `(tactic| first
    | assumption
    | exact Same.refl _
    | (apply same_putF; assumption; kd_subs)
    | (apply same_putG; assumption; kd_subs)
    | (apply same_putF; (next => kba_ints); kd_subs)
    | (apply same_transR; assumption; kd_subs))

set_option pp.maxSteps 900
/-- a dict made over another one's pairs -/
theorem dc_items {d : Addr} {o : Obj} {ks : List (Key × V)} {g : TG} {tt : TT} {tk tv : TE} {vs : List Nat} {σ : L2.St} {H1 : Hp} {D : Addr} {Qd : Hp → Prop} (Pv : Nat → Hp → Prop) (h0 : Pv 0 (upd H1 D (.dK []))) (hl : ∀ i H, Pv i H → H d = some (.frz o (.dK ks)))
    (hs : ∀ i k v T H, ks[i]? = some (k, v) → Pv i H → H T = none → g (.ref T) (wipe σ vs) (upd H T (.tup [kV k, v])) fun σ2 H2 => wipe σ2 vs = wipe σ vs ∧ tt σ2 H2 fun b H3 =>
      if b = true then tk σ2 H3 fun y H4 => tv σ2 H4 fun z H5 => ∃ kvs k, y = kV k ∧ H5 D = some (.dK kvs) ∧ kvs.length < sizeLine ∧ Pv (i + 1) (upd H5 D (.dK (putK kvs k z))) else Pv (i + 1) H3) (hd : ∀ H, Pv ks.length H → Qd H) :
    ∃ W : Nat → Nat → Hp → Prop, (∃ m, W 0 m (upd H1 D (.dK []))) ∧ ∀ i m H, W i m H →
      ((Iti d o ks).stop i H ∧ Qd H) ∨ ((Iti d o ks).go i H ∧ ∃ Nx : Hp → Prop, (∀ H', Nx H' → ∃ m', m' < m ∧ W (i + 1) m' H') ∧ ∀ x H', (Iti d o ks).yld i H x H' → g x (wipe σ vs) H' fun σ2 H2 => wipe σ2 vs = wipe σ vs ∧ tt σ2 H2 fun b H3 =>
        if b = true then tk σ2 H3 fun y H4 => tv σ2 H4 fun z H5 => ∃ kvs k, y = kV k ∧ H5 D = some (.dK kvs) ∧ kvs.length < sizeLine ∧ Nx (upd H5 D (.dK (putK kvs k z))) else Nx H3) := by
  refine ⟨fun i m H => m = ks.length - i ∧ i ≤ ks.length ∧ Pv i H, ⟨ks.length, rfl, Nat.zero_le _, h0⟩, ?_⟩
  rintro i m H ⟨rfl, hi, p⟩
  by_cases hlt : i < ks.length
  · refine .inr ⟨⟨hl i H p, hlt⟩, Pv (i + 1), fun H' p' => ⟨ks.length - (i + 1), by omega, rfl, hlt, p'⟩, fun x H' y => ?_⟩
    obtain ⟨T, k, v, e1, e2, e3, e4⟩ := y
    subst e2
    subst e4
    exact hs i k v T H e1 p e3
  · have e : i = ks.length := by omega
    subst e
    exact .inl ⟨⟨hl _ H p, Nat.le_refl _⟩, hd H p⟩
/-! ### the present members: a dict -/
/-- ps, with the numbers from g on -/
def heldK : Nat → List V → List (Key × V)
  | _, [] => []
  | g, m :: r => (.inl (g : Int), m) :: heldK (g + 1) r
theorem heldK_len : ∀ (g : Nat) (ps : List V), (heldK g ps).length = ps.length
  | _, [] => rfl
  | g, m :: r => congrArg Nat.succ (heldK_len (g + 1) r)
theorem heldK_at : ∀ (ps : List V) (g i : Nat) (k : Key) (v : V), (heldK g ps)[i]? = some (k, v) → k = .inl ((g + i : Nat) : Int) ∧ ps[i]? = some v
  | [], _, i, k, v, h => by cases i <;> cases h
  | m :: r, g, 0, k, v, h => by
    cases h
    exact ⟨rfl, rfl⟩
  | m :: r, g, i + 1, k, v, h => by
    obtain ⟨h1, h2⟩ := heldK_at r (g + 1) i k v h
    exact ⟨by rw [h1, show g + 1 + i = g + (i + 1) by omega], h2⟩
theorem heldK_app : ∀ (ps qs : List V) (g : Nat), heldK g (ps ++ qs) = heldK g ps ++ heldK (g + ps.length) qs
  | [], qs, g => rfl
  | m :: r, qs, g => by
    show (_ :: heldK (g + 1) (r ++ qs)) = _ :: (heldK (g + 1) r ++ _)
    rw [heldK_app r qs (g + 1), List.length_cons, show g + 1 + r.length = g + (r.length + 1) by omega]
theorem heldK_none : ∀ (ps : List V) (g n : Nat), (n < g ∨ g + ps.length ≤ n) → valV (heldK g ps) (.inl (n : Int)) = none
  | [], _, _, _ => rfl
  | m :: r, g, n, h => by
    rw [List.length_cons] at h
    show valV ((Sum.inl (g : Int), m) :: heldK (g + 1) r) _ = none
    rw [valV_neg (fun z => by injection z with z; omega)]
    exact heldK_none r (g + 1) n (by omega)
theorem heldK_get : ∀ (ps : List V) (g i : Nat), valV (heldK g ps) (.inl ((g + i : Nat) : Int)) = ps[i]?
  | [], _, _ => rfl
  | m :: r, g, 0 => valV_pos rfl
  | m :: r, g, i + 1 => by
    show valV ((Sum.inl (g : Int), m) :: heldK (g + 1) r) _ = _
    rw [valV_neg (fun z => by injection z with z; omega), show g + (i + 1) = g + 1 + i by omega]
    exact heldK_get r (g + 1) i
theorem heldK_put {ps : List V} {g : Nat} {v : V} : putK (heldK g ps) (.inl ((g + ps.length : Nat) : Int)) v = heldK g (ps ++ [v]) := by
  rw [putK_new v (heldK_none ps g _ (.inr (Nat.le_refl _))), heldK_app]
  rfl
section
variable {P : Program} {w : World} {K : PySem.W.Frag} {mg : Str → Option Value} {base : Heap} {n : Nat}
def spFilled : Sp := fun vs H Q _ => ∃ (a : Addr) (g : Nat) (ps : List V), vs = [.ref a] ∧ H a = some (.dK (heldK g ps)) ∧ 0 < ps.length ∧ Q .non H
theorem ok_filled (T : Txt K mg) : FnOk P w K mg base CX0 1 T.f_check_filled T.d_check_filled ["held"] spFilled := by
  refine T.F_check_filled.ok sc_check_filled (fun vs H Q E h => ?_) (fun cdv A outer s H vs Q E hr h => ?_)
  · obtain ⟨a, g, ps, rfl, _⟩ := h
    rfl
  · obtain ⟨a, g, ps, rfl, h1, h2, q⟩ := h
    refine ⟨_, (pss_one (ps_if (pt_cmpR op_eq (pe_callB call_lenD (by rfl) T.z_len (by decide +kernel) (pa_cons (pv 0) pa_nil)) pe_int (nomark _)) pss_never pss_nil)), ?_⟩
    refine ⟨_, rfl, a, _, rfl, h1, rfl, _, rfl, ?_⟩
    refine ifF (decide_eq_false fun z => ?_) q
    injection z with z
    rw [heldK_len] at z
    omega
def fstN (g : Nat) (ps : List V) : V := if ps.length = 0 then .non else .int g
def spOldest : Sp := fun vs H Q _ => ∃ (a : Addr) (g : Nat) (ps : List V), vs = [.ref a] ∧ H a = some (.dK (heldK g ps)) ∧ Q (fstN g ps) H
theorem ok_oldest (T : Txt K mg) : FnOk P w K mg base CX0 1 T.f_oldest T.d_oldest ["held"] spOldest := by
  refine T.F_oldest.ok sc_oldest (fun vs H Q E h => ?_) (fun cdv A outer s H vs Q E hr h => ?_)
  · obtain ⟨a, g, ps, rfl, _⟩ := h
    rfl
  · obtain ⟨a, g, ps, rfl, h1, q⟩ := h
    refine ⟨_, (pss_one (ps_ret (Inf.pe_first rfl (by rfl) T.z_iter (by rfl) T.z_next (pv 0)))), ?_⟩
    refine ⟨_, rfl, a, _, rfl, .inl h1, ?_⟩
    have e : Inf.fstV (heldK g ps) = fstN g ps := by
      cases ps <;> rfl
    show Q (Inf.fstV (heldK g ps)) H
    rw [e]
    exact q
def spWithout1 (K : PySem.W.Frag) : Sp := fun vs H Q _ => ∃ (a b : Addr) (g : Nat) (ps : List V), vs = [.ref a, .ref b] ∧ H a = some (.dK (heldK g ps)) ∧ H b = some (.lst [.int g]) ∧ ps.length < 90000 ∧ ∀ r H', Same H H' → Fr H r → H' r = some (.dK (heldK (g + 1) (ps.drop 1))) → Q (.ref r) H'
theorem ok_without1 (T : Txt K mg) : FnOk P w K mg base CX0 1 T.f_without T.d_without ["held", "numbers"] (spWithout1 K) := by
  refine T.F_without.ok sc_without (fun vs H Q E h => ?_) (fun cdv A outer s H vs Q E hr h => ?_)
  · obtain ⟨a, b, g, ps, rfl, _⟩ := h
    rfl
  · obtain ⟨a, b, g, ps, rfl, h1, h2, lp, q⟩ := h
    refine ⟨_, (pss_one (ps_ret (pe_lock (pe_dc (own := [("number", 3), ("member", 2)]) (g := (gTup K 2 (gCons (gName 3) (gCons (gName 2) gNil))))  rfl sc_without.nd (pi_items (pv 0)) (blkOk_by (N := n_without) (sc := defScope s_without) (by decide +kernel)) (fun _ _ _ _ _ => (pg_tup (by rfl) (pgs_cons (pg_name (i := 3) sc_without.nd rfl (.inl rfl)) (pgs_cons (pg_name (i := 2) sc_without.nd rfl (.inl rfl)) pgs_nil)))) (fun _ _ _ _ _ => (pts_one (pt_cmpR (show OpR _ _ (rIn K true) from op_notIn_seq) (pv 3) (pv 1) (by rfl)))) (fun _ _ _ _ _ => (pv 3)) (fun _ _ _ _ _ => (pv 2)))))), ?_⟩
    refine ⟨a, _, h1, True.intro, fun od => ?_⟩
    generalize hF : upd H a (.frz od (.dK (heldK g ps))) = F
    have ea : F a = some (.frz od (.dK (heldK g ps))) := by
      rw [← hF]
      exact upd_same
    have en : ∀ b o, b ≠ a → H b = some o → F b = some o := fun b o nb e => by
      rw [← hF, upd_ne nb]
      exact e
    have nba : b ≠ a := fun z => by
      rw [z, h1] at h2
      cases h2
    have eb := en b _ nba h2
    refine ⟨_, rfl, a, od, _, rfl, ea, fun D nD => ?_⟩
    have fD := Fr.mk nD
    refine dc_items (fun i H' => Same F H' ∧ H' D = some (.dK (heldK (g + 1) ((ps.take i).drop 1)))) ⟨same_newF fD, upd_same⟩ (fun i H' h => h.1 _ _ ea) ?_ ?_
    · rintro i k v T2 H2 hk ⟨s2, e2⟩ nT
      have fT := Fr.mk nT
      obtain ⟨rfl, hv⟩ := heldK_at _ _ _ _ _ hk
      have s3 : Same H2 (upd H2 T2 (.tup [kV (.inl ((g + i : Nat) : Int)), v])) := same_newF fT
      have li : i < ps.length := (List.getElem?_eq_some_iff.mp hv).1
      refine ⟨T2, _, rfl, sqtOf upd_same, rfl, _, _, rfl, _, _, rfl, rfl, rfl, ?_⟩
      refine ⟨_, rfl, _, rfl, b, _, rfl, .inl (sqlOf (s3 _ _ (s2 _ _ eb))), rfl, rfl, _, rfl, ?_⟩
      by_cases c0 : i = 0
      · subst c0
        refine ifF ?_ ⟨s2.trans s3, ?_⟩
        · rw [if_pos rfl]
          show (!inV (V.int ((g + 0 : Nat) : Int)) [V.int (g : Int)]) = false
          simp [inV, eqV]
        · rw [s3 _ _ e2]
          show some (HO.dK (heldK (g + 1) [])) = some (HO.dK (heldK (g + 1) ((ps.take 1).drop 1)))
          cases ps <;> rfl
      · refine ifT ?_ ?_
        · rw [if_pos rfl]
          show (!inV (V.int ((g + i : Nat) : Int)) [V.int (g : Int)]) = true
          simp [inV, eqV]
          omega
        refine ⟨_, rfl, _, rfl, _, .inl ((g + i : Nat) : Int), rfl, s3 _ _ e2, ?_, ⟨?_, ?_⟩⟩
        · rw [heldK_len, List.length_drop, List.length_take, sizeLine_eq]
          omega
        · exact same_putG fD (s2.trans s3)
        · have hq : ((ps.take i).drop 1).length = i - 1 := by
            rw [List.length_drop, List.length_take]
            omega
          have e4 := heldK_put (ps := (ps.take i).drop 1) (g := g + 1) (v := v)
          rw [hq, show g + 1 + (i - 1) = g + i by omega] at e4
          rw [upd_same, e4]
          have e5 : (ps.take (i + 1)).drop 1 = (ps.take i).drop 1 ++ [v] := by
            rw [List.take_succ, hv, List.drop_append_of_le_length (by rw [List.length_take]; omega)]
            rfl
          rw [e5]
    · rintro H2 ⟨s2, e2⟩
      rw [heldK_len, List.take_length] at e2
      refine ⟨s2 _ _ ea, ?_⟩
      refine q D _ (fun x o e => ?_) ?_ ?_
      · by_cases c : x = a
        · rw [c, upd_same, ← h1, ← c, e]
        · rw [upd_ne c]
          exact s2 _ _ (en x o c e)
      · exact Fr.mk (by
          have z := nD
          rw [← hF, upd_ne (Ne.symm (ne_of_none ea nD))] at z
          exact z)
      · rw [upd_ne (Ne.symm (ne_of_none ea nD))]
        exact e2
end
end Ob

set_option Elab.async false
set_option linter.all false
set_option maxRecDepth 100000
set_option maxHeartbeats 1000000
namespace Ob
open PySem PySem.Spec PyProof.Rows L2
open LamX (Tabs TabB TabS ExtN)

set_option hygiene false in
local macro_rules
  | `(tactic| kp_flats) => `(tactic| first
    | assumption
    | exact upd_same
    | (apply atNew; assumption; kp_flats)
    | (apply atNe; (next => kbo_bools); kp_flats)
    | (apply atSame; assumption; kp_flats)
    | (apply atKp; assumption; (next => kaf_pre); kp_flats))
set_option hygiene false in
local macro_rules
  | `(tactic| kaf_pre) => `(tactic| first
    | assumption
    | exact not_nil
    | (apply not_cons; (next => kbo_bools); kaf_pre)
    | (apply not_app; (next => kaf_pre); kaf_pre))
set_option hygiene false in
local macro_rules
  | `(tactic| kbo_bools) => `(tactic| first
    | assumption
    | (apply Ne.symm; assumption)
    | (apply neN; assumption; kp_flats)
    | (apply neN'; assumption; kp_flats))
set_option hygiene false in
local macro_rules
  | `(tactic| o_reads) => `(tactic| first
    | with_reducible rfl
    | assumption
    | rfl
    | kp_flats
    | (show SqL _ _ _ _; first | assumption | (apply sqlOf; kp_flats) | (apply sqlSame; assumption; o_reads))
    | (show SqT _ _ _ _; first | assumption | (apply sqtOf; kp_flats) | (apply sqtAll; assumption) | (apply sqtSame; assumption; o_reads))
    | (show Cls _ _; first | exact T.cl_Calls | exact T.cl_Joiner | exact T.cl_Planner | exact T.cl_EvenSums | exact T.cl_Shape | exact T.cl_TwoStacks)
    | (show NoAttr _ _ _; first | exact T.n_Calls_entries | exact T.n_Calls_running | exact T.n_Joiner_calls | exact T.n_Joiner_join_call | exact T.n_Planner_entries | exact T.n_EvenSums_calls | exact T.n_EvenSums_joiner | exact T.n_EvenSums_zero | exact T.n_EvenSums_given | exact T.n_EvenSums_held | exact T.n_EvenSums_shape | exact T.n_Shape_front | exact T.n_Shape_back | exact T.n_Shape_late | exact T.n_Shape_renewed | exact T.n_TwoStacks_calls | exact T.n_TwoStacks_joiner | exact T.n_TwoStacks_zero | exact T.n_TwoStacks_given | exact T.n_TwoStacks_held | exact T.n_TwoStacks_front | exact T.n_TwoStacks_back)
    | (apply Or.inl; o_reads)
    | (apply Or.inr; o_reads)
    | (apply And.intro; (next => o_reads); o_reads)
    | (apply Exists.intro; o_reads)
    | exact Nat.le_of_ble_eq_true rfl
    | exact Nat.succ_ne_zero _
    | (show Fr _ _; kba_ints)
    | (show Same _ _; kd_subs)
    | (show Kp _ _ _; kxs_still)
    | (show (_ : Nat) ≤ _; simp only [List.length_append, List.length_map, List.length_cons, List.length_nil, List.length_take, List.length_drop, List.length_replicate, List.length_range, sizeLine_eq]; omega)
    | (show _ = none; apply Fr.h; kba_ints)
    | (show Bag _ _; first | assumption | (apply bag_putF; assumption; o_reads) | (apply bag_neF; (next => kbo_bools); o_reads) | (apply bag_kpR; assumption; (next => kaf_pre); o_reads))
    | omega
    | decide)
local macro_rules
  | `(tactic| o_readsAll) => `(tactic| repeat (first
    | (refine fun (pNew : Addr) (nNew : _ = none) => ?_; replace nNew := Fr.mk nNew)
    | (refine fun (xNew dNew : Addr) (nNew : _ = none) (mNew : _ = none) (eNew : dNew ≠ xNew) => ?_; replace nNew := Fr.mk nNew; replace mNew := Fr.mk mNew)
    | (apply And.intro; next => o_reads)
    | apply Exists.intro (α := V)
    | apply Exists.intro (α := Addr)
    | apply Exists.intro (α := Int)
    | apply Exists.intro (α := Bool)
    | apply Exists.intro (α := List V)
    | apply Exists.intro (α := List Nat)
    | apply Exists.intro (α := List (Str × V))
    | apply Exists.intro (α := List _)
    | apply Exists.intro (α := Str)
    | apply Exists.intro (α := HO)
    | apply Exists.intro (α := Sp)
    | apply Exists.intro (α := VK)))
set_option hygiene false in
local macro_rules
  | `(tactic| kba_ints) => `(tactic| first
    | assumption
    | (apply frUp; (first | assumption | (apply Ne.symm; assumption)); kba_ints)
    | (apply noneOf; assumption; intro oF eF; apply Exists.intro; kp_flats)
    | (apply frUp; (next => kbo_bools); kba_ints))
set_option hygiene false in
local macro_rules
  | `(tactic| kxs_still) => `(tactic| first
    | assumption
    | exact kp_refl _ _
    | (apply kp_newF; assumption; kxs_still)
    | (apply kp_new; assumption; kxs_still)
    | (apply kp_up; (next => o_fieldsN); kxs_still)
    | (apply kp_new; (next => kba_ints); kxs_still)
    | (apply kp_sameR; assumption; kxs_still)
    | (apply kp_transR; assumption; kxs_still)
    | (apply kp_freshR; assumption; (next => kaf_suf); kxs_still))
set_option hygiene false in
local macro_rules
  | `(tactic| kaf_suf) => `(tactic| first
    | assumption
    | exact subNil
    | (apply subCons; (first | (apply Or.inl; o_fieldsN) | (apply Or.inr; kba_ints)); kaf_suf)
    | (apply subApp; (next => kaf_suf); kaf_suf))
set_option hygiene false in
local macro_rules
  | `(tactic| o_fieldsN) => `(tactic| first
    | assumption
    | exact memA
    | (apply memB; o_fieldsN)
    | (apply memL; o_fieldsN)
    | (apply memR; o_fieldsN))
set_option hygiene false in
local macro_rules
  | `(tactic| kd_subs) => `(tactic| first
    | assumption
    | exact Same.refl _
    | (apply same_putF; assumption; kd_subs)
    | (apply same_putG; assumption; kd_subs)
    | (apply same_putF; (next => kba_ints); kd_subs)
    | (apply same_transR; assumption; kd_subs))

set_option pp.maxSteps 900
section
variable {P : Program} {w : World} {K : PySem.W.Frag} {mg : Str → Option Value} {base : Heap} {n : Nat}
def wholeE (bs : Nat → Nat) (k : Nat) : List (Nat × Nat × Nat) := (List.range (k - 1)).map fun q => (bs 0, bs (q + 1), bs (q + 2))
theorem wholeE_succ {bs : Nat → Nat} {i : Nat} (h : 0 < i) : wholeE bs (i + 1) = wholeE bs i ++ [(bs 0, bs i, bs (i + 1))] := by
  obtain ⟨k, rfl⟩ : ∃ k, i = k + 1 := ⟨i - 1, by omega⟩
  unfold wholeE
  rw [Nat.add_sub_cancel, Nat.add_sub_cancel, List.range_succ, List.map_append]
  rfl
def spWhole (P : Program) (w : World) (K : PySem.W.Frag) (mg : Str → Option Value) (base : Heap) (Cj : Addr × Addr) (Cc : Addr) (n : Nat) : Sp := fun vs H Q _ => ∃ (lb : Bool) (uv : List Addr) (f : V) (UR : List JEv → Hp → Prop) (Val : Nat → List V → V → Hp → Prop) (j jdx c cdx l : Addr) (u : List JEv) (es : List (Nat × Nat × Nat)) (ms xs : List V) (a : Addr) (bs : Nat → Nat),
  vs = [.ref j, .ref a] ∧ JS P w K mg base n lb uv f UR Val ∧ JW Cj Cc lb uv f UR j jdx c cdx l u es H ∧ u.length + xs.length < 90000 ∧ es.length + xs.length < 90000 ∧ ms.length < 90000 ∧ H a = some (.lst xs) ∧ a ∉ [c, l] ++ uv ∧ (∀ q s, xs[q]? = some s → SpanAt Val ms s (bs q) (bs (q + 1)) H) ∧
  ∀ r d H', d.length = (wholeE bs xs.length).length → Kp ([c, l] ++ uv) H H' → JW Cj Cc lb uv f UR j jdx c cdx l (u ++ d) (es ++ wholeE bs xs.length) H' → (xs.length = 0 → r = .non) → (0 < xs.length → SpanAt Val ms r (bs 0) (bs xs.length) H') → Q r H'
theorem ok_whole (T : Txt K mg) : FnOk P w K mg base CX0 (n + 6) T.f_whole_span T.d_whole_span ["joiner", "spans"] (spWhole P w K mg base (CJ T) T.C_Calls n) := by
  have G_Joiner_joined := ok_joined (P := P) (w := w) (base := base) (n := n) T
  have G_Planner_joined := ok_pjoined (P := P) (w := w) (base := base) (n := n) T
  refine T.F_whole_span.ok sc_whole_span (fun vs H Q E h => ?_) (fun cdv A outer s H vs Q E hr h => ?_)
  · obtain ⟨lb, uv, f, UR, Val, j, jdx, c, cdx, l, u, es, ms, xs, a, bs, rfl, _⟩ := h
    rfl
  · obtain ⟨lb, uv, f, UR, Val, j, jdx, c, cdx, l, u, es, ms, xs, a, bs, rfl, U, jw, lu, le, lms, hl, na, hs, q⟩ := h
    refine ⟨_, (pss_cons (ps_set (i := 2) sc_whole_span.nd rfl (.inl rfl) pe_non)
      (pss_cons (ps_for PassesOwn.never rfl (pi_list (pv 1)) (pg_name (i := 3) sc_whole_span.nd rfl (.inl rfl)) (pss_one (ps_if (pt_cmpR op_isN (pv 2) pe_non (nomark _)) (pss_one (ps_set (i := 2) sc_whole_span.nd rfl (.inl rfl) (pv 3))) (pss_one (ps_set (i := 2) sc_whole_span.nd rfl (.inl rfl) (pe_either (pe_meth (pv 0) T.cl_Joiner ⟨T.m_Joiner_joined, T.t_Joiner_joined, T.k_Joiner_joined⟩ G_Joiner_joined (hr.mono (by omega)) T.b_Joiner_joined .nil pass0 (pa_cons (pv 2) (pa_cons (pv 3) pa_nil))) (pe_meth (pv 0) T.cl_Planner ⟨T.m_Planner_joined, T.t_Planner_joined, T.k_Planner_joined⟩ G_Planner_joined (hr.mono (by omega)) T.b_Planner_joined .nil pass0 (pa_cons (pv 2) (pa_cons (pv 3) pa_nil)))))))))
      (pss_one (ps_ret (pv 2))))), ?_⟩
    have m0 := jw.mu U
    refine ⟨_, rfl, a, rfl, ⟨_, sqlOf hl⟩, ?_⟩
    refine for_list (xs := xs) (fun i σ H' => ∃ wv y d, σ = [some (.ref j), some (.ref a), some wv, y] ∧ d.length = (wholeE bs i).length ∧ Kp ([c, l] ++ uv) H H' ∧ JW (CJ T) T.C_Calls lb uv f UR j jdx c cdx l (u ++ d) (es ++ wholeE bs i) H' ∧ (i = 0 → wv = .non) ∧ (0 < i → SpanAt Val ms wv (bs 0) (bs i) H'))
      ⟨.non, none, [], rfl, rfl, kp_refl _ _, by rw [List.append_nil, show es ++ wholeE bs 0 = es from List.append_nil _]; exact jw, (fun _ => rfl), fun z => absurd z (Nat.lt_irrefl 0)⟩ (fun i σ H' _ ⟨_, _, _, _, _, k, _⟩ => sqlOf (k.at_ _ _ hl na)) ?_ ?_
    · rintro i x σ H' hx ⟨wv, y, d, rfl, ld, kk, jw', h0, h1⟩
      have li : i < xs.length := (List.getElem?_eq_some_iff.mp hx).1
      have sx := (hs i x hx).kp U kk m0
      by_cases c0 : i = 0
      · subst c0
        rw [h0 rfl]
        refine ⟨_, rfl, rfl, _, rfl, ?_⟩
        refine ifT (decide_eq_true rfl) ?_
        exact ⟨_, rfl, x, _, d, rfl, ld, kk, jw', (fun z => absurd z (Nat.succ_ne_zero 0)), fun _ => sx⟩
      · have ip : 0 < i := Nat.pos_of_ne_zero c0
        have hw := h1 ip
        obtain ⟨g1, g2, p0, v0, rfl, g3, g4⟩ := id hw
        refine ⟨_, rfl, rfl, _, rfl, ?_⟩
        refine ifF (decide_eq_false fun z => nomatch z) ?_
        have lw : (wholeE bs i).length = i - 1 := by
          unfold wholeE
          rw [List.length_map, List.length_range]
        rcases jw'.st with ⟨elv, hj, hc⟩ | ⟨elv, ecj, hj⟩
        · subst elv
          refine .inl ⟨_, rfl, j, jdx, _, rfl, hj, rfl, _, rfl, _, rfl, ?_⟩
          refine ⟨uv, f, UR, Val, j, jdx, c, cdx, l, u ++ d, _, ms, _, _, bs 0, bs i, bs (i + 1), rfl, U, jw', by rw [List.length_append]; omega, by rw [List.length_append]; omega, lms, hw, sx, fun r evt H2 fr k2 jw2 hs2 => ?_⟩
          refine ⟨.ref r, _, d ++ [evt], rfl, ?_, kp_trans kk k2, ?_, (fun z => absurd z (Nat.succ_ne_zero i)), fun _ => hs2⟩
          · rw [wholeE_succ ip, List.length_append, List.length_append, ld]
            rfl
          · rw [wholeE_succ ip, ← List.append_assoc, ← List.append_assoc]
            exact jw2
        · subst elv
          refine .inr ⟨_, rfl, j, jdx, _, rfl, hj, rfl, _, rfl, _, rfl, ?_⟩
          refine ⟨uv, f, UR, Val, j, jdx, c, cdx, l, u ++ d, _, ms, _, _, bs 0, bs i, bs (i + 1), rfl, U, jw', by rw [List.length_append]; omega, by rw [List.length_append]; omega, lms, hw, sx, fun r evt H2 fr k2 jw2 hs2 => ?_⟩
          refine ⟨.ref r, _, d ++ [evt], rfl, ?_, kp_trans kk k2, ?_, (fun z => absurd z (Nat.succ_ne_zero i)), fun _ => hs2⟩
          · rw [wholeE_succ ip, List.length_append, List.length_append, ld]
            rfl
          · rw [wholeE_succ ip, ← List.append_assoc, ← List.append_assoc]
            exact jw2
    · rintro σ H' ⟨wv, y, d, rfl, ld, kk, jw', h0, h1⟩
      exact ⟨_, rfl, q wv d H' ld kk jw' h0 h1⟩
def spReach (Val : Nat → List V → V → Hp → Prop) : Sp := fun vs H Q _ => ∃ (ms xs : List V) (a : Addr) (b k g : Nat) (nv : V), vs = [.ref a, nv] ∧ H a = some (.lst xs) ∧ SpansTo Val ms xs b k H ∧ (k = 0 ∨ nv = .int g) ∧ Q (.bl (decide (0 < k ∧ b ≤ g + k))) H
theorem ok_reach (T : Txt K mg) (Val : Nat → List V → V → Hp → Prop) : FnOk P w K mg base CX0 1 T.f_reaches T.d_reaches ["renewed", "number"] (spReach Val) := by
  refine T.F_reaches.ok sc_reaches (fun vs H Q E h => ?_) (fun cdv A outer s H vs Q E hr h => ?_)
  · obtain ⟨ms, xs, a, b, k, g, nv, rfl, _⟩ := h
    rfl
  · obtain ⟨ms, xs, a, b, k, g, nv, rfl, h1, h2, h3, q⟩ := h
    refine ⟨_, (pss_one (ps_ret (pe_and (pe_cmpR op_gt (pe_callB call_len_seq (by rfl) T.z_len (by decide +kernel) (pa_cons (pv 0) pa_nil)) pe_int (nomark _)) (pe_one (pe_cmpR op_le (pe_ix (r := rIxT K) ix_tup (pe_ix (r := rIxL K) ix_list (pv 0) (pe_un un_neg pe_int) (fun _ _ => rfl)) pe_int (fun _ _ => rfl)) (pv 1) (nomark _)))))), ?_⟩
    have ln := h2.len
    have le := h2.le
    refine ⟨_, rfl, a, _, rfl, .inl (sqlOf h1), _, _, rfl, rfl, _, rfl, ?_⟩
    by_cases c0 : k = 0
    · refine ifF (decide_eq_false (by omega)) ?_
      rw [decide_eq_false (by omega)] at q
      exact q
    · refine ifT (decide_eq_true (by omega)) ?_
      rcases h3 with h3 | rfl
      · exact absurd h3 c0
      have hx : ∃ s0, xs[k - 1]? = some s0 := ⟨_, List.getElem?_eq_getElem (by omega)⟩
      obtain ⟨s0, hx⟩ := hx
      obtain ⟨g1, g2, p, v, rfl, g3, g4⟩ := h2.at_ _ _ hx
      refine ⟨_, rfl, 1, rfl, a, _, -1, _, rfl, rfl, sqlOf h1, atI_end (k := k - 1) (by omega) hx, p, _, 0, _, rfl, rfl, sqtOf g3, atI_nat (j := 0) rfl, _, rfl, _, _, rfl, rfl, ?_⟩
      rw [show decide (0 < k ∧ b ≤ g + k) = decide (((b - 1 - (k - 1) : Nat) : Int) ≤ (g : Int)) from decide_eq_decide.mpr (by omega)] at q
      exact q
theorem cut_last {xs : List V} : cutV xs (some (-1)) none = xs.drop (xs.length - 1) := by
  unfold cutV
  simp [HT.sIx]
  rw [show (-1 + (xs.length : Int)).toNat = xs.length - 1 by omega]
  exact List.take_of_length_le (by rw [List.length_drop]; omega)
theorem cut_but {xs : List V} : cutV xs none (some (-1)) = xs.take (xs.length - 1) := by
  unfold cutV
  simp [HT.sIx]
  omega
def spFillS (K : PySem.W.Frag) : Sp := fun vs H Q _ => ∃ (a b : Addr) (xs ys : List V), vs = [.ref a, .ref b] ∧ H a = some (.lst xs) ∧ H b = some (.lst ys) ∧ xs.length < 90000 ∧ ys.length < 90 ∧ (∀ y ∈ ys, y = .non ∨ ∃ p, y = .ref p) ∧ ∀ r H', Same H H' → Fr H r → H' r = some (.lst (xs.drop (xs.length - 1) ++ ys.filter fun y => !decide (y = .non))) → Q (.ref r) H'
theorem ok_fillS (T : Txt K mg) : FnOk P w K mg base CX0 1 T.f_filled_spans T.d_filled_spans ["front", "backs"] (spFillS K) := by
  refine T.F_filled_spans.ok sc_filled_spans (fun vs H Q E h => ?_) (fun cdv A outer s H vs Q E hr h => ?_)
  · obtain ⟨a, b, xs, ys, rfl, _⟩ := h
    rfl
  · obtain ⟨a, b, xs, ys, rfl, h1, h2, l1, l2, h3, q⟩ := h
    refine ⟨_, (pss_one (ps_ret (pe_op op_cat (pe_slice sl_list (pv 0) (po_some (pe_un un_neg pe_int)) po_none) (pe_lc (own := [("span", 2)]) (g := gName 2)  rfl sc_filled_spans.nd (pi_list (pv 1)) (blkOk_by (N := n_filled_spans) (sc := defScope s_filled_spans) (by decide +kernel)) (fun _ _ _ _ _ => (pg_name (i := 2) sc_filled_spans.nd rfl (.inl rfl))) (fun _ _ _ _ _ => (pts_one (pt_cmpR op_notN (pv 2) pe_non (nomark _)))) (fun _ _ _ _ _ => (pv 2)))))), ?_⟩
    refine ⟨_, rfl, 1, rfl, -1, rfl, a, xs, rfl, sqlOf h1, fun p np => ?_⟩
    have fp := Fr.mk np
    rw [cut_last]
    have s1 : Same H (upd H p (.lst (xs.drop (xs.length - 1)))) := same_newF fp
    refine ⟨_, rfl, b, rfl, ⟨_, sqlOf (s1 _ _ h2)⟩, fun D nD => ?_⟩
    have fD := Fr.mk nD
    refine lc_list (K := K) (xs := ys) (fun i H' => Same (upd H p (.lst (xs.drop (xs.length - 1)))) H' ∧ H' D = some (.lst ((ys.take i).filter fun y => !decide (y = .non)))) ⟨same_newF fD, upd_same⟩ (fun i H' _ h => sqlOf (h.1 _ _ (s1 _ _ h2))) ?_ ?_
    · rintro i y H' hy ⟨s2, e2⟩
      refine ⟨rfl, _, rfl, rfl, _, rfl, ?_⟩
      have et : (ys.take (i + 1)).filter (fun y => !decide (y = V.non)) = (ys.take i).filter (fun y => !decide (y = V.non)) ++ [y].filter (fun y => !decide (y = V.non)) := by
        rw [List.take_succ, hy, List.filter_append]
        rfl
      by_cases c0 : y = V.non
      · refine ifF (by rw [decide_eq_true c0]; rfl) ⟨s2, ?_⟩
        rw [et, c0, e2]
        show some (HO.lst _) = some (HO.lst (_ ++ []))
        rw [List.append_nil]
      · refine ifT (by rw [decide_eq_false c0]; rfl) ?_
        refine ⟨_, rfl, _, e2, ?_, same_putG fD s2, ?_⟩
        · have h5 := List.length_filter_le (fun y => !decide (y = V.non)) (ys.take i)
          rw [List.length_take] at h5
          rw [sizeLine_eq]
          omega
        · rw [upd_same, et, List.filter_cons, if_pos (by rw [decide_eq_false c0]; rfl), List.filter_nil]
    · rintro H' ⟨s2, e2⟩
      rw [List.take_length] at e2
      have h5 := List.length_filter_le (fun y => !decide (y = V.non)) ys
      refine ⟨p, D, _, _, rfl, rfl, s2 _ _ upd_same, e2, ?_, fun r nr => ?_⟩
      · rw [List.length_drop, sizeLine_eq]
        omega
      · have fr := Fr.mk nr
        have s3 := s1.trans s2
        exact q r _ (s3.trans (same_newF fr)) (Fr.mk (s3.free nr)) upd_same
end
end Ob

set_option Elab.async false
set_option linter.all false
set_option maxRecDepth 100000
set_option maxHeartbeats 1000000
namespace Ob
open PySem PySem.Spec PyProof.Rows L2
open LamX (Tabs TabB TabS ExtN)

set_option hygiene false in
local macro_rules
  | `(tactic| kp_flats) => `(tactic| first
    | assumption
    | exact upd_same
    | (apply atNew; assumption; kp_flats)
    | (apply atNe; (next => kbo_bools); kp_flats)
    | (apply atSame; assumption; kp_flats)
    | (apply atKp; assumption; (next => kaf_pre); kp_flats))
set_option hygiene false in
local macro_rules
  | `(tactic| kaf_pre) => `(tactic| first
    | assumption
    | exact not_nil
    | (apply not_cons; (next => kbo_bools); kaf_pre)
    | (apply not_app; (next => kaf_pre); kaf_pre))
set_option hygiene false in
local macro_rules
  | `(tactic| kbo_bools) => `(tactic| first
    | assumption
    | (apply Ne.symm; assumption)
    | (apply neN; assumption; kp_flats)
    | (apply neN'; assumption; kp_flats))
set_option hygiene false in
local macro_rules
  | `(tactic| o_reads) => `(tactic| first
    | with_reducible rfl
    | assumption
    | rfl
    | kp_flats
    | (show SqL _ _ _ _; first | assumption | (apply sqlOf; kp_flats) | (apply sqlSame; assumption; o_reads))
    | (show SqT _ _ _ _; first | assumption | (apply sqtOf; kp_flats) | (apply sqtAll; assumption) | (apply sqtSame; assumption; o_reads))
    | (show Cls _ _; first | exact T.cl_Calls | exact T.cl_Joiner | exact T.cl_Planner | exact T.cl_EvenSums | exact T.cl_Shape | exact T.cl_TwoStacks)
    | (show NoAttr _ _ _; first | exact T.n_Calls_entries | exact T.n_Calls_running | exact T.n_Joiner_calls | exact T.n_Joiner_join_call | exact T.n_Planner_entries | exact T.n_EvenSums_calls | exact T.n_EvenSums_joiner | exact T.n_EvenSums_zero | exact T.n_EvenSums_given | exact T.n_EvenSums_held | exact T.n_EvenSums_shape | exact T.n_Shape_front | exact T.n_Shape_back | exact T.n_Shape_late | exact T.n_Shape_renewed | exact T.n_TwoStacks_calls | exact T.n_TwoStacks_joiner | exact T.n_TwoStacks_zero | exact T.n_TwoStacks_given | exact T.n_TwoStacks_held | exact T.n_TwoStacks_front | exact T.n_TwoStacks_back)
    | (apply Or.inl; o_reads)
    | (apply Or.inr; o_reads)
    | (apply And.intro; (next => o_reads); o_reads)
    | (apply Exists.intro; o_reads)
    | exact Nat.le_of_ble_eq_true rfl
    | exact Nat.succ_ne_zero _
    | (show Fr _ _; kba_ints)
    | (show Same _ _; kd_subs)
    | (show Kp _ _ _; kxs_still)
    | (show (_ : Nat) ≤ _; simp only [List.length_append, List.length_map, List.length_cons, List.length_nil, List.length_take, List.length_drop, List.length_replicate, List.length_range, sizeLine_eq]; omega)
    | (show _ = none; apply Fr.h; kba_ints)
    | (show Bag _ _; first | assumption | (apply bag_putF; assumption; o_reads) | (apply bag_neF; (next => kbo_bools); o_reads) | (apply bag_kpR; assumption; (next => kaf_pre); o_reads))
    | omega
    | decide)
local macro_rules
  | `(tactic| o_readsAll) => `(tactic| repeat (first
    | (refine fun (pNew : Addr) (nNew : _ = none) => ?_; replace nNew := Fr.mk nNew)
    | (refine fun (xNew dNew : Addr) (nNew : _ = none) (mNew : _ = none) (eNew : dNew ≠ xNew) => ?_; replace nNew := Fr.mk nNew; replace mNew := Fr.mk mNew)
    | (apply And.intro; next => o_reads)
    | apply Exists.intro (α := V)
    | apply Exists.intro (α := Addr)
    | apply Exists.intro (α := Int)
    | apply Exists.intro (α := Bool)
    | apply Exists.intro (α := List V)
    | apply Exists.intro (α := List Nat)
    | apply Exists.intro (α := List (Str × V))
    | apply Exists.intro (α := List _)
    | apply Exists.intro (α := Str)
    | apply Exists.intro (α := HO)
    | apply Exists.intro (α := Sp)
    | apply Exists.intro (α := VK)))
set_option hygiene false in
local macro_rules
  | `(tactic| kba_ints) => `(tactic| first
    | assumption
    | (apply frUp; (first | assumption | (apply Ne.symm; assumption)); kba_ints)
    | (apply noneOf; assumption; intro oF eF; apply Exists.intro; kp_flats)
    | (apply frUp; (next => kbo_bools); kba_ints))
set_option hygiene false in
local macro_rules
  | `(tactic| kxs_still) => `(tactic| first
    | assumption
    | exact kp_refl _ _
    | (apply kp_newF; assumption; kxs_still)
    | (apply kp_new; assumption; kxs_still)
    | (apply kp_up; (next => o_fieldsN); kxs_still)
    | (apply kp_new; (next => kba_ints); kxs_still)
    | (apply kp_sameR; assumption; kxs_still)
    | (apply kp_transR; assumption; kxs_still)
    | (apply kp_freshR; assumption; (next => kaf_suf); kxs_still))
set_option hygiene false in
local macro_rules
  | `(tactic| kaf_suf) => `(tactic| first
    | assumption
    | exact subNil
    | (apply subCons; (first | (apply Or.inl; o_fieldsN) | (apply Or.inr; kba_ints)); kaf_suf)
    | (apply subApp; (next => kaf_suf); kaf_suf))
set_option hygiene false in
local macro_rules
  | `(tactic| o_fieldsN) => `(tactic| first
    | assumption
    | exact memA
    | (apply memB; o_fieldsN)
    | (apply memL; o_fieldsN)
    | (apply memR; o_fieldsN))
set_option hygiene false in
local macro_rules
  | `(tactic| kd_subs) => `(tactic| first
    | assumption
    | exact Same.refl _
    | (apply same_putF; assumption; kd_subs)
    | (apply same_putG; assumption; kd_subs)
    | (apply same_putF; (next => kba_ints); kd_subs)
    | (apply same_transR; assumption; kd_subs))

set_option pp.maxSteps 900
/-! ### the shape of a queue -/
def ShO (C dx : Addr) (fr bv lv rv : V) : HO := .ins C dx [("front", fr), ("back", bv), ("late", lv), ("renewed", rv)]
/-- what holds of a shape between the calls: members from g on, the front to e, the back to b, n given; r: how far a rebuild has come -/
def ShOk (g e b n : Nat) : Option Nat → Prop
  | none => g ≤ e ∧ e ≤ b ∧ b = n ∧ n - e ≤ e - g
  | some k => g < e ∧ e < b ∧ b ≤ n ∧ 1 ≤ k ∧ k < b - g ∧ b - e ≤ (e - g) + k ∧ n - b < k
/-- .. before the work that follows a call -/
def ShPre (g e b n : Nat) : Option Nat → Prop
  | none => g ≤ e ∧ e ≤ b ∧ b = n ∧ n - e ≤ (e - g) + 1
  | some k => g ≤ e ∧ e < b ∧ b ≤ n ∧ 1 ≤ k ∧ k ≤ b - g ∧ b - e ≤ (e - g) + k + 1 ∧ n - b ≤ k ∧ (k = b - g → n - b < k)
def stepK (g b k : Nat) : Nat := if k < b - g then k + 1 else k
def stepR (g e b n k : Nat) : Nat × Nat × Option Nat := if stepK g b k = b - g then (b, n, none) else (e, b, some (stepK g b k))
def stepE (g b k : Nat) : List (Nat × Nat × Nat) := if k < b - g then deepE b k else []
def workR (g e b n : Nat) : Option Nat → Nat × Nat × Option Nat
  | none => if e - g < n - e then stepR g e b n 0 else (e, b, none)
  | some k => stepR g e b n k
def workE (g e b n : Nat) : Option Nat → List (Nat × Nat × Nat)
  | none => if e - g < n - e then stepE g b 0 else []
  | some k => stepE g b k
theorem stepR_ok {g e b n k : Nat} (h1 : g ≤ e) (h2 : e < b) (h3 : b ≤ n) (h4 : k ≤ b - g) (h5 : b - e ≤ (e - g) + k + 1) (h6 : n - b ≤ k) (h7 : k = b - g → n - b < k) : ShOk g (stepR g e b n k).1 (stepR g e b n k).2.1 n (stepR g e b n k).2.2 := by
  unfold stepR
  by_cases c : k < b - g
  · have e1 : stepK g b k = k + 1 := if_pos c
    rw [e1]
    by_cases d : k + 1 = b - g
    · rw [if_pos d]
      show g ≤ b ∧ b ≤ n ∧ n = n ∧ n - b ≤ b - g
      omega
    · rw [if_neg d]
      show g < e ∧ e < b ∧ b ≤ n ∧ 1 ≤ k + 1 ∧ k + 1 < b - g ∧ b - e ≤ (e - g) + (k + 1) ∧ n - b < k + 1
      omega
  · have e1 : stepK g b k = k := if_neg c
    rw [e1]
    have d : k = b - g := by omega
    have := h7 d
    rw [if_pos d]
    show g ≤ b ∧ b ≤ n ∧ n = n ∧ n - b ≤ b - g
    omega
theorem workR_ok {g e b n : Nat} {r : Option Nat} (h : ShPre g e b n r) : ShOk g (workR g e b n r).1 (workR g e b n r).2.1 n (workR g e b n r).2.2 := by
  match r, h with
  | none, ⟨h1, h2, h3, h4⟩ =>
    unfold workR
    by_cases c : e - g < n - e
    · rw [if_pos c]
      exact stepR_ok h1 (by omega) (by omega) (Nat.zero_le _) (by omega) (by omega) (by omega)
    · rw [if_neg c]
      show g ≤ e ∧ e ≤ b ∧ b = n ∧ n - e ≤ e - g
      omega
  | some k, ⟨h1, h2, h3, h4, h5, h6, h7, h8⟩ => exact stepR_ok h1 h2 h3 h5 h6 h7 h8
/-- an addition -/
def addB (b n : Nat) : Option Nat → Nat
  | none => n + 1
  | some _ => b
theorem add_pre {g e b n : Nat} {r : Option Nat} (h : ShOk g e b n r) : ShPre g e (addB b n r) (n + 1) r := by
  match r, h with
  | none, ⟨h1, h2, h3, h4⟩ =>
    show g ≤ e ∧ e ≤ n + 1 ∧ n + 1 = n + 1 ∧ n + 1 - e ≤ (e - g) + 1
    omega
  | some k, ⟨h1, h2, h3, h4, h5, h6, h7⟩ =>
    show g ≤ e ∧ e < b ∧ b ≤ n + 1 ∧ 1 ≤ k ∧ k ≤ b - g ∧ b - e ≤ (e - g) + k + 1 ∧ n + 1 - b ≤ k ∧ (k = b - g → n + 1 - b < k)
    omega
theorem rem_pre {g e b n : Nat} {r : Option Nat} (h : ShOk g e b n r) (hn : g < n) : g < e ∧ ShPre (g + 1) e b n r := by
  match r, h with
  | none, ⟨h1, h2, h3, h4⟩ =>
    show g < e ∧ g + 1 ≤ e ∧ e ≤ b ∧ b = n ∧ n - e ≤ (e - (g + 1)) + 1
    omega
  | some k, ⟨h1, h2, h3, h4, h5, h6, h7⟩ =>
    show g < e ∧ g + 1 ≤ e ∧ e < b ∧ b ≤ n ∧ 1 ≤ k ∧ k ≤ b - (g + 1) ∧ b - e ≤ (e - (g + 1)) + k + 1 ∧ n - b ≤ k ∧ (k = b - (g + 1) → n - b < k)
    omega
section
variable {P : Program} {w : World} {K : PySem.W.Frag} {mg : Str → Option Value} {base : Heap} {n : Nat}
def RenAt (Val : Nat → List V → V → Hp → Prop) (ms : List V) (cs : List Addr) (b : Nat) (rv : V) (H : Hp) : Option Nat → Prop
  | none => rv = .non
  | some k => ∃ (rl : Addr) (ys : List V), rv = .ref rl ∧ H rl = some (.lst ys) ∧ SpansTo Val ms ys b k H ∧ rl ∉ cs
/-- the object at sh: front, back, second back and rebuild; cs: what may change -/
structure ShAt (Cs : Addr) (Val : Nat → List V → V → Hp → Prop) (ms : List V) (cs : List Addr) (sh : Addr) (g e b : Nat) (r : Option Nat) (H : Hp) : Prop where
  at_ : ∃ (dx fr : Addr) (bv lv rv : V) (xs : List V), H sh = some (ShO Cs dx (.ref fr) bv lv rv) ∧ H fr = some (.lst xs) ∧ SpansTo Val ms xs e (e - g) H ∧ OptSpan Val ms bv e b H ∧ OptSpan Val ms lv b ms.length H ∧ RenAt Val ms cs b rv H r ∧ fr ∉ cs
  ns : sh ∉ cs
variable {lb : Bool} {uv : List Addr} {f : V} {UR : List JEv → Hp → Prop} {Val : Nat → List V → V → Hp → Prop} {Cj : Addr × Addr} {Cc Cs j jdx c cdx l sh : Addr} {u : List JEv} {es : List (Nat × Nat × Nat)} {H H1 : Hp} {ms ns : List V} {cs ds : List Addr} {g e b : Nat} {r : Option Nat}
theorem OptSpan.kp (U : JS P w K mg base n lb uv f UR Val) {s : V} {i j : Nat} (h : OptSpan Val ms s i j H) (k : Kp ds H H1) (m : Mu H ds) : OptSpan Val ms s i j H1 := h.imp id fun z => z.kp U k m
theorem OptSpan.more {s : V} {i j : Nat} (h : OptSpan Val ms s i j H) : OptSpan Val (ms ++ ns) s i j H := h.imp (fun z => ⟨z.1, z.2.1, by rw [List.length_append]; have := z.2.2; omega⟩) fun z => z.more
theorem RenAt.kp (U : JS P w K mg base n lb uv f UR Val) {rv : V} (h : RenAt Val ms cs b rv H r) (k : Kp ds H H1) (m : Mu H ds) (s : ∀ a ∈ ds, a ∈ cs) : RenAt Val ms cs b rv H1 r := by
  match r, h with
  | none, h => exact h
  | some k', ⟨rl, ys, h1, h2, h3, h4⟩ => exact ⟨rl, ys, h1, k.at_ _ _ h2 fun z => h4 (s _ z), h3.kp U k m, h4⟩
theorem ShAt.kp (U : JS P w K mg base n lb uv f UR Val) (h : ShAt Cs Val ms cs sh g e b r H) (k : Kp ds H H1) (m : Mu H ds) (s : ∀ a ∈ ds, a ∈ cs) : ShAt Cs Val ms cs sh g e b r H1 := by
  obtain ⟨⟨dx, fr, bv, lv, rv, xs, h1, h2, h3, h4, h5, h6, h7⟩, h8⟩ := h
  exact ⟨⟨dx, fr, bv, lv, rv, xs, k.at_ _ _ h1 fun z => h8 (s _ z), k.at_ _ _ h2 fun z => h7 (s _ z), h3.kp U k m, h4.kp U k m, h5.kp U k m, h6.kp U k m s, h7⟩, h8⟩
def Mems (Val : Nat → List V → V → Hp → Prop) (ms : List V) (H : Hp) : Prop := ∀ (i : Nat) (m : V), ms[i]? = some m → Val i [m] m H
theorem Mems.kp (U : JS P w K mg base n lb uv f UR Val) (h : Mems Val ms H) (k : Kp ds H H1) (m : Mu H ds) : Mems Val ms H1 := fun i x e => U.val (h i x e) k m
def spShI (C : Addr) : Sp := fun vs H Q _ => ∃ (a dx : Addr) (x1 x2 x3 x4 : V), vs = [.ref a, x1, x2, x3, x4] ∧ H a = some (.ins C dx []) ∧ ∀ H', H' a = some (ShO C dx x1 x2 x3 x4) → Kp [a] H H' → (∀ b, Fr H' b → Fr H b) → Q .non H'
theorem ok_shi (T : Txt K mg) : FnOk P w K mg base CX0 1 T.f_Shape_init T.d_Shape_init ["self", "front", "back", "late", "renewed"] (spShI T.C_Shape) := by
  refine T.F_Shape_init.ok sc_Shape_init (fun vs H Q E h => ?_) (fun cdv A outer s H vs Q E hr h => ?_)
  · obtain ⟨a, dx, x1, x2, x3, x4, rfl, _⟩ := h
    rfl
  · obtain ⟨a, dx, x1, x2, x3, x4, rfl, ha, q⟩ := h
    refine ⟨_, (pss_cons (ps_fld (pv 0) (pv 1) rfl)
      (pss_cons (ps_fld (pv 0) (pv 2) rfl)
      (pss_cons (ps_fld (pv 0) (pv 3) rfl)
      (pss_one (ps_fld (pv 0) (pv 4) rfl))))), ?_⟩
    o_readsAll
    exact q _ (by kp_flats) (by kxs_still) fun b fb => by kba_ints
def spWork (P : Program) (w : World) (K : PySem.W.Frag) (mg : Str → Option Value) (base : Heap) (Cj : Addr × Addr) (Cc Cs : Addr) (n : Nat) : Sp := fun vs H Q _ => ∃ (lb : Bool) (uv : List Addr) (f : V) (UR : List JEv → Hp → Prop) (Val : Nat → List V → V → Hp → Prop) (j jdx c cdx l : Addr) (u : List JEv) (es : List (Nat × Nat × Nat)) (ms : List V) (cs : List Addr) (sh h : Addr) (g e b : Nat) (r : Option Nat),
  vs = [.ref j, .ref sh, .ref h] ∧ JS P w K mg base n lb uv f UR Val ∧ JW Cj Cc lb uv f UR j jdx c cdx l u es H ∧ u.length < 90000 ∧ es.length < 90000 ∧ ms.length < 80000 ∧ (∀ a ∈ [c, l] ++ uv, a ∈ cs) ∧ Mu H cs ∧ Mems Val ms H ∧ ShAt Cs Val ms cs sh g e b r H ∧ ShPre g e b ms.length r ∧ H h = some (.dK (heldK g (ms.drop g))) ∧ h ∉ cs ∧
  ∀ sh' d H', d.length = (workE g e b ms.length r).length → Kp ([c, l] ++ uv) H H' → JW Cj Cc lb uv f UR j jdx c cdx l (u ++ d) (es ++ workE g e b ms.length r) H' → ShAt Cs Val ms cs sh' g (workR g e b ms.length r).1 (workR g e b ms.length r).2.1 (workR g e b ms.length r).2.2 H' → Q (.ref sh') H'
theorem ok_work (T : Txt K mg) : FnOk P w K mg base CX0 (n + 8) T.f_worked_shape T.d_worked_shape ["joiner", "shape", "held"] (spWork P w K mg base (CJ T) T.C_Calls T.C_Shape n) := by
  refine T.F_worked_shape.ok sc_worked_shape (fun vs H Q E h => ?_) (fun cdv A outer s H vs Q E hr h => ?_)
  · obtain ⟨lb, uv, f, UR, Val, j, jdx, c, cdx, l, u, es, ms, cs, sh, h, g, e, b, r, rfl, _⟩ := h
    rfl
  · obtain ⟨lb, uv, f, UR, Val, j, jdx, c, cdx, l, u, es, ms, cs, sh, h, g, e, b, r, rfl, U, jw, lu, le, lm, hcs, mu, mm, sa, pre, hh, nh, q⟩ := h
    have G_span_length := ok_splen (P := P) (w := w) (base := base) T Val
    have G_oldest := ok_oldest (P := P) (w := w) (base := base) T
    have G_reaches := ok_reach (P := P) (w := w) (base := base) T Val
    have G_deepened := ok_deep (P := P) (w := w) (base := base) (n := n) T
    have G_Shape_init := ok_shi (P := P) (w := w) (base := base) T
    refine ⟨_, (pss_cons (ps_set (i := 3) sc_worked_shape.nd rfl (.inl rfl) (pe_fld (pv 1) rfl))
      (C8.pss_cut (ps_if (PW.pt (pw_and (pt_cmpR op_isN (pv 3) pe_non (nomark _)) (pw_and1 (pt_cmpR op_gt (pe_call G_span_length (hr.mono (by omega)) rfl T.g_span_length T.F_span_length.kp T.b_span_length .nil pass0 (pa_cons (pe_fld (pv 1) rfl) pa_nil)) (pe_callB call_len_seq (by rfl) T.z_len (by decide +kernel) (pa_cons (pe_fld (pv 1) rfl) pa_nil)) (nomark _))))) (pss_one (ps_set (i := 3) sc_worked_shape.nd rfl (.inl rfl) (pe_lst pa_nil))) pss_nil)
      (pss_cons (ps_if (pt_cmpR op_isN (pv 3) pe_non (nomark _)) (pss_one (ps_ret (pv 1))) pss_nil)
      (C8.pss_cut (ps_if (pt_not (pt_val (pe_call G_reaches (hr.mono (by omega)) rfl T.g_reaches T.F_reaches.kp T.b_reaches .nil pass0 (pa_cons (pv 3) (pa_cons (pe_call G_oldest (hr.mono (by omega)) rfl T.g_oldest T.F_oldest.kp T.b_oldest .nil pass0 (pa_cons (pv 2) pa_nil)) pa_nil))))) (pss_cons (ps_set (i := 4) sc_worked_shape.nd rfl (.inl rfl) (pe_op op_sub (pe_op op_sub (pe_ix (r := rIxT K) ix_tup (pe_fld (pv 1) rfl) pe_int (fun _ _ => rfl)) (pe_callB call_len_seq (by rfl) T.z_len (by decide +kernel) (pa_cons (pv 3) pa_nil))) pe_int))
        (pss_one (ps_set (i := 3) sc_worked_shape.nd rfl (.inl rfl) (pe_call G_deepened (hr.mono (by omega)) rfl T.g_deepened T.F_deepened.kp T.b_deepened .nil pass0 (pa_cons (pv 0) (pa_cons (pv 3) (pa_cons (pv 4) (pa_cons (pe_dget (hu_of hr) (pv 2) (pv 4) (fun _ _ => rfl)) pa_nil)))))))) pss_nil)
      (pss_cons (ps_if (pt_val (pe_call G_reaches (hr.mono (by omega)) rfl T.g_reaches T.F_reaches.kp T.b_reaches .nil pass0 (pa_cons (pv 3) (pa_cons (pe_call G_oldest (hr.mono (by omega)) rfl T.g_oldest T.F_oldest.kp T.b_oldest .nil pass0 (pa_cons (pv 2) pa_nil)) pa_nil)))) (pss_one (ps_ret (pe_make ⟨T.mk_Shape, T.m_Shape_init, T.t_Shape_init, T.kp_Shape⟩ G_Shape_init (hr.mono (by omega)) rfl T.gc_Shape T.b_Shape_init .nil pass0 (pa_cons (pv 3) (pa_cons (pe_fld (pv 1) rfl) (pa_cons pe_non (pa_cons pe_non pa_nil))))))) pss_nil)
      (pss_one (ps_ret (pe_make ⟨T.mk_Shape, T.m_Shape_init, T.t_Shape_init, T.kp_Shape⟩ G_Shape_init (hr.mono (by omega)) rfl T.gc_Shape T.b_Shape_init .nil pass0 (pa_cons (pe_fld (pv 1) rfl) (pa_cons (pe_fld (pv 1) rfl) (pa_cons (pe_fld (pv 1) rfl) (pa_cons (pv 3) pa_nil)))))))))))), ?_⟩
    obtain ⟨⟨dx, fr, bv, lv, rv, xs, o1, o2, o3, o4, o5, o6, o7⟩, o8⟩ := id sa
    have m0 := jw.mu U
    refine ⟨_, rfl, sh, _, _, _, rv, rfl, o1, T.cl_Shape, T.n_Shape_renewed, rfl, ?_⟩
    refine ⟨fun σ H1 => (σ = [some (.ref j), some (.ref sh), some (.ref h), some .non, none] ∧ H1 = H ∧ r = none ∧ ¬ e - g < ms.length - e) ∨ (∃ (rl : Addr) (ys : List V) (k : Nat), σ = [some (.ref j), some (.ref sh), some (.ref h), some (.ref rl), none] ∧ Same H H1 ∧ H1 rl = some (.lst ys) ∧ SpansTo Val ms ys b k H1 ∧ rl ∉ cs ∧ (g ≤ e ∧ e < b ∧ b ≤ ms.length ∧ k ≤ b - g) ∧ workE g e b ms.length r = stepE g b k ∧ workR g e b ms.length r = stepR g e b ms.length k), ?_, ?_⟩
    · match r, o6, pre with
      | none, o6, ⟨p1, p2, p3, p4⟩ =>
        have o6 : rv = .non := o6
        subst o6
        refine ⟨_, rfl, rfl, _, rfl, ?_⟩
        refine ifT (decide_eq_true rfl) ?_
        refine ⟨_, rfl, sh, _, _, _, bv, rfl, o1, T.cl_Shape, T.n_Shape_back, rfl, ms, bv, e, b, rfl, o4, _, rfl, sh, _, _, _, .ref fr, rfl, o1, T.cl_Shape, T.n_Shape_front, rfl, fr, xs, rfl, .inl (sqlOf o2), _, _, rfl, rfl, _, rfl, ?_⟩
        have lx := o3.len
        by_cases cc : e - g < ms.length - e
        · refine ifT (decide_eq_true (by omega)) ?_
          refine ⟨Nat.zero_le _, fun rl nrl => ?_⟩
          have frl := Fr.mk nrl
          refine .inr ⟨rl, [], 0, rfl, same_newF frl, upd_same, ⟨rfl, Nat.zero_le _, by omega, fun q s z => by cases q <;> cases z⟩, mu.fr frl, ⟨p1, by omega, by omega, Nat.zero_le _⟩, if_pos cc, if_pos cc⟩
        · refine ifF (decide_eq_false (by omega)) ?_
          exact .inl ⟨rfl, rfl, rfl, cc⟩
      | some k, ⟨rl, ys, r1, r2, r3, r4⟩, ⟨p1, p2, p3, p4, p5, p6, p7, p8⟩ =>
        subst r1
        refine ⟨_, rfl, rfl, _, rfl, ?_⟩
        refine ifF (decide_eq_false fun z => nomatch z) ?_
        refine ifF rfl ?_
        exact .inr ⟨rl, ys, k, rfl, fun _ _ z => z, r2, r3, r4, ⟨p1, p2, p3, p5⟩, rfl, rfl⟩
    · rintro σ H1 (⟨rfl, rfl, rfl, nst⟩ | ⟨rl, ys, k, rfl, s1, e1, sp1, nr, ⟨p1, p2, p3, p5⟩, eE, eR⟩)
      · refine ⟨_, rfl, rfl, _, rfl, ?_⟩
        refine ifT (decide_eq_true rfl) ?_
        have e2 : workE g e b ms.length none = [] := if_neg nst
        have e3 : workR g e b ms.length none = (e, b, none) := if_neg nst
        rw [e2, e3] at q
        refine ⟨_, rfl, q sh [] H1 rfl (kp_refl _ _) ?_ sa⟩
        rw [List.append_nil, List.append_nil]
        exact jw
      · rw [eE, eR] at q
        refine ⟨_, rfl, rfl, _, rfl, ?_⟩
        refine ifF (decide_eq_false fun z => nomatch z) ?_
        have k1 : Kp ([c, l] ++ uv) H H1 := kp_same s1
        have jw1 := jw.same U s1
        have m1 := jw1.mu U
        have hl0 : (ms.drop g).length ≠ 0 := by
          rw [List.length_drop]
          omega
        have hf : fstN g (ms.drop g) = .int g := if_neg hl0
        have ly := sp1.len
        refine ⟨fun σ H2 => ∃ (rl : Addr) (ys : List V) (y : Option V) (d : List JEv), σ = [some (.ref j), some (.ref sh), some (.ref h), some (.ref rl), y] ∧ d.length = (stepE g b k).length ∧ Kp ([c, l] ++ uv) H H2 ∧ JW (CJ T) T.C_Calls lb uv f UR j jdx c cdx l (u ++ d) (es ++ stepE g b k) H2 ∧ H2 rl = some (.lst ys) ∧ SpansTo Val ms ys b (stepK g b k) H2 ∧ rl ∉ cs, ?_, ?_⟩
        · refine ⟨_, rfl, _, rfl, h, g, ms.drop g, rfl, s1 _ _ hh, ms, ys, rl, b, k, g, _, rfl, e1, sp1, .inr hf, _, rfl, ?_⟩
          by_cases lk : k < b - g
          · refine ifT (by rw [decide_eq_false (by omega)]; rfl) ?_
            rcases o4 with ⟨_, z, _⟩ | ⟨g1, g2, pb, vb, rfl, g3, g4⟩
            · omega
            refine ⟨_, rfl, sh, _, _, _, _, rfl, s1 _ _ o1, T.cl_Shape, T.n_Shape_back, rfl, pb, _, 1, _, rfl, rfl, sqtOf (s1 _ _ g3), atI_nat (j := 1) rfl, _, rfl, rl, ys, rfl, .inl (sqlOf e1), _, _, rfl, rfl, _, _, rfl, rfl, ?_⟩
            dsimp only
            rw [show ((b : Int) - (ys.length : Int) - 1) = ((b - 1 - k : Nat) : Int) by omega]
            obtain ⟨mem, hm⟩ : ∃ mem, ms[b - 1 - k]? = some mem := ⟨_, List.getElem?_eq_getElem (by omega)⟩
            have dg : DGet H1 h (.int ((b - 1 - k : Nat) : Int)) (some mem) := by
              have hv := heldK_get (ms.drop g) g (b - 1 - k - g)
              rw [show g + (b - 1 - k - g) = b - 1 - k by omega, List.getElem?_drop, show g + (b - 1 - k - g) = b - 1 - k by omega, hm] at hv
              exact .inl ⟨_, .inl ((b - 1 - k : Nat) : Int), .inl (s1 _ _ hh), rfl, hv.symm⟩
            refine ⟨_, rfl, _, rfl, _, rfl, _, rfl, _, rfl, h, mem, rfl, dg, lb, uv, f, UR, Val, j, jdx, c, cdx, l, u, es, ms, ys, rl, mem, b, k, rfl, U, jw1, lu, le, by omega, e1, fun z => nr (hcs _ z), sp1, by omega, by omega, ⟨hm, (mm.kp U k1 m0) _ _ hm⟩, fun r2 ys2 d H2 ld fr2 k2 jw2 e2 sp2 => ?_⟩
            have eS : stepE g b k = deepE b k := if_pos lk
            have eK : stepK g b k = k + 1 := if_pos lk
            rw [eS, eK]
            have k12 := kp_trans k1 k2
            exact ⟨r2, ys2, _, d, rfl, ld, k12, jw2, e2, sp2, mu.fr (fr_kp k1 m1 fr2)⟩
          · refine ifF (by rw [decide_eq_true (by omega)]; rfl) ?_
            have eS : stepE g b k = [] := if_neg lk
            have eK : stepK g b k = k := if_neg lk
            rw [eS, eK]
            refine ⟨rl, ys, _, [], rfl, rfl, k1, ?_, e1, sp1, nr⟩
            rw [List.append_nil, List.append_nil]
            exact jw1
        · rintro σ H2 ⟨rl, ys, y, d, rfl, ld, k2, jw2, e2, sp2, nr⟩
          have nsh : sh ∉ [c, l] ++ uv := fun z => o8 (hcs _ z)
          have m2 := jw2.mu U
          have mu2 : Mu H2 cs := mu.kp k2 m2
          have sa2 := sa.kp U k2 m0 hcs
          have o1' := k2.at_ _ _ o1 nsh
          have hh' := k2.at_ _ _ hh fun z => nh (hcs _ z)
          refine ⟨_, rfl, _, rfl, h, g, ms.drop g, rfl, hh', ms, ys, rl, b, stepK g b k, g, _, rfl, e2, sp2, .inr hf, _, rfl, ?_⟩
          have hk : stepK g b k ≤ b - g := by
            unfold stepK
            split <;> omega
          have mks : ∀ {x dd : Addr} {H3 : Hp}, Fr H2 x → Fr H2 dd → Kp [x] (upd (upd H2 dd (.own x)) x (.ins T.C_Shape dd [])) H3 → Same H2 H3 := fun {x dd H3} fx fd kk b o z => kk.at_ _ _ (by rw [upd_ne (ne_of_none z fx.h), upd_ne (ne_of_none z fd.h)]; exact z) (not_cons (ne_of_none z fx.h) not_nil)
          by_cases ck : stepK g b k = b - g
          · refine ifT (decide_eq_true (by omega)) ?_
            refine ⟨_, rfl, _, rfl, sh, _, _, _, lv, rfl, o1', T.cl_Shape, T.n_Shape_late, rfl, fun x dd nx nd ndx => ⟨x, dd, .ref rl, lv, .non, .non, rfl, upd_same, fun H3 e3 k3 f3 => ⟨rfl, ?_⟩⟩⟩
            have s3 := mks (Fr.mk nx) (Fr.mk nd) k3
            have eS : stepR g e b ms.length k = (b, ms.length, none) := if_pos ck
            rw [eS] at q
            have kc := kp_same (cs := []) s3
            refine q x d H3 ld (kp_trans k2 (kp_same s3)) (jw2.same U s3) ⟨⟨dd, rl, lv, .non, .non, ys, e3, s3 _ _ e2, ?_, (o5.kp U k2 m0).kp U kc mu_nil, .inl ⟨rfl, rfl, Nat.le_refl _⟩, rfl, nr⟩, mu2.fr (Fr.mk nx)⟩
            rw [← ck]
            exact sp2.kp U kc mu_nil
          · refine ifF (decide_eq_false (by omega)) ?_
            refine ⟨_, rfl, sh, _, _, _, .ref fr, rfl, o1', T.cl_Shape, T.n_Shape_front, rfl, _, rfl, sh, _, _, _, bv, rfl, o1', T.cl_Shape, T.n_Shape_back, rfl, _, rfl, sh, _, _, _, lv, rfl, o1', T.cl_Shape, T.n_Shape_late, rfl, _, rfl, fun x dd nx nd ndx => ⟨x, dd, .ref fr, bv, lv, .ref rl, rfl, upd_same, fun H3 e3 k3 f3 => ⟨rfl, ?_⟩⟩⟩
            have s3 := mks (Fr.mk nx) (Fr.mk nd) k3
            have eS : stepR g e b ms.length k = (e, b, some (stepK g b k)) := if_neg ck
            rw [eS] at q
            have kc := kp_same (cs := []) s3
            have nfr : fr ∉ [c, l] ++ uv := fun z => o7 (hcs _ z)
            exact q x d H3 ld (kp_trans k2 (kp_same s3)) (jw2.same U s3) ⟨⟨dd, fr, bv, lv, .ref rl, xs, e3, s3 _ _ (k2.at_ _ _ o2 nfr), (o3.kp U k2 m0).kp U kc mu_nil, (o4.kp U k2 m0).kp U kc mu_nil, (o5.kp U k2 m0).kp U kc mu_nil, ⟨rl, ys, rfl, s3 _ _ e2, sp2.kp U kc mu_nil, nr⟩, o7⟩, mu2.fr (Fr.mk nx)⟩
end
end Ob

set_option Elab.async false
set_option linter.all false
set_option maxRecDepth 100000
set_option maxHeartbeats 1000000
namespace Ob
open PySem PySem.Spec PyProof.Rows L2
open LamX (Tabs TabB TabS ExtN)

set_option hygiene false in
local macro_rules
  | `(tactic| kp_flats) => `(tactic| first
    | assumption
    | exact upd_same
    | (apply atNew; assumption; kp_flats)
    | (apply atNe; (next => kbo_bools); kp_flats)
    | (apply atSame; assumption; kp_flats)
    | (apply atKp; assumption; (next => kaf_pre); kp_flats))
set_option hygiene false in
local macro_rules
  | `(tactic| kaf_pre) => `(tactic| first
    | assumption
    | exact not_nil
    | (apply not_cons; (next => kbo_bools); kaf_pre)
    | (apply not_app; (next => kaf_pre); kaf_pre))
set_option hygiene false in
local macro_rules
  | `(tactic| kbo_bools) => `(tactic| first
    | assumption
    | (apply Ne.symm; assumption)
    | (apply neN; assumption; kp_flats)
    | (apply neN'; assumption; kp_flats))
set_option hygiene false in
local macro_rules
  | `(tactic| o_reads) => `(tactic| first
    | with_reducible rfl
    | assumption
    | rfl
    | kp_flats
    | (show SqL _ _ _ _; first | assumption | (apply sqlOf; kp_flats) | (apply sqlSame; assumption; o_reads))
    | (show SqT _ _ _ _; first | assumption | (apply sqtOf; kp_flats) | (apply sqtAll; assumption) | (apply sqtSame; assumption; o_reads))
    | (show Cls _ _; first | exact T.cl_Calls | exact T.cl_Joiner | exact T.cl_Planner | exact T.cl_EvenSums | exact T.cl_Shape | exact T.cl_TwoStacks)
    | (show NoAttr _ _ _; first | exact T.n_Calls_entries | exact T.n_Calls_running | exact T.n_Joiner_calls | exact T.n_Joiner_join_call | exact T.n_Planner_entries | exact T.n_EvenSums_calls | exact T.n_EvenSums_joiner | exact T.n_EvenSums_zero | exact T.n_EvenSums_given | exact T.n_EvenSums_held | exact T.n_EvenSums_shape | exact T.n_Shape_front | exact T.n_Shape_back | exact T.n_Shape_late | exact T.n_Shape_renewed | exact T.n_TwoStacks_calls | exact T.n_TwoStacks_joiner | exact T.n_TwoStacks_zero | exact T.n_TwoStacks_given | exact T.n_TwoStacks_held | exact T.n_TwoStacks_front | exact T.n_TwoStacks_back)
    | (apply Or.inl; o_reads)
    | (apply Or.inr; o_reads)
    | (apply And.intro; (next => o_reads); o_reads)
    | (apply Exists.intro; o_reads)
    | exact Nat.le_of_ble_eq_true rfl
    | exact Nat.succ_ne_zero _
    | (show Fr _ _; kba_ints)
    | (show Same _ _; kd_subs)
    | (show Kp _ _ _; kxs_still)
    | (show (_ : Nat) ≤ _; simp only [List.length_append, List.length_map, List.length_cons, List.length_nil, List.length_take, List.length_drop, List.length_replicate, List.length_range, sizeLine_eq]; omega)
    | (show _ = none; apply Fr.h; kba_ints)
    | (show Bag _ _; first | assumption | (apply bag_putF; assumption; o_reads) | (apply bag_neF; (next => kbo_bools); o_reads) | (apply bag_kpR; assumption; (next => kaf_pre); o_reads))
    | omega
    | decide)
local macro_rules
  | `(tactic| o_readsAll) => `(tactic| repeat (first
    | (refine fun (pNew : Addr) (nNew : _ = none) => ?_; replace nNew := Fr.mk nNew)
    | (refine fun (xNew dNew : Addr) (nNew : _ = none) (mNew : _ = none) (eNew : dNew ≠ xNew) => ?_; replace nNew := Fr.mk nNew; replace mNew := Fr.mk mNew)
    | (apply And.intro; next => o_reads)
    | apply Exists.intro (α := V)
    | apply Exists.intro (α := Addr)
    | apply Exists.intro (α := Int)
    | apply Exists.intro (α := Bool)
    | apply Exists.intro (α := List V)
    | apply Exists.intro (α := List Nat)
    | apply Exists.intro (α := List (Str × V))
    | apply Exists.intro (α := List _)
    | apply Exists.intro (α := Str)
    | apply Exists.intro (α := HO)
    | apply Exists.intro (α := Sp)
    | apply Exists.intro (α := VK)))
set_option hygiene false in
local macro_rules
  | `(tactic| kba_ints) => `(tactic| first
    | assumption
    | (apply frUp; (first | assumption | (apply Ne.symm; assumption)); kba_ints)
    | (apply noneOf; assumption; intro oF eF; apply Exists.intro; kp_flats)
    | (apply frUp; (next => kbo_bools); kba_ints))
set_option hygiene false in
local macro_rules
  | `(tactic| kxs_still) => `(tactic| first
    | assumption
    | exact kp_refl _ _
    | (apply kp_newF; assumption; kxs_still)
    | (apply kp_new; assumption; kxs_still)
    | (apply kp_up; (next => o_fieldsN); kxs_still)
    | (apply kp_new; (next => kba_ints); kxs_still)
    | (apply kp_sameR; assumption; kxs_still)
    | (apply kp_transR; assumption; kxs_still)
    | (apply kp_freshR; assumption; (next => kaf_suf); kxs_still))
set_option hygiene false in
local macro_rules
  | `(tactic| kaf_suf) => `(tactic| first
    | assumption
    | exact subNil
    | (apply subCons; (first | (apply Or.inl; o_fieldsN) | (apply Or.inr; kba_ints)); kaf_suf)
    | (apply subApp; (next => kaf_suf); kaf_suf))
set_option hygiene false in
local macro_rules
  | `(tactic| o_fieldsN) => `(tactic| first
    | assumption
    | exact memA
    | (apply memB; o_fieldsN)
    | (apply memL; o_fieldsN)
    | (apply memR; o_fieldsN))
set_option hygiene false in
local macro_rules
  | `(tactic| kd_subs) => `(tactic| first
    | assumption
    | exact Same.refl _
    | (apply same_putF; assumption; kd_subs)
    | (apply same_putG; assumption; kd_subs)
    | (apply same_putF; (next => kba_ints); kd_subs)
    | (apply same_transR; assumption; kd_subs))

set_option pp.maxSteps 900
section
variable {P : Program} {w : World} {K : PySem.W.Frag} {mg : Str → Option Value} {base : Heap} {n : Nat}
theorem RenAt.more {Val : Nat → List V → V → Hp → Prop} {ms ns : List V} {cs : List Addr} {b : Nat} {rv : V} {H : Hp} {r : Option Nat} (h : RenAt Val ms cs b rv H r) : RenAt Val (ms ++ ns) cs b rv H r := by
  match r, h with
  | none, h => exact h
  | some k', ⟨rl, ys, h1, h2, h3, h4⟩ => exact ⟨rl, ys, h1, h2, h3.more, h4⟩
/-- the entries of an addition: of the back or the second back, and of the rebuild -/
def addE1 (e b n : Nat) : Option Nat → List (Nat × Nat × Nat)
  | none => extE e n
  | some _ => extE b n
def addE (g e b n : Nat) (r : Option Nat) : List (Nat × Nat × Nat) := addE1 e b n r ++ workE g e (addB b n r) (n + 1) r
def addR (g e b n : Nat) (r : Option Nat) : Nat × Nat × Option Nat := workR g e (addB b n r) (n + 1) r
theorem extE_len {i m : Nat} : (extE i m).length ≤ 1 := by
  unfold extE
  split
  · exact Nat.zero_le _
  · exact Nat.le_refl _
theorem stepE_len {g b k : Nat} : (stepE g b k).length ≤ 1 := by
  unfold stepE deepE
  split
  · split
    · exact Nat.zero_le _
    · exact Nat.le_refl _
  · exact Nat.zero_le _
theorem workE_len {g e b n : Nat} {r : Option Nat} : (workE g e b n r).length ≤ 1 := by
  match r with
  | none =>
    show (if e - g < n - e then stepE g b 0 else []).length ≤ 1
    by_cases c : e - g < n - e
    · rw [if_pos c]
      exact stepE_len
    · rw [if_neg c]
      exact Nat.zero_le _
  | some k => exact stepE_len
theorem addE_len {g e b n : Nat} {r : Option Nat} : (addE g e b n r).length ≤ 2 := by
  unfold addE
  rw [List.length_append]
  have h1 := workE_len (g := g) (e := e) (b := addB b n r) (n := n + 1) (r := r)
  have h2 : (addE1 e b n r).length ≤ 1 := by
    match r with
    | none => exact extE_len
    | some k => exact extE_len
  omega
theorem ShOk.le {g e b n : Nat} {r : Option Nat} (h : ShOk g e b n r) : g ≤ e ∧ e ≤ b ∧ b ≤ n := by
  match r, h with
  | none, ⟨h1, h2, h3, h4⟩ => omega
  | some k, ⟨h1, h2, h3, h4, h5, h6, h7⟩ => omega
def spShAdd (P : Program) (w : World) (K : PySem.W.Frag) (mg : Str → Option Value) (base : Heap) (Cj : Addr × Addr) (Cc Cs : Addr) (n : Nat) : Sp := fun vs H Q _ => ∃ (lb : Bool) (uv : List Addr) (f : V) (UR : List JEv → Hp → Prop) (Val : Nat → List V → V → Hp → Prop) (j jdx c cdx l : Addr) (u : List JEv) (es : List (Nat × Nat × Nat)) (ms : List V) (mem : V) (cs : List Addr) (sh h : Addr) (g e b : Nat) (r : Option Nat),
  vs = [.ref j, .ref sh, .ref h, .int ms.length] ∧ JS P w K mg base n lb uv f UR Val ∧ JW Cj Cc lb uv f UR j jdx c cdx l u es H ∧ u.length < 80000 ∧ es.length < 80000 ∧ ms.length < 70000 ∧ (∀ a ∈ [c, l] ++ uv, a ∈ cs) ∧ Mu H cs ∧ Mems Val (ms ++ [mem]) H ∧ ShAt Cs Val ms cs sh g e b r H ∧ ShOk g e b ms.length r ∧ H h = some (.dK (heldK g ((ms ++ [mem]).drop g))) ∧ h ∉ cs ∧
  ∀ sh' d H', d.length = (addE g e b ms.length r).length → Kp ([c, l] ++ uv) H H' → JW Cj Cc lb uv f UR j jdx c cdx l (u ++ d) (es ++ addE g e b ms.length r) H' → ShAt Cs Val (ms ++ [mem]) cs sh' g (addR g e b ms.length r).1 (addR g e b ms.length r).2.1 (addR g e b ms.length r).2.2 H' → Q (.ref sh') H'
theorem ok_shadd (T : Txt K mg) : FnOk P w K mg base CX0 (n + 10) T.f_shape_after_addition T.d_shape_after_addition ["joiner", "shape", "held", "number"] (spShAdd P w K mg base (CJ T) T.C_Calls T.C_Shape n) := by
  have G_extended := ok_ext (P := P) (w := w) (base := base) (n := n) T
  have G_worked_shape := ok_work (P := P) (w := w) (base := base) (n := n) T
  have G_Shape_init := ok_shi (P := P) (w := w) (base := base) T
  refine T.F_shape_after_addition.ok sc_shape_after_addition (fun vs H Q E h => ?_) (fun cdv A outer s H vs Q E hr h => ?_)
  · obtain ⟨lb, uv, f, UR, Val, j, jdx, c, cdx, l, u, es, ms, mem, cs, sh, h, g, e, b, r, rfl, _⟩ := h
    rfl
  · obtain ⟨lb, uv, f, UR, Val, j, jdx, c, cdx, l, u, es, ms, mem, cs, sh, h, g, e, b, r, rfl, U, jw, lu, le, lm, hcs, mu, mm, sa, ok, hh, nh, q⟩ := h
    refine ⟨_, (pss_cons (ps_set (i := 4) sc_shape_after_addition.nd rfl (.inl rfl) (pe_fld (pv 1) rfl))
      (pss_cons (ps_set (i := 5) sc_shape_after_addition.nd rfl (.inl rfl) (pe_fld (pv 1) rfl))
      (C8.pss_cut (ps_if (pt_cmpR op_isN (pe_fld (pv 1) rfl) pe_non (nomark _)) (pss_one (ps_set (i := 4) sc_shape_after_addition.nd rfl (.inl rfl) (pe_call G_extended (hr.mono (by omega)) rfl T.g_extended T.F_extended.kp T.b_extended .nil pass0 (pa_cons (pv 0) (pa_cons (pv 4) (pa_cons (pv 3) (pa_cons (pe_dget (hu_of hr) (pv 2) (pv 3) (fun _ _ => rfl)) pa_nil))))))) (pss_one (ps_set (i := 5) sc_shape_after_addition.nd rfl (.inl rfl) (pe_call G_extended (hr.mono (by omega)) rfl T.g_extended T.F_extended.kp T.b_extended .nil pass0 (pa_cons (pv 0) (pa_cons (pv 5) (pa_cons (pv 3) (pa_cons (pe_dget (hu_of hr) (pv 2) (pv 3) (fun _ _ => rfl)) pa_nil))))))))
      (pss_one (ps_ret (pe_call G_worked_shape (hr.mono (by omega)) rfl T.g_worked_shape T.F_worked_shape.kp T.b_worked_shape .nil pass0 (pa_cons (pv 0) (pa_cons (pe_make ⟨T.mk_Shape, T.m_Shape_init, T.t_Shape_init, T.kp_Shape⟩ G_Shape_init (hr.mono (by omega)) rfl T.gc_Shape T.b_Shape_init .nil pass0 (pa_cons (pe_fld (pv 1) rfl) (pa_cons (pv 4) (pa_cons (pv 5) (pa_cons (pe_fld (pv 1) rfl) pa_nil))))) (pa_cons (pv 2) pa_nil))))))))), ?_⟩
    obtain ⟨⟨dx, fr, bv, lv, rv, xs, o1, o2, o3, o4, o5, o6, o7⟩, o8⟩ := id sa
    have m0 := jw.mu U
    obtain ⟨q1, q2, q3⟩ := ok.le
    have hlen : (ms ++ [mem]).length = ms.length + 1 := by
      rw [List.length_append]
      rfl
    have hmem : (ms ++ [mem])[ms.length]? = some mem := List.getElem?_concat_length ..
    have al : Alone Val (ms ++ [mem]) ms.length mem H := ⟨hmem, mm _ _ hmem⟩
    have dg : DGet H h (.int (ms.length : Int)) (some mem) := by
      have hv := heldK_get ((ms ++ [mem]).drop g) g (ms.length - g)
      rw [show g + (ms.length - g) = ms.length by omega, List.getElem?_drop, show g + (ms.length - g) = ms.length by omega, hmem] at hv
      exact .inl ⟨_, .inl (ms.length : Int), .inl hh, rfl, hv.symm⟩
    have nsh : sh ∉ [c, l] ++ uv := fun z => o8 (hcs _ z)
    have nfr : fr ∉ [c, l] ++ uv := fun z => o7 (hcs _ z)
    refine ⟨_, rfl, sh, _, _, _, bv, rfl, o1, T.cl_Shape, T.n_Shape_back, rfl, _, rfl, sh, _, _, _, lv, rfl, o1, T.cl_Shape, T.n_Shape_late, rfl, ?_⟩
    refine ⟨fun σ H1 => ∃ (bv' lv' : V) (d : List JEv), σ = [some (.ref j), some (.ref sh), some (.ref h), some (.int ms.length), some bv', some lv'] ∧ d.length = (addE1 e b ms.length r).length ∧ Kp ([c, l] ++ uv) H H1 ∧ JW (CJ T) T.C_Calls lb uv f UR j jdx c cdx l (u ++ d) (es ++ addE1 e b ms.length r) H1 ∧ OptSpan Val (ms ++ [mem]) bv' e (addB b ms.length r) H1 ∧ OptSpan Val (ms ++ [mem]) lv' (addB b ms.length r) (ms.length + 1) H1, ?_, ?_⟩
    · match r, o6, ok with
      | none, o6, ⟨p1, p2, p3, p4⟩ =>
        have o6 : rv = .non := o6
        subst o6
        refine ⟨_, rfl, sh, _, _, _, .non, rfl, o1, T.cl_Shape, T.n_Shape_renewed, rfl, rfl, _, rfl, ?_⟩
        refine ifT (decide_eq_true rfl) ?_
        subst p3
        have hl : lv = .non := by
          rcases o5 with ⟨z, _⟩ | ⟨z, _⟩
          · exact z
          · omega
        refine ⟨_, rfl, _, rfl, _, rfl, _, rfl, _, rfl, h, mem, rfl, dg, lb, uv, f, UR, Val, j, jdx, c, cdx, l, u, es, ms ++ [mem], bv, mem, e, ms.length, rfl, U, jw, by omega, by omega, by omega, o4.more, al, fun r d H1 ld k1 jw1 s1 => ?_⟩
        exact ⟨r, lv, d, rfl, ld, k1, jw1, .inr s1, .inl ⟨hl, rfl, by rw [hlen]; exact Nat.le_refl _⟩⟩
      | some k, ⟨rl, ys, r1, r2, r3, r4⟩, ⟨p1, p2, p3, p4, p5, p6, p7⟩ =>
        subst r1
        refine ⟨_, rfl, sh, _, _, _, .ref rl, rfl, o1, T.cl_Shape, T.n_Shape_renewed, rfl, rfl, _, rfl, ?_⟩
        refine ifF (decide_eq_false fun z => nomatch z) ?_
        refine ⟨_, rfl, _, rfl, _, rfl, _, rfl, _, rfl, h, mem, rfl, dg, lb, uv, f, UR, Val, j, jdx, c, cdx, l, u, es, ms ++ [mem], lv, mem, b, ms.length, rfl, U, jw, by omega, by omega, by omega, o5.more, al, fun r d H1 ld k1 jw1 s1 => ?_⟩
        exact ⟨bv, r, d, rfl, ld, k1, jw1, (o4.more).kp U k1 m0, .inr s1⟩
    · rintro σ H1 ⟨bv', lv', d, rfl, ld, k1, jw1, s1, s2⟩
      have o1' := k1.at_ _ _ o1 nsh
      have hh' := k1.at_ _ _ hh fun z => nh (hcs _ z)
      have m1 := jw1.mu U
      have mu1 : Mu H1 cs := mu.kp k1 m1
      refine ⟨_, rfl, _, rfl, sh, _, _, _, .ref fr, rfl, o1', T.cl_Shape, T.n_Shape_front, rfl, _, rfl, _, rfl, _, rfl, sh, _, _, _, rv, rfl, o1', T.cl_Shape, T.n_Shape_renewed, rfl, fun x dd nx nd ndx => ⟨x, dd, .ref fr, bv', lv', rv, rfl, upd_same, fun H2 e2 k2 f2 => ⟨rfl, _, rfl, ?_⟩⟩⟩
      have fx := Fr.mk nx
      have fd := Fr.mk nd
      have s12 : Same H1 H2 := fun b o z => k2.at_ _ _ (by rw [upd_ne (ne_of_none z fx.h), upd_ne (ne_of_none z fd.h)]; exact z) (not_cons (ne_of_none z fx.h) not_nil)
      have kc := kp_same (cs := []) s12
      have hl1 : (addE1 e b ms.length r).length ≤ 1 := by
        match r with
        | none => exact extE_len
        | some k => exact extE_len
      have sa2 : ShAt T.C_Shape Val (ms ++ [mem]) cs x g e (addB b ms.length r) r H2 := ⟨⟨dd, fr, bv', lv', rv, xs, e2, s12 _ _ (k1.at_ _ _ o2 nfr), ((o3.more (ns := [mem])).kp U k1 m0).kp U kc mu_nil, s1.kp U kc mu_nil, by rw [hlen]; exact s2.kp U kc mu_nil, ?_, o7⟩, mu1.fr fx⟩
      · refine ⟨lb, uv, f, UR, Val, j, jdx, c, cdx, l, u ++ d, _, ms ++ [mem], cs, x, h, g, e, addB b ms.length r, r, rfl, U, jw1.same U s12, by rw [List.length_append, ld]; omega, by rw [List.length_append]; omega, by rw [hlen]; omega, hcs, mu1.same s12, (mm.kp U k1 m0).kp U kc mu_nil, sa2, by rw [hlen]; exact add_pre ok, s12 _ _ hh', nh, fun sh' d2 H3 ld2 k3 jw3 sa3 => ?_⟩
        rw [hlen] at ld2 jw3 sa3
        rw [List.append_assoc, List.append_assoc] at jw3
        refine q sh' (d ++ d2) H3 ?_ (kp_trans (kp_trans k1 (kp_same s12)) k3) jw3 sa3
        unfold addE
        rw [List.length_append, List.length_append, ld, ld2]
      · match r, o6 with
        | none, o6 => exact o6
        | some k, o6 => exact ((o6.more (ns := [mem])).kp U k1 m0 hcs).kp U kc mu_nil fun _ z => nomatch z
def spShRem (P : Program) (w : World) (K : PySem.W.Frag) (mg : Str → Option Value) (base : Heap) (Cj : Addr × Addr) (Cc Cs : Addr) (n : Nat) : Sp := fun vs H Q _ => ∃ (lb : Bool) (uv : List Addr) (f : V) (UR : List JEv → Hp → Prop) (Val : Nat → List V → V → Hp → Prop) (j jdx c cdx l : Addr) (u : List JEv) (es : List (Nat × Nat × Nat)) (ms : List V) (cs : List Addr) (sh h : Addr) (g e b : Nat) (r : Option Nat),
  vs = [.ref j, .ref sh, .ref h] ∧ JS P w K mg base n lb uv f UR Val ∧ JW Cj Cc lb uv f UR j jdx c cdx l u es H ∧ u.length < 80000 ∧ es.length < 80000 ∧ ms.length < 70000 ∧ (∀ a ∈ [c, l] ++ uv, a ∈ cs) ∧ Mu H cs ∧ Mems Val ms H ∧ ShAt Cs Val ms cs sh g e b r H ∧ ShOk g e b ms.length r ∧ g < ms.length ∧ H h = some (.dK (heldK (g + 1) (ms.drop (g + 1)))) ∧ h ∉ cs ∧
  ∀ sh' d H', d.length = (workE (g + 1) e b ms.length r).length → Kp ([c, l] ++ uv) H H' → JW Cj Cc lb uv f UR j jdx c cdx l (u ++ d) (es ++ workE (g + 1) e b ms.length r) H' → ShAt Cs Val ms cs sh' (g + 1) (workR (g + 1) e b ms.length r).1 (workR (g + 1) e b ms.length r).2.1 (workR (g + 1) e b ms.length r).2.2 H' → Q (.ref sh') H'
theorem ok_shrem (T : Txt K mg) : FnOk P w K mg base CX0 (n + 10) T.f_shape_after_removal T.d_shape_after_removal ["joiner", "shape", "held"] (spShRem P w K mg base (CJ T) T.C_Calls T.C_Shape n) := by
  have G_worked_shape := ok_work (P := P) (w := w) (base := base) (n := n) T
  have G_Shape_init := ok_shi (P := P) (w := w) (base := base) T
  refine T.F_shape_after_removal.ok sc_shape_after_removal (fun vs H Q E h => ?_) (fun cdv A outer s H vs Q E hr h => ?_)
  · obtain ⟨lb, uv, f, UR, Val, j, jdx, c, cdx, l, u, es, ms, cs, sh, h, g, e, b, r, rfl, _⟩ := h
    rfl
  · obtain ⟨lb, uv, f, UR, Val, j, jdx, c, cdx, l, u, es, ms, cs, sh, h, g, e, b, r, rfl, U, jw, lu, le, lm, hcs, mu, mm, sa, ok, gl, hh, nh, q⟩ := h
    refine ⟨_, (pss_one (ps_ret (pe_call G_worked_shape (hr.mono (by omega)) rfl T.g_worked_shape T.F_worked_shape.kp T.b_worked_shape .nil pass0 (pa_cons (pv 0) (pa_cons (pe_make ⟨T.mk_Shape, T.m_Shape_init, T.t_Shape_init, T.kp_Shape⟩ G_Shape_init (hr.mono (by omega)) rfl T.gc_Shape T.b_Shape_init .nil pass0 (pa_cons (pe_slice sl_list (pe_fld (pv 1) rfl) po_none (po_some (pe_un un_neg pe_int))) (pa_cons (pe_fld (pv 1) rfl) (pa_cons (pe_fld (pv 1) rfl) (pa_cons (pe_fld (pv 1) rfl) pa_nil))))) (pa_cons (pv 2) pa_nil)))))), ?_⟩
    obtain ⟨⟨dx, fr, bv, lv, rv, xs, o1, o2, o3, o4, o5, o6, o7⟩, o8⟩ := id sa
    obtain ⟨p1, p2⟩ := rem_pre ok gl
    refine ⟨_, rfl, _, rfl, sh, _, _, _, .ref fr, rfl, o1, T.cl_Shape, T.n_Shape_front, rfl, 1, rfl, -1, rfl, fr, xs, rfl, sqlOf o2, fun fr2 nfr2 => ?_⟩
    have ff := Fr.mk nfr2
    rw [cut_but]
    have s1 : Same H (upd H fr2 (.lst (xs.take (xs.length - 1)))) := same_newF ff
    have e1 : upd H fr2 (.lst (xs.take (xs.length - 1))) fr2 = some (.lst (xs.take (xs.length - 1))) := upd_same
    generalize upd H fr2 (.lst (xs.take (xs.length - 1))) = H1 at s1 e1 ⊢
    have o1' := s1 _ _ o1
    refine ⟨_, rfl, sh, _, _, _, bv, rfl, o1', T.cl_Shape, T.n_Shape_back, rfl, _, rfl, sh, _, _, _, lv, rfl, o1', T.cl_Shape, T.n_Shape_late, rfl, _, rfl, sh, _, _, _, rv, rfl, o1', T.cl_Shape, T.n_Shape_renewed, rfl, fun x dd nx nd ndx => ⟨x, dd, .ref fr2, bv, lv, rv, rfl, upd_same, fun H2 e2 k2 f2 => ⟨rfl, _, rfl, ?_⟩⟩⟩
    have fx := Fr.mk nx
    have fd := Fr.mk nd
    have s12 : Same H1 H2 := fun b o z => k2.at_ _ _ (by rw [upd_ne (ne_of_none z fx.h), upd_ne (ne_of_none z fd.h)]; exact z) (not_cons (ne_of_none z fx.h) not_nil)
    have s02 := s1.trans s12
    have kc := kp_same (cs := []) s02
    have hx := o3
    rw [show e - g = (e - (g + 1)) + 1 by omega] at hx
    have sa2 : ShAt T.C_Shape Val ms cs x (g + 1) e b r H2 := ⟨⟨dd, fr2, bv, lv, rv, _, e2, s12 _ _ e1, hx.cut.kp U kc mu_nil, o4.kp U kc mu_nil, o5.kp U kc mu_nil, o6.kp U kc mu_nil (fun _ z => nomatch z), mu.fr ff⟩, mu.fr (Fr.mk (s1.free nx))⟩
    exact ⟨lb, uv, f, UR, Val, j, jdx, c, cdx, l, u, es, ms, cs, x, h, g + 1, e, b, r, rfl, U, jw.same U s02, by omega, by omega, by omega, hcs, mu.same s02, mm.kp U kc mu_nil, sa2, p2, s02 _ _ hh, nh, fun sh' d2 H3 ld2 k3 jw3 sa3 => q sh' d2 H3 ld2 (kp_trans (kp_same s02) k3) jw3 sa3⟩
/-- how many spans a queue has, and where they begin -/
def sumN (g e b n : Nat) : Nat := (if g < e then 1 else 0) + (if e < b then 1 else 0) + (if b < n then 1 else 0)
def sumB (g e b n : Nat) : Nat → Nat
  | 0 => g
  | 1 => e
  | 2 => b
  | _ => n
def spShSpans (P : Program) (w : World) (K : PySem.W.Frag) (mg : Str → Option Value) (base : Heap) (Cs : Addr) (n : Nat) : Sp := fun vs H Q _ => ∃ (lb : Bool) (uv : List Addr) (f : V) (UR : List JEv → Hp → Prop) (Val : Nat → List V → V → Hp → Prop) (ms : List V) (cs : List Addr) (sh : Addr) (g e b : Nat) (r : Option Nat),
  vs = [.ref sh] ∧ JS P w K mg base n lb uv f UR Val ∧ ms.length < 70000 ∧ ShAt Cs Val ms cs sh g e b r H ∧ ShOk g e b ms.length r ∧
  ∀ p xs H', Same H H' → Fr H p → H' p = some (.lst xs) → xs.length = sumN g e b ms.length → (∀ q s, xs[q]? = some s → SpanAt Val ms s (sumB g e b ms.length q) (sumB g e b ms.length (q + 1)) H') → Q (.ref p) H'
theorem ok_shspans (T : Txt K mg) : FnOk P w K mg base CX0 3 T.f_shape_spans T.d_shape_spans ["shape"] (spShSpans P w K mg base T.C_Shape n) := by
  have G_filled_spans := ok_fillS (P := P) (w := w) (base := base) T
  refine T.F_shape_spans.ok sc_shape_spans (fun vs H Q E h => ?_) (fun cdv A outer s H vs Q E hr h => ?_)
  · obtain ⟨lb, uv, f, UR, Val, ms, cs, sh, g, e, b, r, rfl, _⟩ := h
    rfl
  · obtain ⟨lb, uv, f, UR, Val, ms, cs, sh, g, e, b, r, rfl, U, lm, sa, ok, q⟩ := h
    refine ⟨_, (pss_one (ps_ret (pe_call G_filled_spans (hr.mono (by omega)) rfl T.g_filled_spans T.F_filled_spans.kp T.b_filled_spans .nil pass0 (pa_cons (pe_fld (pv 0) rfl) (pa_cons (pe_lst (pa_cons (pe_fld (pv 0) rfl) (pa_cons (pe_fld (pv 0) rfl) pa_nil))) pa_nil))))), ?_⟩
    obtain ⟨⟨dx, fr, bv, lv, rv, xs, o1, o2, o3, o4, o5, o6, o7⟩, o8⟩ := id sa
    obtain ⟨q1, q2, q3⟩ := ok.le
    have lx := o3.len
    refine ⟨_, rfl, sh, _, _, _, .ref fr, rfl, o1, T.cl_Shape, T.n_Shape_front, rfl, _, rfl, sh, _, _, _, bv, rfl, o1, T.cl_Shape, T.n_Shape_back, rfl, _, rfl, sh, _, _, _, lv, rfl, o1, T.cl_Shape, T.n_Shape_late, rfl, le2, fun bl nbl => ?_⟩
    have fbl := Fr.mk nbl
    have s1 : Same H (upd H bl (.lst [bv, lv])) := same_newF fbl
    refine ⟨fr, bl, xs, [bv, lv], rfl, s1 _ _ o2, upd_same, by omega, (by show 2 < 90; decide), ?_, fun p H2 s2 fp e2 => ?_⟩
    · refine all_cons ?_ (all_cons ?_ fun _ z => nomatch z)
      · exact o4.imp (fun z => z.1) fun z => ⟨z.2.2.choose, z.2.2.choose_spec.choose_spec.1⟩
      · exact o5.imp (fun z => z.1) fun z => ⟨z.2.2.choose, z.2.2.choose_spec.choose_spec.1⟩
    · have s02 := s1.trans s2
      have kc := kp_same (cs := []) s02
      have sp : ∀ {s : V} {i j : Nat} {H : Hp}, SpanAt Val ms s i j H → decide (s = V.non) = false := fun {s i j H} h => by
        obtain ⟨_, _, p, v, z, _⟩ := h
        rw [z]
        exact decide_eq_false fun z => nomatch z
      have hbn : e = b → b = ms.length := fun z => by
        match r, ok with
        | none, ⟨_, _, h, _⟩ => exact h
        | some k, ⟨_, h, _⟩ => omega
      have hge : g = e → e = b := fun z => by
        match r, ok with
        | none, ⟨_, _, h, _⟩ => omega
        | some k, ⟨h, _⟩ => omega
      have hb : (e < b ∧ decide (bv = V.non) = false ∧ SpanAt Val ms bv e b H2) ∨ (e = b ∧ bv = .non) := o4.elim (fun z => .inr ⟨z.2.1, z.1⟩) fun z => .inl ⟨z.1, sp z, z.kp U kc mu_nil⟩
      have hl : (b < ms.length ∧ decide (lv = V.non) = false ∧ SpanAt Val ms lv b ms.length H2) ∨ (b = ms.length ∧ lv = .non) := o5.elim (fun z => .inr ⟨z.2.1, z.1⟩) fun z => .inl ⟨z.1, sp z, z.kp U kc mu_nil⟩
      have key : ∃ L, xs.drop (xs.length - 1) ++ [bv, lv].filter (fun y => !decide (y = V.non)) = L ∧ L.length = sumN g e b ms.length ∧ ∀ q s, L[q]? = some s → SpanAt Val ms s (sumB g e b ms.length q) (sumB g e b ms.length (q + 1)) H2 := by
        unfold sumN
        by_cases c0 : g < e
        · have hx : ∃ s0, xs[e - g - 1]? = some s0 := ⟨_, List.getElem?_eq_getElem (by omega)⟩
          obtain ⟨s0, hx⟩ := hx
          have hs0 := (o3.at_ _ _ hx).kp U kc mu_nil
          rw [show e - 1 - (e - g - 1) = g by omega] at hs0
          have ed : xs.drop (xs.length - 1) = [s0] := by
            rw [show xs.length - 1 = e - g - 1 by omega, List.drop_eq_getElem_cons (by omega), List.drop_eq_nil_of_le (by omega)]
            rw [List.getElem?_eq_getElem (by omega)] at hx
            rw [Option.some.inj hx]
          rw [ed, if_pos c0]
          rcases hb with ⟨c1, d1, h1⟩ | ⟨c1, d1⟩
          · rw [if_pos c1]
            rcases hl with ⟨c2, d2, h2⟩ | ⟨c2, d2⟩
            · rw [if_pos c2]
              refine ⟨[s0, bv, lv], ?_, rfl, fun q s z => ?_⟩
              · rw [List.filter_cons, d1, List.filter_cons, d2]
                rfl
              · match q, z with
                | 0, z => cases z; exact hs0
                | 1, z => cases z; exact h1
                | 2, z => cases z; exact h2
                | q + 3, z => cases q <;> cases z
            · rw [if_neg (by omega)]
              refine ⟨[s0, bv], ?_, rfl, fun q s z => ?_⟩
              · rw [List.filter_cons, d1, d2]
                rfl
              · match q, z with
                | 0, z => cases z; exact hs0
                | 1, z => cases z; exact h1
                | q + 2, z => cases q <;> cases z
          · have c3 := hbn c1
            rw [if_neg (by omega), if_neg (by omega)]
            rcases hl with ⟨c2, _⟩ | ⟨c2, d2⟩
            · omega
            refine ⟨[s0], ?_, rfl, fun q s z => ?_⟩
            · rw [d1, d2]
              rfl
            · match q, z with
              | 0, z => cases z; exact hs0
              | q + 1, z => cases q <;> cases z
        · have c1 := hge (by omega)
          have c3 := hbn c1
          rw [if_neg c0, if_neg (by omega), if_neg (by omega)]
          rcases hb with ⟨z, _⟩ | ⟨_, d1⟩
          · omega
          rcases hl with ⟨z, _⟩ | ⟨_, d2⟩
          · omega
          refine ⟨[], ?_, rfl, fun q s z => by cases q <;> cases z⟩
          rw [d1, d2, List.drop_eq_nil_of_le (by omega)]
          rfl
      obtain ⟨L, eL, lL, aL⟩ := key
      rw [eL] at e2
      exact q p L H2 s02 (Fr.mk (s1.free fp.h)) e2 lL aL
end
end Ob

set_option Elab.async false
set_option linter.all false
set_option maxRecDepth 100000
set_option maxHeartbeats 1000000
namespace Ob
open PySem PySem.Spec PyProof.Rows L2
open LamX (Tabs TabB TabS ExtN)

set_option hygiene false in
local macro_rules
  | `(tactic| kp_flats) => `(tactic| first
    | assumption
    | exact upd_same
    | (apply atNew; assumption; kp_flats)
    | (apply atNe; (next => kbo_bools); kp_flats)
    | (apply atSame; assumption; kp_flats)
    | (apply atKp; assumption; (next => kaf_pre); kp_flats))
set_option hygiene false in
local macro_rules
  | `(tactic| kaf_pre) => `(tactic| first
    | assumption
    | exact not_nil
    | (apply not_cons; (next => kbo_bools); kaf_pre)
    | (apply not_app; (next => kaf_pre); kaf_pre))
set_option hygiene false in
local macro_rules
  | `(tactic| kbo_bools) => `(tactic| first
    | assumption
    | (apply Ne.symm; assumption)
    | (apply neN; assumption; kp_flats)
    | (apply neN'; assumption; kp_flats))
set_option hygiene false in
local macro_rules
  | `(tactic| o_reads) => `(tactic| first
    | with_reducible rfl
    | assumption
    | rfl
    | kp_flats
    | (show SqL _ _ _ _; first | assumption | (apply sqlOf; kp_flats) | (apply sqlSame; assumption; o_reads))
    | (show SqT _ _ _ _; first | assumption | (apply sqtOf; kp_flats) | (apply sqtAll; assumption) | (apply sqtSame; assumption; o_reads))
    | (show Cls _ _; first | exact T.cl_Calls | exact T.cl_Joiner | exact T.cl_Planner | exact T.cl_EvenSums | exact T.cl_Shape | exact T.cl_TwoStacks)
    | (show NoAttr _ _ _; first | exact T.n_Calls_entries | exact T.n_Calls_running | exact T.n_Joiner_calls | exact T.n_Joiner_join_call | exact T.n_Planner_entries | exact T.n_EvenSums_calls | exact T.n_EvenSums_joiner | exact T.n_EvenSums_zero | exact T.n_EvenSums_given | exact T.n_EvenSums_held | exact T.n_EvenSums_shape | exact T.n_Shape_front | exact T.n_Shape_back | exact T.n_Shape_late | exact T.n_Shape_renewed | exact T.n_TwoStacks_calls | exact T.n_TwoStacks_joiner | exact T.n_TwoStacks_zero | exact T.n_TwoStacks_given | exact T.n_TwoStacks_held | exact T.n_TwoStacks_front | exact T.n_TwoStacks_back)
    | (apply Or.inl; o_reads)
    | (apply Or.inr; o_reads)
    | (apply And.intro; (next => o_reads); o_reads)
    | (apply Exists.intro; o_reads)
    | exact Nat.le_of_ble_eq_true rfl
    | exact Nat.succ_ne_zero _
    | (show Fr _ _; kba_ints)
    | (show Same _ _; kd_subs)
    | (show Kp _ _ _; kxs_still)
    | (show (_ : Nat) ≤ _; simp only [List.length_append, List.length_map, List.length_cons, List.length_nil, List.length_take, List.length_drop, List.length_replicate, List.length_range, sizeLine_eq]; omega)
    | (show _ = none; apply Fr.h; kba_ints)
    | (show Bag _ _; first | assumption | (apply bag_putF; assumption; o_reads) | (apply bag_neF; (next => kbo_bools); o_reads) | (apply bag_kpR; assumption; (next => kaf_pre); o_reads))
    | omega
    | decide)
local macro_rules
  | `(tactic| o_readsAll) => `(tactic| repeat (first
    | (refine fun (pNew : Addr) (nNew : _ = none) => ?_; replace nNew := Fr.mk nNew)
    | (refine fun (xNew dNew : Addr) (nNew : _ = none) (mNew : _ = none) (eNew : dNew ≠ xNew) => ?_; replace nNew := Fr.mk nNew; replace mNew := Fr.mk mNew)
    | (apply And.intro; next => o_reads)
    | apply Exists.intro (α := V)
    | apply Exists.intro (α := Addr)
    | apply Exists.intro (α := Int)
    | apply Exists.intro (α := Bool)
    | apply Exists.intro (α := List V)
    | apply Exists.intro (α := List Nat)
    | apply Exists.intro (α := List (Str × V))
    | apply Exists.intro (α := List _)
    | apply Exists.intro (α := Str)
    | apply Exists.intro (α := HO)
    | apply Exists.intro (α := Sp)
    | apply Exists.intro (α := VK)))
set_option hygiene false in
local macro_rules
  | `(tactic| kba_ints) => `(tactic| first
    | assumption
    | (apply frUp; (first | assumption | (apply Ne.symm; assumption)); kba_ints)
    | (apply noneOf; assumption; intro oF eF; apply Exists.intro; kp_flats)
    | (apply frUp; (next => kbo_bools); kba_ints))
set_option hygiene false in
local macro_rules
  | `(tactic| kxs_still) => `(tactic| first
    | assumption
    | exact kp_refl _ _
    | (apply kp_newF; assumption; kxs_still)
    | (apply kp_new; assumption; kxs_still)
    | (apply kp_up; (next => o_fieldsN); kxs_still)
    | (apply kp_new; (next => kba_ints); kxs_still)
    | (apply kp_sameR; assumption; kxs_still)
    | (apply kp_transR; assumption; kxs_still)
    | (apply kp_freshR; assumption; (next => kaf_suf); kxs_still))
set_option hygiene false in
local macro_rules
  | `(tactic| kaf_suf) => `(tactic| first
    | assumption
    | exact subNil
    | (apply subCons; (first | (apply Or.inl; o_fieldsN) | (apply Or.inr; kba_ints)); kaf_suf)
    | (apply subApp; (next => kaf_suf); kaf_suf))
set_option hygiene false in
local macro_rules
  | `(tactic| o_fieldsN) => `(tactic| first
    | assumption
    | exact memA
    | (apply memB; o_fieldsN)
    | (apply memL; o_fieldsN)
    | (apply memR; o_fieldsN))
set_option hygiene false in
local macro_rules
  | `(tactic| kd_subs) => `(tactic| first
    | assumption
    | exact Same.refl _
    | (apply same_putF; assumption; kd_subs)
    | (apply same_putG; assumption; kd_subs)
    | (apply same_putF; (next => kba_ints); kd_subs)
    | (apply same_transR; assumption; kd_subs))

set_option pp.maxSteps 900
/-! ### a queue -/
def EO (C dx c j : Addr) (z : V) (gi : Int) (h sh : Addr) : HO := .ins C dx [("calls", .ref c), ("joiner", .ref j), ("zero", z), ("given", .int gi), ("held", .ref h), ("shape", .ref sh)]
section
variable {P : Program} {w : World} {K : PySem.W.Frag} {mg : Str → Option Value} {base : Heap} {n : Nat}
structure EvAt (Ce Cs : Addr) (Cj : Addr × Addr) (Cc : Addr) (uv : List Addr) (f : V) (UR : List JEv → Hp → Prop) (Val : Nat → List V → V → Hp → Prop) (cs : List Addr) (x j jdx c cdx l : Addr) (z : V) (ms : List V) (u : List JEv) (es : List (Nat × Nat × Nat)) (g e b : Nat) (r : Option Nat) (H : Hp) : Prop where
  hx : ∃ dx h sh : Addr, H x = some (EO Ce dx c j z ms.length h sh) ∧ H h = some (.dK (heldK g (ms.drop g))) ∧ h ∉ cs ∧ ShAt Cs Val ms cs sh g e b r H
  jw : JW Cj Cc true uv f UR j jdx c cdx l u es H
  ok : ShOk g e b ms.length r
  mm : Mems Val ms H
  mu : Mu H cs
  sub : ∀ a ∈ [x, c, l] ++ uv, a ∈ cs
  nj : j ∉ cs
  nx : x ∉ [c, l] ++ uv
variable {uv : List Addr} {f z : V} {UR : List JEv → Hp → Prop} {Val : Nat → List V → V → Hp → Prop} {Ce : Addr} {Cj : Addr × Addr} {Cc Cs x j jdx c cdx l sh : Addr} {u : List JEv} {es : List (Nat × Nat × Nat)} {H H1 : Hp} {ms ns : List V} {cs ds : List Addr} {g e b : Nat} {r : Option Nat}
theorem EvAt.kp (U : JS P w K mg base n true uv f UR Val) (h : EvAt Ce Cs Cj Cc uv f UR Val cs x j jdx c cdx l z ms u es g e b r H) (k : Kp ds H H1) (m : Mu H ds) (m1 : Mu H1 ds) (s : ∀ a ∈ ds, a ∈ cs) (d : ∀ a ∈ [x, c, l] ++ uv, a ∉ ds) : EvAt Ce Cs Cj Cc uv f UR Val cs x j jdx c cdx l z ms u es g e b r H1 := by
  obtain ⟨dx, hh, sh, h1, h2, h3, h4⟩ := h.hx
  exact ⟨⟨dx, hh, sh, k.at_ _ _ h1 (d x (memL memA)), k.at_ _ _ h2 fun z => h3 (s _ z), h3, h4.kp U k m s⟩, h.jw.kp U k m (fun z => h.nj (s _ z)) (d c (memL (memB memA))) (d l (memL (memB (memB memA)))) fun a ma => d a (memR ma), h.ok, h.mm.kp U k m, h.mu.kp k m1, h.sub, h.nj, h.nx⟩
theorem EvAt.same (U : JS P w K mg base n true uv f UR Val) (h : EvAt Ce Cs Cj Cc uv f UR Val cs x j jdx c cdx l z ms u es g e b r H) (s : Same H H1) : EvAt Ce Cs Cj Cc uv f UR Val cs x j jdx c cdx l z ms u es g e b r H1 := h.kp U (ds := []) (kp_same s) mu_nil mu_nil (fun _ z => nomatch z) fun _ _ => not_nil
theorem eo_co {C dx c C' dx' l j h sh : Addr} {z : V} {gi : Int} {rr : Bool} : EO C dx c j z gi h sh ≠ CO C' dx' l rr := fun z => by
  unfold EO CO at z
  injection z with _ _ z
  injection z with z _
  injection z with z _
  revert z
  decide
def spEvAdd (P : Program) (w : World) (K : PySem.W.Frag) (mg : Str → Option Value) (base : Heap) (Ce Cs : Addr) (Cj : Addr × Addr) (Cc : Addr) (n : Nat) : Sp := fun vs H Q _ => ∃ (uv : List Addr) (f : V) (UR : List JEv → Hp → Prop) (Val : Nat → List V → V → Hp → Prop) (cs : List Addr) (x j jdx c cdx l : Addr) (z : V) (ms : List V) (u : List JEv) (es : List (Nat × Nat × Nat)) (g e b : Nat) (r : Option Nat) (m : V),
  vs = [.ref x, m] ∧ JS P w K mg base n true uv f UR Val ∧ EvAt Ce Cs Cj Cc uv f UR Val cs x j jdx c cdx l z ms u es g e b r H ∧ u.length < 80000 ∧ es.length < 80000 ∧ ms.length < 70000 ∧ Val ms.length [m] m H ∧
  ∀ d H', d.length = (addE g e b ms.length r).length → Kp ([x, c, l] ++ uv) H H' → EvAt Ce Cs Cj Cc uv f UR Val cs x j jdx c cdx l z (ms ++ [m]) (u ++ d) (es ++ addE g e b ms.length r) g (addR g e b ms.length r).1 (addR g e b ms.length r).2.1 (addR g e b ms.length r).2.2 H' → Q (.int ms.length) H'
theorem ok_evadd (T : Txt K mg) : FnOk P w K mg base CX0 (n + 12) T.f_EvenSums_add T.d_EvenSums_add ["self", "member"] (spEvAdd P w K mg base T.C_EvenSums T.C_Shape (CJ T) T.C_Calls n) := by
  have G_Calls_check := ok_chk (P := P) (w := w) (base := base) T
  have G_shape_after_addition := ok_shadd (P := P) (w := w) (base := base) (n := n) T
  refine T.F_EvenSums_add.ok sc_EvenSums_add (fun vs H Q E h => ?_) (fun cdv A outer s H vs Q E hr h => ?_)
  · obtain ⟨uv, f, UR, Val, cs, x, j, jdx, c, cdx, l, z, ms, u, es, g, e, b, r, m, rfl, _⟩ := h
    rfl
  · obtain ⟨uv, f, UR, Val, cs, x, j, jdx, c, cdx, l, z, ms, u, es, g, e, b, r, m, rfl, U, ev, lu, le, lm, hm, q⟩ := h
    refine ⟨_, (pss_cons (ps_expr (pe_meth0 (pe_fld (pv 0) rfl) T.cl_Calls ⟨T.m_Calls_check, T.t_Calls_check, T.k_Calls_check⟩ G_Calls_check (hr.mono (by omega)) T.b_Calls_check .nil pass0))
      (pss_cons (ps_set (i := 2) sc_EvenSums_add.nd rfl (.inl rfl) (pe_fld (pv 0) rfl))
      (pss_cons (ps_set (i := 3) sc_EvenSums_add.nd rfl (.inl rfl) (Inf.pe_dstar (pe_fld (pv 0) rfl) (pv 2) (pv 1)))
      (pss_cons (ps_fld (pv 0) (pe_call G_shape_after_addition (hr.mono (by omega)) rfl T.g_shape_after_addition T.F_shape_after_addition.kp T.b_shape_after_addition .nil pass0 (pa_cons (pe_fld (pv 0) rfl) (pa_cons (pe_fld (pv 0) rfl) (pa_cons (pv 3) (pa_cons (pv 2) pa_nil))))) rfl)
      (pss_cons (ps_fld (pv 0) (pv 3) rfl)
      (pss_cons (ps_fld (pv 0) (pe_op op_add (pv 2) pe_int) rfl)
      (pss_one (ps_ret (pv 2))))))))), ?_⟩
    obtain ⟨dx, h, sh, h1, h2, h3, h4⟩ := ev.hx
    obtain ⟨q1, q2, q3⟩ := ev.ok.le
    refine ⟨_, rfl, x, _, _, _, .ref c, rfl, h1, T.cl_EvenSums, T.n_EvenSums_calls, rfl, c, cdx, _, rfl, ev.jw.hc, rfl, c, cdx, l, rfl, ev.jw.hc, ?_⟩
    refine ⟨_, rfl, x, _, _, _, .int ms.length, rfl, h1, T.cl_EvenSums, T.n_EvenSums_given, rfl, ?_⟩
    intro p np
    have fp := Fr.mk np
    have npx : x ≠ p := ne_of_none h1 np
    have nph : h ≠ p := ne_of_none h2 np
    refine ⟨_, rfl, x, _, _, _, .ref h, rfl, atNe npx h1, T.cl_EvenSums, T.n_EvenSums_held, rfl, h, _, rfl, nph, upd_same, .inl (atNe nph h2), by rw [heldK_len, List.length_drop, sizeLine_eq]; omega, fun b2 nb2 => ⟨_, rfl, _, rfl, .inl (ms.length : Int), m, rfl, ?_⟩⟩
    have npb : p ≠ b2 := ne_of_none (H := upd (upd H p (.dK [])) p (.dK (heldK g (ms.drop g)))) upd_same nb2
    refine ⟨npb, atNe npb upd_same, upd_same, ?_⟩
    have hlen : (ms ++ [m]).length = ms.length + 1 := by
      rw [List.length_append]
      rfl
    have s1 : Same H (upd (upd (upd (upd (upd H p (.dK [])) p (.dK (heldK g (ms.drop g)))) b2 (.dK [])) b2 (.dK [(Sum.inl (ms.length : Int), m)])) p (.dK (putK (heldK g (ms.drop g)) (Sum.inl (ms.length : Int)) m))) := fun b o e => by
      have n1 := ne_of_none e np
      have e2 : upd (upd H p (.dK [])) p (.dK (heldK g (ms.drop g))) b = some o := by
        rw [upd_ne n1, upd_ne n1]
        exact e
      have n2 := ne_of_none e2 nb2
      rw [upd_ne n1, upd_ne n2, upd_ne n2]
      exact e2
    have e1 : upd (upd (upd (upd (upd H p (.dK [])) p (.dK (heldK g (ms.drop g)))) b2 (.dK [])) b2 (.dK [(Sum.inl (ms.length : Int), m)])) p (.dK (putK (heldK g (ms.drop g)) (Sum.inl (ms.length : Int)) m)) p = some (.dK (heldK g ((ms ++ [m]).drop g))) := by
      have := heldK_put (ps := ms.drop g) (g := g) (v := m)
      rw [List.length_drop, show g + (ms.length - g) = ms.length by omega] at this
      rw [upd_same, this, List.drop_append_of_le_length (by omega)]
    generalize upd (upd (upd (upd (upd H p (.dK [])) p (.dK (heldK g (ms.drop g)))) b2 (.dK [])) b2 (.dK [(Sum.inl (ms.length : Int), m)])) p (.dK (putK (heldK g (ms.drop g)) (Sum.inl (ms.length : Int)) m)) = H2 at s1 e1 ⊢
    have kc := kp_same (cs := []) s1
    have h1' := s1 _ _ h1
    have mm2 : Mems Val (ms ++ [m]) H2 := fun i y hy => by
      rcases Nat.lt_or_ge i ms.length with c0 | c0
      · rw [List.getElem?_append_left c0] at hy
        exact U.val (ev.mm i y hy) kc mu_nil
      · rw [List.getElem?_append_right c0] at hy
        match hki : i - ms.length, hy with
        | 0, hy =>
          cases hy
          rw [show i = ms.length by omega]
          exact U.val hm kc mu_nil
        | k + 1, hy => cases hy
    have np2 : p ∉ cs := ev.mu.fr fp
    have sub2 : ∀ a ∈ [c, l] ++ uv, a ∈ cs := fun a m => ev.sub a (memB m)
    refine ⟨_, rfl, x, _, _, _, .ref j, rfl, h1', T.cl_EvenSums, T.n_EvenSums_joiner, rfl, _, rfl, x, _, _, _, .ref sh, rfl, h1', T.cl_EvenSums, T.n_EvenSums_shape, rfl, _, rfl, _, rfl, true, uv, f, UR, Val, j, jdx, c, cdx, l, u, es, ms, m, cs, sh, p, g, e, b, r, rfl, U, ev.jw.same U s1, lu, le, lm, sub2, ev.mu.same s1, mm2, h4.kp U kc mu_nil (fun _ z => nomatch z), ev.ok, e1, np2, fun sh' d H3 ld k3 jw3 sa3 => ?_⟩
    have h1'' := k3.at_ _ _ h1' ev.nx
    refine ⟨_, rfl, x, _, dx, _, rfl, h1'', T.cl_EvenSums, T.n_EvenSums_shape, (by show 6 < 1000; decide), ?_⟩
    refine ⟨_, rfl, _, rfl, x, _, dx, _, rfl, upd_same, T.cl_EvenSums, T.n_EvenSums_held, (by show 6 < 1000; decide), ?_⟩
    refine ⟨_, rfl, _, _, rfl, rfl, _, rfl, x, _, dx, _, rfl, upd_same, T.cl_EvenSums, T.n_EvenSums_given, (by show 6 < 1000; decide), ?_⟩
    refine ⟨_, rfl, ?_⟩
    have k4 : ∀ o1 o2 o3 : HO, Kp [x] H3 (upd (upd (upd H3 x o1) x o2) x o3) := fun o1 o2 o3 => kp_up memA (kp_up memA (kp_up memA (kp_refl _ _)))
    have m3 : Mu H3 [x] := mu_ins h1'' mu_nil
    have kk : Kp ([x, c, l] ++ uv) H H3 := kp_trans (kp_same s1) (kp_more k3 fun a m => memB m)
    have mu3 : Mu H3 cs := (ev.mu.same s1).kp k3 (jw3.mu U)
    have nxj : j ∉ [x] := not_cons (fun z => ev.nj (by rw [z]; exact ev.sub x memA)) not_nil
    have nxc : c ∉ [x] := not_cons (fun z => ev.nx (by rw [← z]; exact memA)) not_nil
    have nxl : l ∉ [x] := not_cons (fun z => ev.nx (by rw [← z]; exact memB memA)) not_nil
    have nxu : ∀ a ∈ uv, a ∉ [x] := fun a m => not_cons (fun z => ev.nx (by rw [← z]; exact memR m)) not_nil
    have nxp : p ∉ [x] := not_cons (Ne.symm npx) not_nil
    have ep3 := k3.at_ _ _ e1 fun z => np2 (sub2 _ z)
    have sx : ∀ a ∈ [x], a ∈ cs := subCons (ev.sub x memA) subNil
    refine q d _ ld (kp_trans kk (kp_more (k4 _ _ _) (subCons memA subNil))) ⟨⟨dx, p, sh', ?_, (k4 _ _ _).at_ _ _ ep3 nxp, np2, sa3.kp U (k4 _ _ _) m3 sx⟩, jw3.kp U (k4 _ _ _) m3 nxj nxc nxl nxu, ?_, ?_, ?_, ev.sub, ev.nj, ev.nx⟩
    · rw [hlen]
      exact upd_same
    · rw [hlen]
      exact workR_ok (add_pre ev.ok)
    · exact (mm2.kp U k3 ((ev.jw.same U s1).mu U)).kp U (k4 _ _ _) m3
    · exact mu3.kp (k4 _ _ _) (mu_ins upd_same mu_nil)
end
end Ob

set_option Elab.async false
set_option linter.all false
set_option maxRecDepth 100000
set_option maxHeartbeats 1000000
namespace Ob
open PySem PySem.Spec PyProof.Rows L2
open LamX (Tabs TabB TabS ExtN)

set_option hygiene false in
local macro_rules
  | `(tactic| kp_flats) => `(tactic| first
    | assumption
    | exact upd_same
    | (apply atNew; assumption; kp_flats)
    | (apply atNe; (next => kbo_bools); kp_flats)
    | (apply atSame; assumption; kp_flats)
    | (apply atKp; assumption; (next => kaf_pre); kp_flats))
set_option hygiene false in
local macro_rules
  | `(tactic| kaf_pre) => `(tactic| first
    | assumption
    | exact not_nil
    | (apply not_cons; (next => kbo_bools); kaf_pre)
    | (apply not_app; (next => kaf_pre); kaf_pre))
set_option hygiene false in
local macro_rules
  | `(tactic| kbo_bools) => `(tactic| first
    | assumption
    | (apply Ne.symm; assumption)
    | (apply neN; assumption; kp_flats)
    | (apply neN'; assumption; kp_flats))
set_option hygiene false in
local macro_rules
  | `(tactic| o_reads) => `(tactic| first
    | with_reducible rfl
    | assumption
    | rfl
    | kp_flats
    | (show SqL _ _ _ _; first | assumption | (apply sqlOf; kp_flats) | (apply sqlSame; assumption; o_reads))
    | (show SqT _ _ _ _; first | assumption | (apply sqtOf; kp_flats) | (apply sqtAll; assumption) | (apply sqtSame; assumption; o_reads))
    | (show Cls _ _; first | exact T.cl_Calls | exact T.cl_Joiner | exact T.cl_Planner | exact T.cl_EvenSums | exact T.cl_Shape | exact T.cl_TwoStacks)
    | (show NoAttr _ _ _; first | exact T.n_Calls_entries | exact T.n_Calls_running | exact T.n_Joiner_calls | exact T.n_Joiner_join_call | exact T.n_Planner_entries | exact T.n_EvenSums_calls | exact T.n_EvenSums_joiner | exact T.n_EvenSums_zero | exact T.n_EvenSums_given | exact T.n_EvenSums_held | exact T.n_EvenSums_shape | exact T.n_Shape_front | exact T.n_Shape_back | exact T.n_Shape_late | exact T.n_Shape_renewed | exact T.n_TwoStacks_calls | exact T.n_TwoStacks_joiner | exact T.n_TwoStacks_zero | exact T.n_TwoStacks_given | exact T.n_TwoStacks_held | exact T.n_TwoStacks_front | exact T.n_TwoStacks_back)
    | (apply Or.inl; o_reads)
    | (apply Or.inr; o_reads)
    | (apply And.intro; (next => o_reads); o_reads)
    | (apply Exists.intro; o_reads)
    | exact Nat.le_of_ble_eq_true rfl
    | exact Nat.succ_ne_zero _
    | (show Fr _ _; kba_ints)
    | (show Same _ _; kd_subs)
    | (show Kp _ _ _; kxs_still)
    | (show (_ : Nat) ≤ _; simp only [List.length_append, List.length_map, List.length_cons, List.length_nil, List.length_take, List.length_drop, List.length_replicate, List.length_range, sizeLine_eq]; omega)
    | (show _ = none; apply Fr.h; kba_ints)
    | (show Bag _ _; first | assumption | (apply bag_putF; assumption; o_reads) | (apply bag_neF; (next => kbo_bools); o_reads) | (apply bag_kpR; assumption; (next => kaf_pre); o_reads))
    | omega
    | decide)
local macro_rules
  | `(tactic| o_readsAll) => `(tactic| repeat (first
    | (refine fun (pNew : Addr) (nNew : _ = none) => ?_; replace nNew := Fr.mk nNew)
    | (refine fun (xNew dNew : Addr) (nNew : _ = none) (mNew : _ = none) (eNew : dNew ≠ xNew) => ?_; replace nNew := Fr.mk nNew; replace mNew := Fr.mk mNew)
    | (apply And.intro; next => o_reads)
    | apply Exists.intro (α := V)
    | apply Exists.intro (α := Addr)
    | apply Exists.intro (α := Int)
    | apply Exists.intro (α := Bool)
    | apply Exists.intro (α := List V)
    | apply Exists.intro (α := List Nat)
    | apply Exists.intro (α := List (Str × V))
    | apply Exists.intro (α := List _)
    | apply Exists.intro (α := Str)
    | apply Exists.intro (α := HO)
    | apply Exists.intro (α := Sp)
    | apply Exists.intro (α := VK)))
set_option hygiene false in
local macro_rules
  | `(tactic| kba_ints) => `(tactic| first
    | assumption
    | (apply frUp; (first | assumption | (apply Ne.symm; assumption)); kba_ints)
    | (apply noneOf; assumption; intro oF eF; apply Exists.intro; kp_flats)
    | (apply frUp; (next => kbo_bools); kba_ints))
set_option hygiene false in
local macro_rules
  | `(tactic| kxs_still) => `(tactic| first
    | assumption
    | exact kp_refl _ _
    | (apply kp_newF; assumption; kxs_still)
    | (apply kp_new; assumption; kxs_still)
    | (apply kp_up; (next => o_fieldsN); kxs_still)
    | (apply kp_new; (next => kba_ints); kxs_still)
    | (apply kp_sameR; assumption; kxs_still)
    | (apply kp_transR; assumption; kxs_still)
    | (apply kp_freshR; assumption; (next => kaf_suf); kxs_still))
set_option hygiene false in
local macro_rules
  | `(tactic| kaf_suf) => `(tactic| first
    | assumption
    | exact subNil
    | (apply subCons; (first | (apply Or.inl; o_fieldsN) | (apply Or.inr; kba_ints)); kaf_suf)
    | (apply subApp; (next => kaf_suf); kaf_suf))
set_option hygiene false in
local macro_rules
  | `(tactic| o_fieldsN) => `(tactic| first
    | assumption
    | exact memA
    | (apply memB; o_fieldsN)
    | (apply memL; o_fieldsN)
    | (apply memR; o_fieldsN))
set_option hygiene false in
local macro_rules
  | `(tactic| kd_subs) => `(tactic| first
    | assumption
    | exact Same.refl _
    | (apply same_putF; assumption; kd_subs)
    | (apply same_putG; assumption; kd_subs)
    | (apply same_putF; (next => kba_ints); kd_subs)
    | (apply same_transR; assumption; kd_subs))

set_option pp.maxSteps 900
section
variable {P : Program} {w : World} {K : PySem.W.Frag} {mg : Str → Option Value} {base : Heap} {n : Nat}
def spEvRem (P : Program) (w : World) (K : PySem.W.Frag) (mg : Str → Option Value) (base : Heap) (Ce Cs : Addr) (Cj : Addr × Addr) (Cc : Addr) (n : Nat) : Sp := fun vs H Q _ => ∃ (uv : List Addr) (f : V) (UR : List JEv → Hp → Prop) (Val : Nat → List V → V → Hp → Prop) (cs : List Addr) (x j jdx c cdx l : Addr) (z : V) (ms : List V) (u : List JEv) (es : List (Nat × Nat × Nat)) (g e b : Nat) (r : Option Nat),
  vs = [.ref x] ∧ JS P w K mg base n true uv f UR Val ∧ EvAt Ce Cs Cj Cc uv f UR Val cs x j jdx c cdx l z ms u es g e b r H ∧ u.length < 80000 ∧ es.length < 80000 ∧ ms.length < 70000 ∧ g < ms.length ∧
  ∀ d H', d.length = (workE (g + 1) e b ms.length r).length → Kp ([x, c, l] ++ uv) H H' → EvAt Ce Cs Cj Cc uv f UR Val cs x j jdx c cdx l z ms (u ++ d) (es ++ workE (g + 1) e b ms.length r) (g + 1) (workR (g + 1) e b ms.length r).1 (workR (g + 1) e b ms.length r).2.1 (workR (g + 1) e b ms.length r).2.2 H' → Q (.int g) H'
theorem ok_evrem (T : Txt K mg) : FnOk P w K mg base CX0 (n + 12) T.f_EvenSums_remove_oldest T.d_EvenSums_remove_oldest ["self"] (spEvRem P w K mg base T.C_EvenSums T.C_Shape (CJ T) T.C_Calls n) := by
  have G_Calls_check := ok_chk (P := P) (w := w) (base := base) T
  have G_check_filled := ok_filled (P := P) (w := w) (base := base) T
  have G_oldest := ok_oldest (P := P) (w := w) (base := base) T
  have G_without := ok_without1 (P := P) (w := w) (base := base) T
  have G_shape_after_removal := ok_shrem (P := P) (w := w) (base := base) (n := n) T
  refine T.F_EvenSums_remove_oldest.ok sc_EvenSums_remove_oldest (fun vs H Q E h => ?_) (fun cdv A outer s H vs Q E hr h => ?_)
  · obtain ⟨uv, f, UR, Val, cs, x, j, jdx, c, cdx, l, z, ms, u, es, g, e, b, r, rfl, _⟩ := h
    rfl
  · obtain ⟨uv, f, UR, Val, cs, x, j, jdx, c, cdx, l, z, ms, u, es, g, e, b, r, rfl, U, ev, lu, le, lm, gl, q⟩ := h
    refine ⟨_, (pss_cons (ps_expr (pe_meth0 (pe_fld (pv 0) rfl) T.cl_Calls ⟨T.m_Calls_check, T.t_Calls_check, T.k_Calls_check⟩ G_Calls_check (hr.mono (by omega)) T.b_Calls_check .nil pass0))
      (pss_cons (ps_expr (pe_call G_check_filled (hr.mono (by omega)) rfl T.g_check_filled T.F_check_filled.kp T.b_check_filled .nil pass0 (pa_cons (pe_fld (pv 0) rfl) pa_nil)))
      (pss_cons (ps_set (i := 1) sc_EvenSums_remove_oldest.nd rfl (.inl rfl) (pe_call G_oldest (hr.mono (by omega)) rfl T.g_oldest T.F_oldest.kp T.b_oldest .nil pass0 (pa_cons (pe_fld (pv 0) rfl) pa_nil)))
      (pss_cons (ps_set (i := 2) sc_EvenSums_remove_oldest.nd rfl (.inl rfl) (pe_call G_without (hr.mono (by omega)) rfl T.g_without T.F_without.kp T.b_without .nil pass0 (pa_cons (pe_fld (pv 0) rfl) (pa_cons (pe_lst (pa_cons (pv 1) pa_nil)) pa_nil))))
      (pss_cons (ps_fld (pv 0) (pe_call G_shape_after_removal (hr.mono (by omega)) rfl T.g_shape_after_removal T.F_shape_after_removal.kp T.b_shape_after_removal .nil pass0 (pa_cons (pe_fld (pv 0) rfl) (pa_cons (pe_fld (pv 0) rfl) (pa_cons (pv 2) pa_nil)))) rfl)
      (pss_cons (ps_fld (pv 0) (pv 2) rfl)
      (pss_one (ps_ret (pv 1))))))))), ?_⟩
    obtain ⟨dx, h, sh, h1, h2, h3, h4⟩ := ev.hx
    have ld0 : (ms.drop g).length = ms.length - g := List.length_drop ..
    have hf : fstN g (ms.drop g) = .int g := if_neg (by omega)
    refine ⟨_, rfl, x, _, _, _, .ref c, rfl, h1, T.cl_EvenSums, T.n_EvenSums_calls, rfl, c, cdx, _, rfl, ev.jw.hc, rfl, c, cdx, l, rfl, ev.jw.hc, ?_⟩
    refine ⟨_, rfl, x, _, _, _, .ref h, rfl, h1, T.cl_EvenSums, T.n_EvenSums_held, rfl, h, g, ms.drop g, rfl, h2, by omega, ?_⟩
    refine ⟨_, rfl, x, _, _, _, .ref h, rfl, h1, T.cl_EvenSums, T.n_EvenSums_held, rfl, h, g, ms.drop g, rfl, h2, ?_⟩
    rw [hf]
    refine ⟨_, rfl, x, _, _, _, .ref h, rfl, h1, T.cl_EvenSums, T.n_EvenSums_held, rfl, _, rfl, (by decide : 1 ≤ sizeLine), fun p np => ?_⟩
    have fp := Fr.mk np
    have s0 : Same H (upd H p (.lst [.int g])) := same_newF fp
    refine ⟨h, p, g, ms.drop g, rfl, s0 _ _ h2, upd_same, by omega, fun h' H2 s2 fh' e1 => ?_⟩
    rw [List.drop_drop] at e1
    have s1 := s0.trans s2
    have np2 : h' ∉ cs := ev.mu.fr (Fr.mk (s0.free fh'.h))
    have npx : x ≠ h' := ne_of_none h1 (s0.free fh'.h)
    have kc := kp_same (cs := []) s1
    have h1' := s1 _ _ h1
    have sub2 : ∀ a ∈ [c, l] ++ uv, a ∈ cs := fun a m => ev.sub a (memB m)
    refine ⟨_, rfl, x, _, _, _, .ref j, rfl, h1', T.cl_EvenSums, T.n_EvenSums_joiner, rfl, _, rfl, x, _, _, _, .ref sh, rfl, h1', T.cl_EvenSums, T.n_EvenSums_shape, rfl, _, rfl, true, uv, f, UR, Val, j, jdx, c, cdx, l, u, es, ms, cs, sh, h', g, e, b, r, rfl, U, ev.jw.same U s1, lu, le, lm, sub2, ev.mu.same s1, ev.mm.kp U kc mu_nil, h4.kp U kc mu_nil (fun _ z => nomatch z), ev.ok, gl, e1, np2, fun sh' d H3 ld k3 jw3 sa3 => ?_⟩
    have h1'' := k3.at_ _ _ h1' ev.nx
    refine ⟨_, rfl, x, _, dx, _, rfl, h1'', T.cl_EvenSums, T.n_EvenSums_shape, (by show 6 < 1000; decide), ?_⟩
    refine ⟨_, rfl, _, rfl, x, _, dx, _, rfl, upd_same, T.cl_EvenSums, T.n_EvenSums_held, (by show 6 < 1000; decide), ?_⟩
    refine ⟨_, rfl, ?_⟩
    have k4 : ∀ o1 o2 : HO, Kp [x] H3 (upd (upd H3 x o1) x o2) := fun o1 o2 => kp_up memA (kp_up memA (kp_refl _ _))
    have m3 : Mu H3 [x] := mu_ins h1'' mu_nil
    have kk : Kp ([x, c, l] ++ uv) H H3 := kp_trans (kp_same s1) (kp_more k3 fun a m => memB m)
    have mu3 : Mu H3 cs := (ev.mu.same s1).kp k3 (jw3.mu U)
    have nxj : j ∉ [x] := not_cons (fun z => ev.nj (by rw [z]; exact ev.sub x memA)) not_nil
    have nxc : c ∉ [x] := not_cons (fun z => ev.nx (by rw [← z]; exact memA)) not_nil
    have nxl : l ∉ [x] := not_cons (fun z => ev.nx (by rw [← z]; exact memB memA)) not_nil
    have nxu : ∀ a ∈ uv, a ∉ [x] := fun a m => not_cons (fun z => ev.nx (by rw [← z]; exact memR m)) not_nil
    have nxp : h' ∉ [x] := not_cons (Ne.symm npx) not_nil
    have ep3 := k3.at_ _ _ e1 fun z => np2 (sub2 _ z)
    have sx : ∀ a ∈ [x], a ∈ cs := subCons (ev.sub x memA) subNil
    refine q d _ ld (kp_trans kk (kp_more (k4 _ _) (subCons memA subNil))) ⟨⟨dx, h', sh', upd_same, (k4 _ _).at_ _ _ ep3 nxp, np2, sa3.kp U (k4 _ _) m3 sx⟩, jw3.kp U (k4 _ _) m3 nxj nxc nxl nxu, workR_ok (rem_pre ev.ok gl).2, ?_, ?_, ev.sub, ev.nj, ev.nx⟩
    · exact ((ev.mm.kp U kc mu_nil).kp U k3 ((ev.jw.same U s1).mu U)).kp U (k4 _ _) m3
    · exact mu3.kp (k4 _ _) (mu_ins upd_same mu_nil)
theorem sum_end {g e b n : Nat} {r : Option Nat} (h : ShOk g e b n r) (gl : g < n) : 0 < sumN g e b n ∧ sumB g e b n (sumN g e b n) = n ∧ sumN g e b n ≤ 3 := by
  unfold sumN
  match r, h with
  | none, ⟨h1, h2, h3, h4⟩ =>
    rw [if_pos (show g < e by omega), if_neg (show ¬ b < n by omega)]
    by_cases c : e < b
    · rw [if_pos c]
      exact ⟨by decide, h3, by decide⟩
    · rw [if_neg c]
      exact ⟨by decide, (show e = n by omega), by decide⟩
  | some k, ⟨h1, h2, h3, h4, h5, h6, h7⟩ =>
    rw [if_pos h1, if_pos h2]
    by_cases c : b < n
    · rw [if_pos c]
      exact ⟨by decide, rfl, by decide⟩
    · rw [if_neg c]
      exact ⟨by decide, (show b = n by omega), by decide⟩
def totE (g e b n : Nat) : List (Nat × Nat × Nat) := wholeE (sumB g e b n) (sumN g e b n)
def spEvTot (P : Program) (w : World) (K : PySem.W.Frag) (mg : Str → Option Value) (base : Heap) (Ce Cs : Addr) (Cj : Addr × Addr) (Cc : Addr) (n : Nat) : Sp := fun vs H Q _ => ∃ (uv : List Addr) (f : V) (UR : List JEv → Hp → Prop) (Val : Nat → List V → V → Hp → Prop) (cs : List Addr) (x j jdx c cdx l : Addr) (z : V) (ms : List V) (u : List JEv) (es : List (Nat × Nat × Nat)) (g e b : Nat) (r : Option Nat),
  vs = [.ref x] ∧ JS P w K mg base n true uv f UR Val ∧ EvAt Ce Cs Cj Cc uv f UR Val cs x j jdx c cdx l z ms u es g e b r H ∧ u.length < 80000 ∧ es.length < 80000 ∧ ms.length < 70000 ∧ (ms.length ≤ g → Q z H) ∧
  ∀ v d H', g < ms.length → d.length = (totE g e b ms.length).length → Kp ([c, l] ++ uv) H H' → EvAt Ce Cs Cj Cc uv f UR Val cs x j jdx c cdx l z ms (u ++ d) (es ++ totE g e b ms.length) g e b r H' → Val g (seg ms g ms.length) v H' → Q v H'
theorem ok_evtot (T : Txt K mg) : FnOk P w K mg base CX0 (n + 12) T.f_EvenSums_total T.d_EvenSums_total ["self"] (spEvTot P w K mg base T.C_EvenSums T.C_Shape (CJ T) T.C_Calls n) := by
  have G_Calls_check := ok_chk (P := P) (w := w) (base := base) T
  have G_shape_spans := ok_shspans (P := P) (w := w) (base := base) (n := n) T
  have G_whole_span := ok_whole (P := P) (w := w) (base := base) (n := n) T
  refine T.F_EvenSums_total.ok sc_EvenSums_total (fun vs H Q E h => ?_) (fun cdv A outer s H vs Q E hr h => ?_)
  · obtain ⟨uv, f, UR, Val, cs, x, j, jdx, c, cdx, l, z, ms, u, es, g, e, b, r, rfl, _⟩ := h
    rfl
  · obtain ⟨uv, f, UR, Val, cs, x, j, jdx, c, cdx, l, z, ms, u, es, g, e, b, r, rfl, U, ev, lu, le, lm, qz, q⟩ := h
    refine ⟨_, (pss_cons (ps_expr (pe_meth0 (pe_fld (pv 0) rfl) T.cl_Calls ⟨T.m_Calls_check, T.t_Calls_check, T.k_Calls_check⟩ G_Calls_check (hr.mono (by omega)) T.b_Calls_check .nil pass0))
      (pss_cons (ps_if (pt_cmpR op_eq (pe_callB call_lenD (by rfl) T.z_len (by decide +kernel) (pa_cons (pe_fld (pv 0) rfl) pa_nil)) pe_int (nomark _)) (pss_one (ps_ret (pe_fld (pv 0) rfl))) pss_nil)
      (pss_one (ps_ret (pe_ix (r := rIxT K) ix_tup (pe_call G_whole_span (hr.mono (by omega)) rfl T.g_whole_span T.F_whole_span.kp T.b_whole_span .nil pass0 (pa_cons (pe_fld (pv 0) rfl) (pa_cons (pe_call G_shape_spans (hr.mono (by omega)) rfl T.g_shape_spans T.F_shape_spans.kp T.b_shape_spans .nil pass0 (pa_cons (pe_fld (pv 0) rfl) pa_nil)) pa_nil))) pe_int (fun _ _ => rfl)))))), ?_⟩
    obtain ⟨dx, h, sh, h1, h2, h3, h4⟩ := ev.hx
    have ld0 : (ms.drop g).length = ms.length - g := List.length_drop ..
    refine ⟨_, rfl, x, _, _, _, .ref c, rfl, h1, T.cl_EvenSums, T.n_EvenSums_calls, rfl, c, cdx, _, rfl, ev.jw.hc, rfl, c, cdx, l, rfl, ev.jw.hc, ?_⟩
    refine ⟨_, rfl, x, _, _, _, .ref h, rfl, h1, T.cl_EvenSums, T.n_EvenSums_held, rfl, h, _, rfl, h2, rfl, _, rfl, ?_⟩
    by_cases c0 : ms.length ≤ g
    · refine ifT (decide_eq_true (by rw [heldK_len, ld0]; exact congrArg V.int (by omega))) ?_
      exact ⟨_, rfl, x, _, _, _, z, rfl, h1, T.cl_EvenSums, T.n_EvenSums_zero, rfl, qz c0⟩
    · have gl : g < ms.length := by omega
      refine ifF (decide_eq_false fun y => ?_) ?_
      · rw [heldK_len, ld0] at y
        injection y with y
        omega
      obtain ⟨t1, t2, t3⟩ := sum_end ev.ok gl
      refine ⟨_, rfl, x, _, _, _, .ref j, rfl, h1, T.cl_EvenSums, T.n_EvenSums_joiner, rfl, _, rfl, x, _, _, _, .ref sh, rfl, h1, T.cl_EvenSums, T.n_EvenSums_shape, rfl, true, uv, f, UR, Val, ms, cs, sh, g, e, b, r, rfl, U, lm, h4, ev.ok, fun p xs H1 s1 fp e1 lx ax => ?_⟩
      have np : p ∉ [c, l] ++ uv := fun y => ev.mu.fr fp (ev.sub _ (memB y))
      refine ⟨true, uv, f, UR, Val, j, jdx, c, cdx, l, u, es, ms, xs, p, sumB g e b ms.length, rfl, U, ev.jw.same U s1, by omega, by omega, by omega, e1, np, ax, fun v d H2 ld k2 jw2 a0 a1 => ?_⟩
      rw [lx] at ld jw2 a1
      obtain ⟨g1, g2, pv, vv, rfl, g3, g4⟩ := a1 t1
      refine ⟨pv, _, 2, vv, rfl, rfl, sqtOf g3, atI_nat (j := 2) rfl, ?_⟩
      have ev1 := ev.same U s1
      have m1 := ev1.jw.mu U
      have sub2 : ∀ a ∈ [c, l] ++ uv, a ∈ cs := fun a m => ev.sub a (memB m)
      obtain ⟨dx1, hh1, sh1, i1, i2, i3, i4⟩ := ev1.hx
      refine q vv d H2 gl ld (kp_trans (kp_same s1) k2) ⟨⟨dx1, hh1, sh1, k2.at_ _ _ i1 ev.nx, k2.at_ _ _ i2 fun y => i3 (sub2 _ y), i3, i4.kp U k2 m1 sub2⟩, jw2, ev.ok, ev1.mm.kp U k2 m1, ev1.mu.kp k2 (jw2.mu U), ev.sub, ev.nj, ev.nx⟩ ?_
      rw [t2] at g4
      exact g4
end
end Ob

set_option Elab.async false
set_option linter.all false
set_option maxRecDepth 100000
set_option maxHeartbeats 1000000
namespace Ob
open PySem PySem.Spec PyProof.Rows L2
open LamX (Tabs TabB TabS ExtN)

set_option hygiene false in
local macro_rules
  | `(tactic| kp_flats) => `(tactic| first
    | assumption
    | exact upd_same
    | (apply atNew; assumption; kp_flats)
    | (apply atNe; (next => kbo_bools); kp_flats)
    | (apply atSame; assumption; kp_flats)
    | (apply atKp; assumption; (next => kaf_pre); kp_flats))
set_option hygiene false in
local macro_rules
  | `(tactic| kaf_pre) => `(tactic| first
    | assumption
    | exact not_nil
    | (apply not_cons; (next => kbo_bools); kaf_pre)
    | (apply not_app; (next => kaf_pre); kaf_pre))
set_option hygiene false in
local macro_rules
  | `(tactic| kbo_bools) => `(tactic| first
    | assumption
    | (apply Ne.symm; assumption)
    | (apply neN; assumption; kp_flats)
    | (apply neN'; assumption; kp_flats))
set_option hygiene false in
local macro_rules
  | `(tactic| o_reads) => `(tactic| first
    | with_reducible rfl
    | assumption
    | rfl
    | kp_flats
    | (show SqL _ _ _ _; first | assumption | (apply sqlOf; kp_flats) | (apply sqlSame; assumption; o_reads))
    | (show SqT _ _ _ _; first | assumption | (apply sqtOf; kp_flats) | (apply sqtAll; assumption) | (apply sqtSame; assumption; o_reads))
    | (show Cls _ _; first | exact T.cl_Calls | exact T.cl_Joiner | exact T.cl_Planner | exact T.cl_EvenSums | exact T.cl_Shape | exact T.cl_TwoStacks)
    | (show NoAttr _ _ _; first | exact T.n_Calls_entries | exact T.n_Calls_running | exact T.n_Joiner_calls | exact T.n_Joiner_join_call | exact T.n_Planner_entries | exact T.n_EvenSums_calls | exact T.n_EvenSums_joiner | exact T.n_EvenSums_zero | exact T.n_EvenSums_given | exact T.n_EvenSums_held | exact T.n_EvenSums_shape | exact T.n_Shape_front | exact T.n_Shape_back | exact T.n_Shape_late | exact T.n_Shape_renewed | exact T.n_TwoStacks_calls | exact T.n_TwoStacks_joiner | exact T.n_TwoStacks_zero | exact T.n_TwoStacks_given | exact T.n_TwoStacks_held | exact T.n_TwoStacks_front | exact T.n_TwoStacks_back)
    | (apply Or.inl; o_reads)
    | (apply Or.inr; o_reads)
    | (apply And.intro; (next => o_reads); o_reads)
    | (apply Exists.intro; o_reads)
    | exact Nat.le_of_ble_eq_true rfl
    | exact Nat.succ_ne_zero _
    | (show Fr _ _; kba_ints)
    | (show Same _ _; kd_subs)
    | (show Kp _ _ _; kxs_still)
    | (show (_ : Nat) ≤ _; simp only [List.length_append, List.length_map, List.length_cons, List.length_nil, List.length_take, List.length_drop, List.length_replicate, List.length_range, sizeLine_eq]; omega)
    | (show _ = none; apply Fr.h; kba_ints)
    | (show Bag _ _; first | assumption | (apply bag_putF; assumption; o_reads) | (apply bag_neF; (next => kbo_bools); o_reads) | (apply bag_kpR; assumption; (next => kaf_pre); o_reads))
    | omega
    | decide)
local macro_rules
  | `(tactic| o_readsAll) => `(tactic| repeat (first
    | (refine fun (pNew : Addr) (nNew : _ = none) => ?_; replace nNew := Fr.mk nNew)
    | (refine fun (xNew dNew : Addr) (nNew : _ = none) (mNew : _ = none) (eNew : dNew ≠ xNew) => ?_; replace nNew := Fr.mk nNew; replace mNew := Fr.mk mNew)
    | (apply And.intro; next => o_reads)
    | apply Exists.intro (α := V)
    | apply Exists.intro (α := Addr)
    | apply Exists.intro (α := Int)
    | apply Exists.intro (α := Bool)
    | apply Exists.intro (α := List V)
    | apply Exists.intro (α := List Nat)
    | apply Exists.intro (α := List (Str × V))
    | apply Exists.intro (α := List _)
    | apply Exists.intro (α := Str)
    | apply Exists.intro (α := HO)
    | apply Exists.intro (α := Sp)
    | apply Exists.intro (α := VK)))
set_option hygiene false in
local macro_rules
  | `(tactic| kba_ints) => `(tactic| first
    | assumption
    | (apply frUp; (first | assumption | (apply Ne.symm; assumption)); kba_ints)
    | (apply noneOf; assumption; intro oF eF; apply Exists.intro; kp_flats)
    | (apply frUp; (next => kbo_bools); kba_ints))
set_option hygiene false in
local macro_rules
  | `(tactic| kxs_still) => `(tactic| first
    | assumption
    | exact kp_refl _ _
    | (apply kp_newF; assumption; kxs_still)
    | (apply kp_new; assumption; kxs_still)
    | (apply kp_up; (next => o_fieldsN); kxs_still)
    | (apply kp_new; (next => kba_ints); kxs_still)
    | (apply kp_sameR; assumption; kxs_still)
    | (apply kp_transR; assumption; kxs_still)
    | (apply kp_freshR; assumption; (next => kaf_suf); kxs_still))
set_option hygiene false in
local macro_rules
  | `(tactic| kaf_suf) => `(tactic| first
    | assumption
    | exact subNil
    | (apply subCons; (first | (apply Or.inl; o_fieldsN) | (apply Or.inr; kba_ints)); kaf_suf)
    | (apply subApp; (next => kaf_suf); kaf_suf))
set_option hygiene false in
local macro_rules
  | `(tactic| o_fieldsN) => `(tactic| first
    | assumption
    | exact memA
    | (apply memB; o_fieldsN)
    | (apply memL; o_fieldsN)
    | (apply memR; o_fieldsN))
set_option hygiene false in
local macro_rules
  | `(tactic| kd_subs) => `(tactic| first
    | assumption
    | exact Same.refl _
    | (apply same_putF; assumption; kd_subs)
    | (apply same_putG; assumption; kd_subs)
    | (apply same_putF; (next => kba_ints); kd_subs)
    | (apply same_transR; assumption; kd_subs))

set_option pp.maxSteps 900
section
variable {P : Program} {w : World} {K : PySem.W.Frag} {mg : Str → Option Value} {base : Heap} {n : Nat}
def spJI (C : Addr) : Sp := fun vs H Q _ => ∃ (a dx c : Addr) (f : V), vs = [.ref a, .ref c, f] ∧ H a = some (.ins C dx []) ∧ ∀ H', H' a = some (JO C dx c f) → Kp [a] H H' → (∀ b, Fr H' b → Fr H b) → Q .non H'
theorem ok_ji (T : Txt K mg) : FnOk P w K mg base CX0 1 T.f_Joiner_init T.d_Joiner_init ["self", "calls", "join"] (spJI T.C_Joiner) := by
  refine T.F_Joiner_init.ok sc_Joiner_init (fun vs H Q E h => ?_) (fun cdv A outer s H vs Q E hr h => ?_)
  · obtain ⟨a, dx, c, f, rfl, _⟩ := h
    rfl
  · obtain ⟨a, dx, c, f, rfl, ha, q⟩ := h
    refine ⟨_, (pss_cons (ps_fld (pv 0) (pv 1) rfl)
      (pss_one (ps_fld (pv 0) (pv 2) rfl))), ?_⟩
    o_readsAll
    exact q _ (by kp_flats) (by kxs_still) fun b fb => by kba_ints
def spEI (Ce Cs : Addr) (Cj : Addr × Addr) (Cc : Addr) : Sp := fun vs H Q _ => ∃ (x dx : Addr) (f z : V), vs = [.ref x, f, z] ∧ H x = some (.ins Ce dx []) ∧ ∀ (j jdx c cdx l h sh sdx fr : Addr) H', Fr H j → Fr H c → Fr H l → Fr H h → Fr H sh → Fr H fr → c ≠ l → x ≠ c → x ≠ l → j ≠ x → j ≠ c → j ≠ l → h ≠ x → h ≠ c → h ≠ l → sh ≠ x → sh ≠ c → sh ≠ l → fr ≠ x → fr ≠ c → fr ≠ l →
  H' x = some (EO Ce dx c j z 0 h sh) → H' j = some (JO Cj.1 jdx c f) → H' c = some (CO Cc cdx l false) → H' l = some (.lst []) → H' h = some (.dK []) → H' sh = some (ShO Cs sdx (.ref fr) .non .non .non) → H' fr = some (.lst []) → Kp [x] H H' → Q .non H'
theorem ok_ei (T : Txt K mg) : FnOk P w K mg base CX0 4 T.f_EvenSums_init T.d_EvenSums_init ["self", "join", "zero"] (spEI T.C_EvenSums T.C_Shape (CJ T) T.C_Calls) := by
  have G_Calls_init := ok_ci (P := P) (w := w) (base := base) T
  have G_Joiner_init := ok_ji (P := P) (w := w) (base := base) T
  have G_Shape_init := ok_shi (P := P) (w := w) (base := base) T
  refine T.F_EvenSums_init.ok sc_EvenSums_init (fun vs H Q E h => ?_) (fun cdv A outer s H vs Q E hr h => ?_)
  · obtain ⟨x, dx, f, z, rfl, _⟩ := h
    rfl
  · obtain ⟨x, dx, f, z, rfl, hb, q⟩ := h
    refine ⟨_, (pss_cons (ps_fld (pv 0) (pe_make0 ⟨T.mk_Calls, T.m_Calls_init, T.t_Calls_init, T.kp_Calls⟩ G_Calls_init (hr.mono (by omega)) rfl T.gc_Calls T.b_Calls_init .nil pass0) rfl)
      (pss_cons (ps_fld (pv 0) (pe_make ⟨T.mk_Joiner, T.m_Joiner_init, T.t_Joiner_init, T.kp_Joiner⟩ G_Joiner_init (hr.mono (by omega)) rfl T.gc_Joiner T.b_Joiner_init .nil pass0 (pa_cons (pe_fld (pv 0) rfl) (pa_cons (pv 1) pa_nil))) rfl)
      (pss_cons (ps_fld (pv 0) (pv 2) rfl)
      (pss_cons (ps_fld (pv 0) pe_int rfl)
      (pss_cons (ps_fld (pv 0) pe_dnewK rfl)
      (pss_one (ps_fld (pv 0) (pe_make ⟨T.mk_Shape, T.m_Shape_init, T.t_Shape_init, T.kp_Shape⟩ G_Shape_init (hr.mono (by omega)) rfl T.gc_Shape T.b_Shape_init .nil pass0 (pa_cons (pe_lst pa_nil) (pa_cons pe_non (pa_cons pe_non (pa_cons pe_non pa_nil))))) rfl))))))), ?_⟩
    o_readsAll
    rename_i c cdx nec nc ncd
    intro l H1 nl e1 e2 k1
    o_readsAll
    rename_i j jdx nej nj njd
    intro H2 e3 k2 f2
    o_readsAll
    rename_i h nh fr nfr sh sdx nes ns nsd
    intro H3 e4 k3 f3
    o_readsAll
    refine q j jdx c cdx l h sh sdx fr _ (by kba_ints) (by kba_ints) (by kba_ints) (by kba_ints) (by kba_ints) (by kba_ints) (by kbo_bools) (by kbo_bools) (by kbo_bools) (by kbo_bools) (by kbo_bools) (by kbo_bools) (by kbo_bools) (by kbo_bools) (by kbo_bools) (by kbo_bools) (by kbo_bools) (by kbo_bools) (by kbo_bools) (by kbo_bools) (by kbo_bools) (by kp_flats) (by kp_flats) (by kp_flats) (by kp_flats) (by kp_flats) (by kp_flats) (by kp_flats) (by kxs_still)
/-- a queue that is made: nothing is in it -/
theorem evNew {uv : List Addr} {f z : V} {UR : List JEv → Hp → Prop} {Val : Nat → List V → V → Hp → Prop} {Ce Cs : Addr} {Cj : Addr × Addr} {Cc x dx j jdx c cdx l h sh sdx fr : Addr} {H H' : Hp} {cs : List Addr}
    (mu : Mu H' cs) (sub : ∀ a ∈ [x, c, l] ++ uv, a ∈ cs) (nj : j ∉ cs) (nh : h ∉ cs) (ns : sh ∉ cs) (nf : fr ∉ cs) (n1 : x ∉ [c, l] ++ uv) (n2 : j ∉ uv) (n3 : c ∉ uv) (n4 : l ∉ uv) (ur : UR [] H')
    (hx : H' x = some (EO Ce dx c j z 0 h sh)) (hj : H' j = some (JO Cj.1 jdx c f)) (hc : H' c = some (CO Cc cdx l false)) (hl : H' l = some (.lst [])) (hh : H' h = some (.dK [])) (hs : H' sh = some (ShO Cs sdx (.ref fr) .non .non .non)) (hf : H' fr = some (.lst [])) :
    EvAt Ce Cs Cj Cc uv f UR Val cs x j jdx c cdx l z [] [] [] 0 0 0 none H' :=
  ⟨⟨dx, h, sh, hx, hh, nh, ⟨⟨sdx, fr, .non, .non, .non, [], hs, hf, ⟨rfl, Nat.le_refl _, Nat.le_refl _, fun q s z => by cases q <;> cases z⟩, .inl ⟨rfl, rfl, Nat.le_refl _⟩, .inl ⟨rfl, rfl, Nat.le_refl _⟩, rfl, nf⟩, ns⟩⟩,
    JW.mk1 hj hc ⟨[], hl, ⟨rfl, fun q x e z => by cases q <;> cases z⟩⟩ ur rfl n2 n3 n4, ⟨Nat.le_refl _, Nat.le_refl _, rfl, Nat.le_refl _⟩, (fun i m e => by cases i <;> cases e), mu, sub, nj, n1⟩
end
end Ob

set_option Elab.async false
set_option linter.all false
set_option maxRecDepth 100000
/-! the pairs of a dict, and a list of them -/
namespace L2
open PySem PySem.Spec PyProof.Rows
section
variable {X : Cx}
def rItems : V → List V → Hp → VK → Prop := fun x xs H Q => ∃ (a : Addr) (kvs : List (Key × V)), x = .ref a ∧ xs = [] ∧ H a = some (.dK kvs) ∧ ∀ p, H p = none → Q (.ref p) (upd H p (DX.itemsO p a))
theorem mt_items : MtR X "dict.items" rItems := by
  intro pins s σ H x xs v us Q I rx rxs h
  obtain ⟨a, kvs, rfl, rfl, ha, q⟩ := h
  cases rx
  cases rxs
  obtain ⟨z, hd, vs, rel, dd⟩ := dk_of I.hok ha
  refine call_meetsIn PySem.F.slot_dict_items dd.typeIs PySem.F.entry_dict_items (PySem.F.args_dict_items_1 _) (meets_dict_items (mixKind X.prog X.w) a hd) ⟨⟨_, dd⟩, ?_⟩
  have hf : H s.heap.objs.size = none := I.hok.fresh (Nat.le_refl _)
  exact ⟨.ref s.heap.objs.size, upd H s.heap.objs.size (DX.itemsO s.heap.objs.size a), I.laid (t' := s.toks) (fun b u e => Heap.get?_push_of_some _ e) (Nat.le_refl _) (DX.itemsO_ok (Heap.get?_push_size _ rfl)), rfl, q _ hf⟩
theorem key_rel {P : Program} {w : World} {k : Key} {u : Value} (h : (mixKind P w).is k u = true) : RelV (kV k) u := by
  rcases keyIs_shape h with ⟨i, t, rfl, rfl⟩ | ⟨x, t, rfl, rfl⟩
  · exact ⟨t, rfl⟩
  · exact ⟨t, rfl⟩
def rListI : List V → Hp → VK → Prop := fun xs H Q => ∃ (p d : Addr) (kvs : List (Key × V)), xs = [.ref p] ∧ H p = some (DX.itemsO p d) ∧ H d = some (.dK kvs) ∧
  ∀ (q : Addr) (L : List Addr) (H' : Hp), (∀ b o, H b = some o → H' b = some o) → H q = none → L.length = kvs.length → H' q = some (.lst (L.map V.ref)) → (∀ (j : Nat) (a : Addr) (k : Key) (v : V), L[j]? = some a → kvs[j]? = some (k, v) → H' a = some (.tup [kV k, v])) → Q (.ref q) H'
theorem call_listI (hc : X.calm = true) : CallR X (.type "list") rListI := by
  intro pins s σ H xs us Q I r h
  obtain ⟨p, d, kvs, rfl, hp, hd, q⟩ := h
  obtain ⟨u, rfl, rx⟩ := vals1 r
  obtain rfl : u = Value.ref p := rx
  obtain ⟨z, lo, vs, rk, hdd⟩ := dk_of I.hok hd
  obtain ⟨ep, hat⟩ := hdd.dictAt
  have hv : s.heap.IsItemsView p d := (show ObjOk X.prog X.w H s.heap p (DX.itemsO p d) from I.hok p _ hp).1
  have hl : kvs.length = vs.length := Paired.length rk
  refine PySem.W.kdx_call (knd := mixKind X.prog X.w) (kvs := vs) (ep := ep) (I.ok.hd hc) hv hat (by rw [← hl]; exact z) fun h' tk acc c as hk hS hla hG hacc => ?_
  have nd : as.Nodup := List.Pairwise.imp (fun h => Nat.ne_of_lt h) hG.rise
  have I1 : Inv X pins σ H { s with heap := h', toks := tk } := I.kept (t' := tk) hk
  have hn0 : H s.heap.objs.size = none := I.hok.fresh (Nat.le_refl _)
  have rv : Vals (as.map V.ref) acc.toList := by
    rw [hacc]
    exact vals_maps V.ref Value.ref as fun _ _ => rfl
  have I2 : Inv X pins σ (upd H s.heap.objs.size (.lst (as.map V.ref))) { s with heap := h', toks := tk } :=
    I1.take (h' := h') (t' := tk) (fun b ob _ e => e) (I.fpOk (Nat.le_refl _) hn0) ⟨by rw [List.length_map, hla, ← hl]; exact z, acc.toList, c, rv, by rw [Array.toArray_toList]; exact hS⟩
  have pr : ∀ (j : Nat) (b : Addr) (k : Key) (v : V), as[j]? = some b → kvs[j]? = some (k, v) → ∃ key u, RelV (kV k) key ∧ RelV v u ∧ h'.get? b = some { cls := .type "tuple", data := .seq #[key, u] } := fun j b k v e1 e2 => by
    obtain ⟨key, k1, x, h1, h2, h3⟩ := hG.pairs j b e1
    obtain ⟨u, g1, g2⟩ := kv_get rk e2
    rw [h1] at g1
    cases g1
    exact ⟨key, _, key_rel h2, g2, h3⟩
  obtain ⟨H2, I3, g, qt⟩ := DX.takeT (P := fun b ys => ∃ (j : Nat) (k : Key) (v : V), as[j]? = some b ∧ kvs[j]? = some (k, v) ∧ ys = [kV k, v]) I as _ I2 nd fun b hb => by
    obtain ⟨j, hj⟩ := List.mem_iff_getElem?.mp hb
    have lj : j < kvs.length := by
      rw [hl, ← hla]
      exact (List.getElem?_eq_some_iff.mp hj).1
    have e2 : kvs[j]? = some (kvs[j].1, kvs[j].2) := List.getElem?_eq_getElem lj
    obtain ⟨key, u, r1, r2, h3⟩ := pr j b _ _ hj e2
    have hbl : s.heap.objs.size ≤ b := Nat.le_of_lt (hG.above b hb)
    refine ⟨hbl, ?_, [kV kvs[j].1, kvs[j].2], ⟨j, _, _, hj, e2, rfl⟩, fun H3 => ⟨(by rw [sizeLine_eq]; show 2 ≤ 16777216; omega), [key, u], .cons r1 (.cons r2 .nil), ⟨_, h3, rfl, 0, rfl⟩⟩⟩
    rw [upd_ne (Nat.ne_of_gt (hG.above b hb))]
    exact I.hok.fresh hbl
  have gr : ∀ b o, H b = some o → H2 b = some o := fun b o e => g b o (by rw [upd_ne (ne_of_none e hn0)]; exact e)
  refine ⟨.ref s.heap.objs.size, H2, I3, rfl, q _ as H2 gr hn0 (by rw [hla, hl]) (g _ _ upd_same) fun j a k v e1 e2 => ?_⟩
  obtain ⟨ys, ⟨i, k1, v1, i1, i2, rfl⟩, hH⟩ := qt a (List.mem_of_getElem? e1)
  have eij : i = j := (List.getElem?_inj (List.getElem?_eq_some_iff.mp i1).1 nd).mp (i1.trans e1.symm)
  subst eij
  rw [e2] at i2
  cases i2
  exact hH
end
end L2

set_option Elab.async false
set_option linter.all false
set_option maxRecDepth 100000
/-! the values of a dict, and a list of them -/
namespace L2
open PySem PySem.Spec PyProof.Rows
/-- the view d.values() at p -/
def valsO (p d : Addr) : HO := .ext fun h => h.IsValuesView p d
theorem valsO_ok {P : Program} {w : World} {H : Hp} {h : Heap} {p d : Addr} (e : h.get? p = some { cls := .type "dict_values", data := .fields #[.ref d] }) : ObjOk P w H h p (valsO p d) :=
  ⟨⟨_, e, rfl, rfl⟩, ⟨_, e⟩, fun h1 h2 x k => let ⟨o, ho, r⟩ := x; ⟨o, k o ho, r⟩⟩
section
variable {X : Cx}
def rVals : V → List V → Hp → VK → Prop := fun x xs H Q => ∃ (a : Addr) (kvs : List (Key × V)), x = .ref a ∧ xs = [] ∧ H a = some (.dK kvs) ∧ ∀ p, H p = none → Q (.ref p) (upd H p (valsO p a))
theorem mt_vals : MtR X "dict.values" rVals := by
  intro pins s σ H x xs v us Q I rx rxs h
  obtain ⟨a, kvs, rfl, rfl, ha, q⟩ := h
  cases rx
  cases rxs
  obtain ⟨z, hd, vs, rel, dd⟩ := dk_of I.hok ha
  refine call_meetsIn PySem.F.slot_dict_values dd.typeIs PySem.F.entry_dict_values (PySem.F.args_dict_values_1 _) (meets_dict_values (mixKind X.prog X.w) a hd) ⟨⟨_, dd⟩, ?_⟩
  have hf : H s.heap.objs.size = none := I.hok.fresh (Nat.le_refl _)
  exact ⟨.ref s.heap.objs.size, upd H s.heap.objs.size (valsO s.heap.objs.size a), I.laid (t' := s.toks) (fun b u e => Heap.get?_push_of_some _ e) (Nat.le_refl _) (valsO_ok (Heap.get?_push_size _ rfl)), rfl, q _ hf⟩
def rListV : List V → Hp → VK → Prop := fun xs H Q => ∃ (p d : Addr) (kvs : List (Key × V)), xs = [.ref p] ∧ H p = some (valsO p d) ∧ H d = some (.dK kvs) ∧ ∀ q, H q = none → Q (.ref q) (upd H q (.lst (kvs.map Prod.snd)))
theorem call_listV (hc : X.calm = true) : CallR X (.type "list") rListV := by
  intro pins s σ H xs us Q I r h
  obtain ⟨p, d, kvs, rfl, hp, hd, q⟩ := h
  obtain ⟨u, rfl, rx⟩ := vals1 r
  obtain rfl : u = Value.ref p := rx
  obtain ⟨z, lo, vs, rk, hdd⟩ := dk_of I.hok hd
  obtain ⟨ep, hat⟩ := hdd.dictAt
  have hv : s.heap.IsValuesView p d := (show ObjOk X.prog X.w H s.heap p (valsO p d) from I.hok p _ hp).1
  have hl : kvs.length = vs.length := Paired.length rk
  refine PySem.W.kdl_call (PySem.W.kdl_values (knd := mixKind X.prog X.w) (kvs := vs) (ep := ep)) (I.ok.hd hc) ⟨hv, hat⟩ (by rw [← hl]; exact z) fun h' tk acc' c' hkeep hS hacc => ?_
  refine ⟨.ref s.heap.objs.size, upd H s.heap.objs.size (.lst (kvs.map Prod.snd)), I.laid hkeep (Nat.le_refl _) (show ObjOk X.prog X.w _ _ _ (.lst (kvs.map Prod.snd)) from ⟨?_, acc'.toList, c', ?_, ?_⟩), rfl, q _ (I.hok.fresh (Nat.le_refl _))⟩
  · rw [List.length_map]
    exact z
  · have el : acc'.toList.length = acc'.size := by simp
    refine vals_of_at (by rw [List.length_map, el, hacc.1, hl]) fun j x w h1 h2 => ?_
    obtain ⟨k, hky⟩ := hacc.2 j w (by rw [← Array.getElem?_toList]; exact h2)
    rw [List.getElem?_map] at h1
    cases e1 : kvs[j]? with
    | none =>
      rw [e1] at h1
      cases h1
    | some kv =>
      rw [e1] at h1
      cases h1
      obtain ⟨k2, y⟩ := kv
      obtain ⟨u, hu, ru⟩ := kv_get rk e1
      rw [hky] at hu
      cases hu
      exact ru
  · rw [Array.toArray_toList]
    exact hS
end
end L2

set_option Elab.async false
set_option linter.all false
set_option maxRecDepth 100000
set_option maxHeartbeats 1000000
namespace Ob
open PySem PySem.Spec PyProof.Rows L2
open LamX (Tabs TabB TabS ExtN)

set_option hygiene false in
local macro_rules
  | `(tactic| kp_flats) => `(tactic| first
    | assumption
    | exact upd_same
    | (apply atNew; assumption; kp_flats)
    | (apply atNe; (next => kbo_bools); kp_flats)
    | (apply atSame; assumption; kp_flats)
    | (apply atKp; assumption; (next => kaf_pre); kp_flats))
set_option hygiene false in
local macro_rules
  | `(tactic| kaf_pre) => `(tactic| first
    | assumption
    | exact not_nil
    | (apply not_cons; (next => kbo_bools); kaf_pre)
    | (apply not_app; (next => kaf_pre); kaf_pre))
set_option hygiene false in
local macro_rules
  | `(tactic| kbo_bools) => `(tactic| first
    | assumption
    | (apply Ne.symm; assumption)
    | (apply neN; assumption; kp_flats)
    | (apply neN'; assumption; kp_flats))
set_option hygiene false in
local macro_rules
  | `(tactic| o_reads) => `(tactic| first
    | with_reducible rfl
    | assumption
    | rfl
    | kp_flats
    | (show SqL _ _ _ _; first | assumption | (apply sqlOf; kp_flats) | (apply sqlSame; assumption; o_reads))
    | (show SqT _ _ _ _; first | assumption | (apply sqtOf; kp_flats) | (apply sqtAll; assumption) | (apply sqtSame; assumption; o_reads))
    | (show Cls _ _; first | exact T.cl_Calls | exact T.cl_Joiner | exact T.cl_Planner | exact T.cl_EvenSums | exact T.cl_Shape | exact T.cl_TwoStacks)
    | (show NoAttr _ _ _; first | exact T.n_Calls_entries | exact T.n_Calls_running | exact T.n_Joiner_calls | exact T.n_Joiner_join_call | exact T.n_Planner_entries | exact T.n_EvenSums_calls | exact T.n_EvenSums_joiner | exact T.n_EvenSums_zero | exact T.n_EvenSums_given | exact T.n_EvenSums_held | exact T.n_EvenSums_shape | exact T.n_Shape_front | exact T.n_Shape_back | exact T.n_Shape_late | exact T.n_Shape_renewed | exact T.n_TwoStacks_calls | exact T.n_TwoStacks_joiner | exact T.n_TwoStacks_zero | exact T.n_TwoStacks_given | exact T.n_TwoStacks_held | exact T.n_TwoStacks_front | exact T.n_TwoStacks_back)
    | (apply Or.inl; o_reads)
    | (apply Or.inr; o_reads)
    | (apply And.intro; (next => o_reads); o_reads)
    | (apply Exists.intro; o_reads)
    | exact Nat.le_of_ble_eq_true rfl
    | exact Nat.succ_ne_zero _
    | (show Fr _ _; kba_ints)
    | (show Same _ _; kd_subs)
    | (show Kp _ _ _; kxs_still)
    | (show (_ : Nat) ≤ _; simp only [List.length_append, List.length_map, List.length_cons, List.length_nil, List.length_take, List.length_drop, List.length_replicate, List.length_range, sizeLine_eq]; omega)
    | (show _ = none; apply Fr.h; kba_ints)
    | (show Bag _ _; first | assumption | (apply bag_putF; assumption; o_reads) | (apply bag_neF; (next => kbo_bools); o_reads) | (apply bag_kpR; assumption; (next => kaf_pre); o_reads))
    | omega
    | decide)
local macro_rules
  | `(tactic| o_readsAll) => `(tactic| repeat (first
    | (refine fun (pNew : Addr) (nNew : _ = none) => ?_; replace nNew := Fr.mk nNew)
    | (refine fun (xNew dNew : Addr) (nNew : _ = none) (mNew : _ = none) (eNew : dNew ≠ xNew) => ?_; replace nNew := Fr.mk nNew; replace mNew := Fr.mk mNew)
    | (apply And.intro; next => o_reads)
    | apply Exists.intro (α := V)
    | apply Exists.intro (α := Addr)
    | apply Exists.intro (α := Int)
    | apply Exists.intro (α := Bool)
    | apply Exists.intro (α := List V)
    | apply Exists.intro (α := List Nat)
    | apply Exists.intro (α := List (Str × V))
    | apply Exists.intro (α := List _)
    | apply Exists.intro (α := Str)
    | apply Exists.intro (α := HO)
    | apply Exists.intro (α := Sp)
    | apply Exists.intro (α := VK)))
set_option hygiene false in
local macro_rules
  | `(tactic| kba_ints) => `(tactic| first
    | assumption
    | (apply frUp; (first | assumption | (apply Ne.symm; assumption)); kba_ints)
    | (apply noneOf; assumption; intro oF eF; apply Exists.intro; kp_flats)
    | (apply frUp; (next => kbo_bools); kba_ints))
set_option hygiene false in
local macro_rules
  | `(tactic| kxs_still) => `(tactic| first
    | assumption
    | exact kp_refl _ _
    | (apply kp_newF; assumption; kxs_still)
    | (apply kp_new; assumption; kxs_still)
    | (apply kp_up; (next => o_fieldsN); kxs_still)
    | (apply kp_new; (next => kba_ints); kxs_still)
    | (apply kp_sameR; assumption; kxs_still)
    | (apply kp_transR; assumption; kxs_still)
    | (apply kp_freshR; assumption; (next => kaf_suf); kxs_still))
set_option hygiene false in
local macro_rules
  | `(tactic| kaf_suf) => `(tactic| first
    | assumption
    | exact subNil
    | (apply subCons; (first | (apply Or.inl; o_fieldsN) | (apply Or.inr; kba_ints)); kaf_suf)
    | (apply subApp; (next => kaf_suf); kaf_suf))
set_option hygiene false in
local macro_rules
  | `(tactic| o_fieldsN) => `(tactic| first
    | assumption
    | exact memA
    | (apply memB; o_fieldsN)
    | (apply memL; o_fieldsN)
    | (apply memR; o_fieldsN))
set_option hygiene false in
local macro_rules
  | `(tactic| kd_subs) => `(tactic| first
    | assumption
    | exact Same.refl _
    | (apply same_putF; assumption; kd_subs)
    | (apply same_putG; assumption; kd_subs)
    | (apply same_putF; (next => kba_ints); kd_subs)
    | (apply same_transR; assumption; kd_subs))

set_option pp.maxSteps 900
theorem heldK_vals : ∀ (ps : List V) (g : Nat), (heldK g ps).map (fun kv => kv.2) = ps
  | [], _ => rfl
  | m :: r, g => congrArg (m :: ·) (heldK_vals r (g + 1))
theorem heldK_keys : ∀ (ps : List V) (g : Nat), (heldK g ps).map (fun kv => kV kv.1) = (List.range' g ps.length).map fun i : Nat => V.int (i : Int)
  | [], _ => rfl
  | m :: r, g => congrArg (V.int (g : Int) :: ·) (heldK_keys r (g + 1))
section
variable {P : Program} {w : World} {K : PySem.W.Frag} {mg : Str → Option Value} {base : Heap} {n : Nat}
def spEMem (Ce : Addr) : Sp := fun vs H Q _ => ∃ (x dx c j h sh : Addr) (z : V) (gi : Int) (g : Nat) (ps : List V), vs = [.ref x] ∧ H x = some (EO Ce dx c j z gi h sh) ∧ H h = some (.dK (heldK g ps)) ∧ ps.length < 70000 ∧ ∀ o H', Fr H o → Same H H' → H' o = some (.lst ps) → Q (.ref o) H'
theorem ok_emem (T : Txt K mg) : FnOk P w K mg base CX0 1 T.f_EvenSums_members T.d_EvenSums_members ["self"] (spEMem T.C_EvenSums) := by
  refine T.F_EvenSums_members.ok sc_EvenSums_members (fun vs H Q E h => ?_) (fun cdv A outer s H vs Q E hr h => ?_)
  · obtain ⟨x, dx, c, j, h, sh, z, gi, g, ps, rfl, _⟩ := h
    rfl
  · obtain ⟨x, dx, c, j, h, sh, z, gi, g, ps, rfl, h1, h2, lp, q⟩ := h
    refine ⟨_, (pss_one (ps_ret (pe_callTy (call_listV rfl) (by rfl) T.z_list (by decide +kernel) (pa_cons (pe_bm0 PySem.F.plainAttrs_dict PySem.F.slot_dict_values PySem.F.type_dict_values mt_vals (pe_fld (pv 0) rfl)) pa_nil)))), ?_⟩
    refine ⟨_, rfl, x, _, _, _, .ref h, rfl, h1, T.cl_EvenSums, T.n_EvenSums_held, rfl, ?_⟩
    refine ⟨.inr (.inr (.inl ⟨rfl, .inl ⟨_, h2⟩⟩)), ?_⟩
    refine ⟨h, _, rfl, rfl, h2, fun p np => ?_⟩
    have fp := Fr.mk np
    have s1 : Same H (upd H p (valsO p h)) := same_newF fp
    refine ⟨p, h, _, rfl, upd_same, s1 _ _ h2, fun o no => ?_⟩
    have fo := Fr.mk no
    have ev : (heldK g ps).map Prod.snd = ps := heldK_vals ps g
    rw [ev]
    exact q o _ (Fr.mk (s1.free no)) (s1.trans (same_newF fo)) upd_same
def spENum (Ce Cc : Addr) : Sp := fun vs H Q _ => ∃ (x dx c cdx l j h sh : Addr) (z : V) (gi : Int) (g : Nat) (ps : List V), vs = [.ref x] ∧ H x = some (EO Ce dx c j z gi h sh) ∧ H c = some (CO Cc cdx l false) ∧ H h = some (.dK (heldK g ps)) ∧ ∀ o H', Fr H o → Same H H' → H' o = some (.lst ((List.range' g ps.length).map fun i : Nat => V.int (i : Int))) → Q (.ref o) H'
theorem ok_enum (T : Txt K mg) : FnOk P w K mg base CX0 2 T.f_EvenSums_numbers T.d_EvenSums_numbers ["self"] (spENum T.C_EvenSums T.C_Calls) := by
  have G_Calls_check := ok_chk (P := P) (w := w) (base := base) T
  refine T.F_EvenSums_numbers.ok sc_EvenSums_numbers (fun vs H Q E h => ?_) (fun cdv A outer s H vs Q E hr h => ?_)
  · obtain ⟨x, dx, c, cdx, l, j, h, sh, z, gi, g, ps, rfl, _⟩ := h
    rfl
  · obtain ⟨x, dx, c, cdx, l, j, h, sh, z, gi, g, ps, rfl, h1, hc, h2, q⟩ := h
    refine ⟨_, (pss_cons (ps_expr (pe_meth0 (pe_fld (pv 0) rfl) T.cl_Calls ⟨T.m_Calls_check, T.t_Calls_check, T.k_Calls_check⟩ G_Calls_check (hr.mono (by omega)) T.b_Calls_check .nil pass0))
      (pss_one (ps_ret (pe_callTy (call_list_dK rfl) (by rfl) T.z_list (by decide +kernel) (pa_cons (pe_fld (pv 0) rfl) pa_nil))))), ?_⟩
    refine ⟨_, rfl, x, _, _, _, .ref c, rfl, h1, T.cl_EvenSums, T.n_EvenSums_calls, rfl, c, cdx, _, rfl, hc, rfl, c, cdx, l, rfl, hc, ?_⟩
    refine ⟨_, rfl, x, _, _, _, .ref h, rfl, h1, T.cl_EvenSums, T.n_EvenSums_held, rfl, h, heldK g ps, rfl, h2, fun o no => ?_⟩
    have fo := Fr.mk no
    rw [heldK_keys]
    exact q o _ fo (same_newF fo) upd_same
def spELen (Ce : Addr) : Sp := fun vs H Q _ => ∃ (x dx c j h sh : Addr) (z : V) (gi : Int) (g : Nat) (ps : List V), vs = [.ref x] ∧ H x = some (EO Ce dx c j z gi h sh) ∧ H h = some (.dK (heldK g ps)) ∧ Q (.int (ps.length : Int)) H
theorem ok_elen (T : Txt K mg) : FnOk P w K mg base CX0 1 T.f_EvenSums_len T.d_EvenSums_len ["self"] (spELen T.C_EvenSums) := by
  refine T.F_EvenSums_len.ok sc_EvenSums_len (fun vs H Q E h => ?_) (fun cdv A outer s H vs Q E hr h => ?_)
  · obtain ⟨x, dx, c, j, h, sh, z, gi, g, ps, rfl, _⟩ := h
    rfl
  · obtain ⟨x, dx, c, j, h, sh, z, gi, g, ps, rfl, h1, h2, q⟩ := h
    refine ⟨_, (pss_one (ps_ret (pe_callB call_lenD (by rfl) T.z_len (by decide +kernel) (pa_cons (pe_fld (pv 0) rfl) pa_nil)))), ?_⟩
    refine ⟨_, rfl, x, _, _, _, .ref h, rfl, h1, T.cl_EvenSums, T.n_EvenSums_held, rfl, h, _, rfl, h2, ?_⟩
    rw [heldK_len]
    exact q
end
end Ob

set_option Elab.async false
set_option linter.all false
set_option maxRecDepth 100000
set_option maxHeartbeats 1000000
namespace Ob
open PySem PySem.Spec PyProof.Rows L2
open LamX (Tabs TabB TabS ExtN)

set_option hygiene false in
local macro_rules
  | `(tactic| kp_flats) => `(tactic| first
    | assumption
    | exact upd_same
    | (apply atNew; assumption; kp_flats)
    | (apply atNe; (next => kbo_bools); kp_flats)
    | (apply atSame; assumption; kp_flats)
    | (apply atKp; assumption; (next => kaf_pre); kp_flats))
set_option hygiene false in
local macro_rules
  | `(tactic| kaf_pre) => `(tactic| first
    | assumption
    | exact not_nil
    | (apply not_cons; (next => kbo_bools); kaf_pre)
    | (apply not_app; (next => kaf_pre); kaf_pre))
set_option hygiene false in
local macro_rules
  | `(tactic| kbo_bools) => `(tactic| first
    | assumption
    | (apply Ne.symm; assumption)
    | (apply neN; assumption; kp_flats)
    | (apply neN'; assumption; kp_flats))
set_option hygiene false in
local macro_rules
  | `(tactic| o_reads) => `(tactic| first
    | with_reducible rfl
    | assumption
    | rfl
    | kp_flats
    | (show SqL _ _ _ _; first | assumption | (apply sqlOf; kp_flats) | (apply sqlSame; assumption; o_reads))
    | (show SqT _ _ _ _; first | assumption | (apply sqtOf; kp_flats) | (apply sqtAll; assumption) | (apply sqtSame; assumption; o_reads))
    | (show Cls _ _; first | exact T.cl_Calls | exact T.cl_Joiner | exact T.cl_Planner | exact T.cl_EvenSums | exact T.cl_Shape | exact T.cl_TwoStacks)
    | (show NoAttr _ _ _; first | exact T.n_Calls_entries | exact T.n_Calls_running | exact T.n_Joiner_calls | exact T.n_Joiner_join_call | exact T.n_Planner_entries | exact T.n_EvenSums_calls | exact T.n_EvenSums_joiner | exact T.n_EvenSums_zero | exact T.n_EvenSums_given | exact T.n_EvenSums_held | exact T.n_EvenSums_shape | exact T.n_Shape_front | exact T.n_Shape_back | exact T.n_Shape_late | exact T.n_Shape_renewed | exact T.n_TwoStacks_calls | exact T.n_TwoStacks_joiner | exact T.n_TwoStacks_zero | exact T.n_TwoStacks_given | exact T.n_TwoStacks_held | exact T.n_TwoStacks_front | exact T.n_TwoStacks_back)
    | (apply Or.inl; o_reads)
    | (apply Or.inr; o_reads)
    | (apply And.intro; (next => o_reads); o_reads)
    | (apply Exists.intro; o_reads)
    | exact Nat.le_of_ble_eq_true rfl
    | exact Nat.succ_ne_zero _
    | (show Fr _ _; kba_ints)
    | (show Same _ _; kd_subs)
    | (show Kp _ _ _; kxs_still)
    | (show (_ : Nat) ≤ _; simp only [List.length_append, List.length_map, List.length_cons, List.length_nil, List.length_take, List.length_drop, List.length_replicate, List.length_range, sizeLine_eq]; omega)
    | (show _ = none; apply Fr.h; kba_ints)
    | (show Bag _ _; first | assumption | (apply bag_putF; assumption; o_reads) | (apply bag_neF; (next => kbo_bools); o_reads) | (apply bag_kpR; assumption; (next => kaf_pre); o_reads))
    | omega
    | decide)
local macro_rules
  | `(tactic| o_readsAll) => `(tactic| repeat (first
    | (refine fun (pNew : Addr) (nNew : _ = none) => ?_; replace nNew := Fr.mk nNew)
    | (refine fun (xNew dNew : Addr) (nNew : _ = none) (mNew : _ = none) (eNew : dNew ≠ xNew) => ?_; replace nNew := Fr.mk nNew; replace mNew := Fr.mk mNew)
    | (apply And.intro; next => o_reads)
    | apply Exists.intro (α := V)
    | apply Exists.intro (α := Addr)
    | apply Exists.intro (α := Int)
    | apply Exists.intro (α := Bool)
    | apply Exists.intro (α := List V)
    | apply Exists.intro (α := List Nat)
    | apply Exists.intro (α := List (Str × V))
    | apply Exists.intro (α := List _)
    | apply Exists.intro (α := Str)
    | apply Exists.intro (α := HO)
    | apply Exists.intro (α := Sp)
    | apply Exists.intro (α := VK)))
set_option hygiene false in
local macro_rules
  | `(tactic| kba_ints) => `(tactic| first
    | assumption
    | (apply frUp; (first | assumption | (apply Ne.symm; assumption)); kba_ints)
    | (apply noneOf; assumption; intro oF eF; apply Exists.intro; kp_flats)
    | (apply frUp; (next => kbo_bools); kba_ints))
set_option hygiene false in
local macro_rules
  | `(tactic| kxs_still) => `(tactic| first
    | assumption
    | exact kp_refl _ _
    | (apply kp_newF; assumption; kxs_still)
    | (apply kp_new; assumption; kxs_still)
    | (apply kp_up; (next => o_fieldsN); kxs_still)
    | (apply kp_new; (next => kba_ints); kxs_still)
    | (apply kp_sameR; assumption; kxs_still)
    | (apply kp_transR; assumption; kxs_still)
    | (apply kp_freshR; assumption; (next => kaf_suf); kxs_still))
set_option hygiene false in
local macro_rules
  | `(tactic| kaf_suf) => `(tactic| first
    | assumption
    | exact subNil
    | (apply subCons; (first | (apply Or.inl; o_fieldsN) | (apply Or.inr; kba_ints)); kaf_suf)
    | (apply subApp; (next => kaf_suf); kaf_suf))
set_option hygiene false in
local macro_rules
  | `(tactic| o_fieldsN) => `(tactic| first
    | assumption
    | exact memA
    | (apply memB; o_fieldsN)
    | (apply memL; o_fieldsN)
    | (apply memR; o_fieldsN))
set_option hygiene false in
local macro_rules
  | `(tactic| kd_subs) => `(tactic| first
    | assumption
    | exact Same.refl _
    | (apply same_putF; assumption; kd_subs)
    | (apply same_putG; assumption; kd_subs)
    | (apply same_putF; (next => kba_ints); kd_subs)
    | (apply same_transR; assumption; kd_subs))

set_option pp.maxSteps 900
/-! ### two stacks -/
def TO (C dx c j : Addr) (z : V) (gi : Int) (h fr : Addr) (bv : V) : HO := .ins C dx [("calls", .ref c), ("joiner", .ref j), ("zero", z), ("given", .int gi), ("held", .ref h), ("front", .ref fr), ("back", bv)]
/-- the joins of a front of the k members before number n -/
def allE (n : Nat) : Nat → List (Nat × Nat × Nat)
  | 0 => []
  | k + 1 => allE n k ++ deepE n k
theorem allE_len {n : Nat} : ∀ {k : Nat}, (allE n k).length ≤ k
  | 0 => Nat.le_refl _
  | k + 1 => by
    show (allE n k ++ deepE n k).length ≤ k + 1
    rw [List.length_append]
    have h1 := allE_len (n := n) (k := k)
    have h2 : (deepE n k).length ≤ 1 := by
      unfold deepE
      split
      · exact Nat.zero_le _
      · exact Nat.le_refl _
    omega
theorem same_star {H : Hp} {p b2 : Addr} {a1 b1 c1 d1 e1 : HO} (np : H p = none) (nb2 : upd (upd H p a1) p b1 b2 = none) : Same H (upd (upd (upd (upd (upd H p a1) p b1) b2 c1) b2 d1) p e1) := fun b o e => by
  have n1 := ne_of_none e np
  have e2 : upd (upd H p a1) p b1 b = some o := by
    rw [upd_ne n1, upd_ne n1]
    exact e
  have n2 := ne_of_none e2 nb2
  rw [upd_ne n1, upd_ne n2, upd_ne n2]
  exact e2
section
variable {P : Program} {w : World} {K : PySem.W.Frag} {mg : Str → Option Value} {base : Heap} {n : Nat}
def spAll (P : Program) (w : World) (K : PySem.W.Frag) (mg : Str → Option Value) (base : Heap) (Cj : Addr × Addr) (Cc : Addr) (n : Nat) : Sp := fun vs H Q _ => ∃ (lb : Bool) (uv : List Addr) (f : V) (UR : List JEv → Hp → Prop) (Val : Nat → List V → V → Hp → Prop) (j jdx c cdx l : Addr) (u : List JEv) (es : List (Nat × Nat × Nat)) (ms : List V) (h : Addr) (g : Nat),
  vs = [.ref j, .ref h] ∧ JS P w K mg base n lb uv f UR Val ∧ JW Cj Cc lb uv f UR j jdx c cdx l u es H ∧ u.length < 80000 ∧ es.length < 80000 ∧ ms.length < 9000 ∧ H h = some (.dK (heldK g (ms.drop g))) ∧ h ∉ [c, l] ++ uv ∧ g ≤ ms.length ∧ Mems Val ms H ∧
  ∀ r ys d H', d.length = (allE ms.length (ms.length - g)).length → Fr H r → Kp ([c, l] ++ uv) H H' → JW Cj Cc lb uv f UR j jdx c cdx l (u ++ d) (es ++ allE ms.length (ms.length - g)) H' → H' r = some (.lst ys) → SpansTo Val ms ys ms.length (ms.length - g) H' → Q (.ref r) H'
theorem ok_all (T : Txt K mg) : FnOk P w K mg base CX0 (n + 8) T.f_all_spans T.d_all_spans ["joiner", "held"] (spAll P w K mg base (CJ T) T.C_Calls n) := by
  have G_deepened := ok_deep (P := P) (w := w) (base := base) (n := n) T
  refine T.F_all_spans.ok sc_all_spans (fun vs H Q E h => ?_) (fun cdv A outer s H vs Q E hr h => ?_)
  · obtain ⟨lb, uv, f, UR, Val, j, jdx, c, cdx, l, u, es, ms, h, g, rfl, _⟩ := h
    rfl
  · obtain ⟨lb, uv, f, UR, Val, j, jdx, c, cdx, l, u, es, ms, h, g, rfl, U, jw, lu, le, lm, h1, nh, lg, mm, q⟩ := h
    refine ⟨_, (pss_cons (ps_set (i := 2) sc_all_spans.nd rfl (.inl rfl) (pe_lst pa_nil))
      (pss_cons (ps_for PassesOwn.never rfl (RT.pi_revA (by rfl) T.z_reversed (pe_callTy (call_listI rfl) (by rfl) T.z_list (by decide +kernel) (pa_cons (pe_bm0 PySem.F.plainAttrs_dict PySem.F.slot_dict_items PySem.F.type_dict_items mt_items (pv 1)) pa_nil))) (pg_tup (by rfl) (pgs_cons (pg_name (i := 3) sc_all_spans.nd rfl (.inl rfl)) (pgs_cons (pg_name (i := 4) sc_all_spans.nd rfl (.inl rfl)) pgs_nil))) (pss_one (ps_set (i := 2) sc_all_spans.nd rfl (.inl rfl) (pe_call G_deepened (hr.mono (by omega)) rfl T.g_deepened T.F_deepened.kp T.b_deepened .nil pass0 (pa_cons (pv 0) (pa_cons (pv 2) (pa_cons (pv 3) (pa_cons (pv 4) pa_nil))))))))
      (pss_one (ps_ret (pv 2))))), ?_⟩
    refine ⟨Nat.zero_le _, fun a0 n0 => ?_⟩
    have f0 := Fr.mk n0
    have s0 : Same H (upd H a0 (.lst [])) := same_newF f0
    have e0 : upd H a0 (.lst []) a0 = some (.lst []) := upd_same
    have h1' := s0 _ _ h1
    generalize upd H a0 (.lst []) = Ha at s0 e0 h1' ⊢
    refine ⟨_, rfl, .inr (.inr (.inl ⟨rfl, .inl ⟨_, h1'⟩⟩)), h, _, rfl, rfl, h1', fun p np => ⟨p, h, _, rfl, upd_same, atNew (Fr.mk np) h1', fun ql L H1 s1 nq lL eL aL => ⟨ql, _, rfl, .inl ⟨sqlOf eL, ?_⟩⟩⟩⟩
    have s1' : Same H H1 := s0.trans ((same_newF (Fr.mk np)).trans s1)
    have e1 : H1 a0 = some (.lst []) := s1 _ _ (same_newF (Fr.mk np) _ _ e0)
    have jw1 := jw.same U s1'
    have m1 := jw1.mu U
    have nql : ql ∉ [c, l] ++ uv := (jw.same U (s0.trans (same_newF (o := DX.itemsO p h) (Fr.mk np)))).mu U |>.fr (Fr.mk nq)
    have ld0 : (ms.drop g).length = ms.length - g := List.length_drop ..
    rw [heldK_len, ld0] at lL
    refine RT.for_Itv (xs := L.map V.ref) (fun i σ H' => ∃ (sp : Addr) (ys : List V) (d : List JEv) (y3 y4 : Option V), σ = [some (.ref j), some (.ref h), some (.ref sp), y3, y4] ∧ d.length = (allE ms.length i).length ∧ Kp ([c, l] ++ uv) H1 H' ∧ JW (CJ T) T.C_Calls lb uv f UR j jdx c cdx l (u ++ d) (es ++ allE ms.length i) H' ∧ H' sp = some (.lst ys) ∧ SpansTo Val ms ys ms.length i H' ∧ Fr H sp)
      ⟨a0, [], [], none, none, rfl, rfl, kp_refl _ _, by rw [List.append_nil, show es ++ allE ms.length 0 = es from List.append_nil _]; exact jw1, e1, ⟨rfl, Nat.zero_le _, Nat.le_refl _, fun q s z => by cases q <;> cases z⟩, f0⟩ ?_ ?_ ?_
    · rintro i σ H' ⟨sp, ys, d, y3, y4, rfl, ld, kk, jw', esp, sps, fsp⟩
      exact sqlOf (kk.at_ _ _ eL nql)
    · rintro i x σ H' li hx ⟨sp, ys, d, y3, y4, rfl, ld, kk, jw', esp, sps, fsp⟩
      rw [List.length_map] at li hx
      rw [List.getElem?_map] at hx
      obtain ⟨tp, htp, rfl⟩ := Option.map_eq_some_iff.mp hx
      have hv : ∃ v, (heldK g (ms.drop g))[L.length - 1 - i]? = some (.inl ((g + (L.length - 1 - i) : Nat) : Int), v) ∧ ms[ms.length - 1 - i]? = some v := by
        have lk : L.length - 1 - i < (heldK g (ms.drop g)).length := by
          rw [heldK_len, ld0]
          omega
        have e2 : (heldK g (ms.drop g))[L.length - 1 - i]? = some ((heldK g (ms.drop g))[L.length - 1 - i].1, (heldK g (ms.drop g))[L.length - 1 - i].2) := List.getElem?_eq_getElem lk
        obtain ⟨e3, e4⟩ := heldK_at _ _ _ _ _ e2
        refine ⟨_, by rw [e2, e3], ?_⟩
        rw [List.getElem?_drop, show g + (L.length - 1 - i) = ms.length - 1 - i by omega] at e4
        exact e4
      obtain ⟨v, hv1, hv2⟩ := hv
      have et : H' tp = some (.tup [kV (.inl ((g + (L.length - 1 - i) : Nat) : Int)), v]) := kp_tup kk m1 (aL _ _ _ _ htp hv1)
      rw [show kV (.inl ((g + (L.length - 1 - i) : Nat) : Int)) = V.int ((ms.length - 1 - i : Nat) : Int) by rw [show g + (L.length - 1 - i) = ms.length - 1 - i by omega]; rfl] at et
      refine ⟨tp, _, rfl, sqtOf et, rfl, _, _, rfl, _, _, rfl, rfl, ?_⟩
      have k0' : Kp ([c, l] ++ uv) H H' := kp_trans (kp_same s1') kk
      have nsp : sp ∉ [c, l] ++ uv := (jw.mu U).fr fsp
      have al : Alone Val ms (ms.length - 1 - i) v H' := ⟨hv2, U.val (mm _ _ hv2) k0' (jw.mu U)⟩
      have la := allE_len (n := ms.length) (k := i)
      refine ⟨_, rfl, _, rfl, _, rfl, _, rfl, lb, uv, f, UR, Val, j, jdx, c, cdx, l, u ++ d, es ++ allE ms.length i, ms, ys, sp, v, ms.length, i, rfl, U, jw', by rw [List.length_append]; omega, by rw [List.length_append]; omega, by omega, esp, nsp, sps, by omega, by omega, al, fun r zs d2 H2 ld2 fr2 k2 jw2 er sps2 => ?_⟩
      refine ⟨r, zs, d ++ d2, _, _, rfl, ?_, kp_trans kk k2, ?_, er, sps2, fr_kp k0' (jw'.mu U) fr2⟩
      · show (d ++ d2).length = (allE ms.length i ++ deepE ms.length i).length
        rw [List.length_append, List.length_append, ld, ld2]
      · show JW _ _ _ _ _ _ _ _ _ _ _ _ (es ++ (allE ms.length i ++ deepE ms.length i)) H2
        rw [← List.append_assoc, ← List.append_assoc]
        exact jw2
    · rintro σ H' ⟨sp, ys, d, y3, y4, rfl, ld, kk, jw', esp, sps, fsp⟩
      rw [List.length_map, lL] at ld jw' sps
      exact ⟨_, rfl, q sp ys d H' ld fsp (kp_trans (kp_same s1') kk) jw' esp sps⟩
structure TwAt (Ct : Addr) (Cj : Addr × Addr) (Cc : Addr) (uv : List Addr) (f : V) (UR : List JEv → Hp → Prop) (Val : Nat → List V → V → Hp → Prop) (cs : List Addr) (x j jdx c cdx l : Addr) (z : V) (ms : List V) (u : List JEv) (es : List (Nat × Nat × Nat)) (g e : Nat) (H : Hp) : Prop where
  hx : ∃ (dx h fr : Addr) (bv : V) (xs : List V), H x = some (TO Ct dx c j z ms.length h fr bv) ∧ H h = some (.dK (heldK g (ms.drop g))) ∧ h ∉ cs ∧ H fr = some (.lst xs) ∧ fr ∉ cs ∧ SpansTo Val ms xs e (e - g) H ∧ OptSpan Val ms bv e ms.length H
  jw : JW Cj Cc true uv f UR j jdx c cdx l u es H
  ok : g ≤ e ∧ e ≤ ms.length
  mm : Mems Val ms H
  mu : Mu H cs
  sub : ∀ a ∈ [x, c, l] ++ uv, a ∈ cs
  nj : j ∉ cs
  nx : x ∉ [c, l] ++ uv
variable {uv : List Addr} {f z : V} {UR : List JEv → Hp → Prop} {Val : Nat → List V → V → Hp → Prop} {Ct : Addr} {Cj : Addr × Addr} {Cc x j jdx c cdx l : Addr} {u : List JEv} {es : List (Nat × Nat × Nat)} {H H1 : Hp} {ms ns : List V} {cs ds : List Addr} {g e : Nat}
theorem TwAt.kp (U : JS P w K mg base n true uv f UR Val) (h : TwAt Ct Cj Cc uv f UR Val cs x j jdx c cdx l z ms u es g e H) (k : Kp ds H H1) (m : Mu H ds) (m1 : Mu H1 ds) (s : ∀ a ∈ ds, a ∈ cs) (d : ∀ a ∈ [x, c, l] ++ uv, a ∉ ds) : TwAt Ct Cj Cc uv f UR Val cs x j jdx c cdx l z ms u es g e H1 := by
  obtain ⟨dx, hh, fr, bv, xs, h1, h2, h3, h4, h5, h6, h7⟩ := h.hx
  exact ⟨⟨dx, hh, fr, bv, xs, k.at_ _ _ h1 (d x (memL memA)), k.at_ _ _ h2 fun z => h3 (s _ z), h3, k.at_ _ _ h4 fun z => h5 (s _ z), h5, h6.kp U k m, h7.kp U k m⟩, h.jw.kp U k m (fun z => h.nj (s _ z)) (d c (memL (memB memA))) (d l (memL (memB (memB memA)))) fun a ma => d a (memR ma), h.ok, h.mm.kp U k m, h.mu.kp k m1, h.sub, h.nj, h.nx⟩
theorem TwAt.same (U : JS P w K mg base n true uv f UR Val) (h : TwAt Ct Cj Cc uv f UR Val cs x j jdx c cdx l z ms u es g e H) (s : Same H H1) : TwAt Ct Cj Cc uv f UR Val cs x j jdx c cdx l z ms u es g e H1 := h.kp U (ds := []) (kp_same s) mu_nil mu_nil (fun _ z => nomatch z) fun _ _ => not_nil
def spTwAdd (P : Program) (w : World) (K : PySem.W.Frag) (mg : Str → Option Value) (base : Heap) (Ct : Addr) (Cj : Addr × Addr) (Cc : Addr) (n : Nat) : Sp := fun vs H Q _ => ∃ (uv : List Addr) (f : V) (UR : List JEv → Hp → Prop) (Val : Nat → List V → V → Hp → Prop) (cs : List Addr) (x j jdx c cdx l : Addr) (z : V) (ms : List V) (u : List JEv) (es : List (Nat × Nat × Nat)) (g e : Nat) (m : V),
  vs = [.ref x, m] ∧ JS P w K mg base n true uv f UR Val ∧ TwAt Ct Cj Cc uv f UR Val cs x j jdx c cdx l z ms u es g e H ∧ u.length < 80000 ∧ es.length < 80000 ∧ ms.length < 70000 ∧ Val ms.length [m] m H ∧
  ∀ d H', d.length = (extE e ms.length).length → Kp ([x, c, l] ++ uv) H H' → TwAt Ct Cj Cc uv f UR Val cs x j jdx c cdx l z (ms ++ [m]) (u ++ d) (es ++ extE e ms.length) g e H' → Q (.int ms.length) H'
theorem ok_twadd (T : Txt K mg) : FnOk P w K mg base CX0 (n + 12) T.f_TwoStacks_add T.d_TwoStacks_add ["self", "member"] (spTwAdd P w K mg base T.C_TwoStacks (CJ T) T.C_Calls n) := by
  have G_Calls_check := ok_chk (P := P) (w := w) (base := base) T
  have G_extended := ok_ext (P := P) (w := w) (base := base) (n := n) T
  refine T.F_TwoStacks_add.ok sc_TwoStacks_add (fun vs H Q E h => ?_) (fun cdv A outer s H vs Q E hr h => ?_)
  · obtain ⟨uv, f, UR, Val, cs, x, j, jdx, c, cdx, l, z, ms, u, es, g, e, m, rfl, _⟩ := h
    rfl
  · obtain ⟨uv, f, UR, Val, cs, x, j, jdx, c, cdx, l, z, ms, u, es, g, e, m, rfl, U, tw, lu, le, lm, hm, q⟩ := h
    refine ⟨_, (pss_cons (ps_expr (pe_meth0 (pe_fld (pv 0) rfl) T.cl_Calls ⟨T.m_Calls_check, T.t_Calls_check, T.k_Calls_check⟩ G_Calls_check (hr.mono (by omega)) T.b_Calls_check .nil pass0))
      (pss_cons (ps_set (i := 2) sc_TwoStacks_add.nd rfl (.inl rfl) (pe_fld (pv 0) rfl))
      (pss_cons (ps_fld (pv 0) (pe_call G_extended (hr.mono (by omega)) rfl T.g_extended T.F_extended.kp T.b_extended .nil pass0 (pa_cons (pe_fld (pv 0) rfl) (pa_cons (pe_fld (pv 0) rfl) (pa_cons (pv 2) (pa_cons (pv 1) pa_nil))))) rfl)
      (pss_cons (ps_fld (pv 0) (Inf.pe_dstar (pe_fld (pv 0) rfl) (pv 2) (pv 1)) rfl)
      (pss_cons (ps_fld (pv 0) (pe_op op_add (pv 2) pe_int) rfl)
      (pss_one (ps_ret (pv 2)))))))), ?_⟩
    obtain ⟨dx, h, fr, bv, xs, h1, h2, h3, h4, h5, h6, h7⟩ := tw.hx
    obtain ⟨q1, q2⟩ := tw.ok
    have m0 := tw.jw.mu U
    have hlen : (ms ++ [m]).length = ms.length + 1 := by
      rw [List.length_append]
      rfl
    have hmm : (ms ++ [m])[ms.length]? = some m := by
      rw [List.getElem?_append_right (Nat.le_refl _), Nat.sub_self]
      rfl
    have sub2 : ∀ a ∈ [c, l] ++ uv, a ∈ cs := fun a m => tw.sub a (memB m)
    refine ⟨_, rfl, x, _, _, _, .ref c, rfl, h1, T.cl_TwoStacks, T.n_TwoStacks_calls, rfl, c, cdx, _, rfl, tw.jw.hc, rfl, c, cdx, l, rfl, tw.jw.hc, ?_⟩
    refine ⟨_, rfl, x, _, _, _, .int ms.length, rfl, h1, T.cl_TwoStacks, T.n_TwoStacks_given, rfl, ?_⟩
    refine ⟨_, rfl, x, _, _, _, .ref j, rfl, h1, T.cl_TwoStacks, T.n_TwoStacks_joiner, rfl, _, rfl, x, _, _, _, bv, rfl, h1, T.cl_TwoStacks, T.n_TwoStacks_back, rfl, _, rfl, _, rfl, true, uv, f, UR, Val, j, jdx, c, cdx, l, u, es, ms ++ [m], bv, m, e, ms.length, rfl, U, tw.jw, by omega, by omega, by rw [hlen]; omega, h7.more, ⟨hmm, hm⟩, fun r d H1 ld k1 jw1 sp1 => ?_⟩
    have h1' := k1.at_ _ _ h1 tw.nx
    refine ⟨_, rfl, x, _, dx, _, rfl, h1', T.cl_TwoStacks, T.n_TwoStacks_back, (by show 7 < 1000; decide), ?_⟩
    have nxh : h ≠ x := fun z => h3 (by rw [z]; exact tw.sub x memA)
    have h2' := k1.at_ _ _ h2 fun z => h3 (sub2 _ z)
    have h4' := k1.at_ _ _ h4 fun z => h5 (sub2 _ z)
    have kx : ∀ o : HO, Kp [x] H1 (upd H1 x o) := fun o => kp_up memA (kp_refl _ _)
    have m1x : Mu H1 [x] := mu_ins h1' mu_nil
    intro p np
    have fp := Fr.mk np
    have npx : x ≠ p := ne_of_none upd_same np
    have eh : upd H1 x (TO T.C_TwoStacks dx c j z ms.length h fr r) h = some (.dK (heldK g (ms.drop g))) := by
      rw [upd_ne nxh]
      exact h2'
    have nph : h ≠ p := ne_of_none eh np
    refine ⟨_, rfl, x, _, _, _, .ref h, rfl, atNe npx upd_same, T.cl_TwoStacks, T.n_TwoStacks_held, rfl, h, _, rfl, nph, upd_same, .inl (atNe nph eh), by rw [heldK_len, List.length_drop, sizeLine_eq]; omega, fun b2 nb2 => ⟨_, rfl, _, rfl, .inl (ms.length : Int), m, rfl, ?_⟩⟩
    have npb : p ≠ b2 := ne_of_none upd_same nb2
    refine ⟨npb, atNe npb upd_same, upd_same, ?_⟩
    have mu1 : Mu H1 cs := tw.mu.kp k1 (jw1.mu U)
    have np2 : p ∉ cs := (mu1.kp (kx _) (mu_ins upd_same mu_nil)).fr fp
    have s1 := same_star (a1 := .dK []) (b1 := .dK (heldK g (ms.drop g))) (c1 := .dK []) (d1 := .dK [(Sum.inl (ms.length : Int), m)]) (e1 := .dK (putK (heldK g (ms.drop g)) (Sum.inl (ms.length : Int)) m)) np nb2
    have e1 : ∀ Hz : Hp, upd Hz p (.dK (putK (heldK g (ms.drop g)) (Sum.inl (ms.length : Int)) m)) p = some (.dK (heldK g ((ms ++ [m]).drop g))) := fun Hz => by
      have := heldK_put (ps := ms.drop g) (g := g) (v := m)
      rw [List.length_drop, show g + (ms.length - g) = ms.length by omega] at this
      rw [upd_same, this, List.drop_append_of_le_length (by omega)]
    have kB := kp_trans (kx _) (kp_same (cs := [x]) s1)
    have ex := s1 _ _ upd_same
    have ep := e1 (upd (upd (upd (upd (upd H1 x (.ins T.C_TwoStacks dx (putF "back" r [("calls", .ref c), ("joiner", .ref j), ("zero", z), ("given", .int ms.length), ("held", .ref h), ("front", .ref fr), ("back", bv)]))) p (.dK [])) p (.dK (heldK g (ms.drop g)))) b2 (.dK [])) b2 (.dK [(Sum.inl (ms.length : Int), m)]))
    generalize upd (upd (upd (upd (upd (upd H1 x (.ins T.C_TwoStacks dx (putF "back" r [("calls", .ref c), ("joiner", .ref j), ("zero", z), ("given", .int ms.length), ("held", .ref h), ("front", .ref fr), ("back", bv)]))) p (.dK [])) p (.dK (heldK g (ms.drop g)))) b2 (.dK [])) b2 (.dK [(Sum.inl (ms.length : Int), m)])) p (.dK (putK (heldK g (ms.drop g)) (Sum.inl (ms.length : Int)) m)) = H3 at kB ex ep ⊢
    refine ⟨_, rfl, x, _, dx, _, rfl, ex, T.cl_TwoStacks, T.n_TwoStacks_held, (by show 7 < 1000; decide), ?_⟩
    refine ⟨_, rfl, _, _, rfl, rfl, _, rfl, x, _, dx, _, rfl, upd_same, T.cl_TwoStacks, T.n_TwoStacks_given, (by show 7 < 1000; decide), ?_⟩
    refine ⟨_, rfl, ?_⟩
    have k4 : ∀ o2 o3 : HO, Kp [x] H1 (upd (upd H3 x o2) x o3) := fun o2 o3 => kp_up memA (kp_up memA kB)
    have k3 : ∀ o2 o3 : HO, Kp [x] H3 (upd (upd H3 x o2) x o3) := fun o2 o3 => kp_up memA (kp_up memA (kp_refl _ _))
    have nxj : j ∉ [x] := not_cons (fun z => tw.nj (by rw [z]; exact tw.sub x memA)) not_nil
    have nxc : c ∉ [x] := not_cons (fun z => tw.nx (by rw [← z]; exact memA)) not_nil
    have nxl : l ∉ [x] := not_cons (fun z => tw.nx (by rw [← z]; exact memB memA)) not_nil
    have nxu : ∀ a ∈ uv, a ∉ [x] := fun a m => not_cons (fun z => tw.nx (by rw [← z]; exact memR m)) not_nil
    have nxp : p ∉ [x] := not_cons (Ne.symm npx) not_nil
    have sx : ∀ a ∈ [x], a ∈ cs := subCons (tw.sub x memA) subNil
    have mm1 : Mems Val (ms ++ [m]) H1 := fun i y hy => by
      rcases Nat.lt_or_ge i ms.length with c0 | c0
      · rw [List.getElem?_append_left c0] at hy
        exact U.val (tw.mm i y hy) k1 m0
      · rw [List.getElem?_append_right c0] at hy
        match hki : i - ms.length, hy with
        | 0, hy =>
          cases hy
          rw [show i = ms.length by omega]
          exact U.val hm k1 m0
        | k + 1, hy => cases hy
    refine q d _ ld (kp_trans (kp_more k1 fun a m => memB m) (kp_more (k4 _ _) (subCons memA subNil))) ⟨⟨dx, p, fr, r, xs, ?_, (k3 _ _).at_ _ _ ep nxp, np2, (k4 _ _).at_ _ _ h4' fun z => h5 (sx _ z), h5, ((h6.more).kp U k1 m0).kp U (k4 _ _) m1x, ?_⟩, jw1.kp U (k4 _ _) m1x nxj nxc nxl nxu, ⟨q1, by rw [hlen]; omega⟩, mm1.kp U (k4 _ _) m1x, mu1.kp (k4 _ _) (mu_ins upd_same mu_nil), tw.sub, tw.nj, tw.nx⟩
    · rw [hlen]
      exact upd_same
    · rw [hlen]
      exact .inr (sp1.kp U (k4 _ _) m1x)
end
end Ob

set_option Elab.async false
set_option linter.all false
set_option maxRecDepth 100000
set_option maxHeartbeats 1000000
namespace Ob
open PySem PySem.Spec PyProof.Rows L2
open LamX (Tabs TabB TabS ExtN)

set_option hygiene false in
local macro_rules
  | `(tactic| kp_flats) => `(tactic| first
    | assumption
    | exact upd_same
    | (apply atNew; assumption; kp_flats)
    | (apply atNe; (next => kbo_bools); kp_flats)
    | (apply atSame; assumption; kp_flats)
    | (apply atKp; assumption; (next => kaf_pre); kp_flats))
set_option hygiene false in
local macro_rules
  | `(tactic| kaf_pre) => `(tactic| first
    | assumption
    | exact not_nil
    | (apply not_cons; (next => kbo_bools); kaf_pre)
    | (apply not_app; (next => kaf_pre); kaf_pre))
set_option hygiene false in
local macro_rules
  | `(tactic| kbo_bools) => `(tactic| first
    | assumption
    | (apply Ne.symm; assumption)
    | (apply neN; assumption; kp_flats)
    | (apply neN'; assumption; kp_flats))
set_option hygiene false in
local macro_rules
  | `(tactic| o_reads) => `(tactic| first
    | with_reducible rfl
    | assumption
    | rfl
    | kp_flats
    | (show SqL _ _ _ _; first | assumption | (apply sqlOf; kp_flats) | (apply sqlSame; assumption; o_reads))
    | (show SqT _ _ _ _; first | assumption | (apply sqtOf; kp_flats) | (apply sqtAll; assumption) | (apply sqtSame; assumption; o_reads))
    | (show Cls _ _; first | exact T.cl_Calls | exact T.cl_Joiner | exact T.cl_Planner | exact T.cl_EvenSums | exact T.cl_Shape | exact T.cl_TwoStacks)
    | (show NoAttr _ _ _; first | exact T.n_Calls_entries | exact T.n_Calls_running | exact T.n_Joiner_calls | exact T.n_Joiner_join_call | exact T.n_Planner_entries | exact T.n_EvenSums_calls | exact T.n_EvenSums_joiner | exact T.n_EvenSums_zero | exact T.n_EvenSums_given | exact T.n_EvenSums_held | exact T.n_EvenSums_shape | exact T.n_Shape_front | exact T.n_Shape_back | exact T.n_Shape_late | exact T.n_Shape_renewed | exact T.n_TwoStacks_calls | exact T.n_TwoStacks_joiner | exact T.n_TwoStacks_zero | exact T.n_TwoStacks_given | exact T.n_TwoStacks_held | exact T.n_TwoStacks_front | exact T.n_TwoStacks_back)
    | (apply Or.inl; o_reads)
    | (apply Or.inr; o_reads)
    | (apply And.intro; (next => o_reads); o_reads)
    | (apply Exists.intro; o_reads)
    | exact Nat.le_of_ble_eq_true rfl
    | exact Nat.succ_ne_zero _
    | (show Fr _ _; kba_ints)
    | (show Same _ _; kd_subs)
    | (show Kp _ _ _; kxs_still)
    | (show (_ : Nat) ≤ _; simp only [List.length_append, List.length_map, List.length_cons, List.length_nil, List.length_take, List.length_drop, List.length_replicate, List.length_range, sizeLine_eq]; omega)
    | (show _ = none; apply Fr.h; kba_ints)
    | (show Bag _ _; first | assumption | (apply bag_putF; assumption; o_reads) | (apply bag_neF; (next => kbo_bools); o_reads) | (apply bag_kpR; assumption; (next => kaf_pre); o_reads))
    | omega
    | decide)
local macro_rules
  | `(tactic| o_readsAll) => `(tactic| repeat (first
    | (refine fun (pNew : Addr) (nNew : _ = none) => ?_; replace nNew := Fr.mk nNew)
    | (refine fun (xNew dNew : Addr) (nNew : _ = none) (mNew : _ = none) (eNew : dNew ≠ xNew) => ?_; replace nNew := Fr.mk nNew; replace mNew := Fr.mk mNew)
    | (apply And.intro; next => o_reads)
    | apply Exists.intro (α := V)
    | apply Exists.intro (α := Addr)
    | apply Exists.intro (α := Int)
    | apply Exists.intro (α := Bool)
    | apply Exists.intro (α := List V)
    | apply Exists.intro (α := List Nat)
    | apply Exists.intro (α := List (Str × V))
    | apply Exists.intro (α := List _)
    | apply Exists.intro (α := Str)
    | apply Exists.intro (α := HO)
    | apply Exists.intro (α := Sp)
    | apply Exists.intro (α := VK)))
set_option hygiene false in
local macro_rules
  | `(tactic| kba_ints) => `(tactic| first
    | assumption
    | (apply frUp; (first | assumption | (apply Ne.symm; assumption)); kba_ints)
    | (apply noneOf; assumption; intro oF eF; apply Exists.intro; kp_flats)
    | (apply frUp; (next => kbo_bools); kba_ints))
set_option hygiene false in
local macro_rules
  | `(tactic| kxs_still) => `(tactic| first
    | assumption
    | exact kp_refl _ _
    | (apply kp_newF; assumption; kxs_still)
    | (apply kp_new; assumption; kxs_still)
    | (apply kp_up; (next => o_fieldsN); kxs_still)
    | (apply kp_new; (next => kba_ints); kxs_still)
    | (apply kp_sameR; assumption; kxs_still)
    | (apply kp_transR; assumption; kxs_still)
    | (apply kp_freshR; assumption; (next => kaf_suf); kxs_still))
set_option hygiene false in
local macro_rules
  | `(tactic| kaf_suf) => `(tactic| first
    | assumption
    | exact subNil
    | (apply subCons; (first | (apply Or.inl; o_fieldsN) | (apply Or.inr; kba_ints)); kaf_suf)
    | (apply subApp; (next => kaf_suf); kaf_suf))
set_option hygiene false in
local macro_rules
  | `(tactic| o_fieldsN) => `(tactic| first
    | assumption
    | exact memA
    | (apply memB; o_fieldsN)
    | (apply memL; o_fieldsN)
    | (apply memR; o_fieldsN))
set_option hygiene false in
local macro_rules
  | `(tactic| kd_subs) => `(tactic| first
    | assumption
    | exact Same.refl _
    | (apply same_putF; assumption; kd_subs)
    | (apply same_putG; assumption; kd_subs)
    | (apply same_putF; (next => kba_ints); kd_subs)
    | (apply same_transR; assumption; kd_subs))

set_option pp.maxSteps 900
section
variable {P : Program} {w : World} {K : PySem.W.Frag} {mg : Str → Option Value} {base : Heap} {n : Nat}
def twRX (g e n : Nat) : Nat := if g = e then n else e
def twRE (g e n : Nat) : List (Nat × Nat × Nat) := if g = e then allE n (n - g) else []
def spTwRem (P : Program) (w : World) (K : PySem.W.Frag) (mg : Str → Option Value) (base : Heap) (Ct : Addr) (Cj : Addr × Addr) (Cc : Addr) (n : Nat) : Sp := fun vs H Q _ => ∃ (uv : List Addr) (f : V) (UR : List JEv → Hp → Prop) (Val : Nat → List V → V → Hp → Prop) (cs : List Addr) (x j jdx c cdx l : Addr) (z : V) (ms : List V) (u : List JEv) (es : List (Nat × Nat × Nat)) (g e : Nat),
  vs = [.ref x] ∧ JS P w K mg base n true uv f UR Val ∧ TwAt Ct Cj Cc uv f UR Val cs x j jdx c cdx l z ms u es g e H ∧ u.length < 80000 ∧ es.length < 80000 ∧ ms.length < 9000 ∧ g < ms.length ∧
  ∀ d H', d.length = (twRE g e ms.length).length → Kp ([x, c, l] ++ uv) H H' → TwAt Ct Cj Cc uv f UR Val cs x j jdx c cdx l z ms (u ++ d) (es ++ twRE g e ms.length) (g + 1) (twRX g e ms.length) H' → Q (.int g) H'
theorem ok_twrem (T : Txt K mg) : FnOk P w K mg base CX0 (n + 12) T.f_TwoStacks_remove_oldest T.d_TwoStacks_remove_oldest ["self"] (spTwRem P w K mg base T.C_TwoStacks (CJ T) T.C_Calls n) := by
  have G_Calls_check := ok_chk (P := P) (w := w) (base := base) T
  have G_check_filled := ok_filled (P := P) (w := w) (base := base) T
  have G_oldest := ok_oldest (P := P) (w := w) (base := base) T
  have G_without := ok_without1 (P := P) (w := w) (base := base) T
  have G_all_spans := ok_all (P := P) (w := w) (base := base) (n := n) T
  refine T.F_TwoStacks_remove_oldest.ok sc_TwoStacks_remove_oldest (fun vs H Q E h => ?_) (fun cdv A outer s H vs Q E hr h => ?_)
  · obtain ⟨uv, f, UR, Val, cs, x, j, jdx, c, cdx, l, z, ms, u, es, g, e, rfl, _⟩ := h
    rfl
  · obtain ⟨uv, f, UR, Val, cs, x, j, jdx, c, cdx, l, z, ms, u, es, g, e, rfl, U, tw, lu, le, lm, gl, q⟩ := h
    refine ⟨_, (pss_cons (ps_expr (pe_meth0 (pe_fld (pv 0) rfl) T.cl_Calls ⟨T.m_Calls_check, T.t_Calls_check, T.k_Calls_check⟩ G_Calls_check (hr.mono (by omega)) T.b_Calls_check .nil pass0))
      (pss_cons (ps_expr (pe_call G_check_filled (hr.mono (by omega)) rfl T.g_check_filled T.F_check_filled.kp T.b_check_filled .nil pass0 (pa_cons (pe_fld (pv 0) rfl) pa_nil)))
      (pss_cons (ps_set (i := 1) sc_TwoStacks_remove_oldest.nd rfl (.inl rfl) (pe_call G_oldest (hr.mono (by omega)) rfl T.g_oldest T.F_oldest.kp T.b_oldest .nil pass0 (pa_cons (pe_fld (pv 0) rfl) pa_nil)))
      (C8.pss_cut (ps_if (pt_cmpR op_eq (pe_callB call_len_seq (by rfl) T.z_len (by decide +kernel) (pa_cons (pe_fld (pv 0) rfl) pa_nil)) pe_int (nomark _)) (pss_cons (ps_fld (pv 0) (pe_call G_all_spans (hr.mono (by omega)) rfl T.g_all_spans T.F_all_spans.kp T.b_all_spans .nil pass0 (pa_cons (pe_fld (pv 0) rfl) (pa_cons (pe_fld (pv 0) rfl) pa_nil))) rfl)
        (pss_one (ps_fld (pv 0) pe_non rfl))) pss_nil)
      (pss_cons (ps_fld (pv 0) (pe_slice sl_list (pe_fld (pv 0) rfl) po_none (po_some (pe_un un_neg pe_int))) rfl)
      (pss_cons (ps_fld (pv 0) (pe_call G_without (hr.mono (by omega)) rfl T.g_without T.F_without.kp T.b_without .nil pass0 (pa_cons (pe_fld (pv 0) rfl) (pa_cons (pe_lst (pa_cons (pv 1) pa_nil)) pa_nil))) rfl)
      (pss_one (ps_ret (pv 1))))))))), ?_⟩
    obtain ⟨dx, h, fr, bv, xs, h1, h2, h3, h4, h5, h6, h7⟩ := tw.hx
    obtain ⟨q1, q2⟩ := tw.ok
    have ld0 : (ms.drop g).length = ms.length - g := List.length_drop ..
    have hf : fstN g (ms.drop g) = .int g := if_neg (by omega)
    have sub2 : ∀ a ∈ [c, l] ++ uv, a ∈ cs := fun a m => tw.sub a (memB m)
    have lx := h6.len
    refine ⟨_, rfl, x, _, _, _, .ref c, rfl, h1, T.cl_TwoStacks, T.n_TwoStacks_calls, rfl, c, cdx, _, rfl, tw.jw.hc, rfl, c, cdx, l, rfl, tw.jw.hc, ?_⟩
    refine ⟨_, rfl, x, _, _, _, .ref h, rfl, h1, T.cl_TwoStacks, T.n_TwoStacks_held, rfl, h, g, ms.drop g, rfl, h2, by omega, ?_⟩
    refine ⟨_, rfl, x, _, _, _, .ref h, rfl, h1, T.cl_TwoStacks, T.n_TwoStacks_held, rfl, h, g, ms.drop g, rfl, h2, ?_⟩
    rw [hf]
    have kxj : ∀ {Ha Hb : Hp}, Kp [x] Ha Hb → (TwAt T.C_TwoStacks (CJ T) T.C_Calls uv f UR Val cs x j jdx c cdx l z ms u es g e H) → j ∉ [x] ∧ c ∉ [x] ∧ l ∉ [x] ∧ ∀ a ∈ uv, a ∉ [x] := fun _ _ =>
      ⟨not_cons (fun z => tw.nj (by rw [z]; exact tw.sub x memA)) not_nil, not_cons (fun z => tw.nx (by rw [← z]; exact memA)) not_nil, not_cons (fun z => tw.nx (by rw [← z]; exact memB memA)) not_nil, fun a m => not_cons (fun z => tw.nx (by rw [← z]; exact memR m)) not_nil⟩
    obtain ⟨nxj, nxc, nxl, nxu⟩ := kxj (kp_refl _ H) tw
    have sx : ∀ a ∈ [x], a ∈ cs := subCons (tw.sub x memA) subNil
    refine ⟨fun σ H' => σ = [some (.ref x), some (.int g)] ∧ ∃ d : List JEv, d.length = (twRE g e ms.length).length ∧ Kp ([x, c, l] ++ uv) H H' ∧ TwAt T.C_TwoStacks (CJ T) T.C_Calls uv f UR Val cs x j jdx c cdx l z ms (u ++ d) (es ++ twRE g e ms.length) g (twRX g e ms.length) H', ?_, ?_⟩
    · refine ⟨_, rfl, x, _, _, _, .ref fr, rfl, h1, T.cl_TwoStacks, T.n_TwoStacks_front, rfl, fr, xs, rfl, .inl (sqlOf h4), rfl, _, rfl, ?_⟩
      by_cases c0 : g = e
      · refine ifT (decide_eq_true (by rw [lx]; exact congrArg V.int (by omega))) ?_
        refine ⟨_, rfl, x, _, _, _, .ref j, rfl, h1, T.cl_TwoStacks, T.n_TwoStacks_joiner, rfl, _, rfl, x, _, _, _, .ref h, rfl, h1, T.cl_TwoStacks, T.n_TwoStacks_held, rfl, true, uv, f, UR, Val, j, jdx, c, cdx, l, u, es, ms, h, g, rfl, U, tw.jw, lu, le, lm, h2, fun z => h3 (sub2 _ z), by omega, tw.mm, fun r ys d H1 ld fr1 k1 jw1 er sps => ?_⟩
        have h1' := k1.at_ _ _ h1 tw.nx
        refine ⟨_, rfl, x, _, dx, _, rfl, h1', T.cl_TwoStacks, T.n_TwoStacks_front, (by show 7 < 1000; decide), ?_⟩
        refine ⟨_, rfl, x, _, dx, _, rfl, upd_same, T.cl_TwoStacks, T.n_TwoStacks_back, (by show 7 < 1000; decide), ?_⟩
        have k4 : ∀ o1 o2 : HO, Kp [x] H1 (upd (upd H1 x o1) x o2) := fun o1 o2 => kp_up memA (kp_up memA (kp_refl _ _))
        have m3 : Mu H1 [x] := mu_ins h1' mu_nil
        have nr : r ∉ cs := tw.mu.fr fr1
        have mu1 : Mu H1 cs := tw.mu.kp k1 (jw1.mu U)
        have eE : twRE g e ms.length = allE ms.length (ms.length - g) := if_pos c0
        have eX : twRX g e ms.length = ms.length := if_pos c0
        rw [eE, eX]
        have npr : r ∉ [x] := fun z => nr (sx _ z)
        have nph : h ∉ [x] := fun z => h3 (sx _ z)
        refine ⟨rfl, d, ld, kp_trans (kp_more k1 fun a m => memB m) (kp_more (k4 _ _) (subCons memA subNil)), ⟨⟨dx, h, r, .non, ys, upd_same, (k4 _ _).at_ _ _ (k1.at_ _ _ h2 fun z => h3 (sub2 _ z)) nph, h3, (k4 _ _).at_ _ _ er npr, nr, sps.kp U (k4 _ _) m3, .inl ⟨rfl, rfl, Nat.le_refl _⟩⟩, jw1.kp U (k4 _ _) m3 nxj nxc nxl nxu, ⟨by omega, Nat.le_refl _⟩, ?_, ?_, tw.sub, tw.nj, tw.nx⟩⟩
        · exact (tw.mm.kp U k1 (tw.jw.mu U)).kp U (k4 _ _) m3
        · exact mu1.kp (k4 _ _) (mu_ins upd_same mu_nil)
      · refine ifF (decide_eq_false fun y => ?_) ?_
        · rw [lx] at y
          injection y with y
          omega
        have eE : twRE g e ms.length = [] := if_neg c0
        have eX : twRX g e ms.length = e := if_neg c0
        rw [eE, eX]
        refine ⟨rfl, [], rfl, kp_refl _ _, ?_⟩
        rw [List.append_nil, List.append_nil]
        exact tw
    · rintro σ H1 ⟨rfl, d, ld, k1, tw1⟩
      have gx : g < twRX g e ms.length := by
        unfold twRX
        split <;> omega
      obtain ⟨dx, h, fr, bv, xs, h1, h2, h3, h4, h5, h6, h7⟩ := tw1.hx
      refine ⟨_, rfl, x, _, _, _, .ref fr, rfl, h1, T.cl_TwoStacks, T.n_TwoStacks_front, rfl, 1, rfl, -1, rfl, fr, xs, rfl, sqlOf h4, fun fr2 nfr2 => ?_⟩
      have ff := Fr.mk nfr2
      rw [cut_but]
      have s1 : Same H1 (upd H1 fr2 (.lst (xs.take (xs.length - 1)))) := same_newF ff
      have e1 : upd H1 fr2 (.lst (xs.take (xs.length - 1))) fr2 = some (.lst (xs.take (xs.length - 1))) := upd_same
      have nfc : fr2 ∉ cs := tw1.mu.fr ff
      generalize upd H1 fr2 (.lst (xs.take (xs.length - 1))) = H2 at s1 e1 ⊢
      have tw2 := tw1.same U s1
      have h1' := s1 _ _ h1
      refine ⟨_, rfl, x, _, dx, _, rfl, h1', T.cl_TwoStacks, T.n_TwoStacks_front, (by show 7 < 1000; decide), ?_⟩
      refine ⟨_, rfl, x, _, _, _, .ref h, rfl, upd_same, T.cl_TwoStacks, T.n_TwoStacks_held, rfl, _, rfl, (by decide : 1 ≤ sizeLine), fun p np => ?_⟩
      have fp := Fr.mk np
      have m3 : Mu H2 [x] := mu_ins h1' mu_nil
      have k4 : ∀ o1 : HO, Kp [x] H2 (upd H2 x o1) := fun o1 => kp_up memA (kp_refl _ _)
      have nph : h ∉ [x] := fun z => h3 (sx _ z)
      have s0 := same_newF (o := .lst [.int g]) fp
      have jw3 := (tw2.jw.kp U (k4 _) m3 nxj nxc nxl nxu).same U s0
      have mu3 := (tw2.mu.kp (k4 _) (mu_ins upd_same mu_nil)).same s0
      refine ⟨h, p, g, ms.drop g, rfl, s0 _ _ ((k4 _).at_ _ _ (s1 _ _ h2) nph), upd_same, by omega, fun h' H4 s4 fh' e4 => ?_⟩
      rw [List.drop_drop] at e4
      have k5 : Kp [x] H2 H4 := kp_trans (k4 _) (kp_same (s0.trans s4))
      have ex : H4 x = some (TO T.C_TwoStacks dx c j z ms.length h fr2 bv) := s4 _ _ (s0 _ _ upd_same)
      have jw4 := jw3.same U s4
      have mu4 := mu3.same s4
      have nh' : h' ∉ cs := mu3.fr fh'
      refine ⟨_, rfl, x, _, dx, _, rfl, ex, T.cl_TwoStacks, T.n_TwoStacks_held, (by show 7 < 1000; decide), ?_⟩
      refine ⟨_, rfl, ?_⟩
      have k6 : ∀ o : HO, Kp [x] H4 (upd H4 x o) := fun o => kp_up memA (kp_refl _ _)
      have k56 : ∀ o : HO, Kp [x] H2 (upd H4 x o) := fun o => kp_trans k5 (k6 o)
      have m4 : Mu H4 [x] := mu_ins ex mu_nil
      have hx := h6
      rw [show twRX g e ms.length - g = (twRX g e ms.length - (g + 1)) + 1 by omega] at hx
      have kc := kp_same (cs := []) s1
      refine q d _ ld (kp_trans k1 (kp_trans (kp_same s1) (kp_more (k56 _) (subCons memA subNil)))) ⟨⟨dx, h', fr2, bv, _, upd_same, (k6 _).at_ _ _ e4 fun z => nh' (sx _ z), nh', (k56 _).at_ _ _ e1 fun z => nfc (sx _ z), nfc, (hx.cut.kp U kc mu_nil).kp U (k56 _) m3, (h7.kp U kc mu_nil).kp U (k56 _) m3⟩, jw4.kp U (k6 _) m4 nxj nxc nxl nxu, ⟨gx, tw1.ok.2⟩, ?_, ?_, tw.sub, tw.nj, tw.nx⟩
      · exact tw2.mm.kp U (k56 _) m3
      · exact mu4.kp (k6 _) (mu_ins upd_same mu_nil)
def twN (g e n : Nat) : Nat := (if g < e then 1 else 0) + (if e < n then 1 else 0)
def twB (g e n : Nat) : Nat → Nat
  | 0 => g
  | 1 => if g < e then e else n
  | _ => n
def twTE (g e n : Nat) : List (Nat × Nat × Nat) := wholeE (twB g e n) (twN g e n)
theorem tw_end {g e n : Nat} (h1 : g ≤ e) (h2 : e ≤ n) (gl : g < n) : 0 < twN g e n ∧ twB g e n (twN g e n) = n ∧ twN g e n ≤ 2 := by
  unfold twN
  by_cases c : g < e
  · rw [if_pos c]
    by_cases d : e < n
    · rw [if_pos d]
      exact ⟨by decide, rfl, by decide⟩
    · rw [if_neg d]
      refine ⟨by decide, ?_, by decide⟩
      show (if g < e then e else n) = n
      rw [if_pos c]
      omega
  · rw [if_neg c, if_pos (show e < n by omega)]
    refine ⟨by decide, ?_, by decide⟩
    show (if g < e then e else n) = n
    rw [if_neg c]
def spTwTot (P : Program) (w : World) (K : PySem.W.Frag) (mg : Str → Option Value) (base : Heap) (Ct : Addr) (Cj : Addr × Addr) (Cc : Addr) (n : Nat) : Sp := fun vs H Q _ => ∃ (uv : List Addr) (f : V) (UR : List JEv → Hp → Prop) (Val : Nat → List V → V → Hp → Prop) (cs : List Addr) (x j jdx c cdx l : Addr) (z : V) (ms : List V) (u : List JEv) (es : List (Nat × Nat × Nat)) (g e : Nat),
  vs = [.ref x] ∧ JS P w K mg base n true uv f UR Val ∧ TwAt Ct Cj Cc uv f UR Val cs x j jdx c cdx l z ms u es g e H ∧ u.length < 80000 ∧ es.length < 80000 ∧ ms.length < 70000 ∧ (ms.length ≤ g → Q z H) ∧
  ∀ v d H', g < ms.length → d.length = (twTE g e ms.length).length → Kp ([c, l] ++ uv) H H' → TwAt Ct Cj Cc uv f UR Val cs x j jdx c cdx l z ms (u ++ d) (es ++ twTE g e ms.length) g e H' → Val g (seg ms g ms.length) v H' → Q v H'
theorem ok_twtot (T : Txt K mg) : FnOk P w K mg base CX0 (n + 12) T.f_TwoStacks_total T.d_TwoStacks_total ["self"] (spTwTot P w K mg base T.C_TwoStacks (CJ T) T.C_Calls n) := by
  have G_Calls_check := ok_chk (P := P) (w := w) (base := base) T
  have G_filled_spans := ok_fillS (P := P) (w := w) (base := base) T
  have G_whole_span := ok_whole (P := P) (w := w) (base := base) (n := n) T
  refine T.F_TwoStacks_total.ok sc_TwoStacks_total (fun vs H Q E h => ?_) (fun cdv A outer s H vs Q E hr h => ?_)
  · obtain ⟨uv, f, UR, Val, cs, x, j, jdx, c, cdx, l, z, ms, u, es, g, e, rfl, _⟩ := h
    rfl
  · obtain ⟨uv, f, UR, Val, cs, x, j, jdx, c, cdx, l, z, ms, u, es, g, e, rfl, U, tw, lu, le, lm, qz, q⟩ := h
    refine ⟨_, (pss_cons (ps_expr (pe_meth0 (pe_fld (pv 0) rfl) T.cl_Calls ⟨T.m_Calls_check, T.t_Calls_check, T.k_Calls_check⟩ G_Calls_check (hr.mono (by omega)) T.b_Calls_check .nil pass0))
      (pss_cons (ps_if (pt_cmpR op_eq (pe_callB call_lenD (by rfl) T.z_len (by decide +kernel) (pa_cons (pe_fld (pv 0) rfl) pa_nil)) pe_int (nomark _)) (pss_one (ps_ret (pe_fld (pv 0) rfl))) pss_nil)
      (pss_one (ps_ret (pe_ix (r := rIxT K) ix_tup (pe_call G_whole_span (hr.mono (by omega)) rfl T.g_whole_span T.F_whole_span.kp T.b_whole_span .nil pass0 (pa_cons (pe_fld (pv 0) rfl) (pa_cons (pe_call G_filled_spans (hr.mono (by omega)) rfl T.g_filled_spans T.F_filled_spans.kp T.b_filled_spans .nil pass0 (pa_cons (pe_fld (pv 0) rfl) (pa_cons (pe_lst (pa_cons (pe_fld (pv 0) rfl) pa_nil)) pa_nil))) pa_nil))) pe_int (fun _ _ => rfl)))))), ?_⟩
    obtain ⟨dx, h, fr, bv, xs, h1, h2, h3, h4, h5, h6, h7⟩ := tw.hx
    obtain ⟨q1, q2⟩ := tw.ok
    have ld0 : (ms.drop g).length = ms.length - g := List.length_drop ..
    have lx := h6.len
    refine ⟨_, rfl, x, _, _, _, .ref c, rfl, h1, T.cl_TwoStacks, T.n_TwoStacks_calls, rfl, c, cdx, _, rfl, tw.jw.hc, rfl, c, cdx, l, rfl, tw.jw.hc, ?_⟩
    refine ⟨_, rfl, x, _, _, _, .ref h, rfl, h1, T.cl_TwoStacks, T.n_TwoStacks_held, rfl, h, _, rfl, h2, rfl, _, rfl, ?_⟩
    by_cases c0 : ms.length ≤ g
    · refine ifT (decide_eq_true (by rw [heldK_len, ld0]; exact congrArg V.int (by omega))) ?_
      exact ⟨_, rfl, x, _, _, _, z, rfl, h1, T.cl_TwoStacks, T.n_TwoStacks_zero, rfl, qz c0⟩
    · have gl : g < ms.length := by omega
      refine ifF (decide_eq_false fun y => ?_) ?_
      · rw [heldK_len, ld0] at y
        injection y with y
        omega
      obtain ⟨t1, t2, t3⟩ := tw_end q1 q2 gl
      refine ⟨_, rfl, x, _, _, _, .ref j, rfl, h1, T.cl_TwoStacks, T.n_TwoStacks_joiner, rfl, _, rfl, x, _, _, _, .ref fr, rfl, h1, T.cl_TwoStacks, T.n_TwoStacks_front, rfl, _, rfl, x, _, _, _, bv, rfl, h1, T.cl_TwoStacks, T.n_TwoStacks_back, rfl, (by decide : 1 ≤ sizeLine), fun bl nbl => ?_⟩
      have fbl := Fr.mk nbl
      have s1 : Same H (upd H bl (.lst [bv])) := same_newF fbl
      refine ⟨fr, bl, xs, [bv], rfl, s1 _ _ h4, upd_same, by omega, (by show 1 < 90; decide), all_cons (h7.imp (fun z => z.1) fun z => ⟨z.2.2.choose, z.2.2.choose_spec.choose_spec.1⟩) (fun _ z => nomatch z), fun p H2 s2 fp e2 => ?_⟩
      have s02 := s1.trans s2
      have kc := kp_same (cs := []) s02
      have key : ∃ L, xs.drop (xs.length - 1) ++ [bv].filter (fun y => !decide (y = V.non)) = L ∧ L.length = twN g e ms.length ∧ ∀ q s, L[q]? = some s → SpanAt Val ms s (twB g e ms.length q) (twB g e ms.length (q + 1)) H2 := by
        unfold twN
        have sp : ∀ {s : V} {i j : Nat} {H : Hp}, SpanAt Val ms s i j H → decide (s = V.non) = false := fun {s i j H} h => by
          obtain ⟨_, _, p, v, z, _⟩ := h
          rw [z]
          exact decide_eq_false fun z => nomatch z
        have hb : (e < ms.length ∧ decide (bv = V.non) = false ∧ SpanAt Val ms bv e ms.length H2) ∨ (e = ms.length ∧ bv = .non) := h7.elim (fun z => .inr ⟨z.2.1, z.1⟩) fun z => .inl ⟨z.1, sp z, z.kp U kc mu_nil⟩
        by_cases c1 : g < e
        · have hx : ∃ s0, xs[e - g - 1]? = some s0 := ⟨_, List.getElem?_eq_getElem (by omega)⟩
          obtain ⟨s0, hx⟩ := hx
          have hs0 := (h6.at_ _ _ hx).kp U kc mu_nil
          rw [show e - 1 - (e - g - 1) = g by omega] at hs0
          have ed : xs.drop (xs.length - 1) = [s0] := by
            rw [show xs.length - 1 = e - g - 1 by omega, List.drop_eq_getElem_cons (by omega), List.drop_eq_nil_of_le (by omega)]
            rw [List.getElem?_eq_getElem (by omega)] at hx
            rw [Option.some.inj hx]
          have b1 : twB g e ms.length 1 = e := if_pos c1
          rw [ed, if_pos c1]
          rcases hb with ⟨c2, d2, hh⟩ | ⟨c2, d2⟩
          · rw [if_pos c2]
            refine ⟨[s0, bv], ?_, rfl, fun q s z => ?_⟩
            · rw [List.filter_cons, d2]
              rfl
            · match q, z with
              | 0, z =>
                cases z
                rw [b1]
                exact hs0
              | 1, z =>
                cases z
                rw [b1]
                exact hh
              | q + 2, z => cases q <;> cases z
          · rw [if_neg (by omega)]
            refine ⟨[s0], ?_, rfl, fun q s z => ?_⟩
            · rw [d2]
              rfl
            · match q, z with
              | 0, z =>
                cases z
                rw [b1]
                exact hs0
              | q + 1, z => cases q <;> cases z
        · have b1 : twB g e ms.length 1 = ms.length := if_neg c1
          rw [if_neg c1, if_pos (show e < ms.length by omega)]
          rcases hb with ⟨c2, d2, hh⟩ | ⟨c2, d2⟩
          · refine ⟨[bv], ?_, rfl, fun q s z => ?_⟩
            · rw [List.filter_cons, d2, List.drop_eq_nil_of_le (by omega)]
              rfl
            · match q, z with
              | 0, z =>
                cases z
                rw [b1]
                show SpanAt Val ms bv g ms.length H2
                rw [show g = e by omega]
                exact hh
              | q + 1, z => cases q <;> cases z
          · omega
      obtain ⟨L, eL, lL, aL⟩ := key
      rw [eL] at e2
      have np : p ∉ [c, l] ++ uv := fun y => (tw.mu.same s1).fr fp (tw.sub _ (memB y))
      refine ⟨true, uv, f, UR, Val, j, jdx, c, cdx, l, u, es, ms, L, p, twB g e ms.length, rfl, U, tw.jw.same U s02, by omega, by omega, by omega, e2, np, aL, fun v d H3 ld k2 jw2 a0 a1 => ?_⟩
      rw [lL] at ld jw2 a1
      obtain ⟨g1, g2, pv, vv, rfl, g3, g4⟩ := a1 t1
      refine ⟨pv, _, 2, vv, rfl, rfl, sqtOf g3, atI_nat (j := 2) rfl, ?_⟩
      have tw1 := tw.same U s02
      have m1 := tw1.jw.mu U
      have sub2 : ∀ a ∈ [c, l] ++ uv, a ∈ cs := fun a m => tw.sub a (memB m)
      obtain ⟨dx1, hh1, fr1, bv1, xs1, i1, i2, i3, i4, i5, i6, i7⟩ := tw1.hx
      refine q vv d H3 gl ld (kp_trans (kp_same s02) k2) ⟨⟨dx1, hh1, fr1, bv1, xs1, k2.at_ _ _ i1 tw.nx, k2.at_ _ _ i2 fun y => i3 (sub2 _ y), i3, k2.at_ _ _ i4 fun y => i5 (sub2 _ y), i5, i6.kp U k2 m1, i7.kp U k2 m1⟩, jw2, tw.ok, tw1.mm.kp U k2 m1, tw1.mu.kp k2 (jw2.mu U), tw.sub, tw.nj, tw.nx⟩ ?_
      rw [t2] at g4
      exact g4
end
end Ob

set_option Elab.async false
set_option linter.all false
set_option maxRecDepth 100000
set_option maxHeartbeats 1000000
namespace Ob
open PySem PySem.Spec PyProof.Rows L2
open LamX (Tabs TabB TabS ExtN)

set_option hygiene false in
local macro_rules
  | `(tactic| kp_flats) => `(tactic| first
    | assumption
    | exact upd_same
    | (apply atNew; assumption; kp_flats)
    | (apply atNe; (next => kbo_bools); kp_flats)
    | (apply atSame; assumption; kp_flats)
    | (apply atKp; assumption; (next => kaf_pre); kp_flats))
set_option hygiene false in
local macro_rules
  | `(tactic| kaf_pre) => `(tactic| first
    | assumption
    | exact not_nil
    | (apply not_cons; (next => kbo_bools); kaf_pre)
    | (apply not_app; (next => kaf_pre); kaf_pre))
set_option hygiene false in
local macro_rules
  | `(tactic| kbo_bools) => `(tactic| first
    | assumption
    | (apply Ne.symm; assumption)
    | (apply neN; assumption; kp_flats)
    | (apply neN'; assumption; kp_flats))
set_option hygiene false in
local macro_rules
  | `(tactic| o_reads) => `(tactic| first
    | with_reducible rfl
    | assumption
    | rfl
    | kp_flats
    | (show SqL _ _ _ _; first | assumption | (apply sqlOf; kp_flats) | (apply sqlSame; assumption; o_reads))
    | (show SqT _ _ _ _; first | assumption | (apply sqtOf; kp_flats) | (apply sqtAll; assumption) | (apply sqtSame; assumption; o_reads))
    | (show Cls _ _; first | exact T.cl_Calls | exact T.cl_Joiner | exact T.cl_Planner | exact T.cl_EvenSums | exact T.cl_Shape | exact T.cl_TwoStacks)
    | (show NoAttr _ _ _; first | exact T.n_Calls_entries | exact T.n_Calls_running | exact T.n_Joiner_calls | exact T.n_Joiner_join_call | exact T.n_Planner_entries | exact T.n_EvenSums_calls | exact T.n_EvenSums_joiner | exact T.n_EvenSums_zero | exact T.n_EvenSums_given | exact T.n_EvenSums_held | exact T.n_EvenSums_shape | exact T.n_Shape_front | exact T.n_Shape_back | exact T.n_Shape_late | exact T.n_Shape_renewed | exact T.n_TwoStacks_calls | exact T.n_TwoStacks_joiner | exact T.n_TwoStacks_zero | exact T.n_TwoStacks_given | exact T.n_TwoStacks_held | exact T.n_TwoStacks_front | exact T.n_TwoStacks_back)
    | (apply Or.inl; o_reads)
    | (apply Or.inr; o_reads)
    | (apply And.intro; (next => o_reads); o_reads)
    | (apply Exists.intro; o_reads)
    | exact Nat.le_of_ble_eq_true rfl
    | exact Nat.succ_ne_zero _
    | (show Fr _ _; kba_ints)
    | (show Same _ _; kd_subs)
    | (show Kp _ _ _; kxs_still)
    | (show (_ : Nat) ≤ _; simp only [List.length_append, List.length_map, List.length_cons, List.length_nil, List.length_take, List.length_drop, List.length_replicate, List.length_range, sizeLine_eq]; omega)
    | (show _ = none; apply Fr.h; kba_ints)
    | (show Bag _ _; first | assumption | (apply bag_putF; assumption; o_reads) | (apply bag_neF; (next => kbo_bools); o_reads) | (apply bag_kpR; assumption; (next => kaf_pre); o_reads))
    | omega
    | decide)
local macro_rules
  | `(tactic| o_readsAll) => `(tactic| repeat (first
    | (refine fun (pNew : Addr) (nNew : _ = none) => ?_; replace nNew := Fr.mk nNew)
    | (refine fun (xNew dNew : Addr) (nNew : _ = none) (mNew : _ = none) (eNew : dNew ≠ xNew) => ?_; replace nNew := Fr.mk nNew; replace mNew := Fr.mk mNew)
    | (apply And.intro; next => o_reads)
    | apply Exists.intro (α := V)
    | apply Exists.intro (α := Addr)
    | apply Exists.intro (α := Int)
    | apply Exists.intro (α := Bool)
    | apply Exists.intro (α := List V)
    | apply Exists.intro (α := List Nat)
    | apply Exists.intro (α := List (Str × V))
    | apply Exists.intro (α := List _)
    | apply Exists.intro (α := Str)
    | apply Exists.intro (α := HO)
    | apply Exists.intro (α := Sp)
    | apply Exists.intro (α := VK)))
set_option hygiene false in
local macro_rules
  | `(tactic| kba_ints) => `(tactic| first
    | assumption
    | (apply frUp; (first | assumption | (apply Ne.symm; assumption)); kba_ints)
    | (apply noneOf; assumption; intro oF eF; apply Exists.intro; kp_flats)
    | (apply frUp; (next => kbo_bools); kba_ints))
set_option hygiene false in
local macro_rules
  | `(tactic| kxs_still) => `(tactic| first
    | assumption
    | exact kp_refl _ _
    | (apply kp_newF; assumption; kxs_still)
    | (apply kp_new; assumption; kxs_still)
    | (apply kp_up; (next => o_fieldsN); kxs_still)
    | (apply kp_new; (next => kba_ints); kxs_still)
    | (apply kp_sameR; assumption; kxs_still)
    | (apply kp_transR; assumption; kxs_still)
    | (apply kp_freshR; assumption; (next => kaf_suf); kxs_still))
set_option hygiene false in
local macro_rules
  | `(tactic| kaf_suf) => `(tactic| first
    | assumption
    | exact subNil
    | (apply subCons; (first | (apply Or.inl; o_fieldsN) | (apply Or.inr; kba_ints)); kaf_suf)
    | (apply subApp; (next => kaf_suf); kaf_suf))
set_option hygiene false in
local macro_rules
  | `(tactic| o_fieldsN) => `(tactic| first
    | assumption
    | exact memA
    | (apply memB; o_fieldsN)
    | (apply memL; o_fieldsN)
    | (apply memR; o_fieldsN))
set_option hygiene false in
local macro_rules
  | `(tactic| kd_subs) => `(tactic| first
    | assumption
    | exact Same.refl _
    | (apply same_putF; assumption; kd_subs)
    | (apply same_putG; assumption; kd_subs)
    | (apply same_putF; (next => kba_ints); kd_subs)
    | (apply same_transR; assumption; kd_subs))

set_option pp.maxSteps 900
section
variable {P : Program} {w : World} {K : PySem.W.Frag} {mg : Str → Option Value} {base : Heap} {n : Nat}
def spTI (Ct : Addr) (Cj : Addr × Addr) (Cc : Addr) : Sp := fun vs H Q _ => ∃ (x dx : Addr) (f z : V), vs = [.ref x, f, z] ∧ H x = some (.ins Ct dx []) ∧ ∀ (j jdx c cdx l h fr : Addr) H', Fr H j → Fr H c → Fr H l → Fr H h → Fr H fr → c ≠ l → x ≠ c → x ≠ l → j ≠ x → j ≠ c → j ≠ l → h ≠ x → h ≠ c → h ≠ l → fr ≠ x → fr ≠ c → fr ≠ l →
  H' x = some (TO Ct dx c j z 0 h fr .non) → H' j = some (JO Cj.1 jdx c f) → H' c = some (CO Cc cdx l false) → H' l = some (.lst []) → H' h = some (.dK []) → H' fr = some (.lst []) → Kp [x] H H' → Q .non H'
theorem ok_ti (T : Txt K mg) : FnOk P w K mg base CX0 4 T.f_TwoStacks_init T.d_TwoStacks_init ["self", "join", "zero"] (spTI T.C_TwoStacks (CJ T) T.C_Calls) := by
  have G_Calls_init := ok_ci (P := P) (w := w) (base := base) T
  have G_Joiner_init := ok_ji (P := P) (w := w) (base := base) T
  refine T.F_TwoStacks_init.ok sc_TwoStacks_init (fun vs H Q E h => ?_) (fun cdv A outer s H vs Q E hr h => ?_)
  · obtain ⟨x, dx, f, z, rfl, _⟩ := h
    rfl
  · obtain ⟨x, dx, f, z, rfl, hb, q⟩ := h
    refine ⟨_, (pss_cons (ps_fld (pv 0) (pe_make0 ⟨T.mk_Calls, T.m_Calls_init, T.t_Calls_init, T.kp_Calls⟩ G_Calls_init (hr.mono (by omega)) rfl T.gc_Calls T.b_Calls_init .nil pass0) rfl)
      (pss_cons (ps_fld (pv 0) (pe_make ⟨T.mk_Joiner, T.m_Joiner_init, T.t_Joiner_init, T.kp_Joiner⟩ G_Joiner_init (hr.mono (by omega)) rfl T.gc_Joiner T.b_Joiner_init .nil pass0 (pa_cons (pe_fld (pv 0) rfl) (pa_cons (pv 1) pa_nil))) rfl)
      (pss_cons (ps_fld (pv 0) (pv 2) rfl)
      (pss_cons (ps_fld (pv 0) pe_int rfl)
      (pss_cons (ps_fld (pv 0) pe_dnewK rfl)
      (pss_cons (ps_fld (pv 0) (pe_lst pa_nil) rfl)
      (pss_one (ps_fld (pv 0) pe_non rfl)))))))), ?_⟩
    o_readsAll
    rename_i c cdx nec nc ncd
    intro l H1 nl e1 e2 k1
    o_readsAll
    rename_i j jdx nej nj njd
    intro H2 e3 k2 f2
    o_readsAll
    rename_i h nh fr nfr
    refine q j jdx c cdx l h fr _ (by kba_ints) (by kba_ints) (by kba_ints) (by kba_ints) (by kba_ints) (by kbo_bools) (by kbo_bools) (by kbo_bools) (by kbo_bools) (by kbo_bools) (by kbo_bools) (by kbo_bools) (by kbo_bools) (by kbo_bools) (by kbo_bools) (by kbo_bools) (by kbo_bools) (by kp_flats) (by kp_flats) (by kp_flats) (by kp_flats) (by kp_flats) (by kp_flats) (by kxs_still)
/-- two stacks that are made: nothing is in them -/
theorem twNew {uv : List Addr} {f z : V} {UR : List JEv → Hp → Prop} {Val : Nat → List V → V → Hp → Prop} {Ct : Addr} {Cj : Addr × Addr} {Cc x dx j jdx c cdx l h fr : Addr} {H' : Hp} {cs : List Addr} (mu : Mu H' cs) (sub : ∀ a ∈ [x, c, l] ++ uv, a ∈ cs) (nj : j ∉ cs) (nh : h ∉ cs) (nf : fr ∉ cs) (n1 : x ∉ [c, l] ++ uv) (n2 : j ∉ uv) (n3 : c ∉ uv) (n4 : l ∉ uv) (ur : UR [] H')
    (hx : H' x = some (TO Ct dx c j z 0 h fr .non)) (hj : H' j = some (JO Cj.1 jdx c f)) (hc : H' c = some (CO Cc cdx l false)) (hl : H' l = some (.lst [])) (hh : H' h = some (.dK [])) (hf : H' fr = some (.lst [])) :
    TwAt Ct Cj Cc uv f UR Val cs x j jdx c cdx l z [] [] [] 0 0 H' :=
  ⟨⟨dx, h, fr, .non, [], hx, hh, nh, hf, nf, ⟨rfl, Nat.le_refl _, Nat.le_refl _, fun q s z => by cases q <;> cases z⟩, .inl ⟨rfl, rfl, Nat.le_refl _⟩⟩,
    JW.mk1 hj hc ⟨[], hl, ⟨rfl, fun q x e z => by cases q <;> cases z⟩⟩ ur rfl n2 n3 n4, ⟨Nat.le_refl _, Nat.le_refl _⟩, (fun i m e => by cases i <;> cases e), mu, sub, nj, n1⟩
end
end Ob

set_option Elab.async false
set_option linter.all false
set_option maxRecDepth 100000
set_option maxHeartbeats 1000000
namespace Ob
open PySem PySem.Spec PyProof.Rows L2
open LamX (Tabs TabB TabS ExtN)

set_option hygiene false in
local macro_rules
  | `(tactic| kp_flats) => `(tactic| first
    | assumption
    | exact upd_same
    | (apply atNew; assumption; kp_flats)
    | (apply atNe; (next => kbo_bools); kp_flats)
    | (apply atSame; assumption; kp_flats)
    | (apply atKp; assumption; (next => kaf_pre); kp_flats))
set_option hygiene false in
local macro_rules
  | `(tactic| kaf_pre) => `(tactic| first
    | assumption
    | exact not_nil
    | (apply not_cons; (next => kbo_bools); kaf_pre)
    | (apply not_app; (next => kaf_pre); kaf_pre))
set_option hygiene false in
local macro_rules
  | `(tactic| kbo_bools) => `(tactic| first
    | assumption
    | (apply Ne.symm; assumption)
    | (apply neN; assumption; kp_flats)
    | (apply neN'; assumption; kp_flats))
set_option hygiene false in
local macro_rules
  | `(tactic| o_reads) => `(tactic| first
    | with_reducible rfl
    | assumption
    | rfl
    | kp_flats
    | (show SqL _ _ _ _; first | assumption | (apply sqlOf; kp_flats) | (apply sqlSame; assumption; o_reads))
    | (show SqT _ _ _ _; first | assumption | (apply sqtOf; kp_flats) | (apply sqtAll; assumption) | (apply sqtSame; assumption; o_reads))
    | (show Cls _ _; first | exact T.cl_Calls | exact T.cl_Joiner | exact T.cl_Planner | exact T.cl_EvenSums | exact T.cl_Shape | exact T.cl_TwoStacks)
    | (show NoAttr _ _ _; first | exact T.n_Calls_entries | exact T.n_Calls_running | exact T.n_Joiner_calls | exact T.n_Joiner_join_call | exact T.n_Planner_entries | exact T.n_EvenSums_calls | exact T.n_EvenSums_joiner | exact T.n_EvenSums_zero | exact T.n_EvenSums_given | exact T.n_EvenSums_held | exact T.n_EvenSums_shape | exact T.n_Shape_front | exact T.n_Shape_back | exact T.n_Shape_late | exact T.n_Shape_renewed | exact T.n_TwoStacks_calls | exact T.n_TwoStacks_joiner | exact T.n_TwoStacks_zero | exact T.n_TwoStacks_given | exact T.n_TwoStacks_held | exact T.n_TwoStacks_front | exact T.n_TwoStacks_back)
    | (apply Or.inl; o_reads)
    | (apply Or.inr; o_reads)
    | (apply And.intro; (next => o_reads); o_reads)
    | (apply Exists.intro; o_reads)
    | exact Nat.le_of_ble_eq_true rfl
    | exact Nat.succ_ne_zero _
    | (show Fr _ _; kba_ints)
    | (show Same _ _; kd_subs)
    | (show Kp _ _ _; kxs_still)
    | (show (_ : Nat) ≤ _; simp only [List.length_append, List.length_map, List.length_cons, List.length_nil, List.length_take, List.length_drop, List.length_replicate, List.length_range, sizeLine_eq]; omega)
    | (show _ = none; apply Fr.h; kba_ints)
    | (show Bag _ _; first | assumption | (apply bag_putF; assumption; o_reads) | (apply bag_neF; (next => kbo_bools); o_reads) | (apply bag_kpR; assumption; (next => kaf_pre); o_reads))
    | omega
    | decide)
local macro_rules
  | `(tactic| o_readsAll) => `(tactic| repeat (first
    | (refine fun (pNew : Addr) (nNew : _ = none) => ?_; replace nNew := Fr.mk nNew)
    | (refine fun (xNew dNew : Addr) (nNew : _ = none) (mNew : _ = none) (eNew : dNew ≠ xNew) => ?_; replace nNew := Fr.mk nNew; replace mNew := Fr.mk mNew)
    | (apply And.intro; next => o_reads)
    | apply Exists.intro (α := V)
    | apply Exists.intro (α := Addr)
    | apply Exists.intro (α := Int)
    | apply Exists.intro (α := Bool)
    | apply Exists.intro (α := List V)
    | apply Exists.intro (α := List Nat)
    | apply Exists.intro (α := List (Str × V))
    | apply Exists.intro (α := List _)
    | apply Exists.intro (α := Str)
    | apply Exists.intro (α := HO)
    | apply Exists.intro (α := Sp)
    | apply Exists.intro (α := VK)))
set_option hygiene false in
local macro_rules
  | `(tactic| kba_ints) => `(tactic| first
    | assumption
    | (apply frUp; (first | assumption | (apply Ne.symm; assumption)); kba_ints)
    | (apply noneOf; assumption; intro oF eF; apply Exists.intro; kp_flats)
    | (apply frUp; (next => kbo_bools); kba_ints))
set_option hygiene false in
local macro_rules
  | `(tactic| kxs_still) => `(tactic| first
    | assumption
    | exact kp_refl _ _
    | (apply kp_newF; assumption; kxs_still)
    | (apply kp_new; assumption; kxs_still)
    | (apply kp_up; (next => o_fieldsN); kxs_still)
    | (apply kp_new; (next => kba_ints); kxs_still)
    | (apply kp_sameR; assumption; kxs_still)
    | (apply kp_transR; assumption; kxs_still)
    | (apply kp_freshR; assumption; (next => kaf_suf); kxs_still))
set_option hygiene false in
local macro_rules
  | `(tactic| kaf_suf) => `(tactic| first
    | assumption
    | exact subNil
    | (apply subCons; (first | (apply Or.inl; o_fieldsN) | (apply Or.inr; kba_ints)); kaf_suf)
    | (apply subApp; (next => kaf_suf); kaf_suf))
set_option hygiene false in
local macro_rules
  | `(tactic| o_fieldsN) => `(tactic| first
    | assumption
    | exact memA
    | (apply memB; o_fieldsN)
    | (apply memL; o_fieldsN)
    | (apply memR; o_fieldsN))
set_option hygiene false in
local macro_rules
  | `(tactic| kd_subs) => `(tactic| first
    | assumption
    | exact Same.refl _
    | (apply same_putF; assumption; kd_subs)
    | (apply same_putG; assumption; kd_subs)
    | (apply same_putF; (next => kba_ints); kd_subs)
    | (apply same_transR; assumption; kd_subs))

set_option pp.maxSteps 900
section
variable {P : Program} {w : World} {K : PySem.W.Frag} {mg : Str → Option Value} {base : Heap} {n : Nat}
def spTMem (Ct : Addr) : Sp := fun vs H Q _ => ∃ (x dx c j h fr : Addr) (z bv : V) (gi : Int) (g : Nat) (ps : List V), vs = [.ref x] ∧ H x = some (TO Ct dx c j z gi h fr bv) ∧ H h = some (.dK (heldK g ps)) ∧ ps.length < 70000 ∧ ∀ o H', Fr H o → Same H H' → H' o = some (.lst ps) → Q (.ref o) H'
theorem ok_tmem (T : Txt K mg) : FnOk P w K mg base CX0 1 T.f_TwoStacks_members T.d_TwoStacks_members ["self"] (spTMem T.C_TwoStacks) := by
  refine T.F_TwoStacks_members.ok sc_TwoStacks_members (fun vs H Q E h => ?_) (fun cdv A outer s H vs Q E hr h => ?_)
  · obtain ⟨x, dx, c, j, h, fr, z, bv, gi, g, ps, rfl, _⟩ := h
    rfl
  · obtain ⟨x, dx, c, j, h, fr, z, bv, gi, g, ps, rfl, h1, h2, lp, q⟩ := h
    refine ⟨_, (pss_one (ps_ret (pe_callTy (call_listV rfl) (by rfl) T.z_list (by decide +kernel) (pa_cons (pe_bm0 PySem.F.plainAttrs_dict PySem.F.slot_dict_values PySem.F.type_dict_values mt_vals (pe_fld (pv 0) rfl)) pa_nil)))), ?_⟩
    refine ⟨_, rfl, x, _, _, _, .ref h, rfl, h1, T.cl_TwoStacks, T.n_TwoStacks_held, rfl, ?_⟩
    refine ⟨.inr (.inr (.inl ⟨rfl, .inl ⟨_, h2⟩⟩)), ?_⟩
    refine ⟨h, _, rfl, rfl, h2, fun p np => ?_⟩
    have fp := Fr.mk np
    have s1 : Same H (upd H p (valsO p h)) := same_newF fp
    refine ⟨p, h, _, rfl, upd_same, s1 _ _ h2, fun o no => ?_⟩
    have fo := Fr.mk no
    have ev : (heldK g ps).map Prod.snd = ps := heldK_vals ps g
    rw [ev]
    exact q o _ (Fr.mk (s1.free no)) (s1.trans (same_newF fo)) upd_same
def spTNum (Ct Cc : Addr) : Sp := fun vs H Q _ => ∃ (x dx c cdx l j h fr : Addr) (z bv : V) (gi : Int) (g : Nat) (ps : List V), vs = [.ref x] ∧ H x = some (TO Ct dx c j z gi h fr bv) ∧ H c = some (CO Cc cdx l false) ∧ H h = some (.dK (heldK g ps)) ∧ ∀ o H', Fr H o → Same H H' → H' o = some (.lst ((List.range' g ps.length).map fun i : Nat => V.int (i : Int))) → Q (.ref o) H'
theorem ok_tnum (T : Txt K mg) : FnOk P w K mg base CX0 2 T.f_TwoStacks_numbers T.d_TwoStacks_numbers ["self"] (spTNum T.C_TwoStacks T.C_Calls) := by
  have G_Calls_check := ok_chk (P := P) (w := w) (base := base) T
  refine T.F_TwoStacks_numbers.ok sc_TwoStacks_numbers (fun vs H Q E h => ?_) (fun cdv A outer s H vs Q E hr h => ?_)
  · obtain ⟨x, dx, c, cdx, l, j, h, fr, z, bv, gi, g, ps, rfl, _⟩ := h
    rfl
  · obtain ⟨x, dx, c, cdx, l, j, h, fr, z, bv, gi, g, ps, rfl, h1, hc, h2, q⟩ := h
    refine ⟨_, (pss_cons (ps_expr (pe_meth0 (pe_fld (pv 0) rfl) T.cl_Calls ⟨T.m_Calls_check, T.t_Calls_check, T.k_Calls_check⟩ G_Calls_check (hr.mono (by omega)) T.b_Calls_check .nil pass0))
      (pss_one (ps_ret (pe_callTy (call_list_dK rfl) (by rfl) T.z_list (by decide +kernel) (pa_cons (pe_fld (pv 0) rfl) pa_nil))))), ?_⟩
    refine ⟨_, rfl, x, _, _, _, .ref c, rfl, h1, T.cl_TwoStacks, T.n_TwoStacks_calls, rfl, c, cdx, _, rfl, hc, rfl, c, cdx, l, rfl, hc, ?_⟩
    refine ⟨_, rfl, x, _, _, _, .ref h, rfl, h1, T.cl_TwoStacks, T.n_TwoStacks_held, rfl, h, heldK g ps, rfl, h2, fun o no => ?_⟩
    have fo := Fr.mk no
    rw [heldK_keys]
    exact q o _ fo (same_newF fo) upd_same
def spTLen (Ct : Addr) : Sp := fun vs H Q _ => ∃ (x dx c j h fr : Addr) (z bv : V) (gi : Int) (g : Nat) (ps : List V), vs = [.ref x] ∧ H x = some (TO Ct dx c j z gi h fr bv) ∧ H h = some (.dK (heldK g ps)) ∧ Q (.int (ps.length : Int)) H
theorem ok_tlen (T : Txt K mg) : FnOk P w K mg base CX0 1 T.f_TwoStacks_len T.d_TwoStacks_len ["self"] (spTLen T.C_TwoStacks) := by
  refine T.F_TwoStacks_len.ok sc_TwoStacks_len (fun vs H Q E h => ?_) (fun cdv A outer s H vs Q E hr h => ?_)
  · obtain ⟨x, dx, c, j, h, fr, z, bv, gi, g, ps, rfl, _⟩ := h
    rfl
  · obtain ⟨x, dx, c, j, h, fr, z, bv, gi, g, ps, rfl, h1, h2, q⟩ := h
    refine ⟨_, (pss_one (ps_ret (pe_callB call_lenD (by rfl) T.z_len (by decide +kernel) (pa_cons (pe_fld (pv 0) rfl) pa_nil)))), ?_⟩
    refine ⟨_, rfl, x, _, _, _, .ref h, rfl, h1, T.cl_TwoStacks, T.n_TwoStacks_held, rfl, h, _, rfl, h2, ?_⟩
    rw [heldK_len]
    exact q
end
end Ob

set_option Elab.async false
set_option linter.all false
set_option maxRecDepth 100000
set_option maxHeartbeats 1000000
namespace Ob
open PySem PySem.Spec PyProof.Rows L2
open LamX (Tabs TabB TabS ExtN)

set_option hygiene false in
local macro_rules
  | `(tactic| kp_flats) => `(tactic| first
    | assumption
    | exact upd_same
    | (apply atNew; assumption; kp_flats)
    | (apply atNe; (next => kbo_bools); kp_flats)
    | (apply atSame; assumption; kp_flats)
    | (apply atKp; assumption; (next => kaf_pre); kp_flats))
set_option hygiene false in
local macro_rules
  | `(tactic| kaf_pre) => `(tactic| first
    | assumption
    | exact not_nil
    | (apply not_cons; (next => kbo_bools); kaf_pre)
    | (apply not_app; (next => kaf_pre); kaf_pre))
set_option hygiene false in
local macro_rules
  | `(tactic| kbo_bools) => `(tactic| first
    | assumption
    | (apply Ne.symm; assumption)
    | (apply neN; assumption; kp_flats)
    | (apply neN'; assumption; kp_flats))
set_option hygiene false in
local macro_rules
  | `(tactic| o_reads) => `(tactic| first
    | with_reducible rfl
    | assumption
    | rfl
    | kp_flats
    | (show SqL _ _ _ _; first | assumption | (apply sqlOf; kp_flats) | (apply sqlSame; assumption; o_reads))
    | (show SqT _ _ _ _; first | assumption | (apply sqtOf; kp_flats) | (apply sqtAll; assumption) | (apply sqtSame; assumption; o_reads))
    | (show Cls _ _; first | exact T.cl_Calls | exact T.cl_Joiner | exact T.cl_Planner | exact T.cl_EvenSums | exact T.cl_Shape | exact T.cl_TwoStacks)
    | (show NoAttr _ _ _; first | exact T.n_Calls_entries | exact T.n_Calls_running | exact T.n_Joiner_calls | exact T.n_Joiner_join_call | exact T.n_Planner_entries | exact T.n_EvenSums_calls | exact T.n_EvenSums_joiner | exact T.n_EvenSums_zero | exact T.n_EvenSums_given | exact T.n_EvenSums_held | exact T.n_EvenSums_shape | exact T.n_Shape_front | exact T.n_Shape_back | exact T.n_Shape_late | exact T.n_Shape_renewed | exact T.n_TwoStacks_calls | exact T.n_TwoStacks_joiner | exact T.n_TwoStacks_zero | exact T.n_TwoStacks_given | exact T.n_TwoStacks_held | exact T.n_TwoStacks_front | exact T.n_TwoStacks_back)
    | (apply Or.inl; o_reads)
    | (apply Or.inr; o_reads)
    | (apply And.intro; (next => o_reads); o_reads)
    | (apply Exists.intro; o_reads)
    | exact Nat.le_of_ble_eq_true rfl
    | exact Nat.succ_ne_zero _
    | (show Fr _ _; kba_ints)
    | (show Same _ _; kd_subs)
    | (show Kp _ _ _; kxs_still)
    | (show (_ : Nat) ≤ _; simp only [List.length_append, List.length_map, List.length_cons, List.length_nil, List.length_take, List.length_drop, List.length_replicate, List.length_range, sizeLine_eq]; omega)
    | (show _ = none; apply Fr.h; kba_ints)
    | (show Bag _ _; first | assumption | (apply bag_putF; assumption; o_reads) | (apply bag_neF; (next => kbo_bools); o_reads) | (apply bag_kpR; assumption; (next => kaf_pre); o_reads))
    | omega
    | decide)
local macro_rules
  | `(tactic| o_readsAll) => `(tactic| repeat (first
    | (refine fun (pNew : Addr) (nNew : _ = none) => ?_; replace nNew := Fr.mk nNew)
    | (refine fun (xNew dNew : Addr) (nNew : _ = none) (mNew : _ = none) (eNew : dNew ≠ xNew) => ?_; replace nNew := Fr.mk nNew; replace mNew := Fr.mk mNew)
    | (apply And.intro; next => o_reads)
    | apply Exists.intro (α := V)
    | apply Exists.intro (α := Addr)
    | apply Exists.intro (α := Int)
    | apply Exists.intro (α := Bool)
    | apply Exists.intro (α := List V)
    | apply Exists.intro (α := List Nat)
    | apply Exists.intro (α := List (Str × V))
    | apply Exists.intro (α := List _)
    | apply Exists.intro (α := Str)
    | apply Exists.intro (α := HO)
    | apply Exists.intro (α := Sp)
    | apply Exists.intro (α := VK)))
set_option hygiene false in
local macro_rules
  | `(tactic| kba_ints) => `(tactic| first
    | assumption
    | (apply frUp; (first | assumption | (apply Ne.symm; assumption)); kba_ints)
    | (apply noneOf; assumption; intro oF eF; apply Exists.intro; kp_flats)
    | (apply frUp; (next => kbo_bools); kba_ints))
set_option hygiene false in
local macro_rules
  | `(tactic| kxs_still) => `(tactic| first
    | assumption
    | exact kp_refl _ _
    | (apply kp_newF; assumption; kxs_still)
    | (apply kp_new; assumption; kxs_still)
    | (apply kp_up; (next => o_fieldsN); kxs_still)
    | (apply kp_new; (next => kba_ints); kxs_still)
    | (apply kp_sameR; assumption; kxs_still)
    | (apply kp_transR; assumption; kxs_still)
    | (apply kp_freshR; assumption; (next => kaf_suf); kxs_still))
set_option hygiene false in
local macro_rules
  | `(tactic| kaf_suf) => `(tactic| first
    | assumption
    | exact subNil
    | (apply subCons; (first | (apply Or.inl; o_fieldsN) | (apply Or.inr; kba_ints)); kaf_suf)
    | (apply subApp; (next => kaf_suf); kaf_suf))
set_option hygiene false in
local macro_rules
  | `(tactic| o_fieldsN) => `(tactic| first
    | assumption
    | exact memA
    | (apply memB; o_fieldsN)
    | (apply memL; o_fieldsN)
    | (apply memR; o_fieldsN))
set_option hygiene false in
local macro_rules
  | `(tactic| kd_subs) => `(tactic| first
    | assumption
    | exact Same.refl _
    | (apply same_putF; assumption; kd_subs)
    | (apply same_putG; assumption; kd_subs)
    | (apply same_putF; (next => kba_ints); kd_subs)
    | (apply same_transR; assumption; kd_subs))

theorem kp_but {p : Addr} {H H1 : Hp} (b : But p H H1) : Kp [p] H H1 := ⟨fun c o e n => b c o e fun z => n (List.mem_singleton.mpr z)⟩
def spTakeK : Sp := fun vs H Q _ => ∃ (p : Addr) (m : Int), vs = [.ref p, .int m] ∧ Bag H p ∧ 0 < m ∧ m.natAbs < 2 ^ 200 ∧ ∀ r H', 0 ≤ r → r < m → Bag H' p → Kp [p] H H' → Q (.int r) H'
theorem ok_takeK {P : Program} {w : World} {K : PySem.W.Frag} {mg : Str → Option Value} {base : Heap} (T : Txt K mg) : FnOk P w K mg base CX0 1 T.f_l_take T.d_l_take ["_law_bag_here", "_law_many"] spTakeK := by
  have F := ok_take (P := P) (w := w) (base := base) T
  refine ⟨fun vs H Q E h => ?_, fun A outer s H args us vs Q E hr e0 hb r h => F.run A outer s H args us vs Q E hr e0 hb r ?_⟩
  · obtain ⟨p, m, rfl, _⟩ := h
    rfl
  · obtain ⟨p, m, e, h1, h2, h3, q⟩ := h
    exact ⟨p, m, e, h1, h2, h3, fun r H' a b c d => q r H' a b c (kp_but d)⟩
theorem bag_neF {p q : Addr} {H : Hp} {o : HO} (n : p ≠ q) (b : Bag H p) : Bag (upd H q o) p := by
  obtain ⟨g, m, c, e, z⟩ := b
  exact ⟨g, m, c, (upd_ne n).trans e, z⟩
theorem tabsN_kp {T : List NdefX.NTab} {cs : List Addr} {H H1 : Hp} (t : NdefX.TabsN T H) (k : Kp cs H H1) (n : ∀ a ∈ cs, ∃ o, H a = some o ∧ (∀ ps, o ≠ .tbl ps) ∧ ∀ φ, o ≠ .ext φ) : NdefX.TabsN T H1 := fun p hp => by
  obtain ⟨ps, h1, h2, h3⟩ := t p hp
  refine ⟨ps, k.at_ _ _ h1 (fun m => ?_), h2, fun pos cv hc => ?_⟩
  · obtain ⟨o, e, n1, _⟩ := n _ m
    rw [h1] at e
    exact n1 ps (Option.some.inj e).symm
  · obtain ⟨c, e1, e2⟩ := h3 pos cv hc
    refine ⟨c, e1, k.at_ _ _ e2 fun m => ?_⟩
    obtain ⟨o, e, _, n2⟩ := n _ m
    rw [e2] at e
    exact n2 _ (Option.some.inj e).symm

set_option pp.maxSteps 900
theorem bag_lst {H : Hp} {p : Addr} (b : Bag H p) : ∃ xs, H p = some (.lst xs) := by
  obtain ⟨g, m, c, e, _⟩ := b
  exact ⟨_, e⟩
/-! ### a queue, told and untold -/
/-- all that is no thing by a word of its own stands in the other heap, too -/
def Cv (H H1 : Hp) : Prop := ∀ b o, H b = some o → (∀ φ, o ≠ .ext φ) → H1 b = some o
section
variable {P : Program} {w : World} {K : PySem.W.Frag} {mg : Str → Option Value} {base : Heap} {n : Nat}
variable {uv : List Addr} {f z : V} {UR UR1 : List JEv → Hp → Prop} {Val : Nat → List V → V → Hp → Prop} {Ce : Addr} {Cj : Addr × Addr} {Cc Cs x j jdx c cdx l sh : Addr} {u : List JEv} {es : List (Nat × Nat × Nat)} {H H1 : Hp} {ms ns : List V} {cs ds : List Addr} {g e b : Nat} {r : Option Nat}
theorem Cv.tup (k : Cv H H1) {a : Addr} {xs : List V} (h : H a = some (.tup xs)) : H1 a = some (.tup xs) := k _ _ h fun _ z => nomatch z
theorem Cv.lst (k : Cv H H1) {a : Addr} {xs : List V} (h : H a = some (.lst xs)) : H1 a = some (.lst xs) := k _ _ h fun _ z => nomatch z
theorem Cv.ins (k : Cv H H1) {a C dx : Addr} {fs : List (Str × V)} (h : H a = some (.ins C dx fs)) : H1 a = some (.ins C dx fs) := k _ _ h fun _ z => nomatch z
theorem Cv.dK (k : Cv H H1) {a : Addr} {ks : List (Key × V)} (h : H a = some (.dK ks)) : H1 a = some (.dK ks) := k _ _ h fun _ z => nomatch z
theorem SpanAt.cv {s : V} {i j : Nat} (k : Cv H H1) (hv : ∀ i xs v, Val i xs v H → Val i xs v H1) (h : SpanAt Val ms s i j H) : SpanAt Val ms s i j H1 := by
  obtain ⟨h1, h2, p, v, h3, h4, h5⟩ := h
  exact ⟨h1, h2, p, v, h3, k.tup h4, hv _ _ _ h5⟩
theorem OptSpan.cv {s : V} {i j : Nat} (k : Cv H H1) (hv : ∀ i xs v, Val i xs v H → Val i xs v H1) (h : OptSpan Val ms s i j H) : OptSpan Val ms s i j H1 := h.imp id fun z => z.cv k hv
theorem SpansTo.cv {xs : List V} {e k' : Nat} (k : Cv H H1) (hv : ∀ i xs v, Val i xs v H → Val i xs v H1) (h : SpansTo Val ms xs e k' H) : SpansTo Val ms xs e k' H1 := ⟨h.len, h.le, h.lm, fun q s z => (h.at_ q s z).cv k hv⟩
theorem RenAt.cv {rv : V} (k : Cv H H1) (hv : ∀ i xs v, Val i xs v H → Val i xs v H1) (h : RenAt Val ms cs b rv H r) : RenAt Val ms cs b rv H1 r := by
  match r, h with
  | none, h => exact h
  | some k', ⟨rl, ys, h1, h2, h3, h4⟩ => exact ⟨rl, ys, h1, k.lst h2, h3.cv k hv, h4⟩
theorem ShAt.cv (k : Cv H H1) (hv : ∀ i xs v, Val i xs v H → Val i xs v H1) (h : ShAt Cs Val ms cs sh g e b r H) : ShAt Cs Val ms cs sh g e b r H1 := by
  obtain ⟨⟨dx, fr, bv, lv, rv, xs, h1, h2, h3, h4, h5, h6, h7⟩, h8⟩ := h
  exact ⟨⟨dx, fr, bv, lv, rv, xs, k.ins h1, k.lst h2, h3.cv k hv, h4.cv k hv, h5.cv k hv, h6.cv k hv, h7⟩, h8⟩
theorem JLog.cv {xs : List V} (k : Cv H H1) (h : JLog H xs es) : JLog H1 xs es := ⟨h.len, fun q x e y1 y2 => by
  obtain ⟨p, a, b, h1, h2, h3, h4⟩ := h.at_ q x e y1 y2
  exact ⟨p, a, b, h1, k.tup h2, k.tup h3, k.tup h4⟩⟩
theorem JW.cv (k : Cv H H1) (hu : UR u H → UR1 u H1) (h : JW Cj Cc true uv f UR j jdx c cdx l u es H) : JW Cj Cc true uv f UR1 j jdx c cdx l u es H1 := by
  obtain ⟨xs, h1, h2⟩ := h.lg
  exact JW.mk1 (k.ins h.hj) (k.ins h.hc) ⟨xs, k.lst h1, h2.cv k⟩ (hu h.ur) h.ue h.nj h.nc h.nl
theorem EvAt.cv (k : Cv H H1) (hv : ∀ i xs v, Val i xs v H → Val i xs v H1) (hu : UR u H → UR1 u H1) (h : EvAt Ce Cs Cj Cc uv f UR Val cs x j jdx c cdx l z ms u es g e b r H) : EvAt Ce Cs Cj Cc uv f UR1 Val cs x j jdx c cdx l z ms u es g e b r H1 := by
  obtain ⟨dx, hh, sh, h1, h2, h3, h4⟩ := h.hx
  exact ⟨⟨dx, hh, sh, k.ins h1, k.dK h2, h3, h4.cv k hv⟩, h.jw.cv k hu, h.ok, fun i m y => hv _ _ _ (h.mm i m y), fun a m => (h.mu a m).imp fun o y => ⟨k _ _ y.1 y.2.2, y.2⟩, h.sub, h.nj, h.nx⟩
/-! ### .. and where some of what may change has changed -/
def Kq (ds : List Addr) (H H1 : Hp) : Prop := ∀ b o, H b = some o → (∀ φ, o ≠ .ext φ) → b ∉ ds → H1 b = some o
theorem Kq.tup (k : Kq ds H H1) (m : Mu H ds) {a : Addr} {xs : List V} (h : H a = some (.tup xs)) : H1 a = some (.tup xs) := k _ _ h (fun _ z => nomatch z) (m.tup h)
theorem SpanAt.kq {s : V} {i j : Nat} (k : Kq ds H H1) (m : Mu H ds) (hv : ∀ i xs v, Val i xs v H → Val i xs v H1) (h : SpanAt Val ms s i j H) : SpanAt Val ms s i j H1 := by
  obtain ⟨h1, h2, p, v, h3, h4, h5⟩ := h
  exact ⟨h1, h2, p, v, h3, k.tup m h4, hv _ _ _ h5⟩
theorem OptSpan.kq {s : V} {i j : Nat} (k : Kq ds H H1) (m : Mu H ds) (hv : ∀ i xs v, Val i xs v H → Val i xs v H1) (h : OptSpan Val ms s i j H) : OptSpan Val ms s i j H1 := h.imp id fun z => z.kq k m hv
theorem SpansTo.kq {xs : List V} {e k' : Nat} (k : Kq ds H H1) (m : Mu H ds) (hv : ∀ i xs v, Val i xs v H → Val i xs v H1) (h : SpansTo Val ms xs e k' H) : SpansTo Val ms xs e k' H1 := ⟨h.len, h.le, h.lm, fun q s z => (h.at_ q s z).kq k m hv⟩
theorem RenAt.kq {rv : V} (k : Kq ds H H1) (m : Mu H ds) (s : ∀ a ∈ ds, a ∈ cs) (hv : ∀ i xs v, Val i xs v H → Val i xs v H1) (h : RenAt Val ms cs b rv H r) : RenAt Val ms cs b rv H1 r := by
  match r, h with
  | none, h => exact h
  | some k', ⟨rl, ys, h1, h2, h3, h4⟩ => exact ⟨rl, ys, h1, k _ _ h2 (fun _ z => nomatch z) fun z => h4 (s _ z), h3.kq k m hv, h4⟩
theorem ShAt.kq (k : Kq ds H H1) (m : Mu H ds) (s : ∀ a ∈ ds, a ∈ cs) (hv : ∀ i xs v, Val i xs v H → Val i xs v H1) (h : ShAt Cs Val ms cs sh g e b r H) : ShAt Cs Val ms cs sh g e b r H1 := by
  obtain ⟨⟨dx, fr, bv, lv, rv, xs, h1, h2, h3, h4, h5, h6, h7⟩, h8⟩ := h
  exact ⟨⟨dx, fr, bv, lv, rv, xs, k _ _ h1 (fun _ z => nomatch z) fun z => h8 (s _ z), k _ _ h2 (fun _ z => nomatch z) fun z => h7 (s _ z), h3.kq k m hv, h4.kq k m hv, h5.kq k m hv, h6.kq k m s hv, h7⟩, h8⟩
theorem EvAt.kq (k : Kq ds H H1) (m : Mu H ds) (m1 : Mu H1 ds) (s : ∀ a ∈ ds, a ∈ cs) (d : ∀ a ∈ [x, c, l] ++ uv, a ∉ ds) (hv : ∀ i xs v, Val i xs v H → Val i xs v H1) (hu : UR u H → UR1 u H1) (h : EvAt Ce Cs Cj Cc uv f UR Val cs x j jdx c cdx l z ms u es g e b r H) : EvAt Ce Cs Cj Cc uv f UR1 Val cs x j jdx c cdx l z ms u es g e b r H1 := by
  obtain ⟨dx, hh, sh, h1, h2, h3, h4⟩ := h.hx
  obtain ⟨xs, l1, l2⟩ := h.jw.lg
  refine ⟨⟨dx, hh, sh, k _ _ h1 (fun _ z => nomatch z) (d x (memL memA)), k _ _ h2 (fun _ z => nomatch z) fun z => h3 (s _ z), h3, h4.kq k m s hv⟩, JW.mk1 (k _ _ h.jw.hj (fun _ z => nomatch z) fun z => h.nj (s _ z)) (k _ _ h.jw.hc (fun _ z => nomatch z) (d c (memL (memB memA)))) ⟨xs, k _ _ l1 (fun _ z => nomatch z) (d l (memL (memB (memB memA)))), ⟨l2.len, fun q x e y1 y2 => ?_⟩⟩ (hu h.jw.ur) h.jw.ue h.jw.nj h.jw.nc h.jw.nl, h.ok, fun i m y => hv _ _ _ (h.mm i m y), fun a ma => ?_, h.sub, h.nj, h.nx⟩
  · obtain ⟨p, a, b, i1, i2, i3, i4⟩ := l2.at_ q x e y1 y2
    exact ⟨p, a, b, i1, k.tup m i2, k.tup m i3, k.tup m i4⟩
  · by_cases y : a ∈ ds
    · exact m1 a y
    · obtain ⟨o, y1, y2⟩ := h.mu a ma
      exact ⟨o, k _ _ y1 y2.2 y, y2⟩
theorem TwAt.kq {Ct : Addr} (k : Kq ds H H1) (m : Mu H ds) (m1 : Mu H1 ds) (s : ∀ a ∈ ds, a ∈ cs) (d : ∀ a ∈ [x, c, l] ++ uv, a ∉ ds) (hv : ∀ i xs v, Val i xs v H → Val i xs v H1) (hu : UR u H → UR1 u H1) (h : TwAt Ct Cj Cc uv f UR Val cs x j jdx c cdx l z ms u es g e H) : TwAt Ct Cj Cc uv f UR1 Val cs x j jdx c cdx l z ms u es g e H1 := by
  obtain ⟨dx, hh, fr, bv, ys, h1, h2, h3, h4, h5, h6, h7⟩ := h.hx
  obtain ⟨xs, l1, l2⟩ := h.jw.lg
  refine ⟨⟨dx, hh, fr, bv, ys, k _ _ h1 (fun _ z => nomatch z) (d x (memL memA)), k _ _ h2 (fun _ z => nomatch z) fun z => h3 (s _ z), h3, k _ _ h4 (fun _ z => nomatch z) fun z => h5 (s _ z), h5, h6.kq k m hv, h7.kq k m hv⟩, JW.mk1 (k _ _ h.jw.hj (fun _ z => nomatch z) fun z => h.nj (s _ z)) (k _ _ h.jw.hc (fun _ z => nomatch z) (d c (memL (memB memA)))) ⟨xs, k _ _ l1 (fun _ z => nomatch z) (d l (memL (memB (memB memA)))), ⟨l2.len, fun q x e y1 y2 => ?_⟩⟩ (hu h.jw.ur) h.jw.ue h.jw.nj h.jw.nc h.jw.nl, h.ok, fun i m y => hv _ _ _ (h.mm i m y), fun a ma => ?_, h.sub, h.nj, h.nx⟩
  · obtain ⟨p, a, b, i1, i2, i3, i4⟩ := l2.at_ q x e y1 y2
    exact ⟨p, a, b, i1, k.tup m i2, k.tup m i3, k.tup m i4⟩
  · by_cases y : a ∈ ds
    · exact m1 a y
    · obtain ⟨o, y1, y2⟩ := h.mu a ma
      exact ⟨o, k _ _ y1 y2.2 y, y2⟩
theorem cv_kq (k : Cv H H1) : Kq [] H H1 := fun b o e nx _ => k b o e nx
/-- one of the two queues -/
def QAt (Ct Ce Cs : Addr) (Cj : Addr × Addr) (Cc : Addr) (uv : List Addr) (f : V) (UR : List JEv → Hp → Prop) (Val : Nat → List V → V → Hp → Prop) (cs : List Addr) (x j jdx c cdx l : Addr) (z : V) (ms : List V) (u : List JEv) (es : List (Nat × Nat × Nat)) (g : Nat) (H : Hp) : Prop :=
  (∃ e, TwAt Ct Cj Cc uv f UR Val cs x j jdx c cdx l z ms u es g e H) ∨ ∃ e b r, EvAt Ce Cs Cj Cc uv f UR Val cs x j jdx c cdx l z ms u es g e b r H
section
variable {Ct : Addr}
theorem QAt.kp (U : JS P w K mg base n true uv f UR Val) (h : QAt Ct Ce Cs Cj Cc uv f UR Val cs x j jdx c cdx l z ms u es g H) (k : Kp ds H H1) (m : Mu H ds) (m1 : Mu H1 ds) (s : ∀ a ∈ ds, a ∈ cs) (d : ∀ a ∈ [x, c, l] ++ uv, a ∉ ds) : QAt Ct Ce Cs Cj Cc uv f UR Val cs x j jdx c cdx l z ms u es g H1 :=
  h.imp (fun ⟨e, h⟩ => ⟨e, h.kp U k m m1 s d⟩) fun ⟨e, b, r, h⟩ => ⟨e, b, r, h.kp U k m m1 s d⟩
theorem QAt.same (U : JS P w K mg base n true uv f UR Val) (h : QAt Ct Ce Cs Cj Cc uv f UR Val cs x j jdx c cdx l z ms u es g H) (s : Same H H1) : QAt Ct Ce Cs Cj Cc uv f UR Val cs x j jdx c cdx l z ms u es g H1 :=
  h.imp (fun ⟨e, h⟩ => ⟨e, h.same U s⟩) fun ⟨e, b, r, h⟩ => ⟨e, b, r, h.same U s⟩
theorem QAt.kq (h : QAt Ct Ce Cs Cj Cc uv f UR Val cs x j jdx c cdx l z ms u es g H) (k : Kq ds H H1) (m : Mu H ds) (m1 : Mu H1 ds) (s : ∀ a ∈ ds, a ∈ cs) (d : ∀ a ∈ [x, c, l] ++ uv, a ∉ ds) (hv : ∀ i xs v, Val i xs v H → Val i xs v H1) (hu : UR u H → UR1 u H1) : QAt Ct Ce Cs Cj Cc uv f UR1 Val cs x j jdx c cdx l z ms u es g H1 :=
  h.imp (fun ⟨e, h⟩ => ⟨e, h.kq k m m1 s d hv hu⟩) fun ⟨e, b, r, h⟩ => ⟨e, b, r, h.kq k m m1 s d hv hu⟩
theorem QAt.cv (h : QAt Ct Ce Cs Cj Cc uv f UR Val cs x j jdx c cdx l z ms u es g H) (k : Cv H H1) (hv : ∀ i xs v, Val i xs v H → Val i xs v H1) (hu : UR u H → UR1 u H1) : QAt Ct Ce Cs Cj Cc uv f UR1 Val cs x j jdx c cdx l z ms u es g H1 :=
  h.kq (cv_kq k) mu_nil mu_nil (fun _ z => nomatch z) (fun _ _ => not_nil) hv hu
/-- what both have in common -/
theorem QAt.com (h : QAt Ct Ce Cs Cj Cc uv f UR Val cs x j jdx c cdx l z ms u es g H) : JW Cj Cc true uv f UR j jdx c cdx l u es H ∧ g ≤ ms.length ∧ Mems Val ms H ∧ Mu H cs ∧ (∀ a ∈ [x, c, l] ++ uv, a ∈ cs) ∧ j ∉ cs ∧ x ∉ [c, l] ++ uv := by
  rcases h with ⟨e, h⟩ | ⟨e, b, r, h⟩
  · exact ⟨h.jw, Nat.le_trans h.ok.1 h.ok.2, h.mm, h.mu, h.sub, h.nj, h.nx⟩
  · have := h.ok.le
    exact ⟨h.jw, by omega, h.mm, h.mu, h.sub, h.nj, h.nx⟩
theorem QAt.ins (h : QAt Ct Ce Cs Cj Cc uv f UR Val cs x j jdx c cdx l z ms u es g H) : (∃ dx h fr bv, H x = some (TO Ct dx c j z ms.length h fr bv) ∧ H h = some (.dK (heldK g (ms.drop g)))) ∨ ∃ dx h sh, H x = some (EO Ce dx c j z ms.length h sh) ∧ H h = some (.dK (heldK g (ms.drop g))) := by
  rcases h with ⟨e, h⟩ | ⟨e, b, r, h⟩
  · obtain ⟨dx, hh, fr, bv, xs, h1, h2, _⟩ := h.hx
    exact .inl ⟨dx, hh, fr, bv, h1, h2⟩
  · obtain ⟨dx, hh, sh, h1, h2, _⟩ := h.hx
    exact .inr ⟨dx, hh, sh, h1, h2⟩
end
theorem cv_tel {cells : List (Str × Addr)} {names : List (Str × NameKind)} {N : List Str} {σ : L2.St} {HT H3 : Hp} {cT : List Addr} (t : Inf.Tel cells names N σ H cT HT) (k : ∀ b, b ∈ cT → H3 b = HT b) : Cv H3 (Inf.cut cT H3) := fun b o e nx => by
  rw [Inf.cut_out fun m => ?_]
  · exact e
  · obtain ⟨φ, y⟩ := t.ext b m
    rw [k b m, y] at e
    exact nx φ (Option.some.inj e).symm
theorem cv_same (s : Same H H1) : Cv H H1 := fun b o e _ => s b o e
theorem tel_kp {cells : List (Str × Addr)} {names : List (Str × NameKind)} {N : List Str} {σ : L2.St} {H HT H3 : Hp} {cT ds : List Addr} (t : Inf.Tel cells names N σ H cT HT) (k : Kp ds HT H3) (m : Mu HT ds) : (∀ b, b ∈ cT → H3 b = HT b) ∧ Kp ds H (Inf.cut cT H3) :=
  ⟨fun b hb => by
    obtain ⟨φ, y⟩ := t.ext b hb
    rw [y]
    exact k.at_ _ _ y (m.ext y), ⟨fun b o e n => by
    rw [Inf.cut_out (fun z => by rw [t.no b z] at e; cases e)]
    exact k.at_ _ _ (t.same _ _ e) n⟩⟩
end
end Ob

set_option Elab.async false
set_option linter.all false
set_option maxRecDepth 100000
set_option maxHeartbeats 1000000
namespace Ob
open PySem PySem.Spec PyProof.Rows L2
open LamX (Tabs TabB TabS ExtN)

set_option hygiene false in
local macro_rules
  | `(tactic| kp_flats) => `(tactic| first
    | assumption
    | exact upd_same
    | (apply atNew; assumption; kp_flats)
    | (apply atNe; (next => kbo_bools); kp_flats)
    | (apply atSame; assumption; kp_flats)
    | (apply atKp; assumption; (next => kaf_pre); kp_flats))
set_option hygiene false in
local macro_rules
  | `(tactic| kaf_pre) => `(tactic| first
    | assumption
    | exact not_nil
    | (apply not_cons; (next => kbo_bools); kaf_pre)
    | (apply not_app; (next => kaf_pre); kaf_pre))
set_option hygiene false in
local macro_rules
  | `(tactic| kbo_bools) => `(tactic| first
    | assumption
    | (apply Ne.symm; assumption)
    | (apply neN; assumption; kp_flats)
    | (apply neN'; assumption; kp_flats))
set_option hygiene false in
local macro_rules
  | `(tactic| o_reads) => `(tactic| first
    | with_reducible rfl
    | assumption
    | rfl
    | kp_flats
    | (show SqL _ _ _ _; first | assumption | (apply sqlOf; kp_flats) | (apply sqlSame; assumption; o_reads))
    | (show SqT _ _ _ _; first | assumption | (apply sqtOf; kp_flats) | (apply sqtAll; assumption) | (apply sqtSame; assumption; o_reads))
    | (show Cls _ _; first | exact T.cl_Calls | exact T.cl_Joiner | exact T.cl_Planner | exact T.cl_EvenSums | exact T.cl_Shape | exact T.cl_TwoStacks)
    | (show NoAttr _ _ _; first | exact T.n_Calls_entries | exact T.n_Calls_running | exact T.n_Joiner_calls | exact T.n_Joiner_join_call | exact T.n_Planner_entries | exact T.n_EvenSums_calls | exact T.n_EvenSums_joiner | exact T.n_EvenSums_zero | exact T.n_EvenSums_given | exact T.n_EvenSums_held | exact T.n_EvenSums_shape | exact T.n_Shape_front | exact T.n_Shape_back | exact T.n_Shape_late | exact T.n_Shape_renewed | exact T.n_TwoStacks_calls | exact T.n_TwoStacks_joiner | exact T.n_TwoStacks_zero | exact T.n_TwoStacks_given | exact T.n_TwoStacks_held | exact T.n_TwoStacks_front | exact T.n_TwoStacks_back)
    | (apply Or.inl; o_reads)
    | (apply Or.inr; o_reads)
    | (apply And.intro; (next => o_reads); o_reads)
    | (apply Exists.intro; o_reads)
    | exact Nat.le_of_ble_eq_true rfl
    | exact Nat.succ_ne_zero _
    | (show Fr _ _; kba_ints)
    | (show Same _ _; kd_subs)
    | (show Kp _ _ _; kxs_still)
    | (show (_ : Nat) ≤ _; simp only [List.length_append, List.length_map, List.length_cons, List.length_nil, List.length_take, List.length_drop, List.length_replicate, List.length_range, sizeLine_eq]; omega)
    | (show _ = none; apply Fr.h; kba_ints)
    | (show Bag _ _; first | assumption | (apply bag_putF; assumption; o_reads) | (apply bag_neF; (next => kbo_bools); o_reads) | (apply bag_kpR; assumption; (next => kaf_pre); o_reads))
    | omega
    | decide)
local macro_rules
  | `(tactic| o_readsAll) => `(tactic| repeat (first
    | (refine fun (pNew : Addr) (nNew : _ = none) => ?_; replace nNew := Fr.mk nNew)
    | (refine fun (xNew dNew : Addr) (nNew : _ = none) (mNew : _ = none) (eNew : dNew ≠ xNew) => ?_; replace nNew := Fr.mk nNew; replace mNew := Fr.mk mNew)
    | (apply And.intro; next => o_reads)
    | apply Exists.intro (α := V)
    | apply Exists.intro (α := Addr)
    | apply Exists.intro (α := Int)
    | apply Exists.intro (α := Bool)
    | apply Exists.intro (α := List V)
    | apply Exists.intro (α := List Nat)
    | apply Exists.intro (α := List (Str × V))
    | apply Exists.intro (α := List _)
    | apply Exists.intro (α := Str)
    | apply Exists.intro (α := HO)
    | apply Exists.intro (α := Sp)
    | apply Exists.intro (α := VK)))
set_option hygiene false in
local macro_rules
  | `(tactic| kba_ints) => `(tactic| first
    | assumption
    | (apply frUp; (first | assumption | (apply Ne.symm; assumption)); kba_ints)
    | (apply noneOf; assumption; intro oF eF; apply Exists.intro; kp_flats)
    | (apply frUp; (next => kbo_bools); kba_ints))
set_option hygiene false in
local macro_rules
  | `(tactic| kxs_still) => `(tactic| first
    | assumption
    | exact kp_refl _ _
    | (apply kp_newF; assumption; kxs_still)
    | (apply kp_new; assumption; kxs_still)
    | (apply kp_up; (next => o_fieldsN); kxs_still)
    | (apply kp_new; (next => kba_ints); kxs_still)
    | (apply kp_sameR; assumption; kxs_still)
    | (apply kp_transR; assumption; kxs_still)
    | (apply kp_freshR; assumption; (next => kaf_suf); kxs_still))
set_option hygiene false in
local macro_rules
  | `(tactic| kaf_suf) => `(tactic| first
    | assumption
    | exact subNil
    | (apply subCons; (first | (apply Or.inl; o_fieldsN) | (apply Or.inr; kba_ints)); kaf_suf)
    | (apply subApp; (next => kaf_suf); kaf_suf))
set_option hygiene false in
local macro_rules
  | `(tactic| o_fieldsN) => `(tactic| first
    | assumption
    | exact memA
    | (apply memB; o_fieldsN)
    | (apply memL; o_fieldsN)
    | (apply memR; o_fieldsN))
set_option hygiene false in
local macro_rules
  | `(tactic| kd_subs) => `(tactic| first
    | assumption
    | exact Same.refl _
    | (apply same_putF; assumption; kd_subs)
    | (apply same_putG; assumption; kd_subs)
    | (apply same_putF; (next => kba_ints); kd_subs)
    | (apply same_transR; assumption; kd_subs))

set_option pp.maxSteps 900
/-! ### the methods of one of the two queues -/
theorem twE_len {g e n : Nat} (h1 : g ≤ e) (h2 : e ≤ n) (gl : g < n) : (twTE g e n).length ≤ 2 := by
  obtain ⟨_, _, h3⟩ := tw_end h1 h2 gl
  unfold twTE wholeE
  rw [List.length_map, List.length_range]
  omega
theorem evE_len {g e b n : Nat} {r : Option Nat} (h : ShOk g e b n r) (gl : g < n) : (totE g e b n).length ≤ 2 := by
  obtain ⟨_, _, h3⟩ := sum_end h gl
  unfold totE wholeE
  rw [List.length_map, List.length_range]
  omega
theorem twR_len {g e n : Nat} : (twRE g e n).length ≤ n := by
  unfold twRE
  split
  · exact Nat.le_trans allE_len (Nat.sub_le _ _)
  · exact Nat.zero_le _
section
variable {P : Program} {w : World} {K : PySem.W.Frag} {mg : Str → Option Value} {base : Heap} {n : Nat}
variable {uv : List Addr} {f z : V} {UR UR1 : List JEv → Hp → Prop} {Val : Nat → List V → V → Hp → Prop} {x j jdx c cdx l : Addr} {u : List JEv} {es : List (Nat × Nat × Nat)} {H : Hp} {ms : List V} {cs : List Addr} {g : Nat} {σ : L2.St} {i k : Nat} {Q : VK}
abbrev QT (T : Txt K mg) := QAt T.C_TwoStacks T.C_EvenSums T.C_Shape (CJ T) T.C_Calls
theorem q_tot (T : Txt K mg) (U : JS P w K mg base n true uv f UR Val) (hv : σ[i]? = some (some (.ref x))) (h : QT T uv f UR Val cs x j jdx c cdx l z ms u es g H) (lu : u.length < 80000) (le : es.length < 80000) (lm : ms.length < 70000) (qz : ms.length ≤ g → Q z H)
    (q : ∀ v d ds H', g < ms.length → d.length = ds.length → ds.length ≤ 2 → Kp ([c, l] ++ uv) H H' → QT T uv f UR Val cs x j jdx c cdx l z ms (u ++ d) (es ++ ds) g H' → Val g (seg ms g ms.length) v H' → Q v H') :
    tEither (tMeth T.C_TwoStacks "total" (spTwTot P w K mg base T.C_TwoStacks (CJ T) T.C_Calls n) [] E0 (tVar i) tNil) (tMeth T.C_EvenSums "total" (spEvTot P w K mg base T.C_EvenSums T.C_Shape (CJ T) T.C_Calls n) [] E0 (tVar i) tNil) σ H Q := by
  rcases h with ⟨e, h⟩ | ⟨e, b, r, h⟩
  · obtain ⟨dx, hh, fr, bv, xs, h1, h2, _⟩ := h.hx
    exact .inl ⟨_, hv, x, _, _, rfl, h1, rfl, uv, f, UR, Val, cs, x, j, jdx, c, cdx, l, z, ms, u, es, g, e, rfl, U, h, lu, le, lm, qz, fun v d H' gl ld k tw vl => q v d _ H' gl ld (twE_len h.ok.1 h.ok.2 gl) k (.inl ⟨_, tw⟩) vl⟩
  · obtain ⟨dx, hh, sh, h1, h2, _⟩ := h.hx
    exact .inr ⟨_, hv, x, _, _, rfl, h1, rfl, uv, f, UR, Val, cs, x, j, jdx, c, cdx, l, z, ms, u, es, g, e, b, r, rfl, U, h, lu, le, lm, qz, fun v d H' gl ld k tw vl => q v d _ H' gl ld (evE_len h.ok gl) k (.inr ⟨_, _, _, tw⟩) vl⟩
/-! while the def's cells are told -/
section
variable {X : Cx}
/-- what the join notes, before the cells are told and after -/
structure Told (X : Cx) (σ : L2.St) (URu URt : List JEv → Hp → Prop) (Val : Nat → List V → V → Hp → Prop) (u : List JEv) (H : Hp) : Prop where
  to : ∀ cT HT, Inf.Tel X.env.cells X.env.scope.names X.N σ H cT HT → URu u H → URt u HT
  back : ∀ cT HT H3 u1, Inf.Tel X.env.cells X.env.scope.names X.N σ H cT HT → (∀ b, b ∈ cT → H3 b = HT b) → URu u H → URt u1 H3 → URu u1 (Inf.cut cT H3)
  v1 : ∀ cT HT, Inf.Tel X.env.cells X.env.scope.names X.N σ H cT HT → ∀ i xs v, Val i xs v H → Val i xs v HT
  v2 : ∀ cT HT H3, Inf.Tel X.env.cells X.env.scope.names X.N σ H cT HT → (∀ b, b ∈ cT → H3 b = HT b) → ∀ i xs v, Val i xs v H3 → Val i xs v (Inf.cut cT H3)
theorem t_add {T : Txt X.K X.mg} (U : JS P w X.K X.mg base n true uv f UR1 Val) (TL : Told X σ UR UR1 Val u H) (hv : σ[i]? = some (some (.ref x))) (m : V) (hm : σ[k]? = some (some m)) (h : QT T uv f UR Val cs x j jdx c cdx l z ms u es g H) (lu : u.length < 80000) (le : es.length < 80000) (lm : ms.length < 70000) (vm : Val ms.length [m] m H)
    (q : ∀ d ds H', d.length = ds.length → ds.length ≤ 2 → Kp ([x, c, l] ++ uv) H H' → QT T uv f UR Val cs x j jdx c cdx l z (ms ++ [m]) (u ++ d) (es ++ ds) g H' → Q (.int ms.length) H') :
    tEither (Inf.tMethT X T.C_TwoStacks "add" (spTwAdd P w X.K X.mg base T.C_TwoStacks (CJ T) T.C_Calls n) [] (tVar i) (tCons (tVar k) tNil)) (Inf.tMethT X T.C_EvenSums "add" (spEvAdd P w X.K X.mg base T.C_EvenSums T.C_Shape (CJ T) T.C_Calls n) [] (tVar i) (tCons (tVar k) tNil)) σ H Q := by
  have hT : ∀ cT HT, Inf.Tel X.env.cells X.env.scope.names X.N σ H cT HT → QT T uv f UR1 Val cs x j jdx c cdx l z ms u es g HT := fun cT HT tel => h.cv (cv_same tel.same) (TL.v1 cT HT tel) (TL.to cT HT tel)
  have hB : ∀ cT HT H3 ns u1 es1 g1, Inf.Tel X.env.cells X.env.scope.names X.N σ H cT HT → (∀ b, b ∈ cT → H3 b = HT b) → QT T uv f UR1 Val cs x j jdx c cdx l z ns u1 es1 g1 H3 → QT T uv f UR Val cs x j jdx c cdx l z ns u1 es1 g1 (Inf.cut cT H3) := fun cT HT H3 ns u1 es1 g1 tel t1 h3 => h3.cv (cv_tel tel t1) (TL.v2 cT HT H3 tel t1) (TL.back cT HT H3 u1 tel t1 h.com.1.ur)
  rcases h with ⟨e, h⟩ | ⟨e, b, r, h⟩
  · obtain ⟨dx, hh, fr, bv, xs, h1, h2, _⟩ := h.hx
    refine .inl ⟨_, hv, x, _, _, rfl, h1, rfl, _, hm, fun cT HT tel => ?_⟩
    have hQ : TwAt T.C_TwoStacks (CJ T) T.C_Calls uv f UR1 Val cs x j jdx c cdx l z ms u es g e HT := h.kq (cv_kq (cv_same tel.same)) mu_nil mu_nil (fun _ z => nomatch z) (fun _ _ => not_nil) (TL.v1 cT HT tel) (TL.to cT HT tel)
    have mT := hQ.mu.sub hQ.sub
    refine ⟨uv, f, UR1, Val, cs, x, j, jdx, c, cdx, l, z, ms, u, es, g, e, m, rfl, U, hQ, lu, le, lm, TL.v1 cT HT tel _ _ _ vm, fun d H8 ld k8 h8 => ?_⟩
    obtain ⟨t1, t2⟩ := tel_kp tel k8 mT
    refine ⟨t1, q d _ _ ld ?_ t2 (hB cT HT H8 _ _ _ _ tel t1 (.inl ⟨_, h8⟩))⟩
    have := extE_len (i := e) (m := ms.length)
    omega
  · obtain ⟨dx, hh, sh, h1, h2, _⟩ := h.hx
    refine .inr ⟨_, hv, x, _, _, rfl, h1, rfl, _, hm, fun cT HT tel => ?_⟩
    have hQ : EvAt T.C_EvenSums T.C_Shape (CJ T) T.C_Calls uv f UR1 Val cs x j jdx c cdx l z ms u es g e b r HT := h.kq (cv_kq (cv_same tel.same)) mu_nil mu_nil (fun _ z => nomatch z) (fun _ _ => not_nil) (TL.v1 cT HT tel) (TL.to cT HT tel)
    have mT := hQ.mu.sub hQ.sub
    refine ⟨uv, f, UR1, Val, cs, x, j, jdx, c, cdx, l, z, ms, u, es, g, e, b, r, m, rfl, U, hQ, lu, le, lm, TL.v1 cT HT tel _ _ _ vm, fun d H8 ld k8 h8 => ?_⟩
    obtain ⟨t1, t2⟩ := tel_kp tel k8 mT
    exact ⟨t1, q d _ _ ld addE_len t2 (hB cT HT H8 _ _ _ _ tel t1 (.inr ⟨_, _, _, h8⟩))⟩
theorem t_rem {T : Txt X.K X.mg} (U : JS P w X.K X.mg base n true uv f UR1 Val) (TL : Told X σ UR UR1 Val u H) (hv : σ[i]? = some (some (.ref x))) (h : QT T uv f UR Val cs x j jdx c cdx l z ms u es g H) (lu : u.length < 80000) (le : es.length < 80000) (lm : ms.length < 9000) (gl : g < ms.length)
    (q : ∀ d ds H', d.length = ds.length → ds.length ≤ ms.length + 1 → Kp ([x, c, l] ++ uv) H H' → QT T uv f UR Val cs x j jdx c cdx l z ms (u ++ d) (es ++ ds) (g + 1) H' → Q (.int g) H') :
    tEither (Inf.tMethT X T.C_TwoStacks "remove_oldest" (spTwRem P w X.K X.mg base T.C_TwoStacks (CJ T) T.C_Calls n) [] (tVar i) tNil) (Inf.tMethT X T.C_EvenSums "remove_oldest" (spEvRem P w X.K X.mg base T.C_EvenSums T.C_Shape (CJ T) T.C_Calls n) [] (tVar i) tNil) σ H Q := by
  have hB : ∀ cT HT H3 ns u1 es1 g1, Inf.Tel X.env.cells X.env.scope.names X.N σ H cT HT → (∀ b, b ∈ cT → H3 b = HT b) → QT T uv f UR1 Val cs x j jdx c cdx l z ns u1 es1 g1 H3 → QT T uv f UR Val cs x j jdx c cdx l z ns u1 es1 g1 (Inf.cut cT H3) := fun cT HT H3 ns u1 es1 g1 tel t1 h3 => h3.cv (cv_tel tel t1) (TL.v2 cT HT H3 tel t1) (TL.back cT HT H3 u1 tel t1 h.com.1.ur)
  rcases h with ⟨e, h⟩ | ⟨e, b, r, h⟩
  · obtain ⟨dx, hh, fr, bv, xs, h1, h2, _⟩ := h.hx
    refine .inl ⟨_, hv, x, _, _, rfl, h1, rfl, fun cT HT tel => ?_⟩
    have hQ : TwAt T.C_TwoStacks (CJ T) T.C_Calls uv f UR1 Val cs x j jdx c cdx l z ms u es g e HT := h.kq (cv_kq (cv_same tel.same)) mu_nil mu_nil (fun _ z => nomatch z) (fun _ _ => not_nil) (TL.v1 cT HT tel) (TL.to cT HT tel)
    have mT := hQ.mu.sub hQ.sub
    refine ⟨uv, f, UR1, Val, cs, x, j, jdx, c, cdx, l, z, ms, u, es, g, e, rfl, U, hQ, lu, le, lm, gl, fun d H8 ld k8 h8 => ?_⟩
    obtain ⟨t1, t2⟩ := tel_kp tel k8 mT
    refine ⟨t1, q d _ _ ld ?_ t2 (hB cT HT H8 _ _ _ _ tel t1 (.inl ⟨_, h8⟩))⟩
    have := twR_len (g := g) (e := e) (n := ms.length)
    omega
  · obtain ⟨dx, hh, sh, h1, h2, _⟩ := h.hx
    refine .inr ⟨_, hv, x, _, _, rfl, h1, rfl, fun cT HT tel => ?_⟩
    have hQ : EvAt T.C_EvenSums T.C_Shape (CJ T) T.C_Calls uv f UR1 Val cs x j jdx c cdx l z ms u es g e b r HT := h.kq (cv_kq (cv_same tel.same)) mu_nil mu_nil (fun _ z => nomatch z) (fun _ _ => not_nil) (TL.v1 cT HT tel) (TL.to cT HT tel)
    have mT := hQ.mu.sub hQ.sub
    refine ⟨uv, f, UR1, Val, cs, x, j, jdx, c, cdx, l, z, ms, u, es, g, e, b, r, rfl, U, hQ, lu, le, by omega, gl, fun d H8 ld k8 h8 => ?_⟩
    obtain ⟨t1, t2⟩ := tel_kp tel k8 mT
    refine ⟨t1, q d _ _ ld ?_ t2 (hB cT HT H8 _ _ _ _ tel t1 (.inr ⟨_, _, _, h8⟩))⟩
    have := workE_len (g := g + 1) (e := e) (b := b) (n := ms.length) (r := r)
    omega
end
end
end Ob

set_option Elab.async false
set_option linter.all false
set_option maxRecDepth 100000
set_option maxHeartbeats 1000000
namespace Ob
open PySem PySem.Spec PyProof.Rows L2
open LamX (Tabs TabB TabS ExtN)

set_option hygiene false in
local macro_rules
  | `(tactic| kp_flats) => `(tactic| first
    | assumption
    | exact upd_same
    | (apply atNew; assumption; kp_flats)
    | (apply atNe; (next => kbo_bools); kp_flats)
    | (apply atSame; assumption; kp_flats)
    | (apply atKp; assumption; (next => kaf_pre); kp_flats))
set_option hygiene false in
local macro_rules
  | `(tactic| kaf_pre) => `(tactic| first
    | assumption
    | exact not_nil
    | (apply not_cons; (next => kbo_bools); kaf_pre)
    | (apply not_app; (next => kaf_pre); kaf_pre))
set_option hygiene false in
local macro_rules
  | `(tactic| kbo_bools) => `(tactic| first
    | assumption
    | (apply Ne.symm; assumption)
    | (apply neN; assumption; kp_flats)
    | (apply neN'; assumption; kp_flats))
set_option hygiene false in
local macro_rules
  | `(tactic| o_reads) => `(tactic| first
    | with_reducible rfl
    | assumption
    | rfl
    | kp_flats
    | (show SqL _ _ _ _; first | assumption | (apply sqlOf; kp_flats) | (apply sqlSame; assumption; o_reads))
    | (show SqT _ _ _ _; first | assumption | (apply sqtOf; kp_flats) | (apply sqtAll; assumption) | (apply sqtSame; assumption; o_reads))
    | (show Cls _ _; first | exact T.cl_Calls | exact T.cl_Joiner | exact T.cl_Planner | exact T.cl_EvenSums | exact T.cl_Shape | exact T.cl_TwoStacks)
    | (show NoAttr _ _ _; first | exact T.n_Calls_entries | exact T.n_Calls_running | exact T.n_Joiner_calls | exact T.n_Joiner_join_call | exact T.n_Planner_entries | exact T.n_EvenSums_calls | exact T.n_EvenSums_joiner | exact T.n_EvenSums_zero | exact T.n_EvenSums_given | exact T.n_EvenSums_held | exact T.n_EvenSums_shape | exact T.n_Shape_front | exact T.n_Shape_back | exact T.n_Shape_late | exact T.n_Shape_renewed | exact T.n_TwoStacks_calls | exact T.n_TwoStacks_joiner | exact T.n_TwoStacks_zero | exact T.n_TwoStacks_given | exact T.n_TwoStacks_held | exact T.n_TwoStacks_front | exact T.n_TwoStacks_back)
    | (apply Or.inl; o_reads)
    | (apply Or.inr; o_reads)
    | (apply And.intro; (next => o_reads); o_reads)
    | (apply Exists.intro; o_reads)
    | exact Nat.le_of_ble_eq_true rfl
    | exact Nat.succ_ne_zero _
    | (show Fr _ _; kba_ints)
    | (show Same _ _; kd_subs)
    | (show Kp _ _ _; kxs_still)
    | (show (_ : Nat) ≤ _; simp only [List.length_append, List.length_map, List.length_cons, List.length_nil, List.length_take, List.length_drop, List.length_replicate, List.length_range, sizeLine_eq]; omega)
    | (show _ = none; apply Fr.h; kba_ints)
    | (show Bag _ _; first | assumption | (apply bag_putF; assumption; o_reads) | (apply bag_neF; (next => kbo_bools); o_reads) | (apply bag_kpR; assumption; (next => kaf_pre); o_reads))
    | omega
    | decide)
local macro_rules
  | `(tactic| o_readsAll) => `(tactic| repeat (first
    | (refine fun (pNew : Addr) (nNew : _ = none) => ?_; replace nNew := Fr.mk nNew)
    | (refine fun (xNew dNew : Addr) (nNew : _ = none) (mNew : _ = none) (eNew : dNew ≠ xNew) => ?_; replace nNew := Fr.mk nNew; replace mNew := Fr.mk mNew)
    | (apply And.intro; next => o_reads)
    | apply Exists.intro (α := V)
    | apply Exists.intro (α := Addr)
    | apply Exists.intro (α := Int)
    | apply Exists.intro (α := Bool)
    | apply Exists.intro (α := List V)
    | apply Exists.intro (α := List Nat)
    | apply Exists.intro (α := List (Str × V))
    | apply Exists.intro (α := List _)
    | apply Exists.intro (α := Str)
    | apply Exists.intro (α := HO)
    | apply Exists.intro (α := Sp)
    | apply Exists.intro (α := VK)))
set_option hygiene false in
local macro_rules
  | `(tactic| kba_ints) => `(tactic| first
    | assumption
    | (apply frUp; (first | assumption | (apply Ne.symm; assumption)); kba_ints)
    | (apply noneOf; assumption; intro oF eF; apply Exists.intro; kp_flats)
    | (apply frUp; (next => kbo_bools); kba_ints))
set_option hygiene false in
local macro_rules
  | `(tactic| kxs_still) => `(tactic| first
    | assumption
    | exact kp_refl _ _
    | (apply kp_newF; assumption; kxs_still)
    | (apply kp_new; assumption; kxs_still)
    | (apply kp_up; (next => o_fieldsN); kxs_still)
    | (apply kp_new; (next => kba_ints); kxs_still)
    | (apply kp_sameR; assumption; kxs_still)
    | (apply kp_transR; assumption; kxs_still)
    | (apply kp_freshR; assumption; (next => kaf_suf); kxs_still))
set_option hygiene false in
local macro_rules
  | `(tactic| kaf_suf) => `(tactic| first
    | assumption
    | exact subNil
    | (apply subCons; (first | (apply Or.inl; o_fieldsN) | (apply Or.inr; kba_ints)); kaf_suf)
    | (apply subApp; (next => kaf_suf); kaf_suf))
set_option hygiene false in
local macro_rules
  | `(tactic| o_fieldsN) => `(tactic| first
    | assumption
    | exact memA
    | (apply memB; o_fieldsN)
    | (apply memL; o_fieldsN)
    | (apply memR; o_fieldsN))
set_option hygiene false in
local macro_rules
  | `(tactic| kd_subs) => `(tactic| first
    | assumption
    | exact Same.refl _
    | (apply same_putF; assumption; kd_subs)
    | (apply same_putG; assumption; kd_subs)
    | (apply same_putF; (next => kba_ints); kd_subs)
    | (apply same_transR; assumption; kd_subs))

/-! ### len(o), o of an own class with its own __len__ -/
theorem call_lenO {X : Cx} {k : Nat} {C f : Addr} {sp : Sp} (F : FnR X.prog X.w X.K X.mg X.base CX0 k f sp) (hr : Room (k + 1) X.A) (hs : PySem.W.findIn X.K (.ref C) "__len__" = some (some (.ref f))) (hf : PySem.W.typeIn X.K (.ref f) = some (.type "function")) :
    CallR X (.builtin "len") (fun xs H Q => ∃ (a dx : Addr) (fs : List (Str × V)), xs = [.ref a] ∧ H a = some (.ins C dx fs) ∧ sp [.ref a] H (fun v H' => ∃ m : Nat, v = .int (m : Int) ∧ m < 2 ^ 62 ∧ Q (.int (m : Int)) H') E0) := by
  intro pins s σ H xs us Q I r h
  obtain ⟨a, dx, fs, rfl, ha, h⟩ := h
  obtain ⟨u, rfl, ru⟩ := vals1 r
  obtain rfl : u = Value.ref a := ru
  obtain ⟨ox, od, J, _⟩ := StX.insC_at I (.inr ⟨dx, fs, ha⟩)
  refine PySem.Calls.call_function_entry kind_len plain_len entry_len (args_len1 _) ?_
  unfold Builtin.«len»
  refine wpAny_bind (m := oneArg "len" _) (wpAny_pure ?_)
  refine wpAny_bind (m := callSpecial? (.ref a) (Str.ofString "__len__")) (PySem.W.special_fn I.kIn J hs hf ?_)
  refine wpAny_call (codeAny_mono (F X.A.in1 X.stack s H _ _ _ E0 hr.in1 I.env0.in1 r h) fun res s' hq => ?_)
  match res, hq with
  | .error e, z => exact z.elim
  | .ok .next, z => exact z.elim
  | .ok .brk, z => exact z.elim
  | .ok .cont, z => exact z.elim
  | .ok (.ret v), z =>
    obtain ⟨y, H1, I1, ry, m, rfl, hm, q⟩ := I.after z
    obtain ⟨t, rfl⟩ := ry
    refine wpAny_bind (wpAny_holding (wpAny_pure ?_))
    refine wpAny_bind (wpAny_letGo ?_)
    show wpAny _ _ (if (m : Int) < 0 then _ else _) _ _ _
    rw [if_neg (by omega)]
    show wpAny _ _ (if (m : Int) ≥ 2 ^ 63 then _ else _) _ _ _
    rw [if_neg (by omega)]
    exact wpAny_bind (wpAny_mkInt (wpAny_pure ⟨_, rfl, ⟨.int (m : Int), H1, I1.tok _, ⟨_, rfl⟩, q⟩⟩))

set_option pp.maxSteps 900
section
variable {P : Program} {w : World} {K : PySem.W.Frag} {mg : Str → Option Value} {base : Heap} {n : Nat}
variable {uv : List Addr} {f z : V} {UR UR1 : List JEv → Hp → Prop} {Val : Nat → List V → V → Hp → Prop} {x j jdx c cdx l : Addr} {u : List JEv} {es : List (Nat × Nat × Nat)} {H : Hp} {ms : List V} {cs : List Addr} {g : Nat} {σ : L2.St} {i k : Nat} {Q : VK}
theorem q_mem (T : Txt K mg) (hv : σ[i]? = some (some (.ref x))) (h : QT T uv f UR Val cs x j jdx c cdx l z ms u es g H) (lm : ms.length < 70000) (q : ∀ o H', Fr H o → Same H H' → H' o = some (.lst (ms.drop g)) → Q (.ref o) H') :
    tEither (tMeth T.C_TwoStacks "members" (spTMem T.C_TwoStacks) [] E0 (tVar i) tNil) (tMeth T.C_EvenSums "members" (spEMem T.C_EvenSums) [] E0 (tVar i) tNil) σ H Q := by
  have ll : (ms.drop g).length < 70000 := by
    rw [List.length_drop]
    omega
  rcases h.ins with ⟨dx, hh, fr, bv, h1, h2⟩ | ⟨dx, hh, sh, h1, h2⟩
  · exact .inl ⟨_, hv, x, _, _, rfl, h1, rfl, x, dx, c, j, hh, fr, z, bv, _, g, _, rfl, h1, h2, ll, q⟩
  · exact .inr ⟨_, hv, x, _, _, rfl, h1, rfl, x, dx, c, j, hh, sh, z, _, g, _, rfl, h1, h2, ll, q⟩
theorem q_num (T : Txt K mg) (hv : σ[i]? = some (some (.ref x))) (h : QT T uv f UR Val cs x j jdx c cdx l z ms u es g H) (q : ∀ o H', Fr H o → Same H H' → H' o = some (.lst ((List.range' g (ms.length - g)).map fun i : Nat => V.int (i : Int))) → Q (.ref o) H') :
    tEither (tMeth T.C_TwoStacks "numbers" (spTNum T.C_TwoStacks T.C_Calls) [] E0 (tVar i) tNil) (tMeth T.C_EvenSums "numbers" (spENum T.C_EvenSums T.C_Calls) [] E0 (tVar i) tNil) σ H Q := by
  have ll : (ms.drop g).length = ms.length - g := List.length_drop ..
  rw [← ll] at q
  obtain ⟨jw, _⟩ := h.com
  rcases h.ins with ⟨dx, hh, fr, bv, h1, h2⟩ | ⟨dx, hh, sh, h1, h2⟩
  · exact .inl ⟨_, hv, x, _, _, rfl, h1, rfl, x, dx, c, cdx, l, j, hh, fr, z, bv, _, g, _, rfl, h1, jw.hc, h2, q⟩
  · exact .inr ⟨_, hv, x, _, _, rfl, h1, rfl, x, dx, c, cdx, l, j, hh, sh, z, _, g, _, rfl, h1, jw.hc, h2, q⟩
theorem q_len (T : Txt K mg) (hv : σ[i]? = some (some (.ref x))) (h : QT T uv f UR Val cs x j jdx c cdx l z ms u es g H) (lm : ms.length < 70000) (q : Q (.int ((ms.length - g : Nat) : Int)) H) :
    tEither (tCB (fun xs H Q => ∃ a dx fs, xs = [.ref a] ∧ H a = some (.ins T.C_TwoStacks dx fs) ∧ spTLen T.C_TwoStacks ([.ref a] ++ []) H (fun v H' => ∃ m : Nat, v = .int (m : Int) ∧ m < 2 ^ 62 ∧ Q (.int (m : Int)) H') E0) (tCons (tVar i) tNil))
      (tCB (fun xs H Q => ∃ a dx fs, xs = [.ref a] ∧ H a = some (.ins T.C_EvenSums dx fs) ∧ spELen T.C_EvenSums ([.ref a] ++ []) H (fun v H' => ∃ m : Nat, v = .int (m : Int) ∧ m < 2 ^ 62 ∧ Q (.int (m : Int)) H') E0) (tCons (tVar i) tNil)) σ H Q := by
  have ll : (ms.drop g).length = ms.length - g := List.length_drop ..
  have l2 : (ms.drop g).length < 2 ^ 62 := by
    rw [ll]
    omega
  rw [← ll] at q
  rcases h.ins with ⟨dx, hh, fr, bv, h1, h2⟩ | ⟨dx, hh, sh, h1, h2⟩
  · exact .inl ⟨_, hv, x, _, _, rfl, h1, x, dx, c, j, hh, fr, z, bv, _, g, _, rfl, h1, h2, _, rfl, l2, q⟩
  · exact .inr ⟨_, hv, x, _, _, rfl, h1, x, dx, c, j, hh, sh, z, _, g, _, rfl, h1, h2, _, rfl, l2, q⟩
end
end Ob

set_option Elab.async false
set_option linter.all false
set_option maxRecDepth 100000
set_option maxHeartbeats 1000000
namespace Ob
open PySem PySem.Spec PyProof.Rows L2
open LamX (Tabs TabB TabS ExtN)

set_option hygiene false in
local macro_rules
  | `(tactic| kp_flats) => `(tactic| first
    | assumption
    | exact upd_same
    | (apply atNew; assumption; kp_flats)
    | (apply atNe; (next => kbo_bools); kp_flats)
    | (apply atSame; assumption; kp_flats)
    | (apply atKp; assumption; (next => kaf_pre); kp_flats))
set_option hygiene false in
local macro_rules
  | `(tactic| kaf_pre) => `(tactic| first
    | assumption
    | exact not_nil
    | (apply not_cons; (next => kbo_bools); kaf_pre)
    | (apply not_app; (next => kaf_pre); kaf_pre))
set_option hygiene false in
local macro_rules
  | `(tactic| kbo_bools) => `(tactic| first
    | assumption
    | (apply Ne.symm; assumption)
    | (apply neN; assumption; kp_flats)
    | (apply neN'; assumption; kp_flats))
set_option hygiene false in
local macro_rules
  | `(tactic| o_reads) => `(tactic| first
    | with_reducible rfl
    | assumption
    | rfl
    | kp_flats
    | (show SqL _ _ _ _; first | assumption | (apply sqlOf; kp_flats) | (apply sqlSame; assumption; o_reads))
    | (show SqT _ _ _ _; first | assumption | (apply sqtOf; kp_flats) | (apply sqtAll; assumption) | (apply sqtSame; assumption; o_reads))
    | (show Cls _ _; first | exact T.cl_Calls | exact T.cl_Joiner | exact T.cl_Planner | exact T.cl_EvenSums | exact T.cl_Shape | exact T.cl_TwoStacks)
    | (show NoAttr _ _ _; first | exact T.n_Calls_entries | exact T.n_Calls_running | exact T.n_Joiner_calls | exact T.n_Joiner_join_call | exact T.n_Planner_entries | exact T.n_EvenSums_calls | exact T.n_EvenSums_joiner | exact T.n_EvenSums_zero | exact T.n_EvenSums_given | exact T.n_EvenSums_held | exact T.n_EvenSums_shape | exact T.n_Shape_front | exact T.n_Shape_back | exact T.n_Shape_late | exact T.n_Shape_renewed | exact T.n_TwoStacks_calls | exact T.n_TwoStacks_joiner | exact T.n_TwoStacks_zero | exact T.n_TwoStacks_given | exact T.n_TwoStacks_held | exact T.n_TwoStacks_front | exact T.n_TwoStacks_back)
    | (apply Or.inl; o_reads)
    | (apply Or.inr; o_reads)
    | (apply And.intro; (next => o_reads); o_reads)
    | (apply Exists.intro; o_reads)
    | exact Nat.le_of_ble_eq_true rfl
    | exact Nat.succ_ne_zero _
    | (show Fr _ _; kba_ints)
    | (show Same _ _; kd_subs)
    | (show Kp _ _ _; kxs_still)
    | (show (_ : Nat) ≤ _; simp only [List.length_append, List.length_map, List.length_cons, List.length_nil, List.length_take, List.length_drop, List.length_replicate, List.length_range, sizeLine_eq]; omega)
    | (show _ = none; apply Fr.h; kba_ints)
    | (show Bag _ _; first | assumption | (apply bag_putF; assumption; o_reads) | (apply bag_neF; (next => kbo_bools); o_reads) | (apply bag_kpR; assumption; (next => kaf_pre); o_reads))
    | omega
    | decide)
local macro_rules
  | `(tactic| o_readsAll) => `(tactic| repeat (first
    | (refine fun (pNew : Addr) (nNew : _ = none) => ?_; replace nNew := Fr.mk nNew)
    | (refine fun (xNew dNew : Addr) (nNew : _ = none) (mNew : _ = none) (eNew : dNew ≠ xNew) => ?_; replace nNew := Fr.mk nNew; replace mNew := Fr.mk mNew)
    | (apply And.intro; next => o_reads)
    | apply Exists.intro (α := V)
    | apply Exists.intro (α := Addr)
    | apply Exists.intro (α := Int)
    | apply Exists.intro (α := Bool)
    | apply Exists.intro (α := List V)
    | apply Exists.intro (α := List Nat)
    | apply Exists.intro (α := List (Str × V))
    | apply Exists.intro (α := List _)
    | apply Exists.intro (α := Str)
    | apply Exists.intro (α := HO)
    | apply Exists.intro (α := Sp)
    | apply Exists.intro (α := VK)))
set_option hygiene false in
local macro_rules
  | `(tactic| kba_ints) => `(tactic| first
    | assumption
    | (apply frUp; (first | assumption | (apply Ne.symm; assumption)); kba_ints)
    | (apply noneOf; assumption; intro oF eF; apply Exists.intro; kp_flats)
    | (apply frUp; (next => kbo_bools); kba_ints))
set_option hygiene false in
local macro_rules
  | `(tactic| kxs_still) => `(tactic| first
    | assumption
    | exact kp_refl _ _
    | (apply kp_newF; assumption; kxs_still)
    | (apply kp_new; assumption; kxs_still)
    | (apply kp_up; (next => o_fieldsN); kxs_still)
    | (apply kp_new; (next => kba_ints); kxs_still)
    | (apply kp_sameR; assumption; kxs_still)
    | (apply kp_transR; assumption; kxs_still)
    | (apply kp_freshR; assumption; (next => kaf_suf); kxs_still))
set_option hygiene false in
local macro_rules
  | `(tactic| kaf_suf) => `(tactic| first
    | assumption
    | exact subNil
    | (apply subCons; (first | (apply Or.inl; o_fieldsN) | (apply Or.inr; kba_ints)); kaf_suf)
    | (apply subApp; (next => kaf_suf); kaf_suf))
set_option hygiene false in
local macro_rules
  | `(tactic| o_fieldsN) => `(tactic| first
    | assumption
    | exact memA
    | (apply memB; o_fieldsN)
    | (apply memL; o_fieldsN)
    | (apply memR; o_fieldsN))
set_option hygiene false in
local macro_rules
  | `(tactic| kd_subs) => `(tactic| first
    | assumption
    | exact Same.refl _
    | (apply same_putF; assumption; kd_subs)
    | (apply same_putG; assumption; kd_subs)
    | (apply same_putF; (next => kba_ints); kd_subs)
    | (apply same_transR; assumption; kd_subs))

set_option pp.maxSteps 900
/-! ### plans of two stacks -/
theorem same_kp {ds : List Addr} {H H1 H2 : Hp} (s : Same H H1) (k : Kp ds H1 H2) (f : ∀ a ∈ ds, Fr H a) : Same H H2 := fun b o e => k.at_ _ _ (s _ _ e) fun m => ne_of_none e (f b m).h rfl
theorem SpanAt.imp {Val Val1 : Nat → List V → V → Hp → Prop} {ms : List V} {s : V} {i j : Nat} {H : Hp} (hv : ∀ i xs v, Val i xs v H → Val1 i xs v H) (h : SpanAt Val ms s i j H) : SpanAt Val1 ms s i j H := by
  obtain ⟨h1, h2, p, v, h3, h4, h5⟩ := h
  exact ⟨h1, h2, p, v, h3, h4, hv _ _ _ h5⟩
theorem OptSpan.wk {Val Val1 : Nat → List V → V → Hp → Prop} {ms : List V} {s : V} {i j : Nat} {H : Hp} (hv : ∀ i xs v, Val i xs v H → Val1 i xs v H) (h : OptSpan Val ms s i j H) : OptSpan Val1 ms s i j H := h.imp id fun z => z.imp hv
theorem SpansTo.imp {Val Val1 : Nat → List V → V → Hp → Prop} {ms xs : List V} {e k : Nat} {H : Hp} (hv : ∀ i xs v, Val i xs v H → Val1 i xs v H) (h : SpansTo Val ms xs e k H) : SpansTo Val1 ms xs e k H := ⟨h.len, h.le, h.lm, fun q s z => (h.at_ q s z).imp hv⟩
section
variable {P : Program} {w : World} {K : PySem.W.Frag} {mg : Str → Option Value} {base : Heap} {n : Nat}
abbrev URN : List JEv → Hp → Prop := fun _ _ => True
abbrev ValN : Nat → List V → V → Hp → Prop := fun _ _ _ _ => True
theorem jsPl {f : V} : JS P w K mg base n false [] f URN ValN where
  ur := fun _ _ _ _ => True.intro
  val := fun _ _ _ => True.intro
  mu := fun _ => mu_nil
  pl := fun _ _ _ _ _ _ => ⟨True.intro, True.intro⟩
  act := fun h => nomatch h
def spPI (C : Addr) : Sp := fun vs H Q _ => ∃ (a dx : Addr), vs = [.ref a] ∧ H a = some (.ins C dx []) ∧ ∀ l H', Fr H l → a ≠ l → H' a = some (PO C dx l) → H' l = some (.lst []) → Kp [a] H H' → Q .non H'
theorem ok_pi (T : Txt K mg) : FnOk P w K mg base CX0 1 T.f_Planner_init T.d_Planner_init ["self"] (spPI T.C_Planner) := by
  refine T.F_Planner_init.ok sc_Planner_init (fun vs H Q E h => ?_) (fun cdv A outer s H vs Q E hr h => ?_)
  · obtain ⟨a, dx, rfl, _⟩ := h
    rfl
  · obtain ⟨a, dx, rfl, ha, q⟩ := h
    refine ⟨_, (pss_one (ps_fld (pv 0) (pe_lst pa_nil) rfl)), ?_⟩
    o_readsAll
    rename_i l nl
    exact q l _ (by kba_ints) (by kbo_bools) (by kp_flats) (by kp_flats) (by kxs_still)
/-- a planner that is made -/
theorem newPl {T : Txt K mg} {H : Hp} {a dx l : Addr} {H1 : Hp} (fa : Fr H a) (fd : Fr H dx) (fl : Fr (upd (upd H dx (.own a)) a (.ins T.C_Planner dx [])) l) (nal : a ≠ l) (h1 : H1 a = some (PO T.C_Planner dx l)) (h2 : H1 l = some (.lst [])) (k : Kp [a] (upd (upd H dx (.own a)) a (.ins T.C_Planner dx [])) H1) :
    Same H H1 ∧ (∀ y ∈ [a, l] ++ ([] : List Addr), Fr H y) ∧ JW (CJ T) T.C_Calls false [] .non URN a dx a 0 l [] [] H1 := by
  refine ⟨fun b o z => k.at_ _ _ (by rw [upd_ne (ne_of_none z fa.h), upd_ne (ne_of_none z fd.h)]; exact z) (not_cons (ne_of_none z fa.h) not_nil), ?_, ⟨.inr ⟨rfl, rfl, h1⟩, ⟨[], h2, ⟨rfl, fun q x e z => by cases q <;> cases z⟩⟩, True.intro, rfl, not_nil, not_nil, not_nil⟩⟩
  have fl0 : Fr H l := noneOf fl fun o e => ⟨o, by rw [upd_ne (ne_of_none e fa.h), upd_ne (ne_of_none e fd.h)]; exact e⟩
  exact subCons fa (subCons fl0 subNil)
def PlQ (T : Txt K mg) (es : List (Nat × Nat × Nat)) (H : Hp) (Q : VK) : Prop := ∀ (l : Addr) (xs : List V) H', Same H H' → Fr H l → H' l = some (.lst xs) → JLog H' xs es → Q (.ref l) H'
theorem pl_end {T : Txt K mg} {a dxa l' : Addr} {u : List JEv} {es : List (Nat × Nat × Nat)} {H : Hp} (h : JW (CJ T) T.C_Calls false [] .non URN a dxa a 0 l' u es H) : H a = some (PO T.C_Planner dxa l') ∧ ∃ xs, H l' = some (.lst xs) ∧ JLog H xs es := by
  rcases h.st with ⟨z, _⟩ | ⟨_, _, z⟩
  · cases z
  · exact ⟨z, h.lg⟩
theorem tw_spans (Val : Nat → List V → V → Hp → Prop) {ms xs : List V} {bv : V} {g e : Nat} {H : Hp} (q1 : g ≤ e) (q2 : e ≤ ms.length) (hs : ∀ q s, xs[q]? = some s → SpanAt Val ms s (e - 1 - q) e H) (lx : xs.length = e - g) (h7 : OptSpan Val ms bv e ms.length H) :
    ∃ L, xs.drop (xs.length - 1) ++ [bv].filter (fun y => !decide (y = V.non)) = L ∧ L.length = twN g e ms.length ∧ ∀ q s, L[q]? = some s → SpanAt Val ms s (twB g e ms.length q) (twB g e ms.length (q + 1)) H := by
  unfold twN
  have sp : ∀ {s : V} {i j : Nat} {H : Hp}, SpanAt Val ms s i j H → decide (s = V.non) = false := fun {s i j H} h => by
    obtain ⟨_, _, p, v, z, _⟩ := h
    rw [z]
    exact decide_eq_false fun z => nomatch z
  have hb : (e < ms.length ∧ decide (bv = V.non) = false ∧ SpanAt Val ms bv e ms.length H) ∨ (e = ms.length ∧ bv = .non) := h7.elim (fun z => .inr ⟨z.2.1, z.1⟩) fun z => .inl ⟨z.1, sp z, z⟩
  by_cases c1 : g < e
  · have hx : ∃ s0, xs[e - g - 1]? = some s0 := ⟨_, List.getElem?_eq_getElem (by omega)⟩
    obtain ⟨s0, hx⟩ := hx
    have hs0 := hs _ _ hx
    rw [show e - 1 - (e - g - 1) = g by omega] at hs0
    have ed : xs.drop (xs.length - 1) = [s0] := by
      rw [show xs.length - 1 = e - g - 1 by omega, List.drop_eq_getElem_cons (by omega), List.drop_eq_nil_of_le (by omega)]
      rw [List.getElem?_eq_getElem (by omega)] at hx
      rw [Option.some.inj hx]
    have b1 : twB g e ms.length 1 = e := if_pos c1
    rw [ed, if_pos c1]
    rcases hb with ⟨c2, d2, hh⟩ | ⟨c2, d2⟩
    · rw [if_pos c2]
      refine ⟨[s0, bv], ?_, rfl, fun q s z => ?_⟩
      · rw [List.filter_cons, d2]
        rfl
      · match q, z with
        | 0, z =>
          cases z
          rw [b1]
          exact hs0
        | 1, z =>
          cases z
          rw [b1]
          exact hh
        | q + 2, z => cases q <;> cases z
    · rw [if_neg (by omega)]
      refine ⟨[s0], ?_, rfl, fun q s z => ?_⟩
      · rw [d2]
        rfl
      · match q, z with
        | 0, z =>
          cases z
          rw [b1]
          exact hs0
        | q + 1, z => cases q <;> cases z
  · have b1 : twB g e ms.length 1 = ms.length := if_neg c1
    rw [if_neg c1]
    rcases hb with ⟨c2, d2, hh⟩ | ⟨c2, d2⟩
    · rw [if_pos c2]
      refine ⟨[bv], ?_, rfl, fun q s z => ?_⟩
      · rw [List.filter_cons, d2, List.drop_eq_nil_of_le (by omega)]
        rfl
      · match q, z with
        | 0, z =>
          cases z
          rw [b1]
          show SpanAt Val ms bv g ms.length H
          rw [show g = e by omega]
          exact hh
        | q + 1, z => cases q <;> cases z
    · rw [if_neg (by omega)]
      refine ⟨[], ?_, rfl, fun q s z => by cases q <;> cases z⟩
      rw [d2, List.drop_eq_nil_of_le (by omega)]
      rfl
def spTwPA (T : Txt K mg) : Sp := fun vs H Q _ => ∃ (uv : List Addr) (f : V) (UR : List JEv → Hp → Prop) (Val : Nat → List V → V → Hp → Prop) (cs : List Addr) (x j jdx c cdx l : Addr) (z : V) (ms : List V) (u : List JEv) (es : List (Nat × Nat × Nat)) (g e : Nat),
  vs = [.ref x] ∧ TwAt T.C_TwoStacks (CJ T) T.C_Calls uv f UR Val cs x j jdx c cdx l z ms u es g e H ∧ ms.length < 70000 ∧ PlQ T (extE e ms.length) H Q
theorem ok_twpa (T : Txt K mg) : FnOk P w K mg base CX0 12 T.f_TwoStacks_plan_add T.d_TwoStacks_plan_add ["self"] (spTwPA T) := by
  have G_Calls_check := ok_chk (P := P) (w := w) (base := base) T
  have G_Planner_init := ok_pi (P := P) (w := w) (base := base) T
  have G_extended := ok_ext (P := P) (w := w) (base := base) (n := 0) T
  refine T.F_TwoStacks_plan_add.ok sc_TwoStacks_plan_add (fun vs H Q E h => ?_) (fun cdv A outer s H vs Q E hr h => ?_)
  · obtain ⟨uv, f, UR, Val, cs, x, j, jdx, c, cdx, l, z, ms, u, es, g, e, rfl, _⟩ := h
    rfl
  · obtain ⟨uv, f, UR, Val, cs, x, j, jdx, c, cdx, l, z, ms, u, es, g, e, rfl, tw, lm, q⟩ := h
    refine ⟨_, (pss_cons (ps_expr (pe_meth0 (pe_fld (pv 0) rfl) T.cl_Calls ⟨T.m_Calls_check, T.t_Calls_check, T.k_Calls_check⟩ G_Calls_check (hr.mono (by omega)) T.b_Calls_check .nil pass0))
      (pss_cons (ps_set (i := 1) sc_TwoStacks_plan_add.nd rfl (.inl rfl) (pe_make0 ⟨T.mk_Planner, T.m_Planner_init, T.t_Planner_init, T.kp_Planner⟩ G_Planner_init (hr.mono (by omega)) rfl T.gc_Planner T.b_Planner_init .nil pass0))
      (pss_cons (ps_expr (pe_call G_extended (hr.mono (by omega)) rfl T.g_extended T.F_extended.kp T.b_extended .nil pass0 (pa_cons (pv 1) (pa_cons (pe_fld (pv 0) rfl) (pa_cons (pe_fld (pv 0) rfl) (pa_cons pe_non pa_nil))))))
      (pss_one (ps_ret (pe_fld (pv 1) rfl)))))), ?_⟩
    obtain ⟨dx, h, fr, bv, xs, h1, h2, h3, h4, h5, h6, h7⟩ := tw.hx
    refine ⟨_, rfl, x, _, _, _, .ref c, rfl, h1, T.cl_TwoStacks, T.n_TwoStacks_calls, rfl, c, cdx, _, rfl, tw.jw.hc, rfl, c, cdx, l, rfl, tw.jw.hc, ?_⟩
    intro a dxa na nd nda
    refine ⟨a, dxa, rfl, upd_same, fun l' H1 fl nal e1 e2 k1 => ⟨rfl, ?_⟩⟩
    obtain ⟨s1, fs, jw1⟩ := newPl (T := T) (Fr.mk na) (Fr.mk nd) fl nal e1 e2 k1
    have h1' := s1 _ _ h1
    have hmm : (ms ++ [V.non])[ms.length]? = some .non := List.getElem?_concat_length ..
    refine ⟨_, rfl, _, rfl, x, _, _, _, bv, rfl, h1', T.cl_TwoStacks, T.n_TwoStacks_back, rfl, _, rfl, x, _, _, _, .int ms.length, rfl, h1', T.cl_TwoStacks, T.n_TwoStacks_given, rfl, false, [], .non, URN, ValN, a, dxa, a, 0, l', [], [], ms ++ [.non], bv, .non, e, ms.length, rfl, jsPl, jw1, by decide, by decide, by rw [List.length_append]; show ms.length + 1 < 90000; omega, ?_, ⟨hmm, True.intro⟩, fun r d H2 ld k2 jw2 sp2 => ?_⟩
    · exact ((h7.wk fun _ _ _ _ => True.intro).kp (jsPl (P := P) (w := w) (K := K) (mg := mg) (base := base) (n := 0) (f := .non)) (ds := []) (kp_same s1) mu_nil).more
    · obtain ⟨hj2, ys, hl2, hg2⟩ := pl_end jw2
      exact ⟨_, rfl, a, _, _, _, .ref l', rfl, hj2, T.cl_Planner, T.n_Planner_entries, rfl, q l' ys H2 (same_kp s1 k2 fs) (fs l' (memB memA)) hl2 hg2⟩
def spTwPR (T : Txt K mg) : Sp := fun vs H Q _ => ∃ (uv : List Addr) (f : V) (UR : List JEv → Hp → Prop) (Val : Nat → List V → V → Hp → Prop) (cs : List Addr) (x j jdx c cdx l : Addr) (z : V) (ms : List V) (u : List JEv) (es : List (Nat × Nat × Nat)) (g e : Nat),
  vs = [.ref x] ∧ TwAt T.C_TwoStacks (CJ T) T.C_Calls uv f UR Val cs x j jdx c cdx l z ms u es g e H ∧ ms.length < 9000 ∧ g < ms.length ∧ PlQ T (twRE g e ms.length) H Q
theorem ok_twpr (T : Txt K mg) : FnOk P w K mg base CX0 12 T.f_TwoStacks_plan_remove T.d_TwoStacks_plan_remove ["self"] (spTwPR T) := by
  have G_Calls_check := ok_chk (P := P) (w := w) (base := base) T
  have G_check_filled := ok_filled (P := P) (w := w) (base := base) T
  have G_Planner_init := ok_pi (P := P) (w := w) (base := base) T
  have G_all_spans := ok_all (P := P) (w := w) (base := base) (n := 0) T
  refine T.F_TwoStacks_plan_remove.ok sc_TwoStacks_plan_remove (fun vs H Q E h => ?_) (fun cdv A outer s H vs Q E hr h => ?_)
  · obtain ⟨uv, f, UR, Val, cs, x, j, jdx, c, cdx, l, z, ms, u, es, g, e, rfl, _⟩ := h
    rfl
  · obtain ⟨uv, f, UR, Val, cs, x, j, jdx, c, cdx, l, z, ms, u, es, g, e, rfl, tw, lm, gl, q⟩ := h
    refine ⟨_, (pss_cons (ps_expr (pe_meth0 (pe_fld (pv 0) rfl) T.cl_Calls ⟨T.m_Calls_check, T.t_Calls_check, T.k_Calls_check⟩ G_Calls_check (hr.mono (by omega)) T.b_Calls_check .nil pass0))
      (pss_cons (ps_expr (pe_call G_check_filled (hr.mono (by omega)) rfl T.g_check_filled T.F_check_filled.kp T.b_check_filled .nil pass0 (pa_cons (pe_fld (pv 0) rfl) pa_nil)))
      (pss_cons (ps_set (i := 1) sc_TwoStacks_plan_remove.nd rfl (.inl rfl) (pe_make0 ⟨T.mk_Planner, T.m_Planner_init, T.t_Planner_init, T.kp_Planner⟩ G_Planner_init (hr.mono (by omega)) rfl T.gc_Planner T.b_Planner_init .nil pass0))
      (pss_cons (ps_if (pt_cmpR op_eq (pe_callB call_len_seq (by rfl) T.z_len (by decide +kernel) (pa_cons (pe_fld (pv 0) rfl) pa_nil)) pe_int (nomark _)) (pss_one (ps_expr (pe_call G_all_spans (hr.mono (by omega)) rfl T.g_all_spans T.F_all_spans.kp T.b_all_spans .nil pass0 (pa_cons (pv 1) (pa_cons (pe_fld (pv 0) rfl) pa_nil))))) pss_nil)
      (pss_one (ps_ret (pe_fld (pv 1) rfl))))))), ?_⟩
    obtain ⟨dx, h, fr, bv, xs, h1, h2, h3, h4, h5, h6, h7⟩ := tw.hx
    obtain ⟨q1, q2⟩ := tw.ok
    have ld0 : (ms.drop g).length = ms.length - g := List.length_drop ..
    have lx := h6.len
    refine ⟨_, rfl, x, _, _, _, .ref c, rfl, h1, T.cl_TwoStacks, T.n_TwoStacks_calls, rfl, c, cdx, _, rfl, tw.jw.hc, rfl, c, cdx, l, rfl, tw.jw.hc, ?_⟩
    refine ⟨_, rfl, x, _, _, _, .ref h, rfl, h1, T.cl_TwoStacks, T.n_TwoStacks_held, rfl, h, g, ms.drop g, rfl, h2, by omega, ?_⟩
    intro a dxa na nd nda
    refine ⟨a, dxa, rfl, upd_same, fun l' H1 fl nal e1 e2 k1 => ⟨rfl, ?_⟩⟩
    obtain ⟨s1, fs, jw1⟩ := newPl (T := T) (Fr.mk na) (Fr.mk nd) fl nal e1 e2 k1
    have h1' := s1 _ _ h1
    have h2' := s1 _ _ h2
    refine ⟨_, rfl, x, _, _, _, .ref fr, rfl, h1', T.cl_TwoStacks, T.n_TwoStacks_front, rfl, fr, xs, rfl, .inl (sqlOf (s1 _ _ h4)), rfl, _, rfl, ?_⟩
    by_cases c0 : g = e
    · refine ifT (decide_eq_true (by rw [lx]; exact congrArg V.int (by omega))) ?_
      have eE : twRE g e ms.length = allE ms.length (ms.length - g) := if_pos c0
      have nh : h ∉ [a, l'] ++ ([] : List Addr) := fun m => ne_of_none h2 (fs h m).h rfl
      refine ⟨_, rfl, _, rfl, x, _, _, _, .ref h, rfl, h1', T.cl_TwoStacks, T.n_TwoStacks_held, rfl, false, [], .non, URN, ValN, a, dxa, a, 0, l', [], [], ms, h, g, rfl, jsPl, jw1, by decide, by decide, lm, h2', nh, by omega, (fun _ _ _ => True.intro), fun r ys d H2 ld fr2 k2 jw2 er sps => ?_⟩
      obtain ⟨hj2, ys2, hl2, hg2⟩ := pl_end jw2
      rw [eE] at q
      exact ⟨_, rfl, a, _, _, _, .ref l', rfl, hj2, T.cl_Planner, T.n_Planner_entries, rfl, q l' ys2 H2 (same_kp s1 k2 fs) (fs l' (memB memA)) hl2 hg2⟩
    · refine ifF (decide_eq_false fun y => ?_) ?_
      · rw [lx] at y
        injection y with y
        omega
      have eE : twRE g e ms.length = [] := if_neg c0
      obtain ⟨hj2, ys2, hl2, hg2⟩ := pl_end jw1
      rw [eE] at q
      exact ⟨_, rfl, a, _, _, _, .ref l', rfl, hj2, T.cl_Planner, T.n_Planner_entries, rfl, q l' ys2 H1 s1 (fs l' (memB memA)) hl2 hg2⟩
def spTwPT (T : Txt K mg) : Sp := fun vs H Q _ => ∃ (uv : List Addr) (f : V) (UR : List JEv → Hp → Prop) (Val : Nat → List V → V → Hp → Prop) (cs : List Addr) (x j jdx c cdx l : Addr) (z : V) (ms : List V) (u : List JEv) (es : List (Nat × Nat × Nat)) (g e : Nat),
  vs = [.ref x] ∧ TwAt T.C_TwoStacks (CJ T) T.C_Calls uv f UR Val cs x j jdx c cdx l z ms u es g e H ∧ ms.length < 70000 ∧ PlQ T (twTE g e ms.length) H Q
theorem ok_twpt (T : Txt K mg) : FnOk P w K mg base CX0 12 T.f_TwoStacks_plan_total T.d_TwoStacks_plan_total ["self"] (spTwPT T) := by
  have G_Calls_check := ok_chk (P := P) (w := w) (base := base) T
  have G_Planner_init := ok_pi (P := P) (w := w) (base := base) T
  have G_filled_spans := ok_fillS (P := P) (w := w) (base := base) T
  have G_whole_span := ok_whole (P := P) (w := w) (base := base) (n := 0) T
  refine T.F_TwoStacks_plan_total.ok sc_TwoStacks_plan_total (fun vs H Q E h => ?_) (fun cdv A outer s H vs Q E hr h => ?_)
  · obtain ⟨uv, f, UR, Val, cs, x, j, jdx, c, cdx, l, z, ms, u, es, g, e, rfl, _⟩ := h
    rfl
  · obtain ⟨uv, f, UR, Val, cs, x, j, jdx, c, cdx, l, z, ms, u, es, g, e, rfl, tw, lm, q⟩ := h
    refine ⟨_, (pss_cons (ps_expr (pe_meth0 (pe_fld (pv 0) rfl) T.cl_Calls ⟨T.m_Calls_check, T.t_Calls_check, T.k_Calls_check⟩ G_Calls_check (hr.mono (by omega)) T.b_Calls_check .nil pass0))
      (pss_cons (ps_set (i := 1) sc_TwoStacks_plan_total.nd rfl (.inl rfl) (pe_make0 ⟨T.mk_Planner, T.m_Planner_init, T.t_Planner_init, T.kp_Planner⟩ G_Planner_init (hr.mono (by omega)) rfl T.gc_Planner T.b_Planner_init .nil pass0))
      (pss_cons (ps_expr (pe_call G_whole_span (hr.mono (by omega)) rfl T.g_whole_span T.F_whole_span.kp T.b_whole_span .nil pass0 (pa_cons (pv 1) (pa_cons (pe_call G_filled_spans (hr.mono (by omega)) rfl T.g_filled_spans T.F_filled_spans.kp T.b_filled_spans .nil pass0 (pa_cons (pe_fld (pv 0) rfl) (pa_cons (pe_lst (pa_cons (pe_fld (pv 0) rfl) pa_nil)) pa_nil))) pa_nil))))
      (pss_one (ps_ret (pe_fld (pv 1) rfl)))))), ?_⟩
    obtain ⟨dx, h, fr, bv, xs, h1, h2, h3, h4, h5, h6, h7⟩ := tw.hx
    obtain ⟨q1, q2⟩ := tw.ok
    refine ⟨_, rfl, x, _, _, _, .ref c, rfl, h1, T.cl_TwoStacks, T.n_TwoStacks_calls, rfl, c, cdx, _, rfl, tw.jw.hc, rfl, c, cdx, l, rfl, tw.jw.hc, ?_⟩
    intro a dxa na nd nda
    refine ⟨a, dxa, rfl, upd_same, fun l' H1 fl nal e1 e2 k1 => ⟨rfl, ?_⟩⟩
    obtain ⟨s1, fs, jw1⟩ := newPl (T := T) (Fr.mk na) (Fr.mk nd) fl nal e1 e2 k1
    have h1' := s1 _ _ h1
    refine ⟨_, rfl, _, rfl, x, _, _, _, .ref fr, rfl, h1', T.cl_TwoStacks, T.n_TwoStacks_front, rfl, _, rfl, x, _, _, _, bv, rfl, h1', T.cl_TwoStacks, T.n_TwoStacks_back, rfl, (by decide : 1 ≤ sizeLine), fun bl nbl => ?_⟩
    have fbl := Fr.mk nbl
    have s2 : Same H1 (upd H1 bl (.lst [bv])) := same_newF fbl
    have lx := h6.len
    refine ⟨fr, bl, xs, [bv], rfl, s2 _ _ (s1 _ _ h4), upd_same, by omega, (by show 1 < 90; decide), all_cons (h7.imp (fun z => z.1) fun z => ⟨z.2.2.choose, z.2.2.choose_spec.choose_spec.1⟩) (fun _ z => nomatch z), fun p H3 s3 fp e3 => ?_⟩
    have s13 := s2.trans s3
    have s03 := s1.trans s13
    obtain ⟨L, eL, lL, aL⟩ := tw_spans (ValN) q1 q2 (fun q s z => ((h6.imp (Val1 := ValN) fun _ _ _ _ => True.intro).kp (jsPl (P := P) (w := w) (K := K) (mg := mg) (base := base) (n := 0) (f := .non)) (cs := []) (kp_same s03) mu_nil).at_ q s z) h6.len ((h7.wk (Val1 := ValN) fun _ _ _ _ => True.intro).kp (jsPl (P := P) (w := w) (K := K) (mg := mg) (base := base) (n := 0) (f := .non)) (ds := []) (kp_same s03) mu_nil)
    rw [eL] at e3
    have fpa : p ∉ [a, l'] ++ ([] : List Addr) := ((jw1.same (jsPl (P := P) (w := w) (K := K) (mg := mg) (base := base) (n := 0) (f := .non)) s2).mu (jsPl (P := P) (w := w) (K := K) (mg := mg) (base := base) (n := 0) (f := .non))).fr fp
    have t3 : L.length ≤ 2 := by
      rw [lL]
      unfold twN
      split <;> split <;> omega
    refine ⟨false, [], .non, URN, ValN, a, dxa, a, 0, l', [], [], ms, L, p, twB g e ms.length, rfl, jsPl, jw1.same (jsPl (P := P) (w := w) (K := K) (mg := mg) (base := base) (n := 0) (f := .non)) s13, by show 0 + L.length < 90000; omega, by show 0 + L.length < 90000; omega, by omega, e3, fpa, aL, fun v d H4 ld k4 jw4 _ _ => ?_⟩
    obtain ⟨hj2, ys2, hl2, hg2⟩ := pl_end jw4
    rw [lL] at hg2
    have fs' : ∀ y ∈ [a, l'] ++ ([] : List Addr), Fr H y := fs
    have s04 : Same H H4 := fun b o eb => k4.at_ _ _ (s03 _ _ eb) fun m => ne_of_none eb (fs b m).h rfl
    exact ⟨_, rfl, a, _, _, _, .ref l', rfl, hj2, T.cl_Planner, T.n_Planner_entries, rfl, q l' ys2 H4 s04 (fs l' (memB memA)) hl2 hg2⟩
end
end Ob

set_option Elab.async false
set_option linter.all false
set_option maxRecDepth 100000
set_option maxHeartbeats 1000000
namespace Ob
open PySem PySem.Spec PyProof.Rows L2
open LamX (Tabs TabB TabS ExtN)

set_option hygiene false in
local macro_rules
  | `(tactic| kp_flats) => `(tactic| first
    | assumption
    | exact upd_same
    | (apply atNew; assumption; kp_flats)
    | (apply atNe; (next => kbo_bools); kp_flats)
    | (apply atSame; assumption; kp_flats)
    | (apply atKp; assumption; (next => kaf_pre); kp_flats))
set_option hygiene false in
local macro_rules
  | `(tactic| kaf_pre) => `(tactic| first
    | assumption
    | exact not_nil
    | (apply not_cons; (next => kbo_bools); kaf_pre)
    | (apply not_app; (next => kaf_pre); kaf_pre))
set_option hygiene false in
local macro_rules
  | `(tactic| kbo_bools) => `(tactic| first
    | assumption
    | (apply Ne.symm; assumption)
    | (apply neN; assumption; kp_flats)
    | (apply neN'; assumption; kp_flats))
set_option hygiene false in
local macro_rules
  | `(tactic| o_reads) => `(tactic| first
    | with_reducible rfl
    | assumption
    | rfl
    | kp_flats
    | (show SqL _ _ _ _; first | assumption | (apply sqlOf; kp_flats) | (apply sqlSame; assumption; o_reads))
    | (show SqT _ _ _ _; first | assumption | (apply sqtOf; kp_flats) | (apply sqtAll; assumption) | (apply sqtSame; assumption; o_reads))
    | (show Cls _ _; first | exact T.cl_Calls | exact T.cl_Joiner | exact T.cl_Planner | exact T.cl_EvenSums | exact T.cl_Shape | exact T.cl_TwoStacks)
    | (show NoAttr _ _ _; first | exact T.n_Calls_entries | exact T.n_Calls_running | exact T.n_Joiner_calls | exact T.n_Joiner_join_call | exact T.n_Planner_entries | exact T.n_EvenSums_calls | exact T.n_EvenSums_joiner | exact T.n_EvenSums_zero | exact T.n_EvenSums_given | exact T.n_EvenSums_held | exact T.n_EvenSums_shape | exact T.n_Shape_front | exact T.n_Shape_back | exact T.n_Shape_late | exact T.n_Shape_renewed | exact T.n_TwoStacks_calls | exact T.n_TwoStacks_joiner | exact T.n_TwoStacks_zero | exact T.n_TwoStacks_given | exact T.n_TwoStacks_held | exact T.n_TwoStacks_front | exact T.n_TwoStacks_back)
    | (apply Or.inl; o_reads)
    | (apply Or.inr; o_reads)
    | (apply And.intro; (next => o_reads); o_reads)
    | (apply Exists.intro; o_reads)
    | exact Nat.le_of_ble_eq_true rfl
    | exact Nat.succ_ne_zero _
    | (show Fr _ _; kba_ints)
    | (show Same _ _; kd_subs)
    | (show Kp _ _ _; kxs_still)
    | (show (_ : Nat) ≤ _; simp only [List.length_append, List.length_map, List.length_cons, List.length_nil, List.length_take, List.length_drop, List.length_replicate, List.length_range, sizeLine_eq]; omega)
    | (show _ = none; apply Fr.h; kba_ints)
    | (show Bag _ _; first | assumption | (apply bag_putF; assumption; o_reads) | (apply bag_neF; (next => kbo_bools); o_reads) | (apply bag_kpR; assumption; (next => kaf_pre); o_reads))
    | omega
    | decide)
local macro_rules
  | `(tactic| o_readsAll) => `(tactic| repeat (first
    | (refine fun (pNew : Addr) (nNew : _ = none) => ?_; replace nNew := Fr.mk nNew)
    | (refine fun (xNew dNew : Addr) (nNew : _ = none) (mNew : _ = none) (eNew : dNew ≠ xNew) => ?_; replace nNew := Fr.mk nNew; replace mNew := Fr.mk mNew)
    | (apply And.intro; next => o_reads)
    | apply Exists.intro (α := V)
    | apply Exists.intro (α := Addr)
    | apply Exists.intro (α := Int)
    | apply Exists.intro (α := Bool)
    | apply Exists.intro (α := List V)
    | apply Exists.intro (α := List Nat)
    | apply Exists.intro (α := List (Str × V))
    | apply Exists.intro (α := List _)
    | apply Exists.intro (α := Str)
    | apply Exists.intro (α := HO)
    | apply Exists.intro (α := Sp)
    | apply Exists.intro (α := VK)))
set_option hygiene false in
local macro_rules
  | `(tactic| kba_ints) => `(tactic| first
    | assumption
    | (apply frUp; (first | assumption | (apply Ne.symm; assumption)); kba_ints)
    | (apply noneOf; assumption; intro oF eF; apply Exists.intro; kp_flats)
    | (apply frUp; (next => kbo_bools); kba_ints))
set_option hygiene false in
local macro_rules
  | `(tactic| kxs_still) => `(tactic| first
    | assumption
    | exact kp_refl _ _
    | (apply kp_newF; assumption; kxs_still)
    | (apply kp_new; assumption; kxs_still)
    | (apply kp_up; (next => o_fieldsN); kxs_still)
    | (apply kp_new; (next => kba_ints); kxs_still)
    | (apply kp_sameR; assumption; kxs_still)
    | (apply kp_transR; assumption; kxs_still)
    | (apply kp_freshR; assumption; (next => kaf_suf); kxs_still))
set_option hygiene false in
local macro_rules
  | `(tactic| kaf_suf) => `(tactic| first
    | assumption
    | exact subNil
    | (apply subCons; (first | (apply Or.inl; o_fieldsN) | (apply Or.inr; kba_ints)); kaf_suf)
    | (apply subApp; (next => kaf_suf); kaf_suf))
set_option hygiene false in
local macro_rules
  | `(tactic| o_fieldsN) => `(tactic| first
    | assumption
    | exact memA
    | (apply memB; o_fieldsN)
    | (apply memL; o_fieldsN)
    | (apply memR; o_fieldsN))
set_option hygiene false in
local macro_rules
  | `(tactic| kd_subs) => `(tactic| first
    | assumption
    | exact Same.refl _
    | (apply same_putF; assumption; kd_subs)
    | (apply same_putG; assumption; kd_subs)
    | (apply same_putF; (next => kba_ints); kd_subs)
    | (apply same_transR; assumption; kd_subs))

set_option pp.maxSteps 900
/-! ### plans of even sums, and the log of both -/
theorem RenAt.wk {Val Val1 : Nat → List V → V → Hp → Prop} {ms : List V} {cs ds : List Addr} {b : Nat} {rv : V} {H : Hp} {r : Option Nat} (hv : ∀ i xs v, Val i xs v H → Val1 i xs v H) (fs : ∀ a ∈ ds, Fr H a) (h : RenAt Val ms cs b rv H r) : RenAt Val1 ms ds b rv H r := by
  match r, h with
  | none, h => exact h
  | some k', ⟨rl, ys, h1, h2, h3, h4⟩ => exact ⟨rl, ys, h1, h2, h3.imp hv, fun m => ne_of_none h2 (fs rl m).h rfl⟩
theorem ShAt.wk {Cs : Addr} {Val Val1 : Nat → List V → V → Hp → Prop} {ms : List V} {cs ds : List Addr} {sh : Addr} {g e b : Nat} {r : Option Nat} {H : Hp} (hv : ∀ i xs v, Val i xs v H → Val1 i xs v H) (fs : ∀ a ∈ ds, Fr H a) (h : ShAt Cs Val ms cs sh g e b r H) : ShAt Cs Val1 ms ds sh g e b r H := by
  obtain ⟨⟨dx, fr, bv, lv, rv, xs, h1, h2, h3, h4, h5, h6, h7⟩, h8⟩ := h
  exact ⟨⟨dx, fr, bv, lv, rv, xs, h1, h2, h3.imp hv, h4.wk hv, h5.wk hv, h6.wk hv fs, fun m => ne_of_none h2 (fs fr m).h rfl⟩, fun m => ne_of_none h1 (fs sh m).h rfl⟩
section
variable {P : Program} {w : World} {K : PySem.W.Frag} {mg : Str → Option Value} {base : Heap} {n : Nat}
def spEvPA (T : Txt K mg) : Sp := fun vs H Q _ => ∃ (uv : List Addr) (f : V) (UR : List JEv → Hp → Prop) (Val : Nat → List V → V → Hp → Prop) (cs : List Addr) (x j jdx c cdx l : Addr) (z : V) (ms : List V) (u : List JEv) (es : List (Nat × Nat × Nat)) (g e b : Nat) (r : Option Nat),
  vs = [.ref x] ∧ EvAt T.C_EvenSums T.C_Shape (CJ T) T.C_Calls uv f UR Val cs x j jdx c cdx l z ms u es g e b r H ∧ ms.length < 60000 ∧ PlQ T (addE g e b ms.length r) H Q
theorem ok_evpa (T : Txt K mg) : FnOk P w K mg base CX0 12 T.f_EvenSums_plan_add T.d_EvenSums_plan_add ["self"] (spEvPA T) := by
  have G_Calls_check := ok_chk (P := P) (w := w) (base := base) T
  have G_Planner_init := ok_pi (P := P) (w := w) (base := base) T
  have G_shape_after_addition := ok_shadd (P := P) (w := w) (base := base) (n := 0) T
  refine T.F_EvenSums_plan_add.ok sc_EvenSums_plan_add (fun vs H Q E h => ?_) (fun cdv A outer s H vs Q E hr h => ?_)
  · obtain ⟨uv, f, UR, Val, cs, x, j, jdx, c, cdx, l, z, ms, u, es, g, e, b, r, rfl, _⟩ := h
    rfl
  · obtain ⟨uv, f, UR, Val, cs, x, j, jdx, c, cdx, l, z, ms, u, es, g, e, b, r, rfl, ev, lm, q⟩ := h
    refine ⟨_, (pss_cons (ps_expr (pe_meth0 (pe_fld (pv 0) rfl) T.cl_Calls ⟨T.m_Calls_check, T.t_Calls_check, T.k_Calls_check⟩ G_Calls_check (hr.mono (by omega)) T.b_Calls_check .nil pass0))
      (pss_cons (ps_set (i := 1) sc_EvenSums_plan_add.nd rfl (.inl rfl) (pe_make0 ⟨T.mk_Planner, T.m_Planner_init, T.t_Planner_init, T.kp_Planner⟩ G_Planner_init (hr.mono (by omega)) rfl T.gc_Planner T.b_Planner_init .nil pass0))
      (pss_cons (ps_expr (pe_call G_shape_after_addition (hr.mono (by omega)) rfl T.g_shape_after_addition T.F_shape_after_addition.kp T.b_shape_after_addition .nil pass0 (pa_cons (pv 1) (pa_cons (pe_fld (pv 0) rfl) (pa_cons (Inf.pe_dstar (pe_fld (pv 0) rfl) (pe_fld (pv 0) rfl) pe_non) (pa_cons (pe_fld (pv 0) rfl) pa_nil))))))
      (pss_one (ps_ret (pe_fld (pv 1) rfl)))))), ?_⟩
    have PJ := jsPl (P := P) (w := w) (K := K) (mg := mg) (base := base) (n := 0) (f := .non)
    obtain ⟨dx, h, sh, h1, h2, h3, h4⟩ := ev.hx
    obtain ⟨q1, q2, q3⟩ := ev.ok.le
    refine ⟨_, rfl, x, _, _, _, .ref c, rfl, h1, T.cl_EvenSums, T.n_EvenSums_calls, rfl, c, cdx, _, rfl, ev.jw.hc, rfl, c, cdx, l, rfl, ev.jw.hc, ?_⟩
    intro a dxa na nd nda
    refine ⟨a, dxa, rfl, upd_same, fun l' H1 fl nal e1 e2 k1 => ⟨rfl, ?_⟩⟩
    obtain ⟨s1, fs, jw1⟩ := newPl (T := T) (Fr.mk na) (Fr.mk nd) fl nal e1 e2 k1
    have h1' := s1 _ _ h1
    have h2' := s1 _ _ h2
    refine ⟨_, rfl, _, rfl, x, _, _, _, .ref sh, rfl, h1', T.cl_EvenSums, T.n_EvenSums_shape, rfl, ?_⟩
    intro p np
    have fp := Fr.mk np
    have npx : x ≠ p := ne_of_none h1' np
    have nph : h ≠ p := ne_of_none h2' np
    have hxb : ∀ b2, upd (upd H1 p (.dK [])) p (.dK (heldK g (ms.drop g))) b2 = none → upd (upd (upd H1 p (.dK [])) p (.dK (heldK g (ms.drop g)))) b2 (.dK []) x = some (EO T.C_EvenSums dx c j z ms.length h sh) := fun b2 nb2 => by
      have e0 : upd (upd H1 p (.dK [])) p (.dK (heldK g (ms.drop g))) x = some (EO T.C_EvenSums dx c j z ms.length h sh) := by
        rw [upd_ne npx, upd_ne npx]
        exact h1'
      rw [upd_ne (ne_of_none e0 nb2)]
      exact e0
    refine ⟨_, rfl, x, _, _, _, .ref h, rfl, atNe npx h1', T.cl_EvenSums, T.n_EvenSums_held, rfl, h, _, rfl, nph, upd_same, .inl (atNe nph h2'), by rw [heldK_len, List.length_drop, sizeLine_eq]; omega, fun b2 nb2 => ⟨_, rfl, x, _, _, _, .int ms.length, rfl, hxb b2 nb2, T.cl_EvenSums, T.n_EvenSums_given, rfl, .inl (ms.length : Int), .non, rfl, ?_⟩⟩
    have npb : p ≠ b2 := ne_of_none (H := upd (upd H1 p (.dK [])) p (.dK (heldK g (ms.drop g)))) upd_same nb2
    refine ⟨npb, atNe npb upd_same, upd_same, ?_⟩
    have hlen : (ms ++ [V.non]).length = ms.length + 1 := by
      rw [List.length_append]
      rfl
    have s2 := same_star (a1 := .dK []) (b1 := .dK (heldK g (ms.drop g))) (c1 := .dK []) (d1 := .dK [(Sum.inl (ms.length : Int), .non)]) (e1 := .dK (putK (heldK g (ms.drop g)) (Sum.inl (ms.length : Int)) .non)) np nb2
    have ep : upd (upd (upd (upd (upd H1 p (.dK [])) p (.dK (heldK g (ms.drop g)))) b2 (.dK [])) b2 (.dK [(Sum.inl (ms.length : Int), .non)])) p (.dK (putK (heldK g (ms.drop g)) (Sum.inl (ms.length : Int)) .non)) p = some (.dK (heldK g ((ms ++ [V.non]).drop g))) := by
      have := heldK_put (ps := ms.drop g) (g := g) (v := V.non)
      rw [List.length_drop, show g + (ms.length - g) = ms.length by omega] at this
      rw [upd_same, this, List.drop_append_of_le_length (by omega)]
    generalize upd (upd (upd (upd (upd H1 p (.dK [])) p (.dK (heldK g (ms.drop g)))) b2 (.dK [])) b2 (.dK [(Sum.inl (ms.length : Int), .non)])) p (.dK (putK (heldK g (ms.drop g)) (Sum.inl (ms.length : Int)) .non)) = H2 at s2 ep ⊢
    have s02 := s1.trans s2
    have h1'' := s2 _ _ h1'
    have jw2 := jw1.same PJ s2
    have sa2 : ShAt T.C_Shape ValN ms ([a, l'] ++ []) sh g e b r H2 := (h4.wk (fun _ _ _ _ => True.intro) fs).kp PJ (kp_same (cs := []) s02) mu_nil (fun _ z => nomatch z)
    have np2 : p ∉ [a, l'] ++ ([] : List Addr) := (jw1.mu PJ).fr fp
    refine ⟨_, rfl, x, _, _, _, .int ms.length, rfl, h1'', T.cl_EvenSums, T.n_EvenSums_given, rfl, false, [], .non, URN, ValN, a, dxa, a, 0, l', [], [], ms, .non, [a, l'] ++ [], sh, p, g, e, b, r, rfl, jsPl, jw2, by decide, by decide, by omega, (fun _ m => m), jw2.mu PJ, (fun _ _ _ => True.intro), sa2, ev.ok, ep, np2, fun sh' d H3 ld k3 jw3 sa3 => ?_⟩
    obtain ⟨hj3, ys3, hl3, hg3⟩ := pl_end jw3
    exact ⟨_, rfl, a, _, _, _, .ref l', rfl, hj3, T.cl_Planner, T.n_Planner_entries, rfl, q l' ys3 H3 (same_kp s02 k3 fs) (fs l' (memB memA)) hl3 hg3⟩
def spEvPR (T : Txt K mg) : Sp := fun vs H Q _ => ∃ (uv : List Addr) (f : V) (UR : List JEv → Hp → Prop) (Val : Nat → List V → V → Hp → Prop) (cs : List Addr) (x j jdx c cdx l : Addr) (z : V) (ms : List V) (u : List JEv) (es : List (Nat × Nat × Nat)) (g e b : Nat) (r : Option Nat),
  vs = [.ref x] ∧ EvAt T.C_EvenSums T.C_Shape (CJ T) T.C_Calls uv f UR Val cs x j jdx c cdx l z ms u es g e b r H ∧ ms.length < 60000 ∧ g < ms.length ∧ PlQ T (workE (g + 1) e b ms.length r) H Q
theorem ok_evpr (T : Txt K mg) : FnOk P w K mg base CX0 12 T.f_EvenSums_plan_remove T.d_EvenSums_plan_remove ["self"] (spEvPR T) := by
  have G_Calls_check := ok_chk (P := P) (w := w) (base := base) T
  have G_check_filled := ok_filled (P := P) (w := w) (base := base) T
  have G_oldest := ok_oldest (P := P) (w := w) (base := base) T
  have G_without := ok_without1 (P := P) (w := w) (base := base) T
  have G_Planner_init := ok_pi (P := P) (w := w) (base := base) T
  have G_shape_after_removal := ok_shrem (P := P) (w := w) (base := base) (n := 0) T
  refine T.F_EvenSums_plan_remove.ok sc_EvenSums_plan_remove (fun vs H Q E h => ?_) (fun cdv A outer s H vs Q E hr h => ?_)
  · obtain ⟨uv, f, UR, Val, cs, x, j, jdx, c, cdx, l, z, ms, u, es, g, e, b, r, rfl, _⟩ := h
    rfl
  · obtain ⟨uv, f, UR, Val, cs, x, j, jdx, c, cdx, l, z, ms, u, es, g, e, b, r, rfl, ev, lm, gl, q⟩ := h
    refine ⟨_, (pss_cons (ps_expr (pe_meth0 (pe_fld (pv 0) rfl) T.cl_Calls ⟨T.m_Calls_check, T.t_Calls_check, T.k_Calls_check⟩ G_Calls_check (hr.mono (by omega)) T.b_Calls_check .nil pass0))
      (pss_cons (ps_expr (pe_call G_check_filled (hr.mono (by omega)) rfl T.g_check_filled T.F_check_filled.kp T.b_check_filled .nil pass0 (pa_cons (pe_fld (pv 0) rfl) pa_nil)))
      (pss_cons (ps_set (i := 1) sc_EvenSums_plan_remove.nd rfl (.inl rfl) (pe_make0 ⟨T.mk_Planner, T.m_Planner_init, T.t_Planner_init, T.kp_Planner⟩ G_Planner_init (hr.mono (by omega)) rfl T.gc_Planner T.b_Planner_init .nil pass0))
      (pss_cons (ps_expr (pe_call G_shape_after_removal (hr.mono (by omega)) rfl T.g_shape_after_removal T.F_shape_after_removal.kp T.b_shape_after_removal .nil pass0 (pa_cons (pv 1) (pa_cons (pe_fld (pv 0) rfl) (pa_cons (pe_call G_without (hr.mono (by omega)) rfl T.g_without T.F_without.kp T.b_without .nil pass0 (pa_cons (pe_fld (pv 0) rfl) (pa_cons (pe_lst (pa_cons (pe_call G_oldest (hr.mono (by omega)) rfl T.g_oldest T.F_oldest.kp T.b_oldest .nil pass0 (pa_cons (pe_fld (pv 0) rfl) pa_nil)) pa_nil)) pa_nil))) pa_nil)))))
      (pss_one (ps_ret (pe_fld (pv 1) rfl))))))), ?_⟩
    have PJ := jsPl (P := P) (w := w) (K := K) (mg := mg) (base := base) (n := 0) (f := .non)
    obtain ⟨dx, h, sh, h1, h2, h3, h4⟩ := ev.hx
    obtain ⟨q1, q2, q3⟩ := ev.ok.le
    have ld0 : (ms.drop g).length = ms.length - g := List.length_drop ..
    have hf : fstN g (ms.drop g) = .int g := if_neg (by omega)
    refine ⟨_, rfl, x, _, _, _, .ref c, rfl, h1, T.cl_EvenSums, T.n_EvenSums_calls, rfl, c, cdx, _, rfl, ev.jw.hc, rfl, c, cdx, l, rfl, ev.jw.hc, ?_⟩
    refine ⟨_, rfl, x, _, _, _, .ref h, rfl, h1, T.cl_EvenSums, T.n_EvenSums_held, rfl, h, g, ms.drop g, rfl, h2, by omega, ?_⟩
    intro a dxa na nd nda
    refine ⟨a, dxa, rfl, upd_same, fun l' H1 fl nal e1 e2 k1 => ⟨rfl, ?_⟩⟩
    obtain ⟨s1, fs, jw1⟩ := newPl (T := T) (Fr.mk na) (Fr.mk nd) fl nal e1 e2 k1
    have h1' := s1 _ _ h1
    have h2' := s1 _ _ h2
    refine ⟨_, rfl, _, rfl, x, _, _, _, .ref sh, rfl, h1', T.cl_EvenSums, T.n_EvenSums_shape, rfl, _, rfl, x, _, _, _, .ref h, rfl, h1', T.cl_EvenSums, T.n_EvenSums_held, rfl, _, rfl, x, _, _, _, .ref h, rfl, h1', T.cl_EvenSums, T.n_EvenSums_held, rfl, h, g, ms.drop g, rfl, h2', ?_⟩
    rw [hf]
    refine ⟨(by decide : 1 ≤ sizeLine), fun p np => ?_⟩
    have fp := Fr.mk np
    have s2 : Same H1 (upd H1 p (.lst [.int g])) := same_newF fp
    refine ⟨h, p, g, ms.drop g, rfl, s2 _ _ h2', upd_same, by omega, fun h' H2 s3 fh' e3 => ?_⟩
    rw [List.drop_drop] at e3
    have s13 := s2.trans s3
    have s03 := s1.trans s13
    have jw2 := jw1.same PJ s13
    have sa2 : ShAt T.C_Shape ValN ms ([a, l'] ++ []) sh g e b r H2 := (h4.wk (fun _ _ _ _ => True.intro) fs).kp PJ (kp_same (cs := []) s03) mu_nil (fun _ z => nomatch z)
    have np2 : h' ∉ [a, l'] ++ ([] : List Addr) := ((jw1.same PJ s2).mu PJ).fr fh'
    refine ⟨false, [], .non, URN, ValN, a, dxa, a, 0, l', [], [], ms, [a, l'] ++ [], sh, h', g, e, b, r, rfl, jsPl, jw2, by decide, by decide, by omega, (fun _ m => m), jw2.mu PJ, (fun _ _ _ => True.intro), sa2, ev.ok, gl, e3, np2, fun sh' d H3 ld k3 jw3 sa3 => ?_⟩
    obtain ⟨hj3, ys3, hl3, hg3⟩ := pl_end jw3
    exact ⟨_, rfl, a, _, _, _, .ref l', rfl, hj3, T.cl_Planner, T.n_Planner_entries, rfl, q l' ys3 H3 (same_kp s03 k3 fs) (fs l' (memB memA)) hl3 hg3⟩
def spEvPT (T : Txt K mg) : Sp := fun vs H Q _ => ∃ (uv : List Addr) (f : V) (UR : List JEv → Hp → Prop) (Val : Nat → List V → V → Hp → Prop) (cs : List Addr) (x j jdx c cdx l : Addr) (z : V) (ms : List V) (u : List JEv) (es : List (Nat × Nat × Nat)) (g e b : Nat) (r : Option Nat),
  vs = [.ref x] ∧ EvAt T.C_EvenSums T.C_Shape (CJ T) T.C_Calls uv f UR Val cs x j jdx c cdx l z ms u es g e b r H ∧ ms.length < 60000 ∧ PlQ T (totE g e b ms.length) H Q
theorem ok_evpt (T : Txt K mg) : FnOk P w K mg base CX0 12 T.f_EvenSums_plan_total T.d_EvenSums_plan_total ["self"] (spEvPT T) := by
  have G_Calls_check := ok_chk (P := P) (w := w) (base := base) T
  have G_Planner_init := ok_pi (P := P) (w := w) (base := base) T
  have G_shape_spans := ok_shspans (P := P) (w := w) (base := base) (n := 0) T
  have G_whole_span := ok_whole (P := P) (w := w) (base := base) (n := 0) T
  refine T.F_EvenSums_plan_total.ok sc_EvenSums_plan_total (fun vs H Q E h => ?_) (fun cdv A outer s H vs Q E hr h => ?_)
  · obtain ⟨uv, f, UR, Val, cs, x, j, jdx, c, cdx, l, z, ms, u, es, g, e, b, r, rfl, _⟩ := h
    rfl
  · obtain ⟨uv, f, UR, Val, cs, x, j, jdx, c, cdx, l, z, ms, u, es, g, e, b, r, rfl, ev, lm, q⟩ := h
    refine ⟨_, (pss_cons (ps_expr (pe_meth0 (pe_fld (pv 0) rfl) T.cl_Calls ⟨T.m_Calls_check, T.t_Calls_check, T.k_Calls_check⟩ G_Calls_check (hr.mono (by omega)) T.b_Calls_check .nil pass0))
      (pss_cons (ps_set (i := 1) sc_EvenSums_plan_total.nd rfl (.inl rfl) (pe_make0 ⟨T.mk_Planner, T.m_Planner_init, T.t_Planner_init, T.kp_Planner⟩ G_Planner_init (hr.mono (by omega)) rfl T.gc_Planner T.b_Planner_init .nil pass0))
      (pss_cons (ps_expr (pe_call G_whole_span (hr.mono (by omega)) rfl T.g_whole_span T.F_whole_span.kp T.b_whole_span .nil pass0 (pa_cons (pv 1) (pa_cons (pe_call G_shape_spans (hr.mono (by omega)) rfl T.g_shape_spans T.F_shape_spans.kp T.b_shape_spans .nil pass0 (pa_cons (pe_fld (pv 0) rfl) pa_nil)) pa_nil))))
      (pss_one (ps_ret (pe_fld (pv 1) rfl)))))), ?_⟩
    have PJ := jsPl (P := P) (w := w) (K := K) (mg := mg) (base := base) (n := 0) (f := .non)
    obtain ⟨dx, h, sh, h1, h2, h3, h4⟩ := ev.hx
    refine ⟨_, rfl, x, _, _, _, .ref c, rfl, h1, T.cl_EvenSums, T.n_EvenSums_calls, rfl, c, cdx, _, rfl, ev.jw.hc, rfl, c, cdx, l, rfl, ev.jw.hc, ?_⟩
    intro a dxa na nd nda
    refine ⟨a, dxa, rfl, upd_same, fun l' H1 fl nal e1 e2 k1 => ⟨rfl, ?_⟩⟩
    obtain ⟨s1, fs, jw1⟩ := newPl (T := T) (Fr.mk na) (Fr.mk nd) fl nal e1 e2 k1
    have h1' := s1 _ _ h1
    have sa1 : ShAt T.C_Shape ValN ms ([a, l'] ++ []) sh g e b r H1 := (h4.wk (fun _ _ _ _ => True.intro) fs).kp PJ (kp_same (cs := []) s1) mu_nil (fun _ z => nomatch z)
    refine ⟨_, rfl, _, rfl, x, _, _, _, .ref sh, rfl, h1', T.cl_EvenSums, T.n_EvenSums_shape, rfl, false, [], .non, URN, ValN, ms, [a, l'] ++ [], sh, g, e, b, r, rfl, PJ, by omega, sa1, ev.ok, fun p xs H2 s2 fp e3 lx ax => ?_⟩
    have np : p ∉ [a, l'] ++ ([] : List Addr) := (jw1.mu PJ).fr fp
    have t3 : xs.length ≤ 3 := by
      rw [lx]
      unfold sumN
      split <;> split <;> split <;> omega
    refine ⟨false, [], .non, URN, ValN, a, dxa, a, 0, l', [], [], ms, xs, p, sumB g e b ms.length, rfl, jsPl, jw1.same PJ s2, by show 0 + xs.length < 90000; omega, by show 0 + xs.length < 90000; omega, by omega, e3, np, ax, fun v d H3 ld k3 jw3 _ _ => ?_⟩
    obtain ⟨hj3, ys3, hl3, hg3⟩ := pl_end jw3
    rw [lx] at hg3
    exact ⟨_, rfl, a, _, _, _, .ref l', rfl, hj3, T.cl_Planner, T.n_Planner_entries, rfl, q l' ys3 H3 (same_kp (s1.trans s2) k3 fs) (fs l' (memB memA)) hl3 hg3⟩
/-! the log: a new list -/
def spTwLog (T : Txt K mg) : Sp := fun vs H Q _ => ∃ (x dx c cdx l j h fr : Addr) (z bv : V) (gi : Int) (xs : List V), vs = [.ref x] ∧ H x = some (TO T.C_TwoStacks dx c j z gi h fr bv) ∧ H c = some (CO T.C_Calls cdx l false) ∧ H l = some (.lst xs) ∧ ∀ o H', Fr H o → Same H H' → H' o = some (.lst xs) → Q (.ref o) H'
theorem ok_twlog (T : Txt K mg) : FnOk P w K mg base CX0 1 T.f_TwoStacks_log T.d_TwoStacks_log ["self"] (spTwLog T) := by
  refine T.F_TwoStacks_log.ok sc_TwoStacks_log (fun vs H Q E h => ?_) (fun cdv A outer s H vs Q E hr h => ?_)
  · obtain ⟨x, dx, c, cdx, l, j, h, fr, z, bv, gi, xs, rfl, _⟩ := h
    rfl
  · obtain ⟨x, dx, c, cdx, l, j, h, fr, z, bv, gi, xs, rfl, h1, hc, hl, q⟩ := h
    refine ⟨_, (pss_one (ps_ret (pe_callTy call_list_of (by rfl) T.z_list (by decide +kernel) (pa_cons (pe_fld (pe_fld (pv 0) rfl) rfl) pa_nil)))), ?_⟩
    refine ⟨_, rfl, x, _, _, _, .ref c, rfl, h1, T.cl_TwoStacks, T.n_TwoStacks_calls, rfl, c, _, _, _, .ref l, rfl, hc, T.cl_Calls, T.n_Calls_entries, rfl, ?_⟩
    exact ⟨l, xs, rfl, .inl (sqlOf hl), fun o no => q o _ (Fr.mk no) (same_newF (Fr.mk no)) upd_same⟩
def spEvLog (T : Txt K mg) : Sp := fun vs H Q _ => ∃ (x dx c cdx l j h sh : Addr) (z : V) (gi : Int) (xs : List V), vs = [.ref x] ∧ H x = some (EO T.C_EvenSums dx c j z gi h sh) ∧ H c = some (CO T.C_Calls cdx l false) ∧ H l = some (.lst xs) ∧ ∀ o H', Fr H o → Same H H' → H' o = some (.lst xs) → Q (.ref o) H'
theorem ok_evlog (T : Txt K mg) : FnOk P w K mg base CX0 1 T.f_EvenSums_log T.d_EvenSums_log ["self"] (spEvLog T) := by
  refine T.F_EvenSums_log.ok sc_EvenSums_log (fun vs H Q E h => ?_) (fun cdv A outer s H vs Q E hr h => ?_)
  · obtain ⟨x, dx, c, cdx, l, j, h, sh, z, gi, xs, rfl, _⟩ := h
    rfl
  · obtain ⟨x, dx, c, cdx, l, j, h, sh, z, gi, xs, rfl, h1, hc, hl, q⟩ := h
    refine ⟨_, (pss_one (ps_ret (pe_callTy call_list_of (by rfl) T.z_list (by decide +kernel) (pa_cons (pe_fld (pe_fld (pv 0) rfl) rfl) pa_nil)))), ?_⟩
    refine ⟨_, rfl, x, _, _, _, .ref c, rfl, h1, T.cl_EvenSums, T.n_EvenSums_calls, rfl, c, _, _, _, .ref l, rfl, hc, T.cl_Calls, T.n_Calls_entries, rfl, ?_⟩
    exact ⟨l, xs, rfl, .inl (sqlOf hl), fun o no => q o _ (Fr.mk no) (same_newF (Fr.mk no)) upd_same⟩
end
end Ob

set_option Elab.async false
set_option linter.all false
set_option maxRecDepth 100000
set_option maxHeartbeats 1000000
namespace Ob
open PySem PySem.Spec PyProof.Rows L2
open LamX (Tabs TabB TabS ExtN)

set_option hygiene false in
local macro_rules
  | `(tactic| kp_flats) => `(tactic| first
    | assumption
    | exact upd_same
    | (apply atNew; assumption; kp_flats)
    | (apply atNe; (next => kbo_bools); kp_flats)
    | (apply atSame; assumption; kp_flats)
    | (apply atKp; assumption; (next => kaf_pre); kp_flats))
set_option hygiene false in
local macro_rules
  | `(tactic| kaf_pre) => `(tactic| first
    | assumption
    | exact not_nil
    | (apply not_cons; (next => kbo_bools); kaf_pre)
    | (apply not_app; (next => kaf_pre); kaf_pre))
set_option hygiene false in
local macro_rules
  | `(tactic| kbo_bools) => `(tactic| first
    | assumption
    | (apply Ne.symm; assumption)
    | (apply neN; assumption; kp_flats)
    | (apply neN'; assumption; kp_flats))
set_option hygiene false in
local macro_rules
  | `(tactic| o_reads) => `(tactic| first
    | with_reducible rfl
    | assumption
    | rfl
    | kp_flats
    | (show SqL _ _ _ _; first | assumption | (apply sqlOf; kp_flats) | (apply sqlSame; assumption; o_reads))
    | (show SqT _ _ _ _; first | assumption | (apply sqtOf; kp_flats) | (apply sqtAll; assumption) | (apply sqtSame; assumption; o_reads))
    | (show Cls _ _; first | exact T.cl_Calls | exact T.cl_Joiner | exact T.cl_Planner | exact T.cl_EvenSums | exact T.cl_Shape | exact T.cl_TwoStacks)
    | (show NoAttr _ _ _; first | exact T.n_Calls_entries | exact T.n_Calls_running | exact T.n_Joiner_calls | exact T.n_Joiner_join_call | exact T.n_Planner_entries | exact T.n_EvenSums_calls | exact T.n_EvenSums_joiner | exact T.n_EvenSums_zero | exact T.n_EvenSums_given | exact T.n_EvenSums_held | exact T.n_EvenSums_shape | exact T.n_Shape_front | exact T.n_Shape_back | exact T.n_Shape_late | exact T.n_Shape_renewed | exact T.n_TwoStacks_calls | exact T.n_TwoStacks_joiner | exact T.n_TwoStacks_zero | exact T.n_TwoStacks_given | exact T.n_TwoStacks_held | exact T.n_TwoStacks_front | exact T.n_TwoStacks_back)
    | (apply Or.inl; o_reads)
    | (apply Or.inr; o_reads)
    | (apply And.intro; (next => o_reads); o_reads)
    | (apply Exists.intro; o_reads)
    | exact Nat.le_of_ble_eq_true rfl
    | exact Nat.succ_ne_zero _
    | (show Fr _ _; kba_ints)
    | (show Same _ _; kd_subs)
    | (show Kp _ _ _; kxs_still)
    | (show (_ : Nat) ≤ _; simp only [List.length_append, List.length_map, List.length_cons, List.length_nil, List.length_take, List.length_drop, List.length_replicate, List.length_range, sizeLine_eq]; omega)
    | (show _ = none; apply Fr.h; kba_ints)
    | (show Bag _ _; first | assumption | (apply bag_putF; assumption; o_reads) | (apply bag_neF; (next => kbo_bools); o_reads) | (apply bag_kpR; assumption; (next => kaf_pre); o_reads))
    | omega
    | decide)
local macro_rules
  | `(tactic| o_readsAll) => `(tactic| repeat (first
    | (refine fun (pNew : Addr) (nNew : _ = none) => ?_; replace nNew := Fr.mk nNew)
    | (refine fun (xNew dNew : Addr) (nNew : _ = none) (mNew : _ = none) (eNew : dNew ≠ xNew) => ?_; replace nNew := Fr.mk nNew; replace mNew := Fr.mk mNew)
    | (apply And.intro; next => o_reads)
    | apply Exists.intro (α := V)
    | apply Exists.intro (α := Addr)
    | apply Exists.intro (α := Int)
    | apply Exists.intro (α := Bool)
    | apply Exists.intro (α := List V)
    | apply Exists.intro (α := List Nat)
    | apply Exists.intro (α := List (Str × V))
    | apply Exists.intro (α := List _)
    | apply Exists.intro (α := Str)
    | apply Exists.intro (α := HO)
    | apply Exists.intro (α := Sp)
    | apply Exists.intro (α := VK)))
set_option hygiene false in
local macro_rules
  | `(tactic| kba_ints) => `(tactic| first
    | assumption
    | (apply frUp; (first | assumption | (apply Ne.symm; assumption)); kba_ints)
    | (apply noneOf; assumption; intro oF eF; apply Exists.intro; kp_flats)
    | (apply frUp; (next => kbo_bools); kba_ints))
set_option hygiene false in
local macro_rules
  | `(tactic| kxs_still) => `(tactic| first
    | assumption
    | exact kp_refl _ _
    | (apply kp_newF; assumption; kxs_still)
    | (apply kp_new; assumption; kxs_still)
    | (apply kp_up; (next => o_fieldsN); kxs_still)
    | (apply kp_new; (next => kba_ints); kxs_still)
    | (apply kp_sameR; assumption; kxs_still)
    | (apply kp_transR; assumption; kxs_still)
    | (apply kp_freshR; assumption; (next => kaf_suf); kxs_still))
set_option hygiene false in
local macro_rules
  | `(tactic| kaf_suf) => `(tactic| first
    | assumption
    | exact subNil
    | (apply subCons; (first | (apply Or.inl; o_fieldsN) | (apply Or.inr; kba_ints)); kaf_suf)
    | (apply subApp; (next => kaf_suf); kaf_suf))
set_option hygiene false in
local macro_rules
  | `(tactic| o_fieldsN) => `(tactic| first
    | assumption
    | exact memA
    | (apply memB; o_fieldsN)
    | (apply memL; o_fieldsN)
    | (apply memR; o_fieldsN))
set_option hygiene false in
local macro_rules
  | `(tactic| kd_subs) => `(tactic| first
    | assumption
    | exact Same.refl _
    | (apply same_putF; assumption; kd_subs)
    | (apply same_putG; assumption; kd_subs)
    | (apply same_putF; (next => kba_ints); kd_subs)
    | (apply same_transR; assumption; kd_subs))

set_option pp.maxSteps 900
def nm_l_bare_right : Nat → Nat → Str := fun l _ => if l = 309 then ("_law_bare_right" : Str) ++ ".<locals>." ++ "<lambda>" else if l = 307 then ("_law_bare_right" : Str) ++ ".<locals>." ++ "<lambda>" else ("_law_bare_right" : Str) ++ ".<locals>." ++ "<lambda>"
def nm_law : Nat → Nat → Str := fun l _ => if l = 322 then ("law" : Str) ++ ".<locals>." ++ "<lambda>" else if l = 321 then ("law" : Str) ++ ".<locals>." ++ "<lambda>" else ("law" : Str) ++ ".<locals>." ++ "<lambda>"
def TT {K : PySem.W.Frag} {mg : Str → Option Value} (T : Txt K mg) : List NdefX.NTab := [(T.p_l_bare_right, nm_l_bare_right), (T.p_law, nm_law)]
theorem hm_l_bare_right {K : PySem.W.Frag} {mg : Str → Option Value} (T : Txt K mg) : (T.p_l_bare_right, nm_l_bare_right) ∈ TT T := List.mem_cons_self ..
theorem hu_l_bare_right {K : PySem.W.Frag} {mg : Str → Option Value} (T : Txt K mg) : ∀ p ∈ TT T, p.1 = T.p_l_bare_right → p.2 = nm_l_bare_right := fun p m e => by
  rcases List.mem_cons.mp m with rfl | m
  · exact rfl
  rcases List.mem_cons.mp m with rfl | m
  · exact absurd e.symm T.pne_l_bare_right_law
  · cases m
theorem hm_law {K : PySem.W.Frag} {mg : Str → Option Value} (T : Txt K mg) : (T.p_law, nm_law) ∈ TT T := List.mem_cons_of_mem _ (List.mem_cons_self ..)
theorem hu_law {K : PySem.W.Frag} {mg : Str → Option Value} (T : Txt K mg) : ∀ p ∈ TT T, p.1 = T.p_law → p.2 = nm_law := fun p m e => by
  rcases List.mem_cons.mp m with rfl | m
  · exact absurd e T.pne_l_bare_right_law
  rcases List.mem_cons.mp m with rfl | m
  · exact rfl
  · cases m
theorem pSeq {t u : TS} {D : Ends} {σ : L2.St} {H : Hp} (h : t { D with nx := u D } σ H) : tSeq t u D σ H := h
theorem pAsg {te : TE} {g : TG} {D : Ends} {σ : L2.St} {H : Hp} (h : te σ H fun x H1 => g x σ H1 D.nx) : tAsg te g D σ H := h
theorem pOp {r : R2} {ta tb : TE} {σ : L2.St} {H : Hp} {Q : VK} (h : ta σ H fun x H1 => tb σ H1 fun y H2 => r x y H2 Q) : tOp r ta tb σ H Q := h
theorem pIf {c : L2.TT} {t u : TS} {D : Ends} {σ : L2.St} {H : Hp} (h : c σ H fun b H1 => if b = true then t D σ H1 else u D σ H1) : tIfS c t u D σ H := h
theorem pOr {t u : L2.TT} {σ : L2.St} {H : Hp} {Q : Bool → Hp → Prop} (h : t σ H fun c H1 => if c = true then Q true H1 else u σ H1 Q) : tOr t u σ H Q := h
theorem pAnd {t u : L2.TT} {σ : L2.St} {H : Hp} {Q : Bool → Hp → Prop} (h : t σ H fun c H1 => if c = true then u σ H1 Q else Q false H1) : tAnd t u σ H Q := h
theorem pTest {t : TE} {σ : L2.St} {H : Hp} {Q : Bool → Hp → Prop} (h : t σ H fun x H' => ∃ k, x = .bl k ∧ Q k H') : tTest t σ H Q := h
theorem pGN {i : Nat} {x : V} {σ : L2.St} {H : Hp} {N : L2.St → Hp → Prop} (h : N (σ.set i (some x)) H) : gName i x σ H N := h
theorem pNx {D : Ends} {σ : L2.St} {H : Hp} (h : D.nx σ H) : tNext D σ H := h
theorem pRev {K : PySem.W.Frag} {te : TE} {σ : L2.St} {H : Hp} {Q : VK} (h : te σ H fun x H1 => ∃ a xs, x = .ref a ∧ SqL K H1 a xs ∧ ∀ p, H1 p = none → Q (.ref p) (upd H1 p (.lst xs.reverse))) : tRevL K te σ H Q := h
/-- an if whose test says I -/
theorem if_by2 {c : L2.TT} {t u : TS} {D : Ends} {σ : L2.St} {H : Hp} (I : Bool → Hp → Prop) (h : ∀ Q : Bool → Hp → Prop, (∀ b H', I b H' → Q b H') → c σ H Q) (hT : ∀ H', I true H' → t D σ H') (hF : ∀ H', I false H' → u D σ H') : tIfS c t u D σ H :=
  h (fun b H' => if b = true then t D σ H' else u D σ H') fun b H' i => by
    cases b with
    | true => exact (if_pos rfl).mpr (hT H' i)
    | false => exact (if_neg (fun z => nomatch z)).mpr (hF H' i)
theorem tab_ne {T : List NdefX.NTab} {P : Addr} {nm : Nat → Nat → Str} {H : Hp} {a : Addr} {o : HO} (t : NdefX.TabsN T H) (m : (P, nm) ∈ T) (e : H a = some o) (n : ∀ ps, o ≠ .tbl ps) : a ≠ P := fun z => by
  obtain ⟨ps, h, _⟩ := t _ m
  have h : H P = some (.tbl ps) := h
  rw [← z, e] at h
  exact n ps (Option.some.inj h)
theorem mid_seq {t u : TS} {D : Ends} {σ : L2.St} {H : Hp} (I : L2.St → Hp → Prop) (h1 : ∀ N : L2.St → Hp → Prop, (∀ σ' H', I σ' H' → N σ' H') → t { D with nx := N } σ H) (h2 : ∀ σ' H', I σ' H' → u D σ' H') : tSeq t u D σ H := h1 _ h2
theorem tabs_same {T : List NdefX.NTab} {H H1 : Hp} (t : NdefX.TabsN T H) (s : Same H H1) : NdefX.TabsN T H1 := tabsN_kp t (kp_same (cs := []) s) fun _ z => nomatch z
theorem tabsN_kpU {T : List NdefX.NTab} {cs : List Addr} {H H1 : Hp} (t : NdefX.TabsN T H) (k : Kp cs H H1) (m : Mu H cs) (n : ∀ p ∈ T, p.1 ∉ cs) : NdefX.TabsN T H1 := fun p hp => by
  obtain ⟨ps, h1, h2, h3⟩ := t p hp
  refine ⟨ps, k.at_ _ _ h1 (n p hp), h2, fun pos cv hc => ?_⟩
  obtain ⟨c, e1, e2⟩ := h3 pos cv hc
  exact ⟨c, e1, k.at_ _ _ e2 (m.ext e2)⟩
theorem bag_mu {H : Hp} {p : Addr} (b : Bag H p) : Mu H [p] := by
  obtain ⟨xs, e⟩ := bag_lst b
  exact mu_lst e mu_nil
theorem mu_tabs {Ts : List NdefX.NTab} {H : Hp} (t : NdefX.TabsN Ts H) {q : Addr} (hq : ∃ tb ∈ Ts, tb.1 = q) : Mu H [q] := by
  obtain ⟨tb, hm, rfl⟩ := hq
  obtain ⟨ps, h, _⟩ := t _ hm
  exact mu_cons h (fun _ z => nomatch z) (fun _ z => nomatch z) mu_nil

open NdefX (TabsN)
open Inf (LClo cut mend cellsOf)
def noSt : Stmt := .Pass ⟨0, 0, 0, 0⟩
def noE : Expr := .Constant .none 0 ⟨0, 0, 0, 0⟩
def forBody : Stmt → List Stmt
  | .For _ _ b .. => b
  | _ => []
def lamOf : Stmt → Nat → Expr
  | .Assign _ (.Call _ es _ _) _, i => es.getD i noE
  | .If (.UnaryOp _ (.Call _ es _ _) _) _ _ _, i => es.getD i noE
  | _, _ => noE
def lamF (q : Str) (cl : List (Str × Addr)) (c : Addr) : Expr → Inf.LF
  | .Lambda ps b sc _ => ⟨q, ps, b, sc, cl, c⟩
  | _ => ⟨q, { posonlyargs := [], args := [], vararg := none, kwonlyargs := [], kw_defaults := [], kwarg := none, defaults := [] }, noE, defScope s_law, cl, c⟩
theorem kp_ext {cs : List Addr} {H H1 : Hp} (k : Kp cs H H1) (n : Mu H cs) {t : Addr} {φ : Heap → Prop} (h : H t = some (.ext φ)) : H1 t = some (.ext φ) := k.at_ _ _ h (n.ext h)
theorem cellAt_kp {cs : List Addr} {H H1 : Hp} {c : Addr} {v : V} (h : Inf.CellAt H c v) (k : Kp cs H H1) (m : Mu H cs) : Inf.CellAt H1 c v := by
  obtain ⟨φ, e1, e2⟩ := h
  exact ⟨φ, kp_ext k m e1, e2⟩
theorem lclo_kp {cs : List Addr} {H H1 : Hp} {f : Addr} {F : Inf.LF} {fr : List Str} {ws : List V} (h : LClo H f F fr ws) (k : Kp cs H H1) (m : Mu H cs) : LClo H1 f F fr ws :=
  ⟨kp_ext k m h.fn, kp_ext k m h.code, h.len, h.dom, h.inj, fun i y e => by
    obtain ⟨c, v, a, b, d⟩ := h.at_ i y e
    exact ⟨c, v, a, b, cellAt_kp d k m⟩⟩
theorem cut_nil {H : Hp} : cut [] H = H := funext fun b => Inf.cut_out not_nil
theorem mend_nil {H H1 : Hp} : mend [] H H1 = H1 := funext fun b => Inf.mend_out not_nil
/-! ### the joins of the law: both make a list -/
def qJ : Str := ("law" : Str) ++ ".<locals>." ++ "<lambda>"
def madeS : Bool → Stmt
  | true => (forBody ((defBody s_law).getD 0 noSt)).getD 2 noSt
  | false => (forBody ((defBody s_law).getD 0 noSt)).getD 3 noSt
def LJ (b : Bool) (cl : List (Str × Addr)) (c : Addr) : Inf.LF := lamF qJ cl c (lamOf (madeS b) (if b then 1 else 0))
abbrev nJ : List Str := ["_law_one", "_law_two"]
theorem scJ1 : NdefX.NScope nJ nJ [] (LJ true [] 0).scope := NdefX.nscope_by (by decide +kernel)
theorem scJ2 : NdefX.NScope nJ nJ [] (LJ false [] 0).scope := NdefX.nscope_by (by decide +kernel)
/-! ### the calls of a queue without members -/
def qR : Str := ("_law_bare_right" : Str) ++ ".<locals>." ++ "<lambda>"
def LR (b : Bool) (cl : List (Str × Addr)) (c : Addr) : Inf.LF := lamF qR cl c (lamOf ((defBody s_l_bare_right).getD (if b then 0 else 1) noSt) 0)
abbrev frR : List Str := ["_law_queue_here"]
theorem cellR : ∀ y ∈ frR, (defScope s_l_bare_right).names.lookup y = some .cell := by decide +kernel
theorem scR1 : NdefX.NScope frR [] frR (LR true [] 0).scope := NdefX.nscope_by (by decide +kernel)
theorem scR2 : NdefX.NScope frR [] frR (LR false [] 0).scope := NdefX.nscope_by (by decide +kernel)
section
variable {P : Program} {w : World} {K : PySem.W.Frag} {mg : Str → Option Value} {base : Heap}
def spLJ : List (Option V) → Sp := fun ws vs H Q _ => ∃ (a b : V), ws = [] ∧ vs = [a, b] ∧ ∀ p, H p = none → Q (.ref p) (upd H p (.lst [a, b]))
abbrev toW (F : Inf.LF) (fr : List Str) (sp : List (Option V) → Sp) (f : Addr) : Sp := fun vs H Q E => ∃ ws, LClo H f F fr ws ∧ sp (ws.map some) vs (cut (cellsOf F.nf fr) H) (fun v H1 => (∀ b, b ∈ cellsOf F.nf fr → H1 b = Option.none) → Q v (mend (cellsOf F.nf fr) H H1)) E
theorem lamJ1 (T : Txt K mg) {cl : List (Str × Addr)} {c f : Addr} : FnR P w K mg base CX0 2 f (toW (LJ true cl c) [] spLJ f) := by
  refine Inf.lam_cloR (k := 1) (N := nJ) (ps := nJ) scJ1 (fun _ _ us hl => match us, hl with | [_, _], _ => rfl) (fun ws vs H Q E h => ?_) (fun A outer s H vs ws Q E hr hl h => ?_)
  · obtain ⟨a, b, rfl, rfl, _⟩ := h
    rfl
  · obtain ⟨a, b, rfl, rfl, q⟩ := h
    exact ⟨_, pe_lst (pa_cons (pv 0) (pa_cons (pv 1) pa_nil)), ⟨_, rfl, _, rfl, le2, q⟩⟩
theorem lamJ2 (T : Txt K mg) {cl : List (Str × Addr)} {c f : Addr} : FnR P w K mg base CX0 2 f (toW (LJ false cl c) [] spLJ f) := by
  refine Inf.lam_cloR (k := 1) (N := nJ) (ps := nJ) scJ2 (fun _ _ us hl => match us, hl with | [_, _], _ => rfl) (fun ws vs H Q E h => ?_) (fun A outer s H vs ws Q E hr hl h => ?_)
  · obtain ⟨a, b, rfl, rfl, _⟩ := h
    rfl
  · obtain ⟨a, b, rfl, rfl, q⟩ := h
    exact ⟨_, pe_lst (pa_cons (pv 0) (pa_cons (pv 1) pa_nil)), ⟨_, rfl, _, rfl, le2, q⟩⟩
theorem lamJ (T : Txt K mg) : ∀ {b : Bool} {cl : List (Str × Addr)} {c f : Addr}, FnR P w K mg base CX0 2 f (toW (LJ b cl c) [] spLJ f)
  | true, _, _, _ => lamJ1 T
  | false, _, _, _ => lamJ2 T
def URJ (b : Bool) (f : Addr) (cl : List (Str × Addr)) (c : Addr) : List JEv → Hp → Prop := fun _ H => LClo H f (LJ b cl c) [] []
def VaT : Nat → List V → V → Hp → Prop := fun _ _ _ _ => True
theorem jsB (T : Txt K mg) {b : Bool} {f c : Addr} {cl : List (Str × Addr)} : JS P w K mg base 2 true [] (.ref f) (URJ b f cl c) VaT where
  ur := fun h kk m _ => lclo_kp h kk m
  val := fun _ _ _ => True.intro
  mu := fun _ => mu_nil
  pl := fun h => nomatch h
  act := fun _ {i xs ys a b2 u H Q} _ _ hu lu lx q => by
    refine ⟨f, _, Q, rfl, .inl ⟨_, LClo.fn hu, Inf.lamHO⟩, lamJ T, ⟨[], hu, a, b2, rfl, rfl, fun p np _ => ?_⟩, fun _ _ z => z⟩
    have e : cellsOf (LJ b cl c).nf [] = [] := rfl
    rw [e, cut_nil] at np
    rw [e, cut_nil, mend_nil]
    have s := same_newF (o := .lst [a, b2]) (Fr.mk np)
    exact q _ _ (kp_same s) (LClo.same hu s) True.intro
/-! ### without members: Empty -/
theorem ok_filE (T : Txt K mg) : FnOk P w K mg base (L2.CX P w) 1 T.f_check_filled T.d_check_filled ["held"] (fun vs H Q E => ∃ hd, vs = [.ref hd] ∧ H hd = some (.dK []) ∧ E (.ref T.C_Empty) none H) := by
  refine T.F_check_filled.okX sc_check_filled (fun vs H Q E h => ?_) (fun cdv A outer s H vs Q E hr h => ?_)
  · obtain ⟨hd, rfl, _⟩ := h
    rfl
  · obtain ⟨hd, rfl, h1, q⟩ := h
    refine ⟨_, (pss_one (ps_if (pt_cmpR op_eq (pe_callB call_lenD (by rfl) T.z_len (by decide +kernel) (pa_cons (pv 0) pa_nil)) pe_int (nomark _)) (pss_one (ps_raise rfl (takes_of rfl rfl rfl rfl) (pmk_own PySem.F.excBase_IndexError T.xE T.gc_Empty T.kE (raises_own T.bE T.tE) rfl))) pss_nil)), ?_⟩
    exact ⟨_, rfl, hd, _, rfl, h1, rfl, _, rfl, ifT rfl q⟩
def spEvE (T : Txt K mg) : Sp := fun vs H Q E => ∃ (x dx c cdx l j h sh : Addr) (z : V) (gi : Int), vs = [.ref x] ∧ H x = some (EO T.C_EvenSums dx c j z gi h sh) ∧ H c = some (CO T.C_Calls cdx l false) ∧ H h = some (.dK []) ∧ E (.ref T.C_Empty) none H
def spTwE (T : Txt K mg) : Sp := fun vs H Q E => ∃ (x dx c cdx l j h fr : Addr) (z bv : V) (gi : Int), vs = [.ref x] ∧ H x = some (TO T.C_TwoStacks dx c j z gi h fr bv) ∧ H c = some (CO T.C_Calls cdx l false) ∧ H h = some (.dK []) ∧ E (.ref T.C_Empty) none H
theorem ok_evremE (T : Txt K mg) : FnOk P w K mg base (L2.CX P w) 4 T.f_EvenSums_remove_oldest T.d_EvenSums_remove_oldest ["self"] (spEvE T) := by
  have G_Calls_check := ok_chk (P := P) (w := w) (base := base) T
  have GE := ok_filE (P := P) (w := w) (base := base) T
  refine T.F_EvenSums_remove_oldest.okX sc_EvenSums_remove_oldest (fun vs H Q E h => ?_) (fun cdv A outer s H vs Q E hr h => ?_)
  · obtain ⟨x, dx, c, cdx, l, j, h, sh, z, gi, rfl, _⟩ := h
    rfl
  · obtain ⟨x, dx, c, cdx, l, j, h, sh, z, gi, rfl, h1, h2, h3, q⟩ := h
    refine ⟨_, (pss_cons (ps_expr (pe_meth0 (pe_fld (pv 0) rfl) T.cl_Calls ⟨T.m_Calls_check, T.t_Calls_check, T.k_Calls_check⟩ G_Calls_check (hr.mono (by omega)) T.b_Calls_check .nil pass0))
      (pss_cons (ps_expr (pe_call GE (hr.mono (by omega)) rfl T.g_check_filled T.F_check_filled.kp T.b_check_filled .nil (passes_call (takes_of rfl rfl rfl rfl) (fun _ _ _ _ h => h)) (pa_cons (pe_fld (pv 0) rfl) pa_nil))) pss_never)), ?_⟩
    refine ⟨_, rfl, x, _, _, _, .ref c, rfl, h1, T.cl_EvenSums, T.n_EvenSums_calls, rfl, c, cdx, _, rfl, h2, rfl, c, cdx, l, rfl, h2, ?_⟩
    exact ⟨_, rfl, x, _, _, _, .ref h, rfl, h1, T.cl_EvenSums, T.n_EvenSums_held, rfl, h, rfl, h3, q⟩
theorem ok_evplnE (T : Txt K mg) : FnOk P w K mg base (L2.CX P w) 4 T.f_EvenSums_plan_remove T.d_EvenSums_plan_remove ["self"] (spEvE T) := by
  have G_Calls_check := ok_chk (P := P) (w := w) (base := base) T
  have GE := ok_filE (P := P) (w := w) (base := base) T
  refine T.F_EvenSums_plan_remove.okX sc_EvenSums_plan_remove (fun vs H Q E h => ?_) (fun cdv A outer s H vs Q E hr h => ?_)
  · obtain ⟨x, dx, c, cdx, l, j, h, sh, z, gi, rfl, _⟩ := h
    rfl
  · obtain ⟨x, dx, c, cdx, l, j, h, sh, z, gi, rfl, h1, h2, h3, q⟩ := h
    refine ⟨_, (pss_cons (ps_expr (pe_meth0 (pe_fld (pv 0) rfl) T.cl_Calls ⟨T.m_Calls_check, T.t_Calls_check, T.k_Calls_check⟩ G_Calls_check (hr.mono (by omega)) T.b_Calls_check .nil pass0))
      (pss_cons (ps_expr (pe_call GE (hr.mono (by omega)) rfl T.g_check_filled T.F_check_filled.kp T.b_check_filled .nil (passes_call (takes_of rfl rfl rfl rfl) (fun _ _ _ _ h => h)) (pa_cons (pe_fld (pv 0) rfl) pa_nil))) pss_never)), ?_⟩
    refine ⟨_, rfl, x, _, _, _, .ref c, rfl, h1, T.cl_EvenSums, T.n_EvenSums_calls, rfl, c, cdx, _, rfl, h2, rfl, c, cdx, l, rfl, h2, ?_⟩
    exact ⟨_, rfl, x, _, _, _, .ref h, rfl, h1, T.cl_EvenSums, T.n_EvenSums_held, rfl, h, rfl, h3, q⟩
theorem ok_twremE (T : Txt K mg) : FnOk P w K mg base (L2.CX P w) 4 T.f_TwoStacks_remove_oldest T.d_TwoStacks_remove_oldest ["self"] (spTwE T) := by
  have G_Calls_check := ok_chk (P := P) (w := w) (base := base) T
  have GE := ok_filE (P := P) (w := w) (base := base) T
  refine T.F_TwoStacks_remove_oldest.okX sc_TwoStacks_remove_oldest (fun vs H Q E h => ?_) (fun cdv A outer s H vs Q E hr h => ?_)
  · obtain ⟨x, dx, c, cdx, l, j, h, fr, z, bv, gi, rfl, _⟩ := h
    rfl
  · obtain ⟨x, dx, c, cdx, l, j, h, fr, z, bv, gi, rfl, h1, h2, h3, q⟩ := h
    refine ⟨_, (pss_cons (ps_expr (pe_meth0 (pe_fld (pv 0) rfl) T.cl_Calls ⟨T.m_Calls_check, T.t_Calls_check, T.k_Calls_check⟩ G_Calls_check (hr.mono (by omega)) T.b_Calls_check .nil pass0))
      (pss_cons (ps_expr (pe_call GE (hr.mono (by omega)) rfl T.g_check_filled T.F_check_filled.kp T.b_check_filled .nil (passes_call (takes_of rfl rfl rfl rfl) (fun _ _ _ _ h => h)) (pa_cons (pe_fld (pv 0) rfl) pa_nil))) pss_never)), ?_⟩
    refine ⟨_, rfl, x, _, _, _, .ref c, rfl, h1, T.cl_TwoStacks, T.n_TwoStacks_calls, rfl, c, cdx, _, rfl, h2, rfl, c, cdx, l, rfl, h2, ?_⟩
    exact ⟨_, rfl, x, _, _, _, .ref h, rfl, h1, T.cl_TwoStacks, T.n_TwoStacks_held, rfl, h, rfl, h3, q⟩
theorem ok_twplnE (T : Txt K mg) : FnOk P w K mg base (L2.CX P w) 4 T.f_TwoStacks_plan_remove T.d_TwoStacks_plan_remove ["self"] (spTwE T) := by
  have G_Calls_check := ok_chk (P := P) (w := w) (base := base) T
  have GE := ok_filE (P := P) (w := w) (base := base) T
  refine T.F_TwoStacks_plan_remove.okX sc_TwoStacks_plan_remove (fun vs H Q E h => ?_) (fun cdv A outer s H vs Q E hr h => ?_)
  · obtain ⟨x, dx, c, cdx, l, j, h, fr, z, bv, gi, rfl, _⟩ := h
    rfl
  · obtain ⟨x, dx, c, cdx, l, j, h, fr, z, bv, gi, rfl, h1, h2, h3, q⟩ := h
    refine ⟨_, (pss_cons (ps_expr (pe_meth0 (pe_fld (pv 0) rfl) T.cl_Calls ⟨T.m_Calls_check, T.t_Calls_check, T.k_Calls_check⟩ G_Calls_check (hr.mono (by omega)) T.b_Calls_check .nil pass0))
      (pss_cons (ps_expr (pe_call GE (hr.mono (by omega)) rfl T.g_check_filled T.F_check_filled.kp T.b_check_filled .nil (passes_call (takes_of rfl rfl rfl rfl) (fun _ _ _ _ h => h)) (pa_cons (pe_fld (pv 0) rfl) pa_nil))) pss_never)), ?_⟩
    refine ⟨_, rfl, x, _, _, _, .ref c, rfl, h1, T.cl_TwoStacks, T.n_TwoStacks_calls, rfl, c, cdx, _, rfl, h2, rfl, c, cdx, l, rfl, h2, ?_⟩
    exact ⟨_, rfl, x, _, _, _, .ref h, rfl, h1, T.cl_TwoStacks, T.n_TwoStacks_held, rfl, h, rfl, h3, q⟩
end
end Ob

set_option Elab.async false
set_option linter.all false
set_option maxRecDepth 100000
set_option maxHeartbeats 1000000
namespace Ob
open PySem PySem.Spec PyProof.Rows L2
open LamX (Tabs TabB TabS ExtN)

set_option hygiene false in
local macro_rules
  | `(tactic| kp_flats) => `(tactic| first
    | assumption
    | exact upd_same
    | (apply atNew; assumption; kp_flats)
    | (apply atNe; (next => kbo_bools); kp_flats)
    | (apply atSame; assumption; kp_flats)
    | (apply atKp; assumption; (next => kaf_pre); kp_flats))
set_option hygiene false in
local macro_rules
  | `(tactic| kaf_pre) => `(tactic| first
    | assumption
    | exact not_nil
    | (apply not_cons; (next => kbo_bools); kaf_pre)
    | (apply not_app; (next => kaf_pre); kaf_pre))
set_option hygiene false in
local macro_rules
  | `(tactic| kbo_bools) => `(tactic| first
    | assumption
    | (apply Ne.symm; assumption)
    | (apply neN; assumption; kp_flats)
    | (apply neN'; assumption; kp_flats))
set_option hygiene false in
local macro_rules
  | `(tactic| o_reads) => `(tactic| first
    | with_reducible rfl
    | assumption
    | rfl
    | kp_flats
    | (show SqL _ _ _ _; first | assumption | (apply sqlOf; kp_flats) | (apply sqlSame; assumption; o_reads))
    | (show SqT _ _ _ _; first | assumption | (apply sqtOf; kp_flats) | (apply sqtAll; assumption) | (apply sqtSame; assumption; o_reads))
    | (show Cls _ _; first | exact T.cl_Calls | exact T.cl_Joiner | exact T.cl_Planner | exact T.cl_EvenSums | exact T.cl_Shape | exact T.cl_TwoStacks)
    | (show NoAttr _ _ _; first | exact T.n_Calls_entries | exact T.n_Calls_running | exact T.n_Joiner_calls | exact T.n_Joiner_join_call | exact T.n_Planner_entries | exact T.n_EvenSums_calls | exact T.n_EvenSums_joiner | exact T.n_EvenSums_zero | exact T.n_EvenSums_given | exact T.n_EvenSums_held | exact T.n_EvenSums_shape | exact T.n_Shape_front | exact T.n_Shape_back | exact T.n_Shape_late | exact T.n_Shape_renewed | exact T.n_TwoStacks_calls | exact T.n_TwoStacks_joiner | exact T.n_TwoStacks_zero | exact T.n_TwoStacks_given | exact T.n_TwoStacks_held | exact T.n_TwoStacks_front | exact T.n_TwoStacks_back)
    | (apply Or.inl; o_reads)
    | (apply Or.inr; o_reads)
    | (apply And.intro; (next => o_reads); o_reads)
    | (apply Exists.intro; o_reads)
    | exact Nat.le_of_ble_eq_true rfl
    | exact Nat.succ_ne_zero _
    | (show Fr _ _; kba_ints)
    | (show Same _ _; kd_subs)
    | (show Kp _ _ _; kxs_still)
    | (show (_ : Nat) ≤ _; simp only [List.length_append, List.length_map, List.length_cons, List.length_nil, List.length_take, List.length_drop, List.length_replicate, List.length_range, sizeLine_eq]; omega)
    | (show _ = none; apply Fr.h; kba_ints)
    | (show Bag _ _; first | assumption | (apply bag_putF; assumption; o_reads) | (apply bag_neF; (next => kbo_bools); o_reads) | (apply bag_kpR; assumption; (next => kaf_pre); o_reads))
    | omega
    | decide)
local macro_rules
  | `(tactic| o_readsAll) => `(tactic| repeat (first
    | (refine fun (pNew : Addr) (nNew : _ = none) => ?_; replace nNew := Fr.mk nNew)
    | (refine fun (xNew dNew : Addr) (nNew : _ = none) (mNew : _ = none) (eNew : dNew ≠ xNew) => ?_; replace nNew := Fr.mk nNew; replace mNew := Fr.mk mNew)
    | (apply And.intro; next => o_reads)
    | apply Exists.intro (α := V)
    | apply Exists.intro (α := Addr)
    | apply Exists.intro (α := Int)
    | apply Exists.intro (α := Bool)
    | apply Exists.intro (α := List V)
    | apply Exists.intro (α := List Nat)
    | apply Exists.intro (α := List (Str × V))
    | apply Exists.intro (α := List _)
    | apply Exists.intro (α := Str)
    | apply Exists.intro (α := HO)
    | apply Exists.intro (α := Sp)
    | apply Exists.intro (α := VK)))
set_option hygiene false in
local macro_rules
  | `(tactic| kba_ints) => `(tactic| first
    | assumption
    | (apply frUp; (first | assumption | (apply Ne.symm; assumption)); kba_ints)
    | (apply noneOf; assumption; intro oF eF; apply Exists.intro; kp_flats)
    | (apply frUp; (next => kbo_bools); kba_ints))
set_option hygiene false in
local macro_rules
  | `(tactic| kxs_still) => `(tactic| first
    | assumption
    | exact kp_refl _ _
    | (apply kp_newF; assumption; kxs_still)
    | (apply kp_new; assumption; kxs_still)
    | (apply kp_up; (next => o_fieldsN); kxs_still)
    | (apply kp_new; (next => kba_ints); kxs_still)
    | (apply kp_sameR; assumption; kxs_still)
    | (apply kp_transR; assumption; kxs_still)
    | (apply kp_freshR; assumption; (next => kaf_suf); kxs_still))
set_option hygiene false in
local macro_rules
  | `(tactic| kaf_suf) => `(tactic| first
    | assumption
    | exact subNil
    | (apply subCons; (first | (apply Or.inl; o_fieldsN) | (apply Or.inr; kba_ints)); kaf_suf)
    | (apply subApp; (next => kaf_suf); kaf_suf))
set_option hygiene false in
local macro_rules
  | `(tactic| o_fieldsN) => `(tactic| first
    | assumption
    | exact memA
    | (apply memB; o_fieldsN)
    | (apply memL; o_fieldsN)
    | (apply memR; o_fieldsN))
set_option hygiene false in
local macro_rules
  | `(tactic| kd_subs) => `(tactic| first
    | assumption
    | exact Same.refl _
    | (apply same_putF; assumption; kd_subs)
    | (apply same_putG; assumption; kd_subs)
    | (apply same_putF; (next => kba_ints); kd_subs)
    | (apply same_transR; assumption; kd_subs))

set_option pp.maxSteps 900
section
variable {P : Program} {w : World} {K : PySem.W.Frag} {mg : Str → Option Value} {base : Heap} {n : Nat}
def spQueue (Ct Ce Cs : Addr) (Cj : Addr × Addr) (Cc : Addr) : Sp := fun vs H Q _ => ∃ (k : Nat) (f z : V), vs = [.int (k : Int), f, z] ∧ k < 2 ∧
  ∀ (x j jdx c cdx l : Addr) H', Same H H' → Fr H x → Fr H j → Fr H c → Fr H l → (∀ (H9 : Hp) (uv : List Addr) (UR : List JEv → Hp → Prop) (Val : Nat → List V → V → Hp → Prop) (cs : List Addr), (∀ b o, H' b = some o → (∀ ps, o ≠ .tbl ps) → H9 b = some o) → Mu H9 cs → (∀ a ∈ [x, c, l] ++ uv, a ∈ cs) → (∀ a ∈ cs, a ∈ [x, c, l] ∨ (∃ o, H a = some o) ∨ H' a = none) → (∀ a ∈ uv, ∃ o, H a = some o) → UR [] H9 → (k = 0 ∧ TwAt Ct Cj Cc uv f UR Val cs x j jdx c cdx l z [] [] [] 0 0 H9) ∨ (k = 1 ∧ EvAt Ce Cs Cj Cc uv f UR Val cs x j jdx c cdx l z [] [] [] 0 0 0 none H9)) →
    (∃ C dx fs, H' x = some (.ins C dx fs)) → (∃ C dx fs, H' c = some (.ins C dx fs)) → H' l = some (.lst []) → Q (.ref x) H'
theorem ok_queue (T : Txt K mg) : FnOk P w K mg base CX0 8 T.f_l_queue T.d_l_queue ["_law_form", "_law_call", "_law_empty_here"] (spQueue T.C_TwoStacks T.C_EvenSums T.C_Shape (CJ T) T.C_Calls) := by
  have G_EvenSums_init := ok_ei (P := P) (w := w) (base := base) T
  have G_TwoStacks_init := ok_ti (P := P) (w := w) (base := base) T
  obtain ⟨mv0, KB_EvenSums_init⟩ := FunD.kbinds0 (ps := ["self", "join", "zero"]) T.F_EvenSums_init 1 ["zero", "join"] [] (fun us mv ws => us ++ (ws.drop 1 ++ ws.take 1)) (List.cons_ne_nil _ _) (fun _ z => nomatch z) (fun a _ c => a.append ((c.drop 1).append (c.take 1)))
    (fun D doc pm an cdv ct us mv ws h1 h2 h3 => match us, h1, mv, h2, ws, h3 with | [_], _, [], _, [_, _], _ => rfl)
  obtain ⟨mv1, KB_TwoStacks_init⟩ := FunD.kbinds0 (ps := ["self", "join", "zero"]) T.F_TwoStacks_init 1 ["zero", "join"] [] (fun us mv ws => us ++ (ws.drop 1 ++ ws.take 1)) (List.cons_ne_nil _ _) (fun _ z => nomatch z) (fun a _ c => a.append ((c.drop 1).append (c.take 1)))
    (fun D doc pm an cdv ct us mv ws h1 h2 h3 => match us, h1, mv, h2, ws, h3 with | [_], _, [], _, [_, _], _ => rfl)
  refine T.F_l_queue.ok sc_l_queue (fun vs H Q E h => ?_) (fun cdv A outer s H vs Q E hr h => ?_)
  · obtain ⟨k, f, z, rfl, _⟩ := h
    rfl
  · obtain ⟨k, f, z, rfl, hk, q⟩ := h
    refine ⟨_, (pss_cons (ps_if (pt_cmpR op_eq (pv 0) pe_int (nomark _)) (pss_one (ps_ret (pe_makeK0 ⟨T.mk_TwoStacks, T.m_TwoStacks_init, T.t_TwoStacks_init, T.kp_TwoStacks⟩ G_TwoStacks_init (hr.mono (by omega)) rfl T.gc_TwoStacks KB_TwoStacks_init pass0 (pk_cons (pv 2) (pk_cons (pv 1) pk_nil))))) pss_nil)
      (pss_one (ps_ret (pe_makeK0 ⟨T.mk_EvenSums, T.m_EvenSums_init, T.t_EvenSums_init, T.kp_EvenSums⟩ G_EvenSums_init (hr.mono (by omega)) rfl T.gc_EvenSums KB_EvenSums_init pass0 (pk_cons (pv 2) (pk_cons (pv 1) pk_nil)))))), ?_⟩
    have hT : ∀ {a b : Int}, a = b → decide (V.int a = V.int b) = true := fun e => decide_eq_true (congrArg V.int e)
    have hF : ∀ {a b : Int}, a ≠ b → decide (V.int a = V.int b) = false := fun e => decide_eq_false fun z => e (by injection z)
    match k, hk with
    | 0, _ =>
      refine ⟨_, rfl, rfl, _, rfl, ifT (hT rfl) ⟨_, rfl, _, rfl, rfl, rfl, fun x dx nx nd ndx => ⟨x, dx, f, z, rfl, upd_same, fun j jdx c cdx l h fr H3 fj fc fll fh ff d1 d2 d3 d4 d5 d6 d7 d8 d9 d10 d11 d12 g1 g2 g3 g4 g5 g6 k3 => ⟨rfl, ?_⟩⟩⟩⟩
      have fx := Fr.mk nx
      have fd := Fr.mk nd
      have s23 : Same H H3 := fun b o z => k3.at_ _ _ (by rw [upd_ne (ne_of_none z fx.h), upd_ne (ne_of_none z fd.h)]; exact z) (not_cons (ne_of_none z fx.h) not_nil)
      have up : ∀ {b : Addr}, Fr (upd (upd H dx (.own x)) x (.ins T.C_TwoStacks dx [])) b → Fr H b := fun {b} z => noneOf z fun o e => ⟨o, by rw [upd_ne (ne_of_none e fx.h), upd_ne (ne_of_none e fd.h)]; exact e⟩
      refine q x j jdx c cdx l H3 s23 fx (up fj) (up fc) (up fll) (fun H9 uv UR Val cs s9 mu sub has hau ur => ?_) ⟨_, _, _, g1⟩ ⟨_, _, _, g3⟩ g4
      have out : ∀ {b : Addr} {o : HO}, H3 b = some o → Fr H b → b ≠ x → b ≠ c → b ≠ l → b ∉ cs := fun {b o} e3 y a1 a2 a3 m => (has b m).elim (fun m => (List.mem_cons.mp m).elim a1 fun m => (List.mem_cons.mp m).elim a2 fun m => a3 (List.mem_singleton.mp m)) fun z => z.elim (fun ⟨o, e⟩ => ne_of_none e y.h rfl) fun e => by rw [e] at e3; cases e3
      have ou : ∀ {b : Addr}, Fr H b → b ∉ uv := fun {b} y m => by
        obtain ⟨o, e⟩ := hau b m
        exact ne_of_none e y.h rfl
      exact Or.inl ⟨rfl, twNew mu sub (out g2 (up fj) d4 d5 d6) (out g5 (up fh) d7 d8 d9) (out g6 (up ff) d10 d11 d12) (not_cons d2 (not_cons d3 (ou fx))) (ou (up fj)) (ou (up fc)) (ou (up fll)) ur (s9 _ _ g1 (fun _ z => nomatch z)) (s9 _ _ g2 (fun _ z => nomatch z)) (s9 _ _ g3 (fun _ z => nomatch z)) (s9 _ _ g4 (fun _ z => nomatch z)) (s9 _ _ g5 (fun _ z => nomatch z)) (s9 _ _ g6 (fun _ z => nomatch z))⟩
    | 1, _ =>
      refine ⟨_, rfl, rfl, _, rfl, ifF (hF (by decide)) ⟨_, rfl, _, rfl, rfl, rfl, fun x dx nx nd ndx => ⟨x, dx, f, z, rfl, upd_same, fun j jdx c cdx l h sh sdx fr H3 fj fc fll fh fs ff d1 d2 d3 d4 d5 d6 d7 d8 d9 d10 d11 d12 d13 d14 d15 g1 g2 g3 g4 g5 g6 g7 k3 => ⟨rfl, ?_⟩⟩⟩⟩
      have fx := Fr.mk nx
      have fd := Fr.mk nd
      have s23 : Same H H3 := fun b o z => k3.at_ _ _ (by rw [upd_ne (ne_of_none z fx.h), upd_ne (ne_of_none z fd.h)]; exact z) (not_cons (ne_of_none z fx.h) not_nil)
      have up : ∀ {b : Addr}, Fr (upd (upd H dx (.own x)) x (.ins T.C_EvenSums dx [])) b → Fr H b := fun {b} z => noneOf z fun o e => ⟨o, by rw [upd_ne (ne_of_none e fx.h), upd_ne (ne_of_none e fd.h)]; exact e⟩
      refine q x j jdx c cdx l H3 s23 fx (up fj) (up fc) (up fll) (fun H9 uv UR Val cs s9 mu sub has hau ur => ?_) ⟨_, _, _, g1⟩ ⟨_, _, _, g3⟩ g4
      have out : ∀ {b : Addr} {o : HO}, H3 b = some o → Fr H b → b ≠ x → b ≠ c → b ≠ l → b ∉ cs := fun {b o} e3 y a1 a2 a3 m => (has b m).elim (fun m => (List.mem_cons.mp m).elim a1 fun m => (List.mem_cons.mp m).elim a2 fun m => a3 (List.mem_singleton.mp m)) fun z => z.elim (fun ⟨o, e⟩ => ne_of_none e y.h rfl) fun e => by rw [e] at e3; cases e3
      have ou : ∀ {b : Addr}, Fr H b → b ∉ uv := fun {b} y m => by
        obtain ⟨o, e⟩ := hau b m
        exact ne_of_none e y.h rfl
      exact Or.inr ⟨rfl, evNew (H := H3) mu sub (out g2 (up fj) d4 d5 d6) (out g5 (up fh) d7 d8 d9) (out g6 (up fs) d10 d11 d12) (out g7 (up ff) d13 d14 d15) (not_cons d2 (not_cons d3 (ou fx))) (ou (up fj)) (ou (up fc)) (ou (up fll)) ur (s9 _ _ g1 (fun _ z => nomatch z)) (s9 _ _ g2 (fun _ z => nomatch z)) (s9 _ _ g3 (fun _ z => nomatch z)) (s9 _ _ g4 (fun _ z => nomatch z)) (s9 _ _ g5 (fun _ z => nomatch z)) (s9 _ _ g6 (fun _ z => nomatch z)) (s9 _ _ g7 (fun _ z => nomatch z))⟩
end
end Ob

set_option Elab.async false
set_option linter.all false
set_option maxRecDepth 100000
set_option maxHeartbeats 1000000
namespace Ob
open PySem PySem.Spec PyProof.Rows L2
open LamX (Tabs TabB TabS ExtN)

set_option hygiene false in
local macro_rules
  | `(tactic| kp_flats) => `(tactic| first
    | assumption
    | exact upd_same
    | (apply atNew; assumption; kp_flats)
    | (apply atNe; (next => kbo_bools); kp_flats)
    | (apply atSame; assumption; kp_flats)
    | (apply atKp; assumption; (next => kaf_pre); kp_flats))
set_option hygiene false in
local macro_rules
  | `(tactic| kaf_pre) => `(tactic| first
    | assumption
    | exact not_nil
    | (apply not_cons; (next => kbo_bools); kaf_pre)
    | (apply not_app; (next => kaf_pre); kaf_pre))
set_option hygiene false in
local macro_rules
  | `(tactic| kbo_bools) => `(tactic| first
    | assumption
    | (apply Ne.symm; assumption)
    | (apply neN; assumption; kp_flats)
    | (apply neN'; assumption; kp_flats))
set_option hygiene false in
local macro_rules
  | `(tactic| o_reads) => `(tactic| first
    | with_reducible rfl
    | assumption
    | rfl
    | kp_flats
    | (show SqL _ _ _ _; first | assumption | (apply sqlOf; kp_flats) | (apply sqlSame; assumption; o_reads))
    | (show SqT _ _ _ _; first | assumption | (apply sqtOf; kp_flats) | (apply sqtAll; assumption) | (apply sqtSame; assumption; o_reads))
    | (show Cls _ _; first | exact T.cl_Calls | exact T.cl_Joiner | exact T.cl_Planner | exact T.cl_EvenSums | exact T.cl_Shape | exact T.cl_TwoStacks)
    | (show NoAttr _ _ _; first | exact T.n_Calls_entries | exact T.n_Calls_running | exact T.n_Joiner_calls | exact T.n_Joiner_join_call | exact T.n_Planner_entries | exact T.n_EvenSums_calls | exact T.n_EvenSums_joiner | exact T.n_EvenSums_zero | exact T.n_EvenSums_given | exact T.n_EvenSums_held | exact T.n_EvenSums_shape | exact T.n_Shape_front | exact T.n_Shape_back | exact T.n_Shape_late | exact T.n_Shape_renewed | exact T.n_TwoStacks_calls | exact T.n_TwoStacks_joiner | exact T.n_TwoStacks_zero | exact T.n_TwoStacks_given | exact T.n_TwoStacks_held | exact T.n_TwoStacks_front | exact T.n_TwoStacks_back)
    | (apply Or.inl; o_reads)
    | (apply Or.inr; o_reads)
    | (apply And.intro; (next => o_reads); o_reads)
    | (apply Exists.intro; o_reads)
    | exact Nat.le_of_ble_eq_true rfl
    | exact Nat.succ_ne_zero _
    | (show Fr _ _; kba_ints)
    | (show Same _ _; kd_subs)
    | (show Kp _ _ _; kxs_still)
    | (show (_ : Nat) ≤ _; simp only [List.length_append, List.length_map, List.length_cons, List.length_nil, List.length_take, List.length_drop, List.length_replicate, List.length_range, sizeLine_eq]; omega)
    | (show _ = none; apply Fr.h; kba_ints)
    | (show Bag _ _; first | assumption | (apply bag_putF; assumption; o_reads) | (apply bag_neF; (next => kbo_bools); o_reads) | (apply bag_kpR; assumption; (next => kaf_pre); o_reads))
    | omega
    | decide)
local macro_rules
  | `(tactic| o_readsAll) => `(tactic| repeat (first
    | (refine fun (pNew : Addr) (nNew : _ = none) => ?_; replace nNew := Fr.mk nNew)
    | (refine fun (xNew dNew : Addr) (nNew : _ = none) (mNew : _ = none) (eNew : dNew ≠ xNew) => ?_; replace nNew := Fr.mk nNew; replace mNew := Fr.mk mNew)
    | (apply And.intro; next => o_reads)
    | apply Exists.intro (α := V)
    | apply Exists.intro (α := Addr)
    | apply Exists.intro (α := Int)
    | apply Exists.intro (α := Bool)
    | apply Exists.intro (α := List V)
    | apply Exists.intro (α := List Nat)
    | apply Exists.intro (α := List (Str × V))
    | apply Exists.intro (α := List _)
    | apply Exists.intro (α := Str)
    | apply Exists.intro (α := HO)
    | apply Exists.intro (α := Sp)
    | apply Exists.intro (α := VK)))
set_option hygiene false in
local macro_rules
  | `(tactic| kba_ints) => `(tactic| first
    | assumption
    | (apply frUp; (first | assumption | (apply Ne.symm; assumption)); kba_ints)
    | (apply noneOf; assumption; intro oF eF; apply Exists.intro; kp_flats)
    | (apply frUp; (next => kbo_bools); kba_ints))
set_option hygiene false in
local macro_rules
  | `(tactic| kxs_still) => `(tactic| first
    | assumption
    | exact kp_refl _ _
    | (apply kp_newF; assumption; kxs_still)
    | (apply kp_new; assumption; kxs_still)
    | (apply kp_up; (next => o_fieldsN); kxs_still)
    | (apply kp_new; (next => kba_ints); kxs_still)
    | (apply kp_sameR; assumption; kxs_still)
    | (apply kp_transR; assumption; kxs_still)
    | (apply kp_freshR; assumption; (next => kaf_suf); kxs_still))
set_option hygiene false in
local macro_rules
  | `(tactic| kaf_suf) => `(tactic| first
    | assumption
    | exact subNil
    | (apply subCons; (first | (apply Or.inl; o_fieldsN) | (apply Or.inr; kba_ints)); kaf_suf)
    | (apply subApp; (next => kaf_suf); kaf_suf))
set_option hygiene false in
local macro_rules
  | `(tactic| o_fieldsN) => `(tactic| first
    | assumption
    | exact memA
    | (apply memB; o_fieldsN)
    | (apply memL; o_fieldsN)
    | (apply memR; o_fieldsN))
set_option hygiene false in
local macro_rules
  | `(tactic| kd_subs) => `(tactic| first
    | assumption
    | exact Same.refl _
    | (apply same_putF; assumption; kd_subs)
    | (apply same_putG; assumption; kd_subs)
    | (apply same_putF; (next => kba_ints); kd_subs)
    | (apply same_transR; assumption; kd_subs))

/-! ### == and != of lists that hold the very same objects -/
def NoTok (v : V) : Prop := v = .non ∨ ∃ a, v = .ref a
theorem noTok_val {v : V} {u u' : Value} (h : NoTok v) (r : RelV v u) (r' : RelV v u') : u = u' := by
  rcases h with rfl | ⟨a, rfl⟩
  · exact (show u = Value.none from r).trans (show u' = Value.none from r').symm
  · exact (show u = Value.ref a from r).trans (show u' = Value.ref a from r').symm
theorem noTok_all : ∀ {xs : List V} {us us' : List Value}, (∀ x ∈ xs, NoTok x) → Vals xs us → Vals xs us' → us = us'
  | [], _, _, _, r, r' => by
    cases r
    cases r'
    rfl
  | x :: xs, _, _, h, r, r' => by
    cases r with
    | cons r1 r2 =>
      cases r' with
      | cons q1 q2 => rw [noTok_val (h x (List.mem_cons_self ..)) r1 q1, noTok_all (fun y hy => h y (List.mem_cons_of_mem _ hy)) r2 q2]
/-- both lists hold the objects xs -/
def rSame (K : PySem.W.Frag) (b : Bool) : R2 := fun x y H Q => ∃ (p q : Addr) (xs : List V), x = .ref p ∧ y = .ref q ∧ SqL K H p xs ∧ SqL K H q xs ∧ (∀ v ∈ xs, NoTok v) ∧ Q (.bl b) H
theorem all_yes (n : Nat) : (List.range n).all (fun _ => true) = true := List.all_eq_true.mpr fun _ _ => rfl
section
variable {X : Cx} {pins : List (Addr × Obj)} {σ : L2.St} {H : Hp} {s : Shared} {p q : Addr} {xs : List V}
theorem same_lists (I : Inv X pins σ H s) (hp : SqL X.K H p xs) (hq : SqL X.K H q xs) (hn : ∀ v ∈ xs, NoTok v) : ∃ its : Array Value, s.heap.IsList p its ∧ s.heap.IsList q its := by
  obtain ⟨its, rv, ⟨o, n, h1, h2, _, h3⟩, _⟩ := I.list hp
  obtain ⟨its', rv', ⟨o', n', h1', h2', _, h3'⟩, _⟩ := I.list hq
  obtain rfl := noTok_all hn rv rv'
  exact ⟨its.toArray, ⟨o, h1, h2, n, h3⟩, ⟨o', h1', h2', n', h3'⟩⟩
end
theorem op_eqS {X : Cx} (hu : X.A.units + 64 < cLine) : OpR X (compareOp .Eq) (rSame X.K true) := by
  intro pins s σ H x y v u Q I rx ry h
  obtain ⟨p, q, xs, rfl, rfl, hp, hq, hn, k⟩ := h
  obtain rfl : v = Value.ref p := rx
  obtain rfl : u = Value.ref q := ry
  obtain ⟨its, h1, h2⟩ := same_lists I hp hq hn
  have z := SeqAt.RcAt.lists (A := X.A) (e := fun _ => true) h1 h2 rfl (by omega) (fun j j1 j2 => SeqAt.EqAt.same _)
  rw [all_yes] at z
  exact z _ _ _ _ ⟨.bl true, H, I, rfl, k⟩
theorem op_neS {X : Cx} (hu : X.A.units + 64 < cLine) : OpR X (compareOp .NotEq) (rSame X.K false) := by
  intro pins s σ H x y v u Q I rx ry h
  obtain ⟨p, q, xs, rfl, rfl, hp, hq, hn, k⟩ := h
  obtain rfl : v = Value.ref p := rx
  obtain rfl : u = Value.ref q := ry
  obtain ⟨its, h1, h2⟩ := same_lists I hp hq hn
  have z := SeqAt.RcNeAt.lists (A := X.A) (e := fun _ => true) h1 h2 rfl (by omega) (fun j j1 j2 => SeqAt.EqAt.same _)
  rw [all_yes] at z
  exact z _ _ _ _ ⟨.bl false, H, I, rfl, k⟩
/-- a list against the empty one -/
def rNeNil (K : PySem.W.Frag) : R2 := fun x y H Q => ∃ (p q : Addr) (xs : List V), x = .ref p ∧ y = .ref q ∧ SqL K H p xs ∧ SqL K H q [] ∧ Q (.bl (!xs.isEmpty)) H
theorem is_list {X : Cx} {pins : List (Addr × Obj)} {σ : L2.St} {H : Hp} {s : Shared} {p : Addr} {xs : List V} (I : Inv X pins σ H s) (hp : SqL X.K H p xs) : ∃ its : Array Value, its.size = xs.length ∧ s.heap.IsList p its := by
  obtain ⟨its, rv, ⟨o, n, h1, h2, _, h3⟩, _⟩ := I.list hp
  exact ⟨its.toArray, by rw [List.size_toArray, rv.length], ⟨o, h1, h2, n, h3⟩⟩
theorem op_neNil {X : Cx} (hu : X.A.units + 64 < cLine) : OpR X (compareOp .NotEq) (rNeNil X.K) := by
  intro pins s σ H x y v u Q I rx ry h
  obtain ⟨p, q, xs, rfl, rfl, hp, hq, k⟩ := h
  cases xs with
  | nil => exact op_neS hu pins s σ H _ _ v u Q I rx ry ⟨p, q, [], rfl, rfl, hp, hq, (fun _ z => nomatch z), k⟩
  | cons a l =>
    obtain rfl : v = Value.ref p := rx
    obtain rfl : u = Value.ref q := ry
    obtain ⟨i1, e1, h1⟩ := is_list I hp
    obtain ⟨i2, e2, h2⟩ := is_list I hq
    have z := SeqAt.RcNeAt.lists_lengths (A := X.A) h1 h2 (by rw [e1, e2]; rfl) (by omega)
    exact z _ _ _ _ ⟨.bl true, H, I, rfl, k⟩

def rEqNil (K : PySem.W.Frag) : R2 := fun x y H Q => ∃ (p q : Addr) (xs : List V), x = .ref p ∧ y = .ref q ∧ SqL K H p xs ∧ SqL K H q [] ∧ Q (.bl xs.isEmpty) H
theorem op_eqNil {X : Cx} (hu : X.A.units + 64 < cLine) : OpR X (compareOp .Eq) (rEqNil X.K) := by
  intro pins s σ H x y v u Q I rx ry h
  obtain ⟨p, q, xs, rfl, rfl, hp, hq, k⟩ := h
  cases xs with
  | nil => exact op_eqS hu pins s σ H _ _ v u Q I rx ry ⟨p, q, [], rfl, rfl, hp, hq, (fun _ z => nomatch z), k⟩
  | cons a l =>
    obtain rfl : v = Value.ref p := rx
    obtain rfl : u = Value.ref q := ry
    obtain ⟨i1, e1, h1⟩ := is_list I hp
    obtain ⟨i2, e2, h2⟩ := is_list I hq
    have z := SeqAt.RcAt.lists_lengths (A := X.A) h1 h2 (by rw [e1, e2]; rfl) (by omega)
    exact z _ _ _ _ ⟨.bl false, H, I, rfl, k⟩

set_option pp.maxSteps 900
open NdefX (TabsN)
open Inf (LClo cut mend cellsOf)
/-! ### isinstance of the error that a suite holds -/
theorem is_ex1 {X : Cx} {a D : Addr} {oe : Obj} {cls : Value} {d : Option Addr} {pn : List (Addr × Obj)} (C : ExcC X.K D) (hz : Zc cls d oe) (hf : ∃ vs, oe.data = .fields vs) :
    CallR (X.suite a ((a, oe) :: pn)) (.builtin "isinstance") (fun xs H Q => (cls = .ref D ∧ d = none) ∧ rIsE X.K D a xs H Q) := fun pins s σ H xs us Q I r h => by
  obtain ⟨⟨e1, e2⟩, h⟩ := h
  subst e1 e2
  exact call_isE C hz hf pins s σ H xs us Q I r h
def rIsET (K : PySem.W.Frag) (D a : Addr) : List V → Hp → VK → Prop := fun xs H Q => ∃ (tp : Addr) (cs : List V) (us : List Value) (b : Bool), xs = [.ref a, .ref tp] ∧ H tp = some (.tup cs) ∧ Paired ClsV cs us ∧ PySem.W.kitAny K (.ref D) us = some b ∧ Q (.bl b) H
theorem is_exT {X : Cx} {a D : Addr} {oe : Obj} {cls : Value} {d : Option Addr} {pn : List (Addr × Obj)} (C : ExcC X.K D) (hz : Zc cls d oe) (hf : ∃ vs, oe.data = .fields vs) :
    CallR (X.suite a ((a, oe) :: pn)) (.builtin "isinstance") (fun xs H Q => (cls = .ref D ∧ d = none) ∧ rIsET X.K D a xs H Q) := fun pins s σ H xs us Q I r h => by
  obtain ⟨⟨e1, e2⟩, tp, cs, ws, b, rfl, hT, k, e, q⟩ := h
  subst e1 e2
  obtain ⟨u1, u2, rfl, r1, r2⟩ := vals2 r
  cases (show u1 = Value.ref a from r1)
  cases (show u2 = Value.ref tp from r2)
  obtain ⟨hget, _⟩ := I.pin (a, oe) (List.mem_append.mpr (.inl List.mem_cons_self))
  obtain ⟨vs, hv⟩ := hf
  have J : PySem.W.InstAt s.heap a oe D none := by
    obtain ⟨oc, od, oda, osl⟩ := oe
    obtain ⟨h1, h2⟩ := hz
    dsimp only at h1 h2 hv
    subst h1 h2 hv
    exact ⟨hget, rfl, rfl, trivial⟩
  obtain ⟨_, its, rv, o, h1, h2, n, h3⟩ := (show ObjOk X.prog X.w H s.heap tp (.tup cs) from I.hok tp _ hT)
  have e3 := ClsV.all k rv
  subst e3
  obtain ⟨oc, od, dt, sl⟩ := o
  simp only at h2 h3
  subst h2 h3
  exact PySem.W.kia_tup (PySem.W.handS_kitx_exc C.hg C.hk C.hs C.hd C.ha C.hn C.ht C.hm) I.kIn J h1 e (fun z => nomatch z) fun tk => ⟨.bl b, H, I.tok tk, rfl, q⟩
theorem kit_own {K : PySem.W.Frag} {B D : Addr} {b : Bool} (hs : PySem.W.subIn K (.ref B) (.ref B) = some true) (h1 : PySem.W.isClsIn K D = true) (h2 : PySem.W.typeIn K (.ref D) = some (.type "type")) (h3 : PySem.W.subIn K (.ref B) (.ref D) = some b) :
    PySem.W.kitOne K (.ref B) (.ref D) = some b := by
  unfold PySem.W.kitOne
  by_cases c : B = D
  · subst c
    rw [hs] at h3
    rw [← h3, if_pos (beq_self_eq_true _)]
  · rw [if_neg (by simpa using c)]
    unfold PySem.W.kitCls
    have h1' : (PySem.W.clsIn K D).isSome = true := h1
    have e : ((PySem.W.clsIn K D).isSome && PySem.W.typeIn K (.ref D) == some (.type "type")) = true := by
      rw [h1', h2]
      rfl
    exact (if_pos e).trans h3
theorem kit_noneOf {K : PySem.W.Frag} {t c : Value} {cs : List Value} (h : PySem.W.kitOne K t c = some false) (r : PySem.W.kitAny K t cs = some false) : PySem.W.kitAny K t (c :: cs) = some false :=
  kitAny_cons h (fun _ => r) fun z => nomatch z
section
variable {P : Program} {w : World} {K : PySem.W.Frag} {mg : Str → Option Value} {base : Heap}
abbrev toWX (F : Inf.LF) (fr : List Str) (sp : List (Option V) → Sp) (f : Addr) : Sp := fun vs H Q E => ∃ ws, LClo H f F fr ws ∧ sp (ws.map some) vs (cut (cellsOf F.nf fr) H) (fun v H1 => (∀ b, b ∈ cellsOf F.nf fr → H1 b = Option.none) → Q v (mend (cellsOf F.nf fr) H H1)) (fun cls d H1 => (∀ b, b ∈ cellsOf F.nf fr → H1 b = Option.none) → E cls d (mend (cellsOf F.nf fr) H H1))
/-- a queue without members -/
def Bare (T : Txt K mg) (H : Hp) (x : Addr) : Prop := (∃ dx c cdx l j h fr z bv gi, H x = some (TO T.C_TwoStacks dx c j z gi h fr bv) ∧ H c = some (CO T.C_Calls cdx l false) ∧ H h = some (.dK [])) ∨ ∃ dx c cdx l j h sh z gi, H x = some (EO T.C_EvenSums dx c j z gi h sh) ∧ H c = some (CO T.C_Calls cdx l false) ∧ H h = some (.dK [])
def spLR (T : Txt K mg) : List (Option V) → Sp := fun ws vs H Q E => ∃ x : Addr, ws = [some (.ref x)] ∧ vs = [] ∧ Bare T H x ∧ E (.ref T.C_Empty) none H
theorem lamR1 (T : Txt K mg) {cl : List (Str × Addr)} {c f : Addr} : FnR P w K mg base (L2.CX P w) 6 f (toWX (LR true cl c) frR (spLR T) f) := by
  have GT := ok_twremE (P := P) (w := w) (base := base) T
  have GE := ok_evremE (P := P) (w := w) (base := base) T
  refine Inf.lam_cloX (k := 5) (N := frR) (ps := []) scR1 (fun _ _ us hl => match us, hl with | [], _ => rfl) (fun ws vs H Q E h => ?_) (fun A outer s H vs ws Q E hr hl h => ?_)
  · obtain ⟨x, rfl, rfl, _⟩ := h
    rfl
  · obtain ⟨x, rfl, rfl, hb, q⟩ := h
    refine ⟨_, (pe_either (pe_meth0 (pv 0) T.cl_TwoStacks ⟨T.m_TwoStacks_remove_oldest, T.t_TwoStacks_remove_oldest, T.k_TwoStacks_remove_oldest⟩ GT (hr.mono (by omega)) T.b_TwoStacks_remove_oldest .nil (passes_call (takes_of rfl rfl rfl rfl) (fun _ _ _ _ h => h))) (pe_meth0 (pv 0) T.cl_EvenSums ⟨T.m_EvenSums_remove_oldest, T.t_EvenSums_remove_oldest, T.k_EvenSums_remove_oldest⟩ GE (hr.mono (by omega)) T.b_EvenSums_remove_oldest .nil (passes_call (takes_of rfl rfl rfl rfl) (fun _ _ _ _ h => h)))), ?_⟩
    rcases hb with ⟨dx, c, cdx, l, j, h, fr, z, bv, gi, h1, h2, h3⟩ | ⟨dx, c, cdx, l, j, h, sh, z, gi, h1, h2, h3⟩
    · exact .inl ⟨_, rfl, x, dx, _, rfl, h1, rfl, x, dx, c, cdx, l, j, h, fr, z, bv, gi, rfl, h1, h2, h3, q⟩
    · exact .inr ⟨_, rfl, x, dx, _, rfl, h1, rfl, x, dx, c, cdx, l, j, h, sh, z, gi, rfl, h1, h2, h3, q⟩
theorem lamR2 (T : Txt K mg) {cl : List (Str × Addr)} {c f : Addr} : FnR P w K mg base (L2.CX P w) 6 f (toWX (LR false cl c) frR (spLR T) f) := by
  have GT := ok_twplnE (P := P) (w := w) (base := base) T
  have GE := ok_evplnE (P := P) (w := w) (base := base) T
  refine Inf.lam_cloX (k := 5) (N := frR) (ps := []) scR2 (fun _ _ us hl => match us, hl with | [], _ => rfl) (fun ws vs H Q E h => ?_) (fun A outer s H vs ws Q E hr hl h => ?_)
  · obtain ⟨x, rfl, rfl, _⟩ := h
    rfl
  · obtain ⟨x, rfl, rfl, hb, q⟩ := h
    refine ⟨_, (pe_either (pe_meth0 (pv 0) T.cl_TwoStacks ⟨T.m_TwoStacks_plan_remove, T.t_TwoStacks_plan_remove, T.k_TwoStacks_plan_remove⟩ GT (hr.mono (by omega)) T.b_TwoStacks_plan_remove .nil (passes_call (takes_of rfl rfl rfl rfl) (fun _ _ _ _ h => h))) (pe_meth0 (pv 0) T.cl_EvenSums ⟨T.m_EvenSums_plan_remove, T.t_EvenSums_plan_remove, T.k_EvenSums_plan_remove⟩ GE (hr.mono (by omega)) T.b_EvenSums_plan_remove .nil (passes_call (takes_of rfl rfl rfl rfl) (fun _ _ _ _ h => h)))), ?_⟩
    rcases hb with ⟨dx, c, cdx, l, j, h, fr, z, bv, gi, h1, h2, h3⟩ | ⟨dx, c, cdx, l, j, h, sh, z, gi, h1, h2, h3⟩
    · exact .inl ⟨_, rfl, x, dx, _, rfl, h1, rfl, x, dx, c, cdx, l, j, h, fr, z, bv, gi, rfl, h1, h2, h3, q⟩
    · exact .inr ⟨_, rfl, x, dx, _, rfl, h1, rfl, x, dx, c, cdx, l, j, h, sh, z, gi, rfl, h1, h2, h3, q⟩
/-- a callable that raises Empty, and nothing else -/
def Raises (P : Program) (w : World) (K : PySem.W.Frag) (mg : Str → Option Value) (base : Heap) (D : Addr) (f : Addr) (H : Hp) : Prop := ∃ o sp, H f = some o ∧ Inf.FnHO f o ∧ FnR P w K mg base (L2.CX P w) 6 f sp ∧ ∀ (Q : VK) (E : XK), E (.ref D) none H → sp [] H Q E
theorem bare_cut {T : Txt K mg} {H : Hp} {x : Addr} {cs : List Addr} (h : Bare T H x) (n : ∀ b o, H b = some o → (∀ φ, o ≠ .ext φ) → b ∉ cs) : Bare T (cut cs H) x := by
  have up : ∀ {b : Addr} {o : HO}, H b = some o → (∀ φ, o ≠ .ext φ) → cut cs H b = some o := fun e m => (Inf.cut_out (n _ _ e m)).trans e
  rcases h with ⟨dx, c, cdx, l, j, h, fr, z, bv, gi, h1, h2, h3⟩ | ⟨dx, c, cdx, l, j, h, sh, z, gi, h1, h2, h3⟩
  · exact .inl ⟨dx, c, cdx, l, j, h, fr, z, bv, gi, up h1 (fun _ z => nomatch z), up h2 (fun _ z => nomatch z), up h3 (fun _ z => nomatch z)⟩
  · exact .inr ⟨dx, c, cdx, l, j, h, sh, z, gi, up h1 (fun _ z => nomatch z), up h2 (fun _ z => nomatch z), up h3 (fun _ z => nomatch z)⟩
theorem raises1 (T : Txt K mg) {H : Hp} {f c x : Addr} {cl : List (Str × Addr)} (L : LClo H f (LR true cl c) frR [.ref x]) (h : Bare T H x) : Raises P w K mg base T.C_Empty f H :=
  ⟨_, _, L.fn, Inf.lamHO, lamR1 T, fun Q E q => ⟨_, L, x, rfl, rfl, bare_cut h (fun b o e n => L.out e n), fun _ => by
    rw [Inf.mend_cut]
    exact q⟩⟩
theorem raises2 (T : Txt K mg) {H : Hp} {f c x : Addr} {cl : List (Str × Addr)} (L : LClo H f (LR false cl c) frR [.ref x]) (h : Bare T H x) : Raises P w K mg base T.C_Empty f H :=
  ⟨_, _, L.fn, Inf.lamHO, lamR2 T, fun Q E q => ⟨_, L, x, rfl, rfl, bare_cut h (fun b o e n => L.out e n), fun _ => by
    rw [Inf.mend_cut]
    exact q⟩⟩
def spEmpty (P : Program) (w : World) (base : Heap) (T : Txt K mg) : Sp := fun vs H Q _ => ∃ f : Addr, vs = [.ref f] ∧ Raises P w K mg base T.C_Empty f H ∧ ∀ H', Same H H' → Q (.bl true) H'
theorem ok_empty (T : Txt K mg) : FnOk P w K mg base CX0 12 T.f_l_empty T.d_l_empty ["_law_deed"] (spEmpty P w base T) := by
  refine T.F_l_empty.ok sc_l_empty (fun vs H Q E h => ?_) (fun cdv A outer s H vs Q E hr h => ?_)
  · obtain ⟨f, rfl, _⟩ := h
    rfl
  · obtain ⟨f, rfl, hf, q⟩ := h
    refine ⟨_, (pss_cons (ps_try_as (i := 1) (Wout := fun _ _ _ _ => False) rfl rfl sc_l_empty.nd rfl rfl ⟨rfl, by decide, .inl T.gc_Empty⟩ takes0 (fun W pn xe tk _ => (pss_one (ps_expr (show PE _ _ (Inf.tActZ P w K mg base (L2.CX P w) 6 0 (WE W)) from Inf.pe_actZ (i := 0) (CX := L2.CX P w) (k := 6) rfl (.inl rfl) (hr.mono (by omega)) (fun σ => passAt tk σ))))) (fun a oe cls d pn hz hf => (pss_one (ps_ret (show PE _ _ (tAndV (tCB (fun xs H Q => (cls = .ref T.C_Empty ∧ d = none) ∧ rIsE K T.C_Empty a xs H Q) (tCons (tVar 1) (tCons (tC (.ty "IndexError")) tNil))) (tNotV (tCB (fun xs H Q => (cls = .ref T.C_Empty ∧ d = none) ∧ rIsET K T.C_Empty a xs H Q) (tCons (tVar 1) (tCons (tTup (tCons (tC (.ref T.C_Busy)) (tCons (tC (.ref T.C_NoMember)) (tCons (tC (.ref T.C_NotTorn)) (tCons (tC (.ref T.C_OnceError)) (tCons (tC (.ref T.C_Torn)) tNil)))))) tNil))))) from pe_and (pe_callB (is_ex1 T.iE hz hf) (by rfl) T.z_isinstance (by decide +kernel) (pa_cons (pv 1) (pa_cons (pe_bltn (v := .ty "IndexError") (by rfl) T.z_IndexError (by decide +kernel) rfl) pa_nil))) (pe_one (pe_not (pe_callB (is_exT T.iE hz hf) (by rfl) T.z_isinstance (by decide +kernel) (pa_cons (pv 1) (pa_cons (pe_tup (pa_cons (pe_glob (v := .ref T.C_Busy) rfl T.gc_Busy rfl) (pa_cons (pe_glob (v := .ref T.C_NoMember) rfl T.gc_NoMember rfl) (pa_cons (pe_glob (v := .ref T.C_NotTorn) rfl T.gc_NotTorn rfl) (pa_cons (pe_glob (v := .ref T.C_OnceError) rfl T.gc_OnceError rfl) (pa_cons (pe_glob (v := .ref T.C_Torn) rfl T.gc_Torn rfl) pa_nil)))))) pa_nil))))))))))
      (pss_one (ps_ret pe_bl))), ?_⟩
    obtain ⟨o, sp, h1, h2, h3, h4⟩ := hf
    refine pSeq ⟨f, o, sp, rfl, h1, h2, h3, h4 _ _ ?_⟩
    refine ⟨true, T.eE, fun _ a na => ⟨_, rfl, ⟨rfl, rfl⟩, _, _, true, rfl, fun u r => r, T.k1E, true, rfl, ifT rfl ⟨_, rfl, (show 5 ≤ sizeLine by decide), fun tu ntu => ⟨⟨rfl, rfl⟩, tu, _, _, false, rfl, upd_same, .cons (.own _) (.cons (.own _) (.cons (.own _) (.cons (.own _) (.cons (.own _) .nil)))), T.k2E, false, rfl, ?_⟩⟩⟩, fun z => nomatch z⟩
    exact q _ (same_newF (Fr.mk ntu))
end
end Ob

set_option Elab.async false
set_option linter.all false
set_option maxRecDepth 100000
set_option maxHeartbeats 1000000
namespace Ob
open PySem PySem.Spec PyProof.Rows L2
open LamX (Tabs TabB TabS ExtN)

set_option hygiene false in
local macro_rules
  | `(tactic| kp_flats) => `(tactic| first
    | assumption
    | exact upd_same
    | (apply atNew; assumption; kp_flats)
    | (apply atNe; (next => kbo_bools); kp_flats)
    | (apply atSame; assumption; kp_flats)
    | (apply atKp; assumption; (next => kaf_pre); kp_flats))
set_option hygiene false in
local macro_rules
  | `(tactic| kaf_pre) => `(tactic| first
    | assumption
    | exact not_nil
    | (apply not_cons; (next => kbo_bools); kaf_pre)
    | (apply not_app; (next => kaf_pre); kaf_pre))
set_option hygiene false in
local macro_rules
  | `(tactic| kbo_bools) => `(tactic| first
    | assumption
    | (apply Ne.symm; assumption)
    | (apply neN; assumption; kp_flats)
    | (apply neN'; assumption; kp_flats))
set_option hygiene false in
local macro_rules
  | `(tactic| o_reads) => `(tactic| first
    | with_reducible rfl
    | assumption
    | rfl
    | kp_flats
    | (show SqL _ _ _ _; first | assumption | (apply sqlOf; kp_flats) | (apply sqlSame; assumption; o_reads))
    | (show SqT _ _ _ _; first | assumption | (apply sqtOf; kp_flats) | (apply sqtAll; assumption) | (apply sqtSame; assumption; o_reads))
    | (show Cls _ _; first | exact T.cl_Calls | exact T.cl_Joiner | exact T.cl_Planner | exact T.cl_EvenSums | exact T.cl_Shape | exact T.cl_TwoStacks)
    | (show NoAttr _ _ _; first | exact T.n_Calls_entries | exact T.n_Calls_running | exact T.n_Joiner_calls | exact T.n_Joiner_join_call | exact T.n_Planner_entries | exact T.n_EvenSums_calls | exact T.n_EvenSums_joiner | exact T.n_EvenSums_zero | exact T.n_EvenSums_given | exact T.n_EvenSums_held | exact T.n_EvenSums_shape | exact T.n_Shape_front | exact T.n_Shape_back | exact T.n_Shape_late | exact T.n_Shape_renewed | exact T.n_TwoStacks_calls | exact T.n_TwoStacks_joiner | exact T.n_TwoStacks_zero | exact T.n_TwoStacks_given | exact T.n_TwoStacks_held | exact T.n_TwoStacks_front | exact T.n_TwoStacks_back)
    | (apply Or.inl; o_reads)
    | (apply Or.inr; o_reads)
    | (apply And.intro; (next => o_reads); o_reads)
    | (apply Exists.intro; o_reads)
    | exact Nat.le_of_ble_eq_true rfl
    | exact Nat.succ_ne_zero _
    | (show Fr _ _; kba_ints)
    | (show Same _ _; kd_subs)
    | (show Kp _ _ _; kxs_still)
    | (show (_ : Nat) ≤ _; simp only [List.length_append, List.length_map, List.length_cons, List.length_nil, List.length_take, List.length_drop, List.length_replicate, List.length_range, sizeLine_eq]; omega)
    | (show _ = none; apply Fr.h; kba_ints)
    | (show Bag _ _; first | assumption | (apply bag_putF; assumption; o_reads) | (apply bag_neF; (next => kbo_bools); o_reads) | (apply bag_kpR; assumption; (next => kaf_pre); o_reads))
    | omega
    | decide)
local macro_rules
  | `(tactic| o_readsAll) => `(tactic| repeat (first
    | (refine fun (pNew : Addr) (nNew : _ = none) => ?_; replace nNew := Fr.mk nNew)
    | (refine fun (xNew dNew : Addr) (nNew : _ = none) (mNew : _ = none) (eNew : dNew ≠ xNew) => ?_; replace nNew := Fr.mk nNew; replace mNew := Fr.mk mNew)
    | (apply And.intro; next => o_reads)
    | apply Exists.intro (α := V)
    | apply Exists.intro (α := Addr)
    | apply Exists.intro (α := Int)
    | apply Exists.intro (α := Bool)
    | apply Exists.intro (α := List V)
    | apply Exists.intro (α := List Nat)
    | apply Exists.intro (α := List (Str × V))
    | apply Exists.intro (α := List _)
    | apply Exists.intro (α := Str)
    | apply Exists.intro (α := HO)
    | apply Exists.intro (α := Sp)
    | apply Exists.intro (α := VK)))
set_option hygiene false in
local macro_rules
  | `(tactic| kba_ints) => `(tactic| first
    | assumption
    | (apply frUp; (first | assumption | (apply Ne.symm; assumption)); kba_ints)
    | (apply noneOf; assumption; intro oF eF; apply Exists.intro; kp_flats)
    | (apply frUp; (next => kbo_bools); kba_ints))
set_option hygiene false in
local macro_rules
  | `(tactic| kxs_still) => `(tactic| first
    | assumption
    | exact kp_refl _ _
    | (apply kp_newF; assumption; kxs_still)
    | (apply kp_new; assumption; kxs_still)
    | (apply kp_up; (next => o_fieldsN); kxs_still)
    | (apply kp_new; (next => kba_ints); kxs_still)
    | (apply kp_sameR; assumption; kxs_still)
    | (apply kp_transR; assumption; kxs_still)
    | (apply kp_freshR; assumption; (next => kaf_suf); kxs_still))
set_option hygiene false in
local macro_rules
  | `(tactic| kaf_suf) => `(tactic| first
    | assumption
    | exact subNil
    | (apply subCons; (first | (apply Or.inl; o_fieldsN) | (apply Or.inr; kba_ints)); kaf_suf)
    | (apply subApp; (next => kaf_suf); kaf_suf))
set_option hygiene false in
local macro_rules
  | `(tactic| o_fieldsN) => `(tactic| first
    | assumption
    | exact memA
    | (apply memB; o_fieldsN)
    | (apply memL; o_fieldsN)
    | (apply memR; o_fieldsN))
set_option hygiene false in
local macro_rules
  | `(tactic| kd_subs) => `(tactic| first
    | assumption
    | exact Same.refl _
    | (apply same_putF; assumption; kd_subs)
    | (apply same_putG; assumption; kd_subs)
    | (apply same_putF; (next => kba_ints); kd_subs)
    | (apply same_transR; assumption; kd_subs))

set_option pp.maxSteps 900
open NdefX (TabsN)
open Inf (LClo cut mend cellsOf)
theorem tw_none {n e : Nat} (h1 : n ≤ e) (h2 : e ≤ n) : twTE n e n = [] ∧ extE e n = [] := by
  have : e = n := by omega
  subst this
  refine ⟨?_, if_pos rfl⟩
  unfold twTE twN
  rw [if_neg (Nat.lt_irrefl _)]
  rfl
theorem ev_none {n e b : Nat} {r : Option Nat} (h : ShOk n e b n r) : totE n e b n = [] ∧ addE n e b n r = [] := by
  match r, h with
  | none, ⟨h1, h2, h3, h4⟩ =>
    have e1 : e = n := by omega
    subst h3
    subst e1
    have st : stepE e (e + 1) 0 = [] := by
      unfold stepE deepE
      split <;> rfl
    refine ⟨?_, ?_⟩
    · unfold totE sumN
      rw [if_neg (Nat.lt_irrefl _)]
      rfl
    · unfold addE addE1 extE
      dsimp only []
      rw [if_pos rfl]
      show [] ++ (if e - e < e + 1 - e then stepE e (e + 1) 0 else []) = []
      rw [if_pos (by omega), st]
      rfl
  | some k, ⟨h1, h2, h3, h4, h5, h6, h7⟩ => omega
section
variable {P : Program} {w : World} {K : PySem.W.Frag} {mg : Str → Option Value} {base : Heap} {n : Nat}
variable {uv : List Addr} {f z : V} {UR : List JEv → Hp → Prop} {Val : Nat → List V → V → Hp → Prop} {x j jdx c cdx l : Addr} {u : List JEv} {es : List (Nat × Nat × Nat)} {H : Hp} {ms : List V} {cs : List Addr} {g : Nat} {σ : L2.St} {i k : Nat} {Q : VK}
theorem q_ptot (T : Txt K mg) (hv : σ[i]? = some (some (.ref x))) (h : QT T uv f UR Val cs x j jdx c cdx l z ms u es g H) (hg : ms.length = g) (lm : ms.length < 60000) (q : ∀ o H', Same H H' → Fr H o → H' o = some (.lst []) → Q (.ref o) H') :
    tEither (tMeth T.C_TwoStacks "plan_total" (spTwPT T) [] E0 (tVar i) tNil) (tMeth T.C_EvenSums "plan_total" (spEvPT T) [] E0 (tVar i) tNil) σ H Q := by
  subst hg
  have fin : ∀ (o : Addr) (xs : List V) H', Same H H' → Fr H o → H' o = some (.lst xs) → JLog H' xs [] → Q (.ref o) H' := fun o xs H' s fr e lg => q o H' s fr (by rw [e, List.length_eq_zero_iff.mp lg.len])
  rcases h with ⟨e, h⟩ | ⟨e, b, r, h⟩
  · obtain ⟨dx, hh, fr, bv, xs, h1, h2, _⟩ := h.hx
    refine .inl ⟨_, hv, x, _, _, rfl, h1, rfl, uv, f, UR, Val, cs, x, j, jdx, c, cdx, l, z, ms, u, es, _, e, rfl, h, by omega, ?_⟩
    rw [(tw_none h.ok.1 h.ok.2).1]
    exact fin
  · obtain ⟨dx, hh, sh, h1, h2, _⟩ := h.hx
    refine .inr ⟨_, hv, x, _, _, rfl, h1, rfl, uv, f, UR, Val, cs, x, j, jdx, c, cdx, l, z, ms, u, es, _, e, b, r, rfl, h, lm, ?_⟩
    rw [(ev_none h.ok).1]
    exact fin
theorem q_padd (T : Txt K mg) (hv : σ[i]? = some (some (.ref x))) (h : QT T uv f UR Val cs x j jdx c cdx l z ms u es g H) (hg : ms.length = g) (lm : ms.length < 60000) (q : ∀ o H', Same H H' → Fr H o → H' o = some (.lst []) → Q (.ref o) H') :
    tEither (tMeth T.C_TwoStacks "plan_add" (spTwPA T) [] E0 (tVar i) tNil) (tMeth T.C_EvenSums "plan_add" (spEvPA T) [] E0 (tVar i) tNil) σ H Q := by
  subst hg
  have fin : ∀ (o : Addr) (xs : List V) H', Same H H' → Fr H o → H' o = some (.lst xs) → JLog H' xs [] → Q (.ref o) H' := fun o xs H' s fr e lg => q o H' s fr (by rw [e, List.length_eq_zero_iff.mp lg.len])
  rcases h with ⟨e, h⟩ | ⟨e, b, r, h⟩
  · obtain ⟨dx, hh, fr, bv, xs, h1, h2, _⟩ := h.hx
    refine .inl ⟨_, hv, x, _, _, rfl, h1, rfl, uv, f, UR, Val, cs, x, j, jdx, c, cdx, l, z, ms, u, es, _, e, rfl, h, by omega, ?_⟩
    rw [(tw_none h.ok.1 h.ok.2).2]
    exact fin
  · obtain ⟨dx, hh, sh, h1, h2, _⟩ := h.hx
    refine .inr ⟨_, hv, x, _, _, rfl, h1, rfl, uv, f, UR, Val, cs, x, j, jdx, c, cdx, l, z, ms, u, es, _, e, b, r, rfl, h, lm, ?_⟩
    rw [(ev_none h.ok).2]
    exact fin
theorem q_log (T : Txt K mg) (hv : σ[i]? = some (some (.ref x))) (h : QT T uv f UR Val cs x j jdx c cdx l z ms u es g H) (q : ∀ o xs H', Fr H o → Same H H' → H l = some (.lst xs) → JLog H xs es → H' o = some (.lst xs) → Q (.ref o) H') :
    tEither (tMeth T.C_TwoStacks "log" (spTwLog T) [] E0 (tVar i) tNil) (tMeth T.C_EvenSums "log" (spEvLog T) [] E0 (tVar i) tNil) σ H Q := by
  obtain ⟨jw, _⟩ := h.com
  obtain ⟨xs, e1, e2⟩ := jw.lg
  rcases h with ⟨e, h⟩ | ⟨e, b, r, h⟩
  · obtain ⟨dx, hh, fr, bv, ys, h1, h2, _⟩ := h.hx
    exact .inl ⟨_, hv, x, _, _, rfl, h1, rfl, x, dx, c, cdx, l, j, hh, fr, z, bv, _, xs, rfl, h1, jw.hc, e1, fun o H' fr s e => q o xs H' fr s e1 e2 e⟩
  · obtain ⟨dx, hh, sh, h1, h2, _⟩ := h.hx
    exact .inr ⟨_, hv, x, _, _, rfl, h1, rfl, x, dx, c, cdx, l, j, hh, sh, z, _, xs, rfl, h1, jw.hc, e1, fun o H' fr s e => q o xs H' fr s e1 e2 e⟩
theorem q_bare (T : Txt K mg) (h : QT T uv f UR Val cs x j jdx c cdx l z ms u es g H) (hg : ms.length = g) : Bare T H x := by
  have jw := h.com.1
  have hk : heldK g (ms.drop g) = [] := by
    rw [List.drop_eq_nil_of_le (by omega)]
    rfl
  rcases h.ins with ⟨dx, hh, fr, bv, h1, h2⟩ | ⟨dx, hh, sh, h1, h2⟩
  · exact .inl ⟨dx, c, cdx, l, j, hh, fr, z, bv, _, h1, jw.hc, by rw [h2, hk]⟩
  · exact .inr ⟨dx, c, cdx, l, j, hh, sh, z, _, h1, jw.hc, by rw [h2, hk]⟩
end
theorem eq_sh {d : PyData} (h : SeqAt.shaped d = true) : (!PyData.eqv d d) = false := by
  rw [SeqAt.eqv_refl _ (SeqAt.canLay_of_shaped h)]
  rfl
theorem bare_same {K : PySem.W.Frag} {mg : Str → Option Value} {T : Txt K mg} {H H1 : Hp} {x : Addr} (h : Bare T H x) (s : Same H H1) : Bare T H1 x := by
  rcases h with ⟨dx, c, cdx, l, j, h, fr, z, bv, gi, h1, h2, h3⟩ | ⟨dx, c, cdx, l, j, h, sh, z, gi, h1, h2, h3⟩
  · exact .inl ⟨dx, c, cdx, l, j, h, fr, z, bv, gi, s _ _ h1, s _ _ h2, s _ _ h3⟩
  · exact .inr ⟨dx, c, cdx, l, j, h, sh, z, gi, s _ _ h1, s _ _ h2, s _ _ h3⟩
theorem tel_same {cells : List (Str × Addr)} {names : List (Str × NameKind)} {N : List Str} {σ : L2.St} {H HT H2 : Hp} {cT : List Addr} (t : Inf.Tel cells names N σ H cT HT) (s : Same HT H2) : (∀ b, b ∈ cT → H2 b = HT b) ∧ Same H (cut cT H2) :=
  ⟨fun b m => by
    obtain ⟨φ, e⟩ := t.ext b m
    rw [e]
    exact s _ _ e, fun b o e => (Inf.cut_out (fun m => by rw [t.no b m] at e; cases e)).trans (s _ _ (t.same _ _ e))⟩
section
variable {P : Program} {w : World} {K : PySem.W.Frag} {mg : Str → Option Value} {base : Heap}
def spBare (T : Txt K mg) : Sp := fun vs H Q _ => ∃ (f0 c0 : Addr) (cl : List (Str × Addr)) (b : Bool) (cs : List Addr) (x j jdx c cdx l pe lg : Addr) (ms : List V) (u : List JEv) (es : List (Nat × Nat × Nat)) (g : Nat) (xs : List V),
  vs = [.ref x, .ref pe, .ref lg] ∧ QT T [] (.ref f0) (URJ b f0 cl c0) VaT cs x j jdx c cdx l (.ref pe) ms u es g H ∧ ms.length = g ∧ u.length < 80000 ∧ es.length < 80000 ∧ ms.length < 60000 ∧ H pe = some (.lst []) ∧ H l = some (.lst xs) ∧ H lg = some (.lst xs) ∧ lg ≠ pe ∧ TabsN (TT T) H ∧ pe ∈ cs ∧ T.p_l_bare_right ∈ cs ∧ pe ∉ [x, c, l] ∧
  ∀ H', Kp [T.p_l_bare_right, pe] H H' → QT T [] (.ref f0) (URJ b f0 cl c0) VaT cs x j jdx c cdx l (.ref pe) ms u es g H' → H' pe = some (.lst []) → TabsN (TT T) H' → Q (.bl true) H'
theorem ok_bare (T : Txt K mg) (TB : LamX.TabB base mg T.c_l_bare_right T.p_l_bare_right) : FnOk P w K mg base CX0 24 T.f_l_bare_right T.d_l_bare_right ["_law_queue_here", "_law_empty_here", "_law_log"] (spBare T) := by
  have G_l_empty := ok_empty (P := P) (w := w) (base := base) T
  have G_TwoStacks_total := ok_twtot (P := P) (w := w) (base := base) (n := 2) T
  have G_EvenSums_total := ok_evtot (P := P) (w := w) (base := base) (n := 2) T
  have G_TwoStacks_members := ok_tmem (P := P) (w := w) (base := base) T
  have G_EvenSums_members := ok_emem (P := P) (w := w) (base := base) T
  have G_TwoStacks_numbers := ok_tnum (P := P) (w := w) (base := base) T
  have G_EvenSums_numbers := ok_enum (P := P) (w := w) (base := base) T
  have G_TwoStacks_plan_total := ok_twpt (P := P) (w := w) (base := base) T
  have G_EvenSums_plan_total := ok_evpt (P := P) (w := w) (base := base) T
  have G_TwoStacks_plan_add := ok_twpa (P := P) (w := w) (base := base) T
  have G_EvenSums_plan_add := ok_evpa (P := P) (w := w) (base := base) T
  have G_TwoStacks_log := ok_twlog (P := P) (w := w) (base := base) T
  have G_EvenSums_log := ok_evlog (P := P) (w := w) (base := base) T
  have FLTwoStacks := FnOk.raw (ok_tlen (P := P) (w := w) (base := base) T) T.b_TwoStacks_len .nil
  have FLEvenSums := FnOk.raw (ok_elen (P := P) (w := w) (base := base) T) T.b_EvenSums_len .nil
  refine T.F_l_bare_right.ok sc_l_bare_right (fun vs H Q E h => ?_) (fun A outer s H vs Q E hr h => ?_)
  · obtain ⟨f0, c0, cl, b, cs, x, j, jdx, c, cdx, l, pe, lg, ms, u, es, g, xs, rfl, _⟩ := h
    rfl
  · obtain ⟨f0, c0, cl, b, cs, x, j, jdx, c, cdx, l, pe, lg, ms, u, es, g, xs, rfl, hq, hg, lu, le, lm, hpe, hl, hlg, nlg, t0, mpe, mpt, npe, q⟩ := h
    refine ⟨_, (pss_cons (ps_if (pt_not (pt_val (Inf.pe_callT (fun _ => rfl) G_l_empty (hr.mono (by omega)) rfl T.g_l_empty T.F_l_empty.kp T.b_l_empty .nil (pa_cons (Inf.pe_lamP (T := TT T) (nm := nm_l_bare_right) (c := T.c_l_bare_right) (P := T.p_l_bare_right) TB rfl (hm_l_bare_right T) rfl (hu_l_bare_right T) rfl (NdefX.ndef_free (sc := defScope s_l_bare_right) (fr := ["_law_queue_here"]) (by decide +kernel))) pa_nil)))) (pss_one (ps_ret pe_bl)) pss_nil)
      (pss_cons (ps_if (pt_not (pt_val (Inf.pe_callT (fun _ => rfl) G_l_empty (hr.mono (by omega)) rfl T.g_l_empty T.F_l_empty.kp T.b_l_empty .nil (pa_cons (Inf.pe_lamP (T := TT T) (nm := nm_l_bare_right) (c := T.c_l_bare_right) (P := T.p_l_bare_right) TB rfl (hm_l_bare_right T) rfl (hu_l_bare_right T) rfl (NdefX.ndef_free (sc := defScope s_l_bare_right) (fr := ["_law_queue_here"]) (by decide +kernel))) pa_nil)))) (pss_one (ps_ret pe_bl)) pss_nil)
      (pss_cons (ps_set (i := 3) sc_l_bare_right.nd rfl (.inl rfl) (pe_either (pe_meth0 (pv 0) T.cl_TwoStacks ⟨T.m_TwoStacks_total, T.t_TwoStacks_total, T.k_TwoStacks_total⟩ G_TwoStacks_total (hr.mono (by omega)) T.b_TwoStacks_total .nil pass0) (pe_meth0 (pv 0) T.cl_EvenSums ⟨T.m_EvenSums_total, T.t_EvenSums_total, T.k_EvenSums_total⟩ G_EvenSums_total (hr.mono (by omega)) T.b_EvenSums_total .nil pass0)))
      (pss_cons (ps_expr (pe_bm PySem.F.plainAttrs_list PySem.F.slot_list_append PySem.F.type_list_append mt_append (pv 3) (pa_cons pe_str pa_nil)))
      (pss_cons (ps_if (PW.pt (pw_or (pt_cmpR (op_neD hr.units) (pe_slice sl_list (pv 1) (po_some (pe_un un_neg pe_int)) po_none) (pe_lst (pa_cons pe_str pa_nil)) (nomark _)) (pw_or (pt_cmpR (op_neD hr.units) (pe_either (pe_meth0 (pv 0) T.cl_TwoStacks ⟨T.m_TwoStacks_total, T.t_TwoStacks_total, T.k_TwoStacks_total⟩ G_TwoStacks_total (hr.mono (by omega)) T.b_TwoStacks_total .nil pass0) (pe_meth0 (pv 0) T.cl_EvenSums ⟨T.m_EvenSums_total, T.t_EvenSums_total, T.k_EvenSums_total⟩ G_EvenSums_total (hr.mono (by omega)) T.b_EvenSums_total .nil pass0)) (pv 1) (nomark _)) (pw_or (pt_cmpR (op_neNil hr.units) (pe_either (pe_meth0 (pv 0) T.cl_TwoStacks ⟨T.m_TwoStacks_plan_total, T.t_TwoStacks_plan_total, T.k_TwoStacks_plan_total⟩ G_TwoStacks_plan_total (hr.mono (by omega)) T.b_TwoStacks_plan_total .nil pass0) (pe_meth0 (pv 0) T.cl_EvenSums ⟨T.m_EvenSums_plan_total, T.t_EvenSums_plan_total, T.k_EvenSums_plan_total⟩ G_EvenSums_plan_total (hr.mono (by omega)) T.b_EvenSums_plan_total .nil pass0)) (pe_lst pa_nil) (nomark _)) (pw_or1 (pt_cmpR (op_neNil hr.units) (pe_either (pe_meth0 (pv 0) T.cl_TwoStacks ⟨T.m_TwoStacks_plan_add, T.t_TwoStacks_plan_add, T.k_TwoStacks_plan_add⟩ G_TwoStacks_plan_add (hr.mono (by omega)) T.b_TwoStacks_plan_add .nil pass0) (pe_meth0 (pv 0) T.cl_EvenSums ⟨T.m_EvenSums_plan_add, T.t_EvenSums_plan_add, T.k_EvenSums_plan_add⟩ G_EvenSums_plan_add (hr.mono (by omega)) T.b_EvenSums_plan_add .nil pass0)) (pe_lst pa_nil) (nomark _))))))) (pss_one (ps_ret pe_bl)) pss_nil)
      (pss_cons (ps_expr (pe_bm0 PySem.F.plainAttrs_list PySem.F.slot_list_pop PySem.F.type_list_pop mt_pop (pv 1)))
      (pss_one (ps_ret (pe_and (pe_cmpR (op_eqNil hr.units) (pe_either (pe_meth0 (pv 0) T.cl_TwoStacks ⟨T.m_TwoStacks_members, T.t_TwoStacks_members, T.k_TwoStacks_members⟩ G_TwoStacks_members (hr.mono (by omega)) T.b_TwoStacks_members .nil pass0) (pe_meth0 (pv 0) T.cl_EvenSums ⟨T.m_EvenSums_members, T.t_EvenSums_members, T.k_EvenSums_members⟩ G_EvenSums_members (hr.mono (by omega)) T.b_EvenSums_members .nil pass0)) (pe_lst pa_nil) (nomark _)) (pe_and (pe_cmpR (op_eqNil hr.units) (pe_either (pe_meth0 (pv 0) T.cl_TwoStacks ⟨T.m_TwoStacks_numbers, T.t_TwoStacks_numbers, T.k_TwoStacks_numbers⟩ G_TwoStacks_numbers (hr.mono (by omega)) T.b_TwoStacks_numbers .nil pass0) (pe_meth0 (pv 0) T.cl_EvenSums ⟨T.m_EvenSums_numbers, T.t_EvenSums_numbers, T.k_EvenSums_numbers⟩ G_EvenSums_numbers (hr.mono (by omega)) T.b_EvenSums_numbers .nil pass0)) (pe_lst pa_nil) (nomark _)) (pe_and (pe_cmpR op_eq (pe_either (pe_callB (call_lenO FLTwoStacks (hr.mono (by omega)) T.m_TwoStacks_len T.y_TwoStacks_len) (by rfl) T.z_len (by decide +kernel) (pa_cons (pv 0) pa_nil)) (pe_callB (call_lenO FLEvenSums (hr.mono (by omega)) T.m_EvenSums_len T.y_EvenSums_len) (by rfl) T.z_len (by decide +kernel) (pa_cons (pv 0) pa_nil))) pe_int (nomark _)) (pe_one (pe_cmpR (op_eqS hr.units) (pe_either (pe_meth0 (pv 0) T.cl_TwoStacks ⟨T.m_TwoStacks_log, T.t_TwoStacks_log, T.k_TwoStacks_log⟩ G_TwoStacks_log (hr.mono (by omega)) T.b_TwoStacks_log .nil pass0) (pe_meth0 (pv 0) T.cl_EvenSums ⟨T.m_EvenSums_log, T.t_EvenSums_log, T.k_EvenSums_log⟩ G_EvenSums_log (hr.mono (by omega)) T.b_EvenSums_log .nil pass0)) (pv 2) (nomark _)))))))))))))), ?_⟩
    have U := jsB (P := P) (w := w) (base := base) T (b := b) (f := f0) (c := c0) (cl := cl)
    have hmt : ∃ tb ∈ TT T, tb.1 = T.p_l_bare_right := ⟨_, hm_l_bare_right T, rfl⟩
    have nt : ∀ {Ha : Hp} {a : Addr} {o : HO}, TabsN (TT T) Ha → Ha a = some o → (∀ ps, o ≠ .tbl ps) → a ≠ T.p_l_bare_right := fun t e n => tab_ne t (hm_l_bare_right T) e n
    have jw := hq.com.1
    have dP : ∀ a ∈ [x, c, l] ++ [], a ∉ [T.p_l_bare_right] := fun a ma => by
      rcases List.mem_cons.mp ma with rfl | ma
      · rcases hq.ins with ⟨dx, hh, fr, bv, h1, h2⟩ | ⟨dx, hh, sh, h1, h2⟩
        · exact not_cons (nt t0 h1 (fun _ z => nomatch z)) not_nil
        · exact not_cons (nt t0 h1 (fun _ z => nomatch z)) not_nil
      rcases List.mem_cons.mp ma with rfl | ma
      · exact not_cons (nt t0 jw.hc (fun _ z => nomatch z)) not_nil
      · rw [List.mem_singleton.mp ma]
        exact not_cons (nt t0 hl (fun _ z => nomatch z)) not_nil
    have pe1 : pe ≠ T.p_l_bare_right := nt t0 hpe (fun _ z => nomatch z)
    have l1 : l ≠ T.p_l_bare_right := nt t0 hl (fun _ z => nomatch z)
    have lg1 : lg ≠ T.p_l_bare_right := nt t0 hlg (fun _ z => nomatch z)
    have lpe : l ≠ pe := fun z => npe (by rw [← z]; exact memB (memB memA))
    have lam : ∀ {Ha Hb : Hp}, TabsN (TT T) Ha → TabsN (TT T) Hb → Kp [T.p_l_bare_right] Ha Hb → QT T [] (.ref f0) (URJ b f0 cl c0) VaT cs x j jdx c cdx l (.ref pe) ms u es g Ha → QT T [] (.ref f0) (URJ b f0 cl c0) VaT cs x j jdx c cdx l (.ref pe) ms u es g Hb := fun ta tb k h => h.kp U k (mu_tabs ta hmt) (mu_tabs tb hmt) (subCons mpt subNil) dP
    have kpP : ∀ {Ha Hb : Hp}, (∀ b o, Ha b = some o → b ≠ T.p_l_bare_right → Hb b = some o) → Kp [T.p_l_bare_right] Ha Hb := fun k => ⟨fun b o e n => k b o e fun z => n (by rw [z]; exact memA)⟩
    -- no removal
    refine pSeq (pIf ⟨t0, fun f1 c1 H1 k1 n1 t1 nf1 hf1 hc1 cT HT tel => ?_⟩)
    have q1 := lam t0 t1 (kpP k1) hq
    refine ⟨f1, rfl, raises1 T (tel.lclo (F := LR true _ c1) (js := [0]) (ws := [.ref x]) scR1 rfl cellR rfl rfl hf1 hc1) (bare_same (q_bare T q1 hg) tel.same), fun H2 s2 => ?_⟩
    obtain ⟨u1, s3⟩ := tel_same tel s2
    refine ⟨u1, true, rfl, ifF rfl (pNx ?_)⟩
    dsimp only []
    generalize cut cT H2 = H3 at s3 ⊢
    have q3 := q1.same U s3
    have t3 := tabs_same t1 s3
    have k03 : Kp [T.p_l_bare_right] H H3 := kp_trans (kpP k1) (kp_same s3)
    clear q1 u1 s2 tel hf1 hc1 nf1 n1 k1 s3
    -- and no plan of one
    refine pSeq (pIf ⟨t3, fun f1 c1 H4 k4 n4 t4 nf4 hf4 hc4 cT HT tel => ?_⟩)
    have q4 := lam t3 t4 (kpP k4) q3
    refine ⟨f1, rfl, raises2 T (tel.lclo (F := LR false _ c1) (js := [0]) (ws := [.ref x]) scR2 rfl cellR rfl rfl hf4 hc4) (bare_same (q_bare T q4 hg) tel.same), fun H2 s2 => ?_⟩
    obtain ⟨u1, s5⟩ := tel_same tel s2
    refine ⟨u1, true, rfl, ifF rfl (pNx ?_)⟩
    dsimp only []
    generalize cut cT H2 = H5 at s5 ⊢
    have q5 := q4.same U s5
    have t5 := tabs_same t4 s5
    have k05 : Kp [T.p_l_bare_right] H H5 := kp_trans k03 (kp_trans (kpP k4) (kp_same s5))
    have pe5 := k05.at_ _ _ hpe (not_cons pe1 not_nil)
    have l5 := k05.at_ _ _ hl (not_cons l1 not_nil)
    have lg5 := k05.at_ _ _ hlg (not_cons lg1 not_nil)
    clear q4 u1 s2 tel hf4 hc4 nf4 n4 k4 s5 k03 q3 t3
    -- the total
    refine pSeq (pAsg (q_tot T U rfl q5 lu le (by omega) (fun _ => pGN ?_) (fun v d ds H' gl => absurd gl (by omega))))
    simp only [L2.start, List.set_cons_succ, List.set_cons_zero]
    refine pSeq ⟨_, rfl, .inl ⟨rfl, _, sqlOf pe5⟩, pe, _, _, rfl, rfl, pe5, by decide, ?_⟩
    have dE : ∀ a ∈ [x, c, l] ++ [], a ∉ [pe] := fun a ma => not_cons (fun z => npe (by rw [← z]; rw [List.append_nil] at ma; exact ma)) not_nil
    have k6 : Kp [pe] H5 (upd H5 pe (.lst ([] ++ [V.str "x"]))) := kp_up memA (kp_refl _ _)
    have q6 := q5.kp U k6 (mu_lst pe5 mu_nil) (mu_lst upd_same mu_nil) (subCons mpe subNil) dE
    have t6 := tabsN_kpU t5 k6 (mu_lst pe5 mu_nil) fun p hp => not_cons (tab_ne t5 hp pe5 (fun _ z => nomatch z)).symm not_nil
    have pe6 : upd H5 pe (.lst ([] ++ [V.str "x"])) pe = some (.lst [V.str "x"]) := upd_same
    have l6 := k6.at_ _ _ l5 (not_cons lpe not_nil)
    have lg6 := k6.at_ _ _ lg5 (not_cons nlg not_nil)
    have k06 : Kp [T.p_l_bare_right, pe] H (upd H5 pe (.lst ([] ++ [V.str "x"]))) := kp_trans (kp_more k05 fun a m => by rw [List.mem_singleton.mp m]; exact memA) (kp_more k6 fun a m => by rw [List.mem_singleton.mp m]; exact memB memA)
    dsimp only []
    generalize upd H5 pe (.lst ([] ++ [V.str "x"])) = H6 at q6 t6 pe6 l6 lg6 k06 ⊢
    clear q5 t5 pe5 l5 lg5 k05 k6
    have shX : SeqAt.shaped (.list [.str "x"]) = true := by simp [SeqAt.shaped, PyData.canLay0, PyData.canLayAll0, PyData.depth, PyData.depthAll]; decide +kernel
    -- the list has got it
    refine pSeq (pIf (pOr (pTest (pOp ⟨_, rfl, 1, rfl, -1, rfl, pe, _, rfl, sqlOf pe6, fun p7 n7 => ⟨by decide, fun p8 n8 => ?_⟩⟩))))
    have s7 := same_newF (o := .lst (cutV [V.str "x"] (some (-1)) none)) (Fr.mk n7)
    have s8 := same_newF (o := .lst [V.str "x"]) (Fr.mk n8)
    have s68 := s7.trans s8
    have e7 : upd (upd H6 p7 (.lst (cutV [V.str "x"] (some (-1)) none))) p8 (.lst [V.str "x"]) p7 = some (.lst [V.str "x"]) := s8 _ _ upd_same
    refine ⟨_, _, .lst (sqlOf e7) (.cons (.str _) .nil), .lst (sqlOf upd_same) (.cons (.str _) .nil), shX, shX, _, rfl, ifF (eq_sh shX) ?_⟩
    generalize upd (upd H6 p7 (.lst (cutV [V.str "x"] (some (-1)) none))) p8 (.lst [V.str "x"]) = H8 at s68 ⊢
    have q8 := q6.same U s68
    have pe8 := s68 _ _ pe6
    refine pOr (pTest (pOp (q_tot T U rfl q8 lu le (by omega) (fun _ => ⟨_, rfl, _, _, .lst (sqlOf pe8) (.cons (.str _) .nil), .lst (sqlOf pe8) (.cons (.str _) .nil), shX, shX, _, rfl, ifF (eq_sh shX) ?_⟩) (fun v d ds H' gl => absurd gl (by omega)))))
    -- no plans
    refine pOr (pTest (pOp (q_ptot T rfl q8 hg lm fun o H9 s9 fr9 e9 => ⟨Nat.zero_le _, fun p10 n10 => ?_⟩)))
    have s10 := same_newF (o := .lst []) (Fr.mk n10)
    refine ⟨o, p10, _, rfl, rfl, sqlOf (s10 _ _ e9), sqlOf upd_same, _, rfl, ifF rfl ?_⟩
    have s610 := s68.trans (s9.trans s10)
    dsimp only []
    generalize upd H9 p10 (.lst []) = H10 at s610 ⊢
    have q10 := q6.same U s610
    clear q8 pe8 s68 s9 s10 e9 e7 s7 s8
    refine pTest (pOp (q_padd T rfl q10 hg lm fun o H11 s11 fr11 e11 => ⟨Nat.zero_le _, fun p12 n12 => ?_⟩))
    have s12 := same_newF (o := .lst []) (Fr.mk n12)
    refine ⟨o, p12, _, rfl, rfl, sqlOf (s12 _ _ e11), sqlOf upd_same, _, rfl, ifF rfl (pNx ?_)⟩
    have s612 := s610.trans (s11.trans s12)
    dsimp only []
    generalize upd H11 p12 (.lst []) = H12 at s612 ⊢
    have q12 := q6.same U s612
    have t12 := tabs_same t6 s612
    have pe12 := s612 _ _ pe6
    have l12 := s612 _ _ l6
    have lg12 := s612 _ _ lg6
    have k012 : Kp [T.p_l_bare_right, pe] H H12 := kp_trans k06 (kp_same s612)
    clear q10 s11 s12 e11 q6 t6 pe6 l6 lg6 k06 s610 s612
    -- it is taken away again
    refine pSeq ⟨_, rfl, .inl ⟨rfl, _, sqlOf pe12⟩, pe, _, _, rfl, rfl, pe12, rfl, ?_⟩
    have k13 : Kp [pe] H12 (upd H12 pe (.lst [])) := kp_up memA (kp_refl _ _)
    have q13 := q12.kp U k13 (mu_lst pe12 mu_nil) (mu_lst upd_same mu_nil) (subCons mpe subNil) dE
    have t13 := tabsN_kpU t12 k13 (mu_lst pe12 mu_nil) fun p hp => not_cons (tab_ne t12 hp pe12 (fun _ z => nomatch z)).symm not_nil
    have pe13 : upd H12 pe (.lst []) pe = some (.lst []) := upd_same
    have l13 := k13.at_ _ _ l12 (not_cons lpe not_nil)
    have lg13 := k13.at_ _ _ lg12 (not_cons nlg not_nil)
    have k013 : Kp [T.p_l_bare_right, pe] H (upd H12 pe (.lst [])) := kp_trans k012 (kp_more k13 fun a m => by rw [List.mem_singleton.mp m]; exact memB memA)
    have hzl : ([V.str "x"] : List V).dropLast = [] := rfl
    rw [hzl]
    dsimp only []
    generalize upd H12 pe (.lst []) = H13 at q13 t13 pe13 l13 lg13 k013 ⊢
    clear q12 t12 pe12 l12 lg12 k012 k13
    have dr : ms.drop g = [] := List.drop_eq_nil_of_le (by omega)
    refine q_mem T rfl q13 (by omega) fun o H14 f14 s14 e14 => ⟨Nat.zero_le _, fun p15 n15 => ?_⟩
    have s15 := same_newF (o := .lst []) (Fr.mk n15)
    rw [dr] at e14
    refine ⟨o, p15, _, rfl, rfl, sqlOf (s15 _ _ e14), sqlOf upd_same, true, rfl, ?_⟩
    rw [if_pos rfl]
    have s1315 := s14.trans s15
    generalize upd H14 p15 (.lst []) = H15 at s1315 ⊢
    have q15 := q13.same U s1315
    have hz : ms.length - g = 0 := by omega
    refine q_num T rfl q15 fun o H16 f16 s16 e16 => ⟨Nat.zero_le _, fun p17 n17 => ?_⟩
    have s17 := same_newF (o := .lst []) (Fr.mk n17)
    rw [hz] at e16
    refine ⟨o, p17, _, rfl, rfl, sqlOf (s17 _ _ e16), sqlOf upd_same, true, rfl, ?_⟩
    rw [if_pos rfl]
    have s1317 := s1315.trans (s16.trans s17)
    generalize upd H16 p17 (.lst []) = H17 at s1317 ⊢
    have q17 := q13.same U s1317
    refine q_len T rfl q17 (by omega) ?_
    rw [hz]
    refine ⟨rfl, true, congrArg V.bl (decide_eq_true rfl), ?_⟩
    rw [if_pos rfl]
    refine q_log T rfl q17 fun o ys H18 f18 s18 e18 jl e19 => ⟨_, rfl, o, lg, xs, rfl, rfl, ?_, sqlOf (s18 _ _ (s1317 _ _ lg13)), fun v mv => ?_, ?_⟩
    · have : ys = xs := by
        have h1 := s1317 _ _ l13
        rw [e18] at h1
        injection h1 with h1
        injection h1
      rw [this] at e19
      exact sqlOf e19
    · have : ys = xs := by
        have h1 := s1317 _ _ l13
        rw [e18] at h1
        injection h1 with h1
        injection h1
      subst this
      obtain ⟨qi, hqi⟩ := List.mem_iff_getElem?.mp mv
      obtain ⟨p, _, _, ep, _⟩ := jl.at_ qi v (es[qi]'(by rw [← jl.len]; exact (List.getElem?_eq_some_iff.mp hqi).1)) hqi (List.getElem?_eq_getElem _)
      exact .inr ⟨p, ep⟩
    · have s := s1317.trans s18
      exact q _ (kp_trans k013 (kp_same s)) (q13.same U s) (s _ _ pe13) (tabs_same t13 s)
end
end Ob

set_option Elab.async false
set_option linter.all false
set_option maxRecDepth 100000
set_option maxHeartbeats 1000000
namespace Ob
open PySem PySem.Spec PyProof.Rows L2
open LamX (Tabs TabB TabS ExtN)

set_option hygiene false in
local macro_rules
  | `(tactic| kp_flats) => `(tactic| first
    | assumption
    | exact upd_same
    | (apply atNew; assumption; kp_flats)
    | (apply atNe; (next => kbo_bools); kp_flats)
    | (apply atSame; assumption; kp_flats)
    | (apply atKp; assumption; (next => kaf_pre); kp_flats))
set_option hygiene false in
local macro_rules
  | `(tactic| kaf_pre) => `(tactic| first
    | assumption
    | exact not_nil
    | (apply not_cons; (next => kbo_bools); kaf_pre)
    | (apply not_app; (next => kaf_pre); kaf_pre))
set_option hygiene false in
local macro_rules
  | `(tactic| kbo_bools) => `(tactic| first
    | assumption
    | (apply Ne.symm; assumption)
    | (apply neN; assumption; kp_flats)
    | (apply neN'; assumption; kp_flats))
set_option hygiene false in
local macro_rules
  | `(tactic| o_reads) => `(tactic| first
    | with_reducible rfl
    | assumption
    | rfl
    | kp_flats
    | (show SqL _ _ _ _; first | assumption | (apply sqlOf; kp_flats) | (apply sqlSame; assumption; o_reads))
    | (show SqT _ _ _ _; first | assumption | (apply sqtOf; kp_flats) | (apply sqtAll; assumption) | (apply sqtSame; assumption; o_reads))
    | (show Cls _ _; first | exact T.cl_Calls | exact T.cl_Joiner | exact T.cl_Planner | exact T.cl_EvenSums | exact T.cl_Shape | exact T.cl_TwoStacks)
    | (show NoAttr _ _ _; first | exact T.n_Calls_entries | exact T.n_Calls_running | exact T.n_Joiner_calls | exact T.n_Joiner_join_call | exact T.n_Planner_entries | exact T.n_EvenSums_calls | exact T.n_EvenSums_joiner | exact T.n_EvenSums_zero | exact T.n_EvenSums_given | exact T.n_EvenSums_held | exact T.n_EvenSums_shape | exact T.n_Shape_front | exact T.n_Shape_back | exact T.n_Shape_late | exact T.n_Shape_renewed | exact T.n_TwoStacks_calls | exact T.n_TwoStacks_joiner | exact T.n_TwoStacks_zero | exact T.n_TwoStacks_given | exact T.n_TwoStacks_held | exact T.n_TwoStacks_front | exact T.n_TwoStacks_back)
    | (apply Or.inl; o_reads)
    | (apply Or.inr; o_reads)
    | (apply And.intro; (next => o_reads); o_reads)
    | (apply Exists.intro; o_reads)
    | exact Nat.le_of_ble_eq_true rfl
    | exact Nat.succ_ne_zero _
    | (show Fr _ _; kba_ints)
    | (show Same _ _; kd_subs)
    | (show Kp _ _ _; kxs_still)
    | (show (_ : Nat) ≤ _; simp only [List.length_append, List.length_map, List.length_cons, List.length_nil, List.length_take, List.length_drop, List.length_replicate, List.length_range, sizeLine_eq]; omega)
    | (show _ = none; apply Fr.h; kba_ints)
    | (show Bag _ _; first | assumption | (apply bag_putF; assumption; o_reads) | (apply bag_neF; (next => kbo_bools); o_reads) | (apply bag_kpR; assumption; (next => kaf_pre); o_reads))
    | omega
    | decide)
local macro_rules
  | `(tactic| o_readsAll) => `(tactic| repeat (first
    | (refine fun (pNew : Addr) (nNew : _ = none) => ?_; replace nNew := Fr.mk nNew)
    | (refine fun (xNew dNew : Addr) (nNew : _ = none) (mNew : _ = none) (eNew : dNew ≠ xNew) => ?_; replace nNew := Fr.mk nNew; replace mNew := Fr.mk mNew)
    | (apply And.intro; next => o_reads)
    | apply Exists.intro (α := V)
    | apply Exists.intro (α := Addr)
    | apply Exists.intro (α := Int)
    | apply Exists.intro (α := Bool)
    | apply Exists.intro (α := List V)
    | apply Exists.intro (α := List Nat)
    | apply Exists.intro (α := List (Str × V))
    | apply Exists.intro (α := List _)
    | apply Exists.intro (α := Str)
    | apply Exists.intro (α := HO)
    | apply Exists.intro (α := Sp)
    | apply Exists.intro (α := VK)))
set_option hygiene false in
local macro_rules
  | `(tactic| kba_ints) => `(tactic| first
    | assumption
    | (apply frUp; (first | assumption | (apply Ne.symm; assumption)); kba_ints)
    | (apply noneOf; assumption; intro oF eF; apply Exists.intro; kp_flats)
    | (apply frUp; (next => kbo_bools); kba_ints))
set_option hygiene false in
local macro_rules
  | `(tactic| kxs_still) => `(tactic| first
    | assumption
    | exact kp_refl _ _
    | (apply kp_newF; assumption; kxs_still)
    | (apply kp_new; assumption; kxs_still)
    | (apply kp_up; (next => o_fieldsN); kxs_still)
    | (apply kp_new; (next => kba_ints); kxs_still)
    | (apply kp_sameR; assumption; kxs_still)
    | (apply kp_transR; assumption; kxs_still)
    | (apply kp_freshR; assumption; (next => kaf_suf); kxs_still))
set_option hygiene false in
local macro_rules
  | `(tactic| kaf_suf) => `(tactic| first
    | assumption
    | exact subNil
    | (apply subCons; (first | (apply Or.inl; o_fieldsN) | (apply Or.inr; kba_ints)); kaf_suf)
    | (apply subApp; (next => kaf_suf); kaf_suf))
set_option hygiene false in
local macro_rules
  | `(tactic| o_fieldsN) => `(tactic| first
    | assumption
    | exact memA
    | (apply memB; o_fieldsN)
    | (apply memL; o_fieldsN)
    | (apply memR; o_fieldsN))
set_option hygiene false in
local macro_rules
  | `(tactic| kd_subs) => `(tactic| first
    | assumption
    | exact Same.refl _
    | (apply same_putF; assumption; kd_subs)
    | (apply same_putG; assumption; kd_subs)
    | (apply same_putF; (next => kba_ints); kd_subs)
    | (apply same_transR; assumption; kd_subs))

/-! ### a dict compared with a new empty one -/
def rDN (n : Bool) : R2 := fun x y H Q => ∃ (a b : Addr) (ks : List (Key × V)), x = .ref a ∧ y = .ref b ∧ H a = some (.dK ks) ∧ H b = some (.dK []) ∧ Q (.bl (if n then !ks.isEmpty else ks.isEmpty)) H
theorem op_neDN {X : Cx} (hu : X.A.units + 64 < cLine) : OpR X (compareOp .NotEq) (rDN true) := by
  intro pins s σ H x y v u Q I rx ry h
  obtain ⟨a, b, ks, rfl, rfl, ea, eb, q⟩ := h
  obtain rfl : v = Value.ref a := rx
  obtain rfl : u = Value.ref b := ry
  obtain ⟨_, ya, va, ra, da⟩ := dk_of I.hok ea
  obtain ⟨_, yb, vb, rb, db⟩ := dk_of I.hok eb
  have la := ra.length
  have lb : 0 = vb.length := rb.length
  refine PySem.W.keq_ne (knd := mixKind X.prog X.w) (r := true) ya yb da db (by omega) (fun hl => hits_all rb ra fun p hp => ?_) (fin_bl I q ?_)
  · have : ks = [] := List.length_eq_zero_iff.mp (by omega)
    rw [this] at hp
    cases hp
  · rw [if_pos rfl, Bool.and_true]
    cases ks with
    | nil =>
      have : va.length = vb.length := by rw [← la, ← lb]; rfl
      rw [this, beq_self_eq_true]
      rfl
    | cons k ks =>
      have : ¬ va.length = vb.length := by rw [← la, ← lb]; exact Nat.succ_ne_zero _
      rw [beq_eq_false_iff_ne.mpr this]
      rfl
theorem op_eqDN {X : Cx} (hu : X.A.units + 64 < cLine) : OpR X (compareOp .Eq) (rDN false) := by
  intro pins s σ H x y v u Q I rx ry h
  obtain ⟨a, b, ks, rfl, rfl, ea, eb, q⟩ := h
  obtain rfl : v = Value.ref a := rx
  obtain rfl : u = Value.ref b := ry
  obtain ⟨_, ya, va, ra, da⟩ := dk_of I.hok ea
  obtain ⟨_, yb, vb, rb, db⟩ := dk_of I.hok eb
  have la := ra.length
  have lb : 0 = vb.length := rb.length
  refine PySem.W.keq_eq (knd := mixKind X.prog X.w) (r := true) ya yb da db (by omega) (fun hl => hits_all rb ra fun p hp => ?_) (fin_bl I q ?_)
  · have : ks = [] := List.length_eq_zero_iff.mp (by omega)
    rw [this] at hp
    cases hp
  · rw [if_neg (fun z => nomatch z), Bool.and_true]
    cases ks with
    | nil =>
      have : va.length = vb.length := by rw [← la, ← lb]; rfl
      rw [this, beq_self_eq_true]
      rfl
    | cons k ks =>
      have : ¬ va.length = vb.length := by rw [← la, ← lb]; exact Nat.succ_ne_zero _
      rw [beq_eq_false_iff_ne.mpr this]
      rfl

set_option pp.maxSteps 900
open NdefX (TabsN)
open Inf (LClo cut mend cellsOf)
/-! ### a thing compared with itself -/
def rNeTh (K : PySem.W.Frag) : R2 := fun x y H Q => (∃ d, Dp K H x d ∧ Dp K H y d ∧ SeqAt.shaped d = true ∧ Q (.bl false) H) ∨ ∃ a : Addr, x = .ref a ∧ y = .ref a ∧ H a = some (.dK []) ∧ Q (.bl false) H
theorem op_neTh {X : Cx} (hu : X.A.units + 64 < cLine) : OpR X (compareOp .NotEq) (rNeTh X.K) := by
  intro pins s σ H x y v u Q I rx ry h
  rcases h with ⟨d, h1, h2, h3, q⟩ | ⟨a, rfl, rfl, ha, q⟩
  · refine op_neD hu pins s σ H x y v u Q I rx ry ⟨d, d, h1, h2, h3, h3, ?_⟩
    rw [eq_sh h3]
    exact q
  · exact op_neDN hu pins s σ H _ _ v u Q I rx ry ⟨a, a, [], rfl, rfl, ha, ha, q⟩
/-- a member of the law -/
def Thing (v : V) (H : Hp) : Prop := v = .non ∨ v = .bl true ∨ v = .str "" ∨ v = .int 0 ∨ (∃ a, v = .ref a ∧ H a = some (.tup [])) ∨ (∃ a, v = .ref a ∧ H a = some (.lst [])) ∨ ∃ a, v = .ref a ∧ H a = some (.dK [])
theorem thing_ne {K : PySem.W.Frag} {v : V} {H : Hp} {Q : VK} (h : Thing v H) (q : Q (.bl false) H) : rNeTh K v v H Q := by
  have sh : ∀ d : PyData, d.canLay0 = true → d.depth ≤ 2 → SeqAt.shaped d = true := fun d a b => by
    unfold SeqAt.shaped
    rw [Bool.and_eq_true]
    exact ⟨a, decide_eq_true (by omega)⟩
  rcases h with rfl | rfl | rfl | rfl | ⟨a, rfl, e⟩ | ⟨a, rfl, e⟩ | ⟨a, rfl, e⟩
  · exact .inl ⟨.none, .non, .non, sh _ (by simp [PyData.canLay0]) (by simp [PyData.depth]), q⟩
  · exact .inl ⟨.bool true, .bl _, .bl _, sh _ (by simp [PyData.canLay0]) (by simp [PyData.depth]), q⟩
  · exact .inl ⟨.str "", .str _, .str _, sh _ (by simp [PyData.canLay0]; decide +kernel) (by simp [PyData.depth]), q⟩
  · exact .inl ⟨.int 0, .int _, .int _, sh _ (by simp [PyData.canLay0]) (by simp [PyData.depth]), q⟩
  · exact .inl ⟨.tuple [], .tup (sqtOf e) .nil, .tup (sqtOf e) .nil, sh _ (by simp [PyData.canLay0, PyData.canLayAll0]) (by simp [PyData.depth, PyData.depthAll]), q⟩
  · exact .inl ⟨.list [], .lst (sqlOf e) .nil, .lst (sqlOf e) .nil, sh _ (by simp [PyData.canLay0, PyData.canLayAll0]) (by simp [PyData.depth, PyData.depthAll]), q⟩
  · exact .inr ⟨a, rfl, rfl, e, q⟩
theorem Thing.kp {v : V} {H H1 : Hp} {cs : List Addr} (h : Thing v H) (k : Kp cs H H1) (m : Mu H cs) (n : ∀ a, v = .ref a → a ∉ cs) : Thing v H1 := by
  rcases h with h | h | h | h | ⟨a, h, e⟩ | ⟨a, h, e⟩ | ⟨a, h, e⟩
  · exact .inl h
  · exact .inr (.inl h)
  · exact .inr (.inr (.inl h))
  · exact .inr (.inr (.inr (.inl h)))
  · exact .inr (.inr (.inr (.inr (.inl ⟨a, h, k.at_ _ _ e (n a h)⟩))))
  · exact .inr (.inr (.inr (.inr (.inr (.inl ⟨a, h, k.at_ _ _ e (n a h)⟩)))))
  · exact .inr (.inr (.inr (.inr (.inr (.inr ⟨a, h, k.at_ _ _ e (n a h)⟩)))))
/-! ### both queues, the bag and the list of the law -/
/-- where they stand -/
structure AX where
  (x j jdx c cdx l x2 j2 jdx2 c2 cdx2 l2 p pe f1 c1 f2 c3 : Addr) (k1 k2 : List (Str × Addr))
def AX.own (a : AX) : List Addr := [a.x, a.c, a.l, a.x2, a.c2, a.l2, a.p, a.pe]
def AX.cs {K : PySem.W.Frag} {mg : Str → Option Value} (a : AX) (T : Txt K mg) : List Addr := a.own ++ [T.p_law, T.p_l_bare_right]
section
variable {K : PySem.W.Frag} {mg : Str → Option Value}
abbrev Q1 (T : Txt K mg) (a : AX) (ms : List V) (u : List JEv) (es : List (Nat × Nat × Nat)) (g : Nat) (H : Hp) : Prop := QT T [] (.ref a.f1) (URJ true a.f1 a.k1 a.c1) VaT (a.cs T) a.x a.j a.jdx a.c a.cdx a.l (.ref a.pe) ms u es g H
abbrev O1 (T : Txt K mg) (a : AX) (ms : List V) (u : List JEv) (es : List (Nat × Nat × Nat)) (H : Hp) : Prop := ∃ e b r, EvAt T.C_EvenSums T.C_Shape (CJ T) T.C_Calls [] (.ref a.f2) (URJ false a.f2 a.k2 a.c3) VaT (a.cs T) a.x2 a.j2 a.jdx2 a.c2 a.cdx2 a.l2 .non ms u es 0 e b r H
structure J6 (T : Txt K mg) (Hz : Hp) (a : AX) (ms : List V) (u : List JEv) (es : List (Nat × Nat × Nat)) (g : Nat) (ms2 : List V) (u2 : List JEv) (es2 : List (Nat × Nat × Nat)) (H : Hp) : Prop where
  tb : TabsN (TT T) H
  q : Q1 T a ms u es g H
  o : O1 T a ms2 u2 es2 H
  bg : Bag H a.p
  epe : H a.pe = some (.lst [])
  kz : Kp [T.p_law, T.p_l_bare_right] Hz H
  fz : ∀ z ∈ a.own, Hz z = none
  nd : a.own.Nodup
variable {T : Txt K mg} {Hz H H1 : Hp} {a : AX} {ms ms' ms2 ms2' : List V} {u u' u2 u2' : List JEv} {es es' es2 es2' : List (Nat × Nat × Nat)} {g g' : Nat}
theorem J6.mu (h : J6 T Hz a ms u es g ms2 u2 es2 H) : Mu H (a.cs T) := h.q.com.2.2.2.1
theorem J6.kzz (h : J6 T Hz a ms u es g ms2 u2 es2 H) {ds : List Addr} (k : Kp ds H H1) (s : ∀ z ∈ ds, z ∈ a.cs T) : Kp [T.p_law, T.p_l_bare_right] Hz H1 := ⟨fun b o e n => k.at_ _ _ (h.kz.at_ _ _ e n) fun m => (List.mem_append.mp (s b m)).elim (fun z => by rw [h.fz b z] at e; cases e) n⟩
theorem J6.tn (h : J6 T Hz a ms u es g ms2 u2 es2 H) : ∀ z ∈ a.own, ∀ tb ∈ TT T, tb.1 ≠ z := fun z m tb hm e => by
  have kt : ∀ {y : Addr} {o : HO}, H y = some o → (∀ ps, o ≠ .tbl ps) → y ≠ tb.1 := fun e n => tab_ne h.tb hm e n
  have jw := h.q.com.1
  obtain ⟨e2, b2, r2, o⟩ := h.o
  obtain ⟨xs, l1, _⟩ := jw.lg
  obtain ⟨xs2, l2, _⟩ := o.jw.lg
  obtain ⟨bs, hb⟩ := bag_lst h.bg
  rcases List.mem_cons.mp m with rfl | m
  · rcases h.q.ins with ⟨dx, hh, fr, bv, h1, h2⟩ | ⟨dx, hh, sh, h1, h2⟩
    · exact kt h1 (fun _ z => nomatch z) e.symm
    · exact kt h1 (fun _ z => nomatch z) e.symm
  rcases List.mem_cons.mp m with rfl | m
  · exact kt jw.hc (fun _ z => nomatch z) e.symm
  rcases List.mem_cons.mp m with rfl | m
  · exact kt l1 (fun _ z => nomatch z) e.symm
  rcases List.mem_cons.mp m with rfl | m
  · obtain ⟨dx, hh, sh, h1, h2, _⟩ := o.hx
    exact kt h1 (fun _ z => nomatch z) e.symm
  rcases List.mem_cons.mp m with rfl | m
  · exact kt o.jw.hc (fun _ z => nomatch z) e.symm
  rcases List.mem_cons.mp m with rfl | m
  · exact kt l2 (fun _ z => nomatch z) e.symm
  rcases List.mem_cons.mp m with rfl | m
  · exact kt hb (fun _ z => nomatch z) e.symm
  · rw [List.mem_singleton.mp m] at e
    exact kt h.epe (fun _ z => nomatch z) e.symm
theorem J6.dj (h : J6 T Hz a ms u es g ms2 u2 es2 H) : (∀ z ∈ [a.x, a.c, a.l] ++ [], z ∉ [a.x2, a.c2, a.l2, a.p, a.pe]) ∧ (∀ z ∈ [a.x2, a.c2, a.l2] ++ [], z ∉ [a.x, a.c, a.l, a.p, a.pe]) ∧ a.p ≠ a.pe := by
  have n := h.nd
  unfold AX.own at n
  simp only [List.nodup_cons, List.mem_cons, not_or, List.not_mem_nil, not_false_eq_true, List.nodup_nil, and_true] at n
  obtain ⟨⟨a1, a2, a3, a4, a5, a6, a7⟩, ⟨b1, b2, b3, b4, b5, b6⟩, ⟨c1, c2, c3, c4, c5⟩, ⟨d1, d2, d3, d4⟩, ⟨e1, e2, e3⟩, ⟨f1, f2⟩, g1⟩ := n
  refine ⟨fun z m => ?_, fun z m => ?_, g1⟩
  · rcases List.mem_cons.mp m with rfl | m
    · exact not_cons a3 (not_cons a4 (not_cons a5 (not_cons a6 (not_cons a7 not_nil))))
    rcases List.mem_cons.mp m with rfl | m
    · exact not_cons b2 (not_cons b3 (not_cons b4 (not_cons b5 (not_cons b6 not_nil))))
    · rw [List.mem_singleton.mp m]
      exact not_cons c1 (not_cons c2 (not_cons c3 (not_cons c4 (not_cons c5 not_nil))))
  · rcases List.mem_cons.mp m with rfl | m
    · exact not_cons (Ne.symm a3) (not_cons (Ne.symm b2) (not_cons (Ne.symm c1) (not_cons d3 (not_cons d4 not_nil))))
    rcases List.mem_cons.mp m with rfl | m
    · exact not_cons (Ne.symm a4) (not_cons (Ne.symm b3) (not_cons (Ne.symm c2) (not_cons e2 (not_cons e3 not_nil))))
    · rw [List.mem_singleton.mp m]
      exact not_cons (Ne.symm a5) (not_cons (Ne.symm b4) (not_cons (Ne.symm c3) (not_cons f1 (not_cons f2 not_nil))))
theorem own_cs {z : Addr} (m : z ∈ a.own) : z ∈ a.cs T := memL m
theorem J6.tkp (h : J6 T Hz a ms u es g ms2 u2 es2 H) {ds : List Addr} (k : Kp ds H H1) (s : ∀ z ∈ ds, z ∈ a.own) : TabsN (TT T) H1 := tabsN_kpU h.tb k (h.mu.sub fun z m => own_cs (s z m)) fun tb hm m => h.tn _ (s _ m) tb hm rfl
section
variable (P : Program) (w : World) (base : Heap)
include P w base
theorem J6.same (h : J6 T Hz a ms u es g ms2 u2 es2 H) (s : Same H H1) : J6 T Hz a ms u es g ms2 u2 es2 H1 := by
  obtain ⟨e, b, r, o⟩ := h.o
  exact ⟨tabs_same h.tb s, h.q.same (jsB (P := P) (w := w) (base := base) T) s, ⟨e, b, r, o.same (jsB (P := P) (w := w) (base := base) T) s⟩, bag_kpR (kp_same (cs := []) s) not_nil h.bg, s _ _ h.epe, h.kzz (kp_same (cs := []) s) (fun _ z => nomatch z), h.fz, h.nd⟩
theorem J6.qkp (h : J6 T Hz a ms u es g ms2 u2 es2 H) {ds : List Addr} (k : Kp ds H H1) (m1 : Mu H1 ds) (s : ∀ z ∈ ds, z ∈ a.cs T) (d : ∀ z ∈ [a.x, a.c, a.l] ++ [], z ∉ ds) : Q1 T a ms u es g H1 := h.q.kp (jsB (P := P) (w := w) (base := base) T) k (h.mu.sub s) m1 s d
theorem J6.okp (h : J6 T Hz a ms u es g ms2 u2 es2 H) {ds : List Addr} (k : Kp ds H H1) (m1 : Mu H1 ds) (s : ∀ z ∈ ds, z ∈ a.cs T) (d : ∀ z ∈ [a.x2, a.c2, a.l2] ++ [], z ∉ ds) : O1 T a ms2 u2 es2 H1 := by
  obtain ⟨e, b, r, o⟩ := h.o
  exact ⟨e, b, r, o.kp (jsB (P := P) (w := w) (base := base) T) k (h.mu.sub s) m1 s d⟩
theorem J6.take (h : J6 T Hz a ms u es g ms2 u2 es2 H) (k : Kp [a.p] H H1) (bg : Bag H1 a.p) : J6 T Hz a ms u es g ms2 u2 es2 H1 := by
  obtain ⟨d1, d2, d3⟩ := h.dj
  have so : ∀ z ∈ [a.p], z ∈ a.own := fun z m => by
    rw [List.mem_singleton.mp m]
    exact memB (memB (memB (memB (memB (memB memA)))))
  have m1 := bag_mu bg
  refine ⟨h.tkp k so, h.qkp P w base k m1 (fun z m => own_cs (so z m)) fun z m y => d1 z m ?_, h.okp P w base k m1 (fun z m => own_cs (so z m)) fun z m y => d2 z m ?_, bg, k.at_ _ _ h.epe (not_cons d3.symm not_nil), h.kzz k fun z m => own_cs (so z m), h.fz, h.nd⟩
  · rw [List.mem_singleton.mp y]
    exact memB (memB (memB memA))
  · rw [List.mem_singleton.mp y]
    exact memB (memB (memB memA))
theorem J6.stepq (h : J6 T Hz a ms u es g ms2 u2 es2 H) (k : Kp ([a.x, a.c, a.l] ++ []) H H1) (q : Q1 T a ms' u' es' g' H1) : J6 T Hz a ms' u' es' g' ms2 u2 es2 H1 := by
  obtain ⟨d1, d2, d3⟩ := h.dj
  have so : ∀ z ∈ [a.x, a.c, a.l] ++ [], z ∈ a.own := fun z m => by
    rcases List.mem_cons.mp m with rfl | m
    · exact memA
    rcases List.mem_cons.mp m with rfl | m
    · exact memB memA
    · rw [List.mem_singleton.mp m]
      exact memB (memB memA)
  have m1 : Mu H1 ([a.x, a.c, a.l] ++ []) := q.com.2.2.2.1.sub fun z m => own_cs (so z m)
  refine ⟨h.tkp k so, q, h.okp P w base k m1 (fun z m => own_cs (so z m)) fun z m y => d1 z y ?_, bag_kpR k (fun y => d1 _ y (memB (memB (memB memA)))) h.bg, k.at_ _ _ h.epe (fun y => d1 _ y (memB (memB (memB (memB memA))))), h.kzz k fun z m => own_cs (so z m), h.fz, h.nd⟩
  rcases List.mem_cons.mp m with rfl | m
  · exact memA
  rcases List.mem_cons.mp m with rfl | m
  · exact memB memA
  · rw [List.mem_singleton.mp m]
    exact memB (memB memA)
theorem J6.stepo (h : J6 T Hz a ms u es g ms2 u2 es2 H) (k : Kp ([a.x2, a.c2, a.l2] ++ []) H H1) (o : O1 T a ms2' u2' es2' H1) : J6 T Hz a ms u es g ms2' u2' es2' H1 := by
  obtain ⟨d1, d2, d3⟩ := h.dj
  have so : ∀ z ∈ [a.x2, a.c2, a.l2] ++ [], z ∈ a.own := fun z m => by
    rcases List.mem_cons.mp m with rfl | m
    · exact memB (memB (memB memA))
    rcases List.mem_cons.mp m with rfl | m
    · exact memB (memB (memB (memB memA)))
    · rw [List.mem_singleton.mp m]
      exact memB (memB (memB (memB (memB memA))))
  have m1 : Mu H1 ([a.x2, a.c2, a.l2] ++ []) := by
    obtain ⟨e, b, r, o⟩ := o
    exact o.mu.sub fun z m => own_cs (so z m)
  refine ⟨h.tkp k so, h.qkp P w base k m1 (fun z m => own_cs (so z m)) fun z m y => d2 z y ?_, o, bag_kpR k (fun y => d2 _ y (memB (memB (memB memA)))) h.bg, k.at_ _ _ h.epe (fun y => d2 _ y (memB (memB (memB (memB memA))))), h.kzz k fun z m => own_cs (so z m), h.fz, h.nd⟩
  rcases List.mem_cons.mp m with rfl | m
  · exact memA
  rcases List.mem_cons.mp m with rfl | m
  · exact memB memA
  · rw [List.mem_singleton.mp m]
    exact memB (memB memA)
theorem J6.bare (h : J6 T Hz a ms u es g ms2 u2 es2 H) (k : Kp [T.p_l_bare_right, a.pe] H H1) (q : Q1 T a ms u es g H1) (e : H1 a.pe = some (.lst [])) (t : TabsN (TT T) H1) : J6 T Hz a ms u es g ms2 u2 es2 H1 := by
  obtain ⟨d1, d2, d3⟩ := h.dj
  have s : ∀ z ∈ [T.p_l_bare_right, a.pe], z ∈ a.cs T := subCons (memR (memB memA)) (subCons (memL (memB (memB (memB (memB (memB (memB (memB memA)))))))) subNil)
  have nt : ∀ z ∈ a.own, z ≠ T.p_l_bare_right := fun z m y => h.tn z m _ (hm_l_bare_right T) y.symm
  have m1 : Mu H1 [T.p_l_bare_right, a.pe] := q.com.2.2.2.1.sub s
  refine ⟨t, q, h.okp P w base k m1 s fun z m => ?_, bag_kpR k (not_cons (nt _ (memB (memB (memB (memB (memB (memB memA))))))) (not_cons d3 not_nil)) h.bg, e, h.kzz k s, h.fz, h.nd⟩
  have so : z ∈ a.own := by
    rcases List.mem_cons.mp m with rfl | m
    · exact memB (memB (memB memA))
    rcases List.mem_cons.mp m with rfl | m
    · exact memB (memB (memB (memB memA)))
    · rw [List.mem_singleton.mp m]
      exact memB (memB (memB (memB (memB memA))))
  exact not_cons (nt z so) (not_cons (fun y => d2 z m (by rw [y]; exact memB (memB (memB (memB memA))))) not_nil)
end
end
end Ob

set_option Elab.async false
set_option linter.all false
set_option maxRecDepth 100000
set_option maxHeartbeats 1000000
namespace Ob
open PySem PySem.Spec PyProof.Rows L2
open LamX (Tabs TabB TabS ExtN)

set_option hygiene false in
local macro_rules
  | `(tactic| kp_flats) => `(tactic| first
    | assumption
    | exact upd_same
    | (apply atNew; assumption; kp_flats)
    | (apply atNe; (next => kbo_bools); kp_flats)
    | (apply atSame; assumption; kp_flats)
    | (apply atKp; assumption; (next => kaf_pre); kp_flats))
set_option hygiene false in
local macro_rules
  | `(tactic| kaf_pre) => `(tactic| first
    | assumption
    | exact not_nil
    | (apply not_cons; (next => kbo_bools); kaf_pre)
    | (apply not_app; (next => kaf_pre); kaf_pre))
set_option hygiene false in
local macro_rules
  | `(tactic| kbo_bools) => `(tactic| first
    | assumption
    | (apply Ne.symm; assumption)
    | (apply neN; assumption; kp_flats)
    | (apply neN'; assumption; kp_flats))
set_option hygiene false in
local macro_rules
  | `(tactic| o_reads) => `(tactic| first
    | with_reducible rfl
    | assumption
    | rfl
    | kp_flats
    | (show SqL _ _ _ _; first | assumption | (apply sqlOf; kp_flats) | (apply sqlSame; assumption; o_reads))
    | (show SqT _ _ _ _; first | assumption | (apply sqtOf; kp_flats) | (apply sqtAll; assumption) | (apply sqtSame; assumption; o_reads))
    | (show Cls _ _; first | exact T.cl_Calls | exact T.cl_Joiner | exact T.cl_Planner | exact T.cl_EvenSums | exact T.cl_Shape | exact T.cl_TwoStacks)
    | (show NoAttr _ _ _; first | exact T.n_Calls_entries | exact T.n_Calls_running | exact T.n_Joiner_calls | exact T.n_Joiner_join_call | exact T.n_Planner_entries | exact T.n_EvenSums_calls | exact T.n_EvenSums_joiner | exact T.n_EvenSums_zero | exact T.n_EvenSums_given | exact T.n_EvenSums_held | exact T.n_EvenSums_shape | exact T.n_Shape_front | exact T.n_Shape_back | exact T.n_Shape_late | exact T.n_Shape_renewed | exact T.n_TwoStacks_calls | exact T.n_TwoStacks_joiner | exact T.n_TwoStacks_zero | exact T.n_TwoStacks_given | exact T.n_TwoStacks_held | exact T.n_TwoStacks_front | exact T.n_TwoStacks_back)
    | (apply Or.inl; o_reads)
    | (apply Or.inr; o_reads)
    | (apply And.intro; (next => o_reads); o_reads)
    | (apply Exists.intro; o_reads)
    | exact Nat.le_of_ble_eq_true rfl
    | exact Nat.succ_ne_zero _
    | (show Fr _ _; kba_ints)
    | (show Same _ _; kd_subs)
    | (show Kp _ _ _; kxs_still)
    | (show (_ : Nat) ≤ _; simp only [List.length_append, List.length_map, List.length_cons, List.length_nil, List.length_take, List.length_drop, List.length_replicate, List.length_range, sizeLine_eq]; omega)
    | (show _ = none; apply Fr.h; kba_ints)
    | (show Bag _ _; first | assumption | (apply bag_putF; assumption; o_reads) | (apply bag_neF; (next => kbo_bools); o_reads) | (apply bag_kpR; assumption; (next => kaf_pre); o_reads))
    | omega
    | decide)
local macro_rules
  | `(tactic| o_readsAll) => `(tactic| repeat (first
    | (refine fun (pNew : Addr) (nNew : _ = none) => ?_; replace nNew := Fr.mk nNew)
    | (refine fun (xNew dNew : Addr) (nNew : _ = none) (mNew : _ = none) (eNew : dNew ≠ xNew) => ?_; replace nNew := Fr.mk nNew; replace mNew := Fr.mk mNew)
    | (apply And.intro; next => o_reads)
    | apply Exists.intro (α := V)
    | apply Exists.intro (α := Addr)
    | apply Exists.intro (α := Int)
    | apply Exists.intro (α := Bool)
    | apply Exists.intro (α := List V)
    | apply Exists.intro (α := List Nat)
    | apply Exists.intro (α := List (Str × V))
    | apply Exists.intro (α := List _)
    | apply Exists.intro (α := Str)
    | apply Exists.intro (α := HO)
    | apply Exists.intro (α := Sp)
    | apply Exists.intro (α := VK)))
set_option hygiene false in
local macro_rules
  | `(tactic| kba_ints) => `(tactic| first
    | assumption
    | (apply frUp; (first | assumption | (apply Ne.symm; assumption)); kba_ints)
    | (apply noneOf; assumption; intro oF eF; apply Exists.intro; kp_flats)
    | (apply frUp; (next => kbo_bools); kba_ints))
set_option hygiene false in
local macro_rules
  | `(tactic| kxs_still) => `(tactic| first
    | assumption
    | exact kp_refl _ _
    | (apply kp_newF; assumption; kxs_still)
    | (apply kp_new; assumption; kxs_still)
    | (apply kp_up; (next => o_fieldsN); kxs_still)
    | (apply kp_new; (next => kba_ints); kxs_still)
    | (apply kp_sameR; assumption; kxs_still)
    | (apply kp_transR; assumption; kxs_still)
    | (apply kp_freshR; assumption; (next => kaf_suf); kxs_still))
set_option hygiene false in
local macro_rules
  | `(tactic| kaf_suf) => `(tactic| first
    | assumption
    | exact subNil
    | (apply subCons; (first | (apply Or.inl; o_fieldsN) | (apply Or.inr; kba_ints)); kaf_suf)
    | (apply subApp; (next => kaf_suf); kaf_suf))
set_option hygiene false in
local macro_rules
  | `(tactic| o_fieldsN) => `(tactic| first
    | assumption
    | exact memA
    | (apply memB; o_fieldsN)
    | (apply memL; o_fieldsN)
    | (apply memR; o_fieldsN))
set_option hygiene false in
local macro_rules
  | `(tactic| kd_subs) => `(tactic| first
    | assumption
    | exact Same.refl _
    | (apply same_putF; assumption; kd_subs)
    | (apply same_putG; assumption; kd_subs)
    | (apply same_putF; (next => kba_ints); kd_subs)
    | (apply same_transR; assumption; kd_subs))

/-! ### a call by keywords alone -/
section
variable {X : Cx} {CX : CXT} {k n : Nat} {f : Addr} {fd : FuncData} {ps ks : List Str} {sp : Sp} {E : XK} {x : Str} {p pos : Pos} {kws : List Keyword} {tk : TA} {g : List Value → List Value → List Value} {gV : List V → List V → List V}
theorem pe_kw0 (F : FnOk X.prog X.w X.K X.mg X.base CX k f fd ps sp) (hr : Room k X.A) (hg : Gl X x) (hm : X.mg x = some (.ref f))
    (hk : PySem.W.keepIn X.K (.ref f) = true) (hb : KBn X.K fd ps 0 ks g gV) (hx : Passes CX X E) (hkw : PK X kws tk)
    (hall : (backToKw pos (keywordEach kws X.env)).all (·.1.isSome) = true := by rfl)
    (hks : (backToKw pos (keywordEach kws X.env)).filterMap (·.1) = ks := by rfl) (hdb : (x == ("__debug__" : Str)) = false := by decide)
    (hpl : ((backTo pos (starEach [] X.env)).any (·.1) || (backToKw pos (keywordEach kws X.env)).any (·.1.isNone)) = false := by rfl) :
    PE X (.Call (.Name x p) [] kws pos) (tCallN 0 ks.length sp gV E tNil tk) :=
  ⟨fun pins s σ H Q I h => wpAny_Call_Name_kw (ld_glob I hg hm (PySem.W.callWith_KW0 (h₀ := X.base) I.ok.mod.kin hk hall
    (thn (hkw.run pos pins s σ H _ I h) fun ws s2 ⟨zs, H2, I2, rz, l1, l2, q2⟩ => ⟨I2.kIn, by rw [hks]; exact run_fnN (us := []) (vs := []) F hr hb hx I2 .nil rz l1 l2 q2⟩) hpl) hdb)⟩
end
theorem kb_one {K : PySem.W.Frag} {x qual : Str} {st : Stmt} {f : Addr} {fd : FuncData} {n : Str} (F : Fun K x qual st f fd)
    (h : ∀ (kV doc pm : Value) (an : Option Addr) (cdv ct v : Value), bindArgs (PySem.W.fnOf x qual (defArgs st) (defBody st) (defScope st) .none kV doc pm an cdv ct) ⟨[], [(n, v)]⟩ = pure [(n, v)]) :
    KBn K fd [n] 0 [n] (fun _ ws => ws) (fun _ zs => zs) := by
  obtain ⟨oc, od, kV, doc, pm, an, cdv, ct, osl, rfl, lk, hcd⟩ := F.ex
  exact ⟨fun s us ws X l1 l2 => match us, ws, l1, l2 with | [], [v], _, _ => .of_eq (h kV doc pm an cdv ct v), fun _ r => r⟩
/-! ### lists of ints, compared -/
theorem dp_ints {K : PySem.W.Frag} {H : Hp} : ∀ l : List Int, DpAll K H (l.map V.int) (l.map PyData.int)
  | [] => .nil
  | x :: l => .cons (.int x) (dp_ints l)
theorem lay_ints : ∀ l : List Int, PyData.canLayAll0 (l.map PyData.int) = true ∧ PyData.depthAll (l.map PyData.int) ≤ 1
  | [] => ⟨rfl, by decide⟩
  | x :: l => by
    obtain ⟨a, b⟩ := lay_ints l
    refine ⟨?_, ?_⟩
    · show PyData.canLayAll0 (PyData.int x :: l.map PyData.int) = true
      simp only [PyData.canLayAll0, PyData.canLay0, a, Bool.and_self]
    · show PyData.depthAll (PyData.int x :: l.map PyData.int) ≤ 1
      simp only [PyData.depthAll, PyData.depth]
      omega
theorem sh_ints (l : List Int) : SeqAt.shaped (.list (l.map PyData.int)) = true := by
  obtain ⟨a, b⟩ := lay_ints l
  unfold SeqAt.shaped
  rw [Bool.and_eq_true]
  refine ⟨?_, decide_eq_true ?_⟩
  · simp only [PyData.canLay0, a]
  · simp only [PyData.depth]
    omega

theorem kb_of {K : PySem.W.Frag} {x qual : Str} {st : Stmt} {f : Addr} {fd : FuncData} {ps ks : List Str} {n : Nat} {g : List Value → List Value → List Value} {gV : List V → List V → List V} (F : Fun K x qual st f fd)
    (h : ∀ (kV doc pm : Value) (an : Option Addr) (cdv ct : Value) (us ws : List Value), us.length = n → ws.length = ks.length → bindArgs (PySem.W.fnOf x qual (defArgs st) (defBody st) (defScope st) .none kV doc pm an cdv ct) ⟨us, ks.zip ws⟩ = pure (ps.zip (g us ws)))
    (r : ∀ {vs : List V} {us : List Value} {zs : List V} {ws : List Value}, Vals vs us → Vals zs ws → Vals (gV vs zs) (g us ws)) : KBn K fd ps n ks g gV := by
  obtain ⟨oc, od, kV, doc, pm, an, cdv, ct, osl, rfl, lk, hcd⟩ := F.ex
  exact ⟨fun s us ws X l1 l2 => .of_eq (h kV doc pm an cdv ct us ws l1 l2), r⟩

set_option pp.maxSteps 1500
open NdefX (TabsN)
open Inf (LClo cut mend cellsOf)
section
variable {P : Program} {w : World} {K : PySem.W.Frag} {mg : Str → Option Value} {base : Heap}
section
variable {uv : List Addr} {f z : V} {UR : List JEv → Hp → Prop} {Val : Nat → List V → V → Hp → Prop} {x j jdx c cdx l : Addr} {u : List JEv} {es : List (Nat × Nat × Nat)} {H : Hp} {ms : List V} {cs : List Addr} {g : Nat} {σ : L2.St} {i k n : Nat} {Q : VK}
theorem q_addK (T : Txt K mg) (U : JS P w K mg base n true uv f UR Val) {m : V} (hv : σ[i]? = some (some (.ref x))) (hm : σ[k]? = some (some m)) (h : QT T uv f UR Val cs x j jdx c cdx l z ms u es g H) (lu : u.length < 80000) (le : es.length < 80000) (lm : ms.length < 70000) (vm : Val ms.length [m] m H)
    (q : ∀ d ds H', d.length = ds.length → ds.length ≤ 2 → Kp ([x, c, l] ++ uv) H H' → QT T uv f UR Val cs x j jdx c cdx l z (ms ++ [m]) (u ++ d) (es ++ ds) g H' → Q (.int ms.length) H') :
    tEither (Inf.tMethN T.C_TwoStacks (Str.ofString "add") 0 [Str.ofString "member"].length (spTwAdd P w K mg base T.C_TwoStacks (CJ T) T.C_Calls n) (fun vs zs => vs ++ zs) E0 (tVar i) tNil (tCons (tVar k) tNil)) (Inf.tMethN T.C_EvenSums (Str.ofString "add") 0 [Str.ofString "member"].length (spEvAdd P w K mg base T.C_EvenSums T.C_Shape (CJ T) T.C_Calls n) (fun vs zs => vs ++ zs) E0 (tVar i) tNil (tCons (tVar k) tNil)) σ H Q := by
  rcases h with ⟨e, h⟩ | ⟨e, b, r, h⟩
  · obtain ⟨dx, hh, fr, bv, xs, h1, h2, _⟩ := h.hx
    exact .inl ⟨_, hv, x, _, _, rfl, h1, rfl, _, hm, rfl, rfl, uv, f, UR, Val, cs, x, j, jdx, c, cdx, l, z, ms, u, es, g, e, m, rfl, U, h, lu, le, lm, vm, fun d H' ld k tw => q d _ H' ld (Nat.le_succ_of_le extE_len) k (.inl ⟨_, tw⟩)⟩
  · obtain ⟨dx, hh, sh, h1, h2, _⟩ := h.hx
    exact .inr ⟨_, hv, x, _, _, rfl, h1, rfl, _, hm, rfl, rfl, uv, f, UR, Val, cs, x, j, jdx, c, cdx, l, z, ms, u, es, g, e, b, r, m, rfl, U, h, lu, le, lm, vm, fun d H' ld k tw => q d _ H' ld addE_len k (.inr ⟨_, _, _, tw⟩)⟩
theorem q_rem (T : Txt K mg) (U : JS P w K mg base n true uv f UR Val) (hv : σ[i]? = some (some (.ref x))) (h : QT T uv f UR Val cs x j jdx c cdx l z ms u es g H) (lu : u.length < 80000) (le : es.length < 80000) (lm : ms.length < 9000) (gl : g < ms.length)
    (q : ∀ d ds H', d.length = ds.length → ds.length ≤ ms.length + 1 → Kp ([x, c, l] ++ uv) H H' → QT T uv f UR Val cs x j jdx c cdx l z ms (u ++ d) (es ++ ds) (g + 1) H' → Q (.int g) H') :
    tEither (tMeth T.C_TwoStacks (Str.ofString "remove_oldest") (spTwRem P w K mg base T.C_TwoStacks (CJ T) T.C_Calls n) [] E0 (tVar i) tNil) (tMeth T.C_EvenSums (Str.ofString "remove_oldest") (spEvRem P w K mg base T.C_EvenSums T.C_Shape (CJ T) T.C_Calls n) [] E0 (tVar i) tNil) σ H Q := by
  rcases h with ⟨e, h⟩ | ⟨e, b, r, h⟩
  · obtain ⟨dx, hh, fr, bv, xs, h1, h2, _⟩ := h.hx
    exact .inl ⟨_, hv, x, _, _, rfl, h1, rfl, uv, f, UR, Val, cs, x, j, jdx, c, cdx, l, z, ms, u, es, g, e, rfl, U, h, lu, le, lm, gl, fun d H' ld k tw => q d _ H' ld (Nat.le_succ_of_le twR_len) k (.inl ⟨_, tw⟩)⟩
  · obtain ⟨dx, hh, sh, h1, h2, _⟩ := h.hx
    refine .inr ⟨_, hv, x, _, _, rfl, h1, rfl, uv, f, UR, Val, cs, x, j, jdx, c, cdx, l, z, ms, u, es, g, e, b, r, rfl, U, h, lu, le, by omega, gl, fun d H' ld k tw => q d _ H' ld ?_ k (.inr ⟨_, _, _, tw⟩)⟩
    have := workE_len (g := g + 1) (e := e) (b := b) (n := ms.length) (r := r)
    omega
end
def spLaw (T : Txt K mg) : Sp := fun vs H Q _ => ∃ (a : Addr) (ns : List Int), vs = [.ref a] ∧ SqL K H a (ns.map V.int) ∧ ns.length ≤ 63 ∧ H T.p_l_bare_right = some (.tbl #[]) ∧ H T.p_law = some (.tbl #[]) ∧ ∀ H', Q (.bl true) H'
theorem ok_law (T : Txt K mg) (TB2 : LamX.TabB base mg T.c_l_bare_right T.p_l_bare_right) (TB : LamX.TabB base mg T.c_law T.p_law) {f : Addr} {d : FuncData} (F : FunT K "law" "law" s_law f d T.c_law) : FnOk P w K mg base CX0 40 f d ["_law_script"] (spLaw T) := by
  have G_l_bag := ok_bag (P := P) (w := w) (base := base) T
  have G_l_take := ok_takeK (P := P) (w := w) (base := base) T
  have G_l_queue := ok_queue (P := P) (w := w) (base := base) T
  have G_l_bare_right := ok_bare (P := P) (w := w) T TB2
  have G_EvenSums_init := ok_ei (P := P) (w := w) (base := base) T
  have G_TwoStacks_add := ok_twadd (P := P) (w := w) (base := base) (n := 2) T
  have G_EvenSums_add := ok_evadd (P := P) (w := w) (base := base) (n := 2) T
  have G_TwoStacks_remove_oldest := ok_twrem (P := P) (w := w) (base := base) (n := 2) T
  have G_EvenSums_remove_oldest := ok_evrem (P := P) (w := w) (base := base) (n := 2) T
  have G_TwoStacks_members := ok_tmem (P := P) (w := w) (base := base) T
  have G_EvenSums_members := ok_emem (P := P) (w := w) (base := base) T
  have G_TwoStacks_numbers := ok_tnum (P := P) (w := w) (base := base) T
  have G_EvenSums_numbers := ok_enum (P := P) (w := w) (base := base) T
  have G_TwoStacks_log := ok_twlog (P := P) (w := w) (base := base) T
  have G_EvenSums_log := ok_evlog (P := P) (w := w) (base := base) T
  have FLTwoStacks := FnOk.raw (ok_tlen (P := P) (w := w) (base := base) T) T.b_TwoStacks_len .nil
  have FLEvenSums := FnOk.raw (ok_elen (P := P) (w := w) (base := base) T) T.b_EvenSums_len .nil
  have KB_TwoStacks_add : KBn K T.d_TwoStacks_add ["self", "member"] 1 ["member"] (fun us ws => us ++ ws) (fun vs zs => vs ++ zs) := kb_of T.F_TwoStacks_add (fun kV doc pm an cdv ct us ws l1 l2 => match us, ws, l1, l2 with | [_], [_], _, _ => rfl) fun a b => a.append b
  have KB_EvenSums_add : KBn K T.d_EvenSums_add ["self", "member"] 1 ["member"] (fun us ws => us ++ ws) (fun vs zs => vs ++ zs) := kb_of T.F_EvenSums_add (fun kV doc pm an cdv ct us ws l1 l2 => match us, ws, l1, l2 with | [_], [_], _, _ => rfl) fun a b => a.append b
  obtain ⟨ds0, BV_EvenSums_init, BN_EvenSums_init⟩ := FunD.binds0 (ps := ["self", "join", "zero"]) T.F_EvenSums_init 2 (List.cons_ne_nil _ _) rfl (fun D doc pm an cdv ct us ks h1 h2 => match us, h1, ks, h2 with | [_, _], _, [_], _ => ⟨_, _, _, _, _, _, rfl, rfl, rfl⟩)
  refine F.ok sc_law (fun vs H Q E h => ?_) (fun A_ outer s H vs Q E hr h => ?_)
  · obtain ⟨a, ns, rfl, _⟩ := h
    rfl
  · obtain ⟨a0, ns0, rfl, hS, hlen, hp1, hp2, q⟩ := h
    have t0 : TabsN (TT T) H := fun p hp => by
      rcases List.mem_cons.mp hp with rfl | hp
      · exact NdefX.TabN.nil hp1
      · rw [List.mem_singleton.mp hp]
        exact NdefX.TabN.nil hp2
    refine ⟨_, (pss_cons (ps_for (passes_of rfl) rfl (pi_range1 (by rfl) T.z_range (pa_cons (pe_callB (call_max2 rfl) (by rfl) T.z_max (by decide +kernel) (pa_cons pe_int (pa_cons (pe_callB (call_min2 rfl) (by rfl) T.z_min (by decide +kernel) (pa_cons pe_int (pa_cons (pe_callB call_len_seq (by rfl) T.z_len (by decide +kernel) (pa_cons (pv 0) pa_nil)) pa_nil))) pa_nil))) pa_nil)) (pg_name (i := 1) sc_law.nd rfl (.inl rfl)) (pss_cons (ps_set (i := 2) sc_law.nd rfl (.inl rfl) (pe_call G_l_bag (hr.mono (by omega)) rfl T.g_l_bag T.F_l_bag.kp T.b_l_bag .nil pass0 (pa_cons (pv 0) (pa_cons (pv 1) pa_nil))))
        (pss_cons (ps_par3 (i := 3) (j := 4) (l := 5) (by rfl) sc_law.nd rfl rfl rfl (by decide) (by decide) (by decide) rfl rfl rfl (pa_cons (pe_call G_l_take (hr.mono (by omega)) rfl T.g_l_take T.F_l_take.kp T.b_l_take .nil pass0 (pa_cons (pv 2) (pa_cons pe_int pa_nil))) (pa_cons (pe_lst pa_nil) (pa_cons pe_int pa_nil))) (by rfl))
        (pss_cons (ps_set (i := 6) sc_law.nd rfl (.inl rfl) (pe_call G_l_queue (hr.mono (by omega)) rfl T.g_l_queue T.F_l_queue.kp T.b_l_queue .nil pass0 (pa_cons (pv 3) (pa_cons (Inf.pe_lamP (T := TT T) (nm := nm_law) (c := T.c_law) (P := T.p_law) TB rfl (hm_law T) rfl (hu_law T) rfl (NdefX.ndef_free (sc := defScope s_law) (fr := []) (by decide +kernel))) (pa_cons (pv 4) pa_nil)))))
        (pss_cons (ps_set (i := 7) sc_law.nd rfl (.inl rfl) (pe_make ⟨T.mk_EvenSums, T.m_EvenSums_init, T.t_EvenSums_init, T.kp_EvenSums⟩ G_EvenSums_init (hr.mono (by omega)) rfl T.gc_EvenSums BN_EvenSums_init BV_EvenSums_init pass0 (pa_cons (Inf.pe_lamP (T := TT T) (nm := nm_law) (c := T.c_law) (P := T.p_law) TB rfl (hm_law T) rfl (hu_law T) rfl (NdefX.ndef_free (sc := defScope s_law) (fr := []) (by decide +kernel))) pa_nil)))
        (pss_cons (ps_for (passes_of rfl) rfl (pi_range1 (by rfl) T.z_range (pa_cons (pe_op op_add pe_int (pe_call G_l_take (hr.mono (by omega)) rfl T.g_l_take T.F_l_take.kp T.b_l_take .nil pass0 (pa_cons (pv 2) (pa_cons pe_int pa_nil)))) pa_nil)) (pg_name (i := 8) sc_law.nd rfl (.inl rfl)) (pss_cons (ps_if (pt_not (pt_val (pe_call G_l_bare_right (hr.mono (by omega)) rfl T.g_l_bare_right T.F_l_bare_right.kp T.b_l_bare_right .nil pass0 (pa_cons (pv 6) (pa_cons (pv 4) (pa_cons (pe_either (pe_meth0 (pv 6) T.cl_TwoStacks ⟨T.m_TwoStacks_log, T.t_TwoStacks_log, T.k_TwoStacks_log⟩ G_TwoStacks_log (hr.mono (by omega)) T.b_TwoStacks_log .nil pass0) (pe_meth0 (pv 6) T.cl_EvenSums ⟨T.m_EvenSums_log, T.t_EvenSums_log, T.k_EvenSums_log⟩ G_EvenSums_log (hr.mono (by omega)) T.b_EvenSums_log .nil pass0)) pa_nil)))))) (pss_one (ps_ret pe_bl)) pss_nil)
          (pss_cons (ps_set (i := 9) sc_law.nd rfl (.inl rfl) (pe_op op_add pe_int (pe_call G_l_take (hr.mono (by omega)) rfl T.g_l_take T.F_l_take.kp T.b_l_take .nil pass0 (pa_cons (pv 2) (pa_cons pe_int pa_nil)))))
          (pss_cons (ps_for (passes_of rfl) rfl (pi_range1 (by rfl) T.z_range (pa_cons (pv 9) pa_nil)) (pg_name (i := 10) sc_law.nd rfl (.inl rfl)) (pss_cons (ps_set (i := 11) sc_law.nd rfl (.inl rfl) (pe_ix (r := rIxL K) ix_list (pe_lst (pa_cons pe_non (pa_cons pe_bl (pa_cons (pe_tup pa_nil) (pa_cons (pe_lst pa_nil) (pa_cons pe_str (pa_cons pe_int (pa_cons pe_dnewK pa_nil)))))))) (pe_call G_l_take (hr.mono (by omega)) rfl T.g_l_take T.F_l_take.kp T.b_l_take .nil pass0 (pa_cons (pv 2) (pa_cons pe_int pa_nil))) (fun _ _ => rfl)))
            (pss_one (ps_if (PW.pt (pw_or (pt_cmpR op_ne (pe_either (Inf.pe_methK0 (pv 6) T.cl_TwoStacks ⟨T.m_TwoStacks_add, T.t_TwoStacks_add, T.k_TwoStacks_add⟩ G_TwoStacks_add (hr.mono (by omega)) KB_TwoStacks_add pass0 (pk_cons (pv 11) pk_nil)) (Inf.pe_methK0 (pv 6) T.cl_EvenSums ⟨T.m_EvenSums_add, T.t_EvenSums_add, T.k_EvenSums_add⟩ G_EvenSums_add (hr.mono (by omega)) KB_EvenSums_add pass0 (pk_cons (pv 11) pk_nil))) (pe_op op_add (pv 5) (pv 10)) (nomark _)) (pw_or1 (pt_cmpR op_ne (pe_callB (call_lenO FLEvenSums (hr.mono (by omega)) T.m_EvenSums_len T.y_EvenSums_len) (by rfl) T.z_len (by decide +kernel) (pa_cons (pv 7) pa_nil)) (pv 8) (nomark _))))) (pss_one (ps_ret pe_bl)) pss_nil))))
          (pss_cons (ps_if (PW.pt (pw_or (pt_cmpR (op_neTh hr.units) (pe_ix (r := rIxL K) ix_list (pe_either (pe_meth0 (pv 6) T.cl_TwoStacks ⟨T.m_TwoStacks_members, T.t_TwoStacks_members, T.k_TwoStacks_members⟩ G_TwoStacks_members (hr.mono (by omega)) T.b_TwoStacks_members .nil pass0) (pe_meth0 (pv 6) T.cl_EvenSums ⟨T.m_EvenSums_members, T.t_EvenSums_members, T.k_EvenSums_members⟩ G_EvenSums_members (hr.mono (by omega)) T.b_EvenSums_members .nil pass0)) (pe_un un_neg pe_int) (fun _ _ => rfl)) (pv 11) (nomark _)) (pw_or1 (pt_cmpR (op_neD hr.units) (pe_either (pe_meth0 (pv 6) T.cl_TwoStacks ⟨T.m_TwoStacks_numbers, T.t_TwoStacks_numbers, T.k_TwoStacks_numbers⟩ G_TwoStacks_numbers (hr.mono (by omega)) T.b_TwoStacks_numbers .nil pass0) (pe_meth0 (pv 6) T.cl_EvenSums ⟨T.m_EvenSums_numbers, T.t_EvenSums_numbers, T.k_EvenSums_numbers⟩ G_EvenSums_numbers (hr.mono (by omega)) T.b_EvenSums_numbers .nil pass0)) (pe_listRg rfl (by rfl) T.z_list (prg_2 (by rfl) T.z_range (pv 5) (pe_op op_add (pv 5) (pv 9)))) (nomark _))))) (pss_one (ps_ret pe_bl)) pss_nil)
          (pss_cons (ps_for (passes_of rfl) rfl (pi_range1 (by rfl) T.z_range (pa_cons (pv 9) pa_nil)) (pg_name (i := 10) sc_law.nd rfl (.inl rfl)) (pss_one (ps_if (pt_cmpR op_ne (pe_either (pe_meth0 (pv 6) T.cl_TwoStacks ⟨T.m_TwoStacks_remove_oldest, T.t_TwoStacks_remove_oldest, T.k_TwoStacks_remove_oldest⟩ G_TwoStacks_remove_oldest (hr.mono (by omega)) T.b_TwoStacks_remove_oldest .nil pass0) (pe_meth0 (pv 6) T.cl_EvenSums ⟨T.m_EvenSums_remove_oldest, T.t_EvenSums_remove_oldest, T.k_EvenSums_remove_oldest⟩ G_EvenSums_remove_oldest (hr.mono (by omega)) T.b_EvenSums_remove_oldest .nil pass0)) (pe_op op_add (pv 5) (pv 10)) (nomark _)) (pss_one (ps_ret pe_bl)) pss_nil)))
          (pss_cons (ps_set (i := 5) sc_law.nd rfl (.inl rfl) (pe_op op_add (pv 5) (pv 9)))
          (pss_one (ps_expr (pe_meth (pv 7) T.cl_EvenSums ⟨T.m_EvenSums_add, T.t_EvenSums_add, T.k_EvenSums_add⟩ G_EvenSums_add (hr.mono (by omega)) T.b_EvenSums_add .nil pass0 (pa_cons (pv 8) pa_nil)))))))))))
        (pss_one (ps_if (PW.pt (pw_or (pt_not (pt_val (pe_call G_l_bare_right (hr.mono (by omega)) rfl T.g_l_bare_right T.F_l_bare_right.kp T.b_l_bare_right .nil pass0 (pa_cons (pv 6) (pa_cons (pv 4) (pa_cons (pe_either (pe_meth0 (pv 6) T.cl_TwoStacks ⟨T.m_TwoStacks_log, T.t_TwoStacks_log, T.k_TwoStacks_log⟩ G_TwoStacks_log (hr.mono (by omega)) T.b_TwoStacks_log .nil pass0) (pe_meth0 (pv 6) T.cl_EvenSums ⟨T.m_EvenSums_log, T.t_EvenSums_log, T.k_EvenSums_log⟩ G_EvenSums_log (hr.mono (by omega)) T.b_EvenSums_log .nil pass0)) pa_nil)))))) (pw_or1 (pt_cmpR (op_neD hr.units) (pe_meth0 (pv 7) T.cl_EvenSums ⟨T.m_EvenSums_numbers, T.t_EvenSums_numbers, T.k_EvenSums_numbers⟩ G_EvenSums_numbers (hr.mono (by omega)) T.b_EvenSums_numbers .nil pass0) (pe_listRg rfl (by rfl) T.z_list (prg_1 (by rfl) T.z_range (pe_op op_add (pv 8) pe_int))) (nomark _))))) (pss_one (ps_ret pe_bl)) pss_nil))))))))
      (pss_one (ps_ret pe_bl))), ?_⟩
    refine pSeq ⟨_, rfl, a0, _, rfl, .inl hS, 3, _, rfl, 1, _, rfl, _, rfl, ?_, ?_, ?_⟩
    · split <;> split <;> omega
    · split <;> split <;> omega
    generalize hN : (if (if (((ns0.map V.int).length : Nat) : Int) < 3 then (((ns0.map V.int).length : Nat) : Int) else 3) > 1 then (if (((ns0.map V.int).length : Nat) : Int) < 3 then (((ns0.map V.int).length : Nat) : Int) else 3) else (1 : Int)).toNat = N
    have hN2 : N ≤ 3 := by
      rw [← hN]
      split <;> split <;> omega
    refine for_range (n := N) (fun i σ H' => ∃ y1 y2 y3 y4 y5 y6 y7 y8 y9 y10 y11, σ = [some (.ref a0), y1, y2, y3, y4, y5, y6, y7, y8, y9, y10, y11] ∧ TabsN (TT T) H' ∧ SqL K H' a0 (ns0.map V.int)) ⟨_, _, _, _, _, _, _, _, _, _, _, rfl, t0, hS⟩ ?_ ?_
    · rintro i σ Hz hi ⟨y1, y2, y3, y4, y5, y6, y7, y8, y9, y10, y11, rfl, tz, sz⟩
      -- the bag
      refine pGN (pSeq (pAsg ⟨_, rfl, _, rfl, a0, ns0, i, by rw [Int.zero_add]; rfl, sz, by omega, fun p H1 np s1 b1 => pGN ?_⟩))
      simp only [List.set_cons_succ, List.set_cons_zero]
      have t1 := tabs_same tz s1
      refine pSeq ?_
      show tPar3 3 4 5 _ _ _ H1
      dsimp only [tPar3, tCons, tNil]
      refine ⟨_, rfl, p, 2, rfl, b1, by decide, by decide, fun r H2 r0 r1 b2 k12 => ⟨Nat.zero_le _, fun pe npe => ⟨_, _, _, rfl, ?_⟩⟩⟩
      obtain ⟨fm, rfl⟩ := Int.eq_ofNat_of_zero_le r0
      obtain ⟨bs1, eb1⟩ := bag_lst b1
      have t2 : TabsN (TT T) H2 := tabsN_kpU t1 k12 (bag_mu b1) fun q hq => not_cons (tab_ne t1 hq eb1 (fun _ z => nomatch z)).symm not_nil
      have s3 := same_newF (o := .lst []) (Fr.mk npe)
      have t3 := tabs_same t2 s3
      have b3 := bag_kpR (kp_same (cs := []) s3) not_nil b2
      have pe3 : upd H2 pe (.lst []) pe = some (.lst []) := upd_same
      have kz3 : ∀ b o, Hz b = some o → upd H2 pe (.lst []) b = some o := fun b o e => s3 _ _ (k12.at_ _ _ (s1 _ _ e) (not_cons (ne_of_none e np) not_nil))
      have nz3 : Hz pe = none := by
        cases e : Hz pe with
        | none => rfl
        | some o =>
          have := k12.at_ _ _ (s1 _ _ e) (not_cons (ne_of_none e np) not_nil)
          rw [npe] at this
          cases this
      have dpp : p ≠ pe := by
        obtain ⟨bs2, eb2⟩ := bag_lst b2
        exact ne_of_none eb2 npe
      simp only [List.set_cons_succ, List.set_cons_zero]
      generalize upd H2 pe (.lst []) = H3 at t3 b3 pe3 kz3 ⊢
      clear t2 t1 s3 k12 b1 b2 s1 npe eb1
      -- the queue
      refine pSeq (pAsg ⟨_, rfl, t3, fun f1 c1 H4 k4 n4 t4 nf4 hf4 hc4 => ⟨_, rfl, fm, .ref f1, .ref pe, rfl, by omega, fun x j jdx c cdx l H5 s45 fx fj fc fll mk ex ec el => pGN ?_⟩⟩)
      simp only [List.set_cons_succ, List.set_cons_zero]
      have hf4 : H4 f1 = some (Inf.LamO f1 (LJ true [] c1)) := hf4
      have hc4 : H4 c1 = some (LamX.CodeO c1 qJ) := hc4
      have t5 := tabs_same t4 s45
      -- the other one
      refine pSeq (pAsg ⟨t5, fun f2 c3 H6 k6 n6 t6 nf6 hf6 hc6 => fun x2 dx2 nx nd ndx => ⟨x2, dx2, .ref f2, .non, rfl, upd_same, fun j2 jdx2 c2 cdx2 l2 h2 sh2 sdx2 fr2 H7 fj2 fc2 fl2 fh2 fs2 ff2 d1 d2 d3 d4 d5 d6 d7 d8 d9 d10 d11 d12 d13 d14 d15 g1 g2 g3 g4 g5 g6 g7 k7 => ⟨rfl, pGN ?_⟩⟩⟩)
      simp only [List.set_cons_succ, List.set_cons_zero]
      have hf6 : H6 f2 = some (Inf.LamO f2 (LJ false [] c3)) := hf6
      have hc6 : H6 c3 = some (LamX.CodeO c3 qJ) := hc6
      -- what stands where
      have s67 : Same H6 H7 := fun b o e => k7.at_ _ _ (by rw [upd_ne (ne_of_none e nx), upd_ne (ne_of_none e nd)]; exact e) (not_cons (ne_of_none e nx) not_nil)
      have up : ∀ {b : Addr}, Fr (upd (upd H6 dx2 (.own x2)) x2 (.ins T.C_EvenSums dx2 [])) b → H6 b = none := fun {b} z => (noneOf (H := H6) z fun o e => ⟨o, by rw [upd_ne (ne_of_none e nx), upd_ne (ne_of_none e nd)]; exact e⟩).h
      have lam56 : ∀ b o, H5 b = some o → (∀ ps, o ≠ .tbl ps) → H6 b = some o := fun b o e n => k6 _ _ e (tab_ne t5 (hm_law T) e n)
      have lam57 : ∀ b o, H5 b = some o → (∀ ps, o ≠ .tbl ps) → H7 b = some o := fun b o e n => s67 _ _ (lam56 b o e n)
      have lam35 : ∀ b o, H3 b = some o → (∀ ps, o ≠ .tbl ps) → H5 b = some o := fun b o e n => s45 _ _ (k4 _ _ e (tab_ne t3 (hm_law T) e n))
      have t7 := tabs_same t6 s67
      obtain ⟨Cx, dx, fsx, ex⟩ := ex
      obtain ⟨Cc, dc, fsc, ec⟩ := ec
      obtain ⟨bs, eb3⟩ := bag_lst b3
      have eb4 := k4 _ _ eb3 (tab_ne t3 (hm_law T) eb3 (fun _ z => nomatch z))
      have pe4 := k4 _ _ pe3 (tab_ne t3 (hm_law T) pe3 (fun _ z => nomatch z))
      have ex6 := lam56 _ _ ex (fun _ z => nomatch z)
      have ec6 := lam56 _ _ ec (fun _ z => nomatch z)
      have el6 := lam56 _ _ el (fun _ z => nomatch z)
      have eb6 := lam56 _ _ (s45 _ _ eb4) (fun _ z => nomatch z)
      have pe6 := lam56 _ _ (s45 _ _ pe4) (fun _ z => nomatch z)
      have pe7 := s67 _ _ pe6
      have b7 : Bag H7 p := by
        obtain ⟨g, m, c, e, z⟩ := b3
        exact ⟨g, m, c, lam57 _ _ (lam35 _ _ e (fun _ z => nomatch z)) (fun _ z => nomatch z), z⟩
      have mt : Mu H7 ([T.p_law] ++ [T.p_l_bare_right]) := mu_app (mu_tabs t7 ⟨_, hm_law T, rfl⟩) (mu_tabs t7 ⟨_, hm_l_bare_right T, rfl⟩)
      have m6 : Mu H6 ([x, c, l, p, pe] ++ ([T.p_law] ++ [T.p_l_bare_right])) := mu_app (mu_ins ex6 (mu_ins ec6 (mu_lst el6 (mu_lst eb6 (mu_lst pe6 mu_nil))))) (mu_app (mu_tabs t6 ⟨_, hm_law T, rfl⟩) (mu_tabs t6 ⟨_, hm_l_bare_right T, rfl⟩))
      obtain ⟨a, ha⟩ : ∃ a : AX, a = ⟨x, j, jdx, c, cdx, l, x2, j2, jdx2, c2, cdx2, l2, p, pe, f1, c1, f2, c3, [], []⟩ := ⟨_, rfl⟩
      have hcs : a.cs T = [x, c, l, x2, c2, l2, p, pe] ++ [T.p_law, T.p_l_bare_right] := by rw [ha]; rfl
      have m7 : Mu H7 ([x, c, l, x2, c2, l2, p, pe] ++ [T.p_law, T.p_l_bare_right]) := mu_app (mu_ins (s67 _ _ ex6) (mu_ins (s67 _ _ ec6) (mu_lst (s67 _ _ el6) (mu_ins g1 (mu_ins g3 (mu_lst g4 (mu_lst (s67 _ _ eb6) (mu_lst pe7 mu_nil)))))))) mt
      have z65 : ∀ {b : Addr}, H6 b = none → H5 b = none := fun e => n6 _ e
      have ur1 : URJ true f1 [] c1 [] H7 := ⟨lam57 _ _ (s45 _ _ hf4) (fun _ z => nomatch z), lam57 _ _ (s45 _ _ hc4) (fun _ z => nomatch z), rfl, (fun y c e => by cases e), (fun x y c e => by cases e), fun i y e => by cases i <;> cases e⟩
      have ur2 : URJ false f2 [] c3 [] H7 := ⟨s67 _ _ hf6, s67 _ _ hc6, rfl, (fun y c e => by cases e), (fun x y c e => by cases e), fun i y e => by cases i <;> cases e⟩
      have has : ∀ z ∈ [x, c, l, x2, c2, l2, p, pe] ++ [T.p_law, T.p_l_bare_right], z ∈ [x, c, l] ∨ (∃ o, H4 z = some o) ∨ H5 z = none := fun z mz => by
        rcases List.mem_cons.mp mz with rfl | mz
        · exact .inl memA
        rcases List.mem_cons.mp mz with rfl | mz
        · exact .inl (memB memA)
        rcases List.mem_cons.mp mz with rfl | mz
        · exact .inl (memB (memB memA))
        rcases List.mem_cons.mp mz with rfl | mz
        · exact .inr (.inr (z65 nx))
        rcases List.mem_cons.mp mz with rfl | mz
        · exact .inr (.inr (z65 (up fc2)))
        rcases List.mem_cons.mp mz with rfl | mz
        · exact .inr (.inr (z65 (up fl2)))
        rcases List.mem_cons.mp mz with rfl | mz
        · exact .inr (.inl ⟨_, eb4⟩)
        rcases List.mem_cons.mp mz with rfl | mz
        · exact .inr (.inl ⟨_, pe4⟩)
        rcases List.mem_cons.mp mz with rfl | mz
        · obtain ⟨ps, h, _⟩ := t4 _ (hm_law T)
          exact .inr (.inl ⟨_, h⟩)
        · rw [List.mem_singleton.mp mz]
          obtain ⟨ps, h, _⟩ := t4 _ (hm_l_bare_right T)
          exact .inr (.inl ⟨_, h⟩)
      have hq : QT T [] (.ref f1) (URJ true f1 [] c1) VaT (a.cs T) x j jdx c cdx l (.ref pe) [] [] [] 0 H7 := by
        rw [hcs]
        rcases mk H7 [] (URJ true f1 [] c1) VaT _ lam57 m7 (subCons (memL memA) (subCons (memL (memB memA)) (subCons (memL (memB (memB memA))) subNil))) has (fun _ z => nomatch z) ur1 with ⟨_, tw⟩ | ⟨_, ev⟩
        · exact .inl ⟨_, tw⟩
        · exact .inr ⟨_, _, _, ev⟩
      have out : ∀ {b : Addr}, H6 b = none → b ≠ x2 → b ≠ c2 → b ≠ l2 → b ∉ [x, c, l, x2, c2, l2, p, pe] ++ [T.p_law, T.p_l_bare_right] := fun {b} e e1 e2 e3 m => by
        have no : b ∉ [x, c, l, p, pe] ++ ([T.p_law] ++ [T.p_l_bare_right]) := m6.fr (Fr.mk e)
        rcases List.mem_append.mp m with m | m
        · rcases List.mem_cons.mp m with z | m
          · exact no (by rw [z]; exact memL memA)
          rcases List.mem_cons.mp m with z | m
          · exact no (by rw [z]; exact memL (memB memA))
          rcases List.mem_cons.mp m with z | m
          · exact no (by rw [z]; exact memL (memB (memB memA)))
          rcases List.mem_cons.mp m with z | m
          · exact e1 z
          rcases List.mem_cons.mp m with z | m
          · exact e2 z
          rcases List.mem_cons.mp m with z | m
          · exact e3 z
          · exact no (memL (memB (memB (memB m))))
        · exact no (memR m)
      have ho : EvAt T.C_EvenSums T.C_Shape (CJ T) T.C_Calls [] (.ref f2) (URJ false f2 [] c3) VaT (a.cs T) x2 j2 jdx2 c2 cdx2 l2 .non [] [] [] 0 0 0 none H7 := by
        rw [hcs]
        exact evNew (H := H7) m7 (subCons (memL (memB (memB (memB memA)))) (subCons (memL (memB (memB (memB (memB memA))))) (subCons (memL (memB (memB (memB (memB (memB memA)))))) subNil))) (out (up fj2) d4 d5 d6) (out (up fh2) d7 d8 d9) (out (up fs2) d10 d11 d12) (out (up ff2) d13 d14 d15) (not_cons d2 (not_cons d3 not_nil)) not_nil not_nil not_nil ur2 g1 g2 g3 g4 g5 g6 g7
      have zz : ∀ {b : Addr}, H3 b = none → Hz b = none := fun {b} e => by
        cases e2 : Hz b with
        | none => rfl
        | some o =>
          rw [kz3 _ _ e2] at e
          cases e
      have z43 : ∀ {b : Addr}, H4 b = none → Hz b = none := fun e => zz (n4 _ e)
      have z6z : ∀ {b : Addr}, H6 b = none → Hz b = none := fun e => z43 (s45.free (z65 e))
      have nq := hq.com.2.2.2.2.2.2
      have hJ : J6 T Hz a [] [] [] 0 [] [] [] H7 := by
        rw [ha] at hq ho ⊢
        refine ⟨t7, hq, ⟨0, 0, none, ho⟩, b7, pe7, ⟨fun b o e n => ?_⟩, fun z mz => ?_, ?_⟩
        · have e1 := kz3 _ _ e
          have e4 := k4 _ _ e1 (fun y => n (by rw [y]; exact memA))
          exact s67 _ _ (k6 _ _ (s45 _ _ e4) (fun y => n (by rw [y]; exact memA)))
        · rcases List.mem_cons.mp mz with rfl | mz
          · exact z43 fx.h
          rcases List.mem_cons.mp mz with rfl | mz
          · exact z43 fc.h
          rcases List.mem_cons.mp mz with rfl | mz
          · exact z43 fll.h
          rcases List.mem_cons.mp mz with rfl | mz
          · exact z6z nx
          rcases List.mem_cons.mp mz with rfl | mz
          · exact z6z (up fc2)
          rcases List.mem_cons.mp mz with rfl | mz
          · exact z6z (up fl2)
          rcases List.mem_cons.mp mz with rfl | mz
          · exact np
          · rw [List.mem_singleton.mp mz]
            exact nz3
        · have a6 : ∀ {y z : Addr} {o : HO}, H6 y = some o → H6 z = none → y ≠ z := fun e n => ne_of_none e n
          have b4 : ∀ {y z : Addr} {o : HO}, H4 y = some o → Fr H4 z → z ≠ y := fun e n => (ne_of_none e n.h).symm
          refine List.nodup_cons.mpr ⟨?_, List.nodup_cons.mpr ⟨?_, List.nodup_cons.mpr ⟨?_, List.nodup_cons.mpr ⟨?_, List.nodup_cons.mpr ⟨?_, List.nodup_cons.mpr ⟨?_, List.nodup_cons.mpr ⟨not_cons dpp not_nil, List.nodup_cons.mpr ⟨not_nil, List.nodup_nil⟩⟩⟩⟩⟩⟩⟩⟩
          · exact not_cons (fun y => nq (by have y : x = c := y; rw [y]; exact memA)) (not_cons (fun y => nq (by have y : x = l := y; rw [y]; exact memB memA)) (not_cons (a6 ex6 nx) (not_cons (a6 ex6 (up fc2)) (not_cons (a6 ex6 (up fl2)) (not_cons (b4 eb4 fx) (not_cons (b4 pe4 fx) not_nil))))))
          · exact not_cons (neO ec el (fun z => nomatch z)) (not_cons (a6 ec6 nx) (not_cons (a6 ec6 (up fc2)) (not_cons (a6 ec6 (up fl2)) (not_cons (b4 eb4 fc) (not_cons (b4 pe4 fc) not_nil)))))
          · exact not_cons (a6 el6 nx) (not_cons (a6 el6 (up fc2)) (not_cons (a6 el6 (up fl2)) (not_cons (b4 eb4 fll) (not_cons (b4 pe4 fll) not_nil))))
          · exact not_cons d2 (not_cons d3 (not_cons (a6 eb6 nx).symm (not_cons (a6 pe6 nx).symm not_nil)))
          · exact not_cons d1 (not_cons (a6 eb6 (up fc2)).symm (not_cons (a6 pe6 (up fc2)).symm not_nil))
          · exact not_cons (a6 eb6 (up fl2)).symm (not_cons (a6 pe6 (up fl2)).symm not_nil)
      have eax : x = a.x := by rw [ha]
      have eax2 : x2 = a.x2 := by rw [ha]
      have eap : p = a.p := by rw [ha]
      have eape : pe = a.pe := by rw [ha]
      rw [eax, eax2, eap, eape]
      clear has hq ho nq out ur1 ur2 m7 m6 mt b7 pe7 t7 lam57 lam56 lam35 s67 up eb6 pe6 el6 ec6 ex6 eb4 pe4 eb3 ex ec z65 z43 z6z zz k7 g1 g2 g3 g4 g5 g6 g7 d1 d2 d3 d4 d5 d6 d7 d8 d9 d10 d11 d12 d13 d14 d15 fj2 fc2 fl2 fh2 fs2 ff2 nx nd ndx nf6 hf6 hc6 k6 n6 t6 t5 mk el fx fj fc fll s45 nf4 hf4 hc4 k4 n4 t4 kz3 nz3 dpp t3 b3 pe3 np hcs ha eax eax2 eap eape
      -- the turns
      refine pSeq ⟨_, rfl, a.p, 6, rfl, hJ.bg, by decide, by decide, fun rt Ht rt0 rt1 bt kt => ⟨_, _, rfl, rfl, _, rfl, by omega, by omega, ?_⟩⟩
      have h0 := hJ.take P w base kt bt
      clear hJ kt bt
      refine for_range (n := ((1 : Int) + rt).toNat) (fun turn σ H' => ∃ y8 y9 y10 y11, ∃ (num : Nat) (ms ms2 : List V) (u u2 : List JEv) (es es2 : List (Nat × Nat × Nat)), σ = [some (.ref a0), some (.int (0 + (i : Int))), some (.ref a.p), some (.int (fm : Int)), some (.ref a.pe), some (.int (num : Int)), some (.ref a.x), some (.ref a.x2), y8, y9, y10, y11] ∧ J6 T Hz a ms u es num ms2 u2 es2 H' ∧ ms.length = num ∧ ms2.length = turn ∧ num ≤ 9 * turn ∧ u.length ≤ 1000 * turn ∧ es.length ≤ 1000 * turn ∧ u2.length ≤ 10 * turn ∧ es2.length ≤ 10 * turn ∧ (turn ≠ 0 → y8 = some (.int ((turn - 1 : Nat) : Int)))) ⟨_, _, _, _, 0, [], [], [], [], [], [], rfl, h0, rfl, rfl, Nat.le_refl _, Nat.le_refl _, Nat.le_refl _, Nat.le_refl _, Nat.le_refl _, fun n => absurd rfl n⟩ ?_ ?_
      · clear h0
        rintro turn σ H' hturn ⟨y8, y9, y10, y11, num, ms, ms2, u, u2, es, es2, rfl, h, hm1, hm2, hn, hu, he, hu2, he2, _⟩
        have htu : turn < 6 := by omega
        have U1 := jsB (P := P) (w := w) (base := base) T (b := true) (f := a.f1) (c := a.c1) (cl := a.k1)
        have U2 := jsB (P := P) (w := w) (base := base) T (b := false) (f := a.f2) (c := a.c3) (cl := a.k2)
        refine pGN ?_
        simp only [List.set_cons_succ, List.set_cons_zero]
        -- without members
        refine pSeq (pIf ⟨_, rfl, _, rfl, q_log T rfl h.q fun o xs H1 fo s1 e1 jl eo => ?_⟩)
        have h1 := h.same P w base s1
        have mpe : a.pe ∈ a.own := memB (memB (memB (memB (memB (memB (memB memA))))))
        refine ⟨a.f1, a.c1, a.k1, true, a.cs T, a.x, a.j, a.jdx, a.c, a.cdx, a.l, a.pe, o, ms, u, es, num, xs, rfl, h1.q, hm1, by omega, by omega, by omega, h1.epe, s1 _ _ e1, eo, (ne_of_none h.epe fo.h).symm, h1.tb, own_cs mpe, memR (memB memA), fun z => h.dj.1 a.pe z (memB (memB (memB (memB memA)))), fun H2 k2 q2 e2 t2 => ⟨true, rfl, ifF rfl (pNx ?_)⟩⟩
        have h2 := h1.bare P w base k2 q2 e2 t2
        dsimp only []
        clear h1 h k2 q2 e2 t2 eo e1 jl s1 fo
        -- some members
        refine pSeq (pAsg ⟨_, rfl, a.p, 9, rfl, h2.bg, by decide, by decide, fun rm H3 rm0 rm1 b3 k3 => ⟨_, _, rfl, rfl, pGN ?_⟩⟩)
        simp only [List.set_cons_succ, List.set_cons_zero]
        have h3 := h2.take P w base k3 b3
        clear h2 k3 b3
        obtain ⟨many, hmy, hmy1, hmy2⟩ : ∃ many : Nat, (1 : Int) + rm = (many : Int) ∧ 0 < many ∧ many ≤ 9 := ⟨(1 + rm).toNat, by omega, by omega, by omega⟩
        rw [hmy]
        refine pSeq ⟨_, rfl, _, rfl, by omega, by omega, ?_⟩
        refine for_range (n := (many : Int).toNat) (fun kk σ H' => ∃ y10 y11, ∃ (ms : List V) (u : List JEv) (es : List (Nat × Nat × Nat)), σ = [some (.ref a0), some (.int (0 + (i : Int))), some (.ref a.p), some (.int (fm : Int)), some (.ref a.pe), some (.int (num : Int)), some (.ref a.x), some (.ref a.x2), some (.int (0 + (turn : Int))), some (.int (many : Int)), y10, y11] ∧ J6 T Hz a ms u es num ms2 u2 es2 H' ∧ ms.length = num + kk ∧ u.length ≤ 1000 * turn + 2 * kk ∧ es.length ≤ 1000 * turn + 2 * kk ∧ (kk ≠ 0 → ∃ th ms', ms = ms' ++ [th] ∧ y11 = some th ∧ Thing th H')) ⟨_, _, ms, u, es, rfl, h3, by omega, by omega, by omega, fun n => absurd rfl n⟩ ?_ ?_
        · clear h3
          rintro kk σ H4 hkk ⟨y10, y11, ms, u, es, rfl, h4, hm, hu, he, _⟩
          have hkm : kk < 9 := by omega
          refine pGN ?_
          simp only [List.set_cons_succ, List.set_cons_zero]
          refine pSeq (pAsg (pOp ⟨Nat.zero_le _, fun tp ntp => ⟨Nat.zero_le _, fun lp nlp => fun dp ndp => ⟨(show 7 ≤ sizeLine by decide), fun L nL => ?_⟩⟩⟩))
          have s1 := same_newF (o := .tup []) (Fr.mk ntp)
          have s2 := same_newF (o := .lst []) (Fr.mk nlp)
          have s3 := same_newF (o := .dK []) (Fr.mk ndp)
          have s4 := same_newF (o := .lst [V.non, .bl true, .ref tp, .ref lp, .str "", .int 0, .ref dp]) (Fr.mk nL)
          have etp := s4 _ _ (s3 _ _ (s2 _ _ (upd_same : upd H4 tp (.tup []) tp = _)))
          have elp := s4 _ _ (s3 _ _ (upd_same : upd (upd H4 tp (.tup [])) lp (.lst []) lp = _))
          have edp := s4 _ _ (upd_same : upd (upd (upd H4 tp (.tup [])) lp (.lst [])) dp (.dK []) dp = _)
          have eL : upd (upd (upd (upd H4 tp (.tup [])) lp (.lst [])) dp (.dK [])) L (.lst [V.non, .bl true, .ref tp, .ref lp, .str "", .int 0, .ref dp]) L = _ := upd_same
          have s14 := s1.trans (s2.trans (s3.trans s4))
          have f1 : tp ∉ a.cs T := h4.mu.fr (Fr.mk ntp)
          have f2 : lp ∉ a.cs T := h4.mu.fr (Fr.mk (s1.free nlp))
          have f3 : dp ∉ a.cs T := h4.mu.fr (Fr.mk (s1.free (s2.free ndp)))
          have f4 : L ∉ a.cs T := h4.mu.fr (Fr.mk (s1.free (s2.free (s3.free nL))))
          generalize upd (upd (upd (upd H4 tp (.tup [])) lp (.lst [])) dp (.dK [])) L (.lst [V.non, .bl true, .ref tp, .ref lp, .str "", .int 0, .ref dp]) = H5 at s14 etp elp edp eL ⊢
          have h5 := h4.same P w base s14
          have mpc : a.p ∈ a.cs T := own_cs (memB (memB (memB (memB (memB (memB memA))))))
          have npc : ∀ {b : Addr}, b ∉ a.cs T → b ∉ [a.p] := fun n => not_cons (fun y => n (by rw [y]; exact mpc)) not_nil
          refine ⟨_, rfl, a.p, 7, rfl, h5.bg, by decide, by decide, fun r7 H6 r70 r71 b6 k6 => ?_⟩
          have h6 := h5.take P w base k6 b6
          have etp := k6.at_ _ _ etp (npc f1)
          have elp := k6.at_ _ _ elp (npc f2)
          have edp := k6.at_ _ _ edp (npc f3)
          have eL := k6.at_ _ _ eL (npc f4)
          obtain ⟨m7, rfl⟩ := Int.eq_ofNat_of_zero_le r70
          obtain ⟨th, hat, hth, hnc⟩ : ∃ th, [V.non, .bl true, .ref tp, .ref lp, .str "", .int 0, .ref dp][m7]? = some th ∧ Thing th H6 ∧ ∀ z, th = .ref z → z ∉ a.cs T := by
            match m7, (show m7 < 7 by omega) with
            | 0, _ => exact ⟨_, rfl, .inl rfl, fun z e => nomatch e⟩
            | 1, _ => exact ⟨_, rfl, .inr (.inl rfl), fun z e => nomatch e⟩
            | 2, _ => exact ⟨_, rfl, .inr (.inr (.inr (.inr (.inl ⟨tp, rfl, etp⟩)))), fun z e => by cases e; exact f1⟩
            | 3, _ => exact ⟨_, rfl, .inr (.inr (.inr (.inr (.inr (.inl ⟨lp, rfl, elp⟩))))), fun z e => by cases e; exact f2⟩
            | 4, _ => exact ⟨_, rfl, .inr (.inr (.inl rfl)), fun z e => nomatch e⟩
            | 5, _ => exact ⟨_, rfl, .inr (.inr (.inr (.inl rfl))), fun z e => nomatch e⟩
            | 6, _ => exact ⟨_, rfl, .inr (.inr (.inr (.inr (.inr (.inr ⟨dp, rfl, edp⟩))))), fun z e => by cases e; exact f3⟩
          refine ⟨L, _, _, th, rfl, rfl, sqlOf eL, atI_nat (j := m7) hat, pGN ?_⟩
          simp only [List.set_cons_succ, List.set_cons_zero]
          clear s1 s2 s3 s4 s14 etp elp edp eL h4 h5 k6 b6 hat
          -- the addition
          refine pIf (pOr (pTest (pOp (q_addK T U1 rfl rfl h6.q (by omega) (by omega) (by omega) True.intro fun d ds H7 ld lds k7 q7 => ?_))))
          have h7 := h6.stepq P w base k7 q7
          have ht7 : Thing th H7 := hth.kp k7 (h6.mu.sub fun z m => own_cs (by
            rcases List.mem_cons.mp m with rfl | m
            · exact memA
            rcases List.mem_cons.mp m with rfl | m
            · exact memB memA
            · rw [List.mem_singleton.mp m]
              exact memB (memB memA))) fun z e m => hnc z e (own_cs (by
            rcases List.mem_cons.mp m with rfl | m
            · exact memA
            rcases List.mem_cons.mp m with rfl | m
            · exact memB memA
            · rw [List.mem_singleton.mp m]
              exact memB (memB memA)))
          refine ⟨_, rfl, _, rfl, _, _, rfl, rfl, rfl, _, rfl, ifF ?_ ?_⟩
          · have : ((ms.length : Nat) : Int) = (num : Int) + (0 + (kk : Int)) := by omega
            rw [this, decide_eq_true rfl]
            rfl
          obtain ⟨e2, b2, r2, o7⟩ := h7.o
          obtain ⟨dx, hh, sh, g1, g2, _⟩ := id o7.hx
          refine pTest (pOp ⟨_, rfl, a.x2, dx, _, rfl, g1, a.x2, dx, a.c2, a.j2, hh, sh, .non, _, 0, _, rfl, g1, g2, _, rfl, by rw [List.length_drop]; omega, ?_⟩)
          refine ⟨_, rfl, rfl, _, rfl, ifF ?_ (pNx ?_)⟩
          · have : (((ms2.drop 0).length : Nat) : Int) = 0 + (turn : Int) := by
              rw [List.length_drop]
              omega
            rw [this, decide_eq_true rfl]
            rfl
          exact ⟨_, _, ms ++ [th], _, _, rfl, h7, by rw [List.length_append, List.length_singleton]; omega, by rw [List.length_append]; omega, by rw [List.length_append]; omega, fun _ => ⟨th, ms, rfl, rfl, ht7⟩⟩
        · clear h3
          rintro σ H4 ⟨y10, y11, ms, u, es, rfl, h4, hm, hu, he, hlast⟩
          obtain ⟨th, ms', ems, rfl, hth⟩ := hlast (by omega)
          have hmm : ms'.length + 1 = num + many := by
            rw [ems, List.length_append, List.length_singleton] at hm
            omega
          -- the last member, and the numbers
          refine pSeq (pIf (pOr (pTest (pOp (pOp (q_mem T rfl h4.q (by omega) fun o H5 f5 s5 e5 => ⟨1, rfl, o, _, -1, th, rfl, rfl, sqlOf e5, ?_, _, rfl, thing_ne (hth.kp (cs := []) (kp_same s5) mu_nil fun _ _ => not_nil) ⟨_, rfl, ifF rfl ?_⟩⟩))))))
          · rw [ems, List.drop_append_of_le_length (by omega)]
            exact atI_last _ _
          have h5 := h4.same P w base s5
          refine pTest (pOp (q_num T rfl h5.q fun o2 H6 f6 s6 e6 => ?_))
          have hmany : (many : Int).toNat = many := Int.toNat_natCast many
          rw [hmany] at hm hu he
          refine ⟨_, rfl, _, rfl, _, rfl, _, _, rfl, rfl, ⟨_, _, rfl, rfl, RgOk.of_le (by omega) (by omega) (by omega) (by omega), fun o3 n3 => ?_⟩⟩
          have s7 := same_newF (o := .lst (rgV (num : Int) ((num : Int) + (many : Int)))) (Fr.mk n3)
          have eR : (List.range' num (ms.length - num)).map (fun i : Nat => V.int (i : Int)) = ((List.range many).map fun i : Nat => (num : Int) + (i : Int)).map V.int := by
            rw [show ms.length - num = many by omega, List.range'_eq_map_range, List.map_map, List.map_map]
            exact List.map_congr_left fun i _ => congrArg V.int (Int.natCast_add num i)
          have eG : rgV (num : Int) ((num : Int) + (many : Int)) = ((List.range many).map fun i : Nat => (num : Int) + (i : Int)).map V.int := by
            unfold rgV
            rw [show ((num : Int) + (many : Int) - (num : Int)).toNat = many by omega, List.map_map]
            rfl
          have e8 := s7 _ _ e6
          rw [eR] at e8
          have e9 : upd H6 o3 (.lst (rgV (num : Int) ((num : Int) + (many : Int)))) o3 = some (.lst (((List.range many).map fun i : Nat => (num : Int) + (i : Int)).map V.int)) := by
            rw [← eG]
            exact upd_same
          refine ⟨_, _, .lst (sqlOf e8) (dp_ints _), .lst (sqlOf e9) (dp_ints _), sh_ints _, sh_ints _, _, rfl, ifF (eq_sh (sh_ints _)) (pNx ?_)⟩
          have h7 := (h5.same P w base s6).same P w base s7
          dsimp only []
          generalize upd H6 o3 (.lst (rgV (num : Int) ((num : Int) + (many : Int)))) = H7 at h7 ⊢
          clear h5 h4 s6 s7 e8 e9 e6 eG eR e5 s5 hth hlast
          -- all are removed
          refine pSeq ⟨_, rfl, _, rfl, by omega, by omega, ?_⟩
          refine for_range (n := (many : Int).toNat) (fun kk σ H' => ∃ y10 y11, ∃ (u : List JEv) (es : List (Nat × Nat × Nat)), σ = [some (.ref a0), some (.int (0 + (i : Int))), some (.ref a.p), some (.int (fm : Int)), some (.ref a.pe), some (.int (num : Int)), some (.ref a.x), some (.ref a.x2), some (.int (0 + (turn : Int))), some (.int (many : Int)), y10, y11] ∧ J6 T Hz a ms u es (num + kk) ms2 u2 es2 H' ∧ u.length ≤ 1000 * turn + 18 + 60 * kk ∧ es.length ≤ 1000 * turn + 18 + 60 * kk) ⟨_, _, u, es, rfl, h7, by omega, by omega⟩ ?_ ?_
          · clear h7 hu he
            rintro kk σ H8 hkk ⟨y10, y11, u, es, rfl, h8, hu, he⟩
            have hkm : kk < many := by omega
            refine pGN ?_
            simp only [List.set_cons_succ, List.set_cons_zero]
            refine pIf (pTest (pOp (q_rem T U1 rfl h8.q (by omega) (by omega) (by omega) (by omega) fun d ds H9 ld lds k9 q9 => ?_)))
            have h9 := h8.stepq P w base k9 q9
            refine ⟨_, rfl, _, rfl, _, _, rfl, rfl, rfl, _, rfl, ifF ?_ (pNx ?_)⟩
            · have : ((num + kk : Nat) : Int) = (num : Int) + (0 + (kk : Int)) := by omega
              rw [this, decide_eq_true rfl]
              rfl
            exact ⟨_, _, _, _, rfl, h9, by rw [List.length_append]; omega, by rw [List.length_append]; omega⟩
          · clear h7 hu he
            rintro σ H8 ⟨y10, y11, u, es, rfl, h8, hu, he⟩
            rw [hmany] at h8 hu he
            dsimp only []
            -- the number, and the other one
            refine pSeq (pAsg ⟨_, rfl, _, rfl, _, _, rfl, rfl, pGN ?_⟩)
            simp only [List.set_cons_succ, List.set_cons_zero]
            obtain ⟨e2, b2, r2, o8⟩ := h8.o
            obtain ⟨dx, hh, sh, g1, g2, _⟩ := id o8.hx
            refine ⟨_, rfl, a.x2, dx, _, rfl, g1, rfl, _, rfl, [], .ref a.f2, _, _, a.cs T, a.x2, a.j2, a.jdx2, a.c2, a.cdx2, a.l2, .non, ms2, u2, es2, 0, e2, b2, r2, _, rfl, U2, o8, by omega, by omega, by omega, True.intro, fun d H9 ld k9 o9 => ?_⟩
            have la := addE_len (g := 0) (e := e2) (b := b2) (n := ms2.length) (r := r2)
            have h9 := h8.stepo P w base k9 ⟨_, _, _, o9⟩
            refine ⟨_, _, _, _, num + many, ms, _, u, _, es, _, by rw [Int.natCast_add], h9, by omega, by rw [List.length_append, List.length_singleton]; omega, by omega, by omega, by omega, by rw [List.length_append]; omega, by rw [List.length_append]; omega, fun _ => ?_⟩
            show some (V.int (0 + (turn : Int))) = some (V.int ((turn + 1 - 1 : Nat) : Int))
            rw [Int.zero_add]
            rfl
      · clear h0
        rintro σ H4 ⟨y8, y9, y10, y11, num, ms, ms2, u, u2, es, es2, rfl, h, hm1, hm2, hn, hu, he, hu2, he2, hy⟩
        have hy := hy (by omega)
        subst hy
        obtain ⟨tn, htn, htn1, htn2⟩ : ∃ tn : Nat, ((1 : Int) + rt).toNat = tn + 1 ∧ tn < 6 ∧ ms2.length = tn + 1 := ⟨((1 : Int) + rt).toNat - 1, by omega, by omega, by omega⟩
        rw [htn] at hn hu he hu2 he2 ⊢
        dsimp only []
        have mpe : a.pe ∈ a.own := memB (memB (memB (memB (memB (memB (memB memA))))))
        refine pIf (pOr ⟨_, rfl, _, rfl, q_log T rfl h.q fun o xs H1 fo s1 e1 jl eo => ?_⟩)
        have h1 := h.same P w base s1
        refine ⟨a.f1, a.c1, a.k1, true, a.cs T, a.x, a.j, a.jdx, a.c, a.cdx, a.l, a.pe, o, ms, u, es, num, xs, rfl, h1.q, hm1, by omega, by omega, by omega, h1.epe, s1 _ _ e1, eo, (ne_of_none h.epe fo.h).symm, h1.tb, own_cs mpe, memR (memB memA), fun z => h.dj.1 a.pe z (memB (memB (memB (memB memA)))), fun H2 k2 q2 e2 t2 => ⟨true, rfl, ifF rfl ?_⟩⟩
        have h2 := h1.bare P w base k2 q2 e2 t2
        clear h1 h k2 q2 e2 t2 eo e1 jl s1 fo
        obtain ⟨e2, b2, r2, o8⟩ := h2.o
        obtain ⟨dx, hh, sh, g1, g2, _⟩ := id o8.hx
        refine pTest (pOp ⟨_, rfl, a.x2, dx, _, rfl, g1, rfl, a.x2, dx, a.c2, a.cdx2, a.l2, a.j2, hh, sh, .non, _, 0, _, rfl, g1, o8.jw.hc, g2, fun o2 H3 f3 s3 e3 => ⟨_, rfl, _, _, rfl, rfl, ⟨_, rfl, RgOk.of_le (by omega) (by omega) (by omega) (by omega), fun o3 n3 => ?_⟩⟩⟩)
        have s7 := same_newF (o := .lst (rgV 0 (((tn + 1 - 1 : Nat) : Int) + 1))) (Fr.mk n3)
        have eR : (List.range' 0 (ms2.drop 0).length).map (fun i : Nat => V.int (i : Int)) = ((List.range (tn + 1)).map fun i : Nat => (0 : Int) + (i : Int)).map V.int := by
          rw [List.length_drop, show ms2.length - 0 = tn + 1 by omega, List.range'_eq_map_range, List.map_map, List.map_map]
          exact List.map_congr_left fun i _ => congrArg V.int (Int.natCast_add 0 i)
        have eG : rgV 0 (((tn + 1 - 1 : Nat) : Int) + 1) = ((List.range (tn + 1)).map fun i : Nat => (0 : Int) + (i : Int)).map V.int := by
          unfold rgV
          rw [show (((tn + 1 - 1 : Nat) : Int) + 1 - 0).toNat = tn + 1 by omega, List.map_map]
          rfl
        have e8 := s7 _ _ e3
        rw [eR] at e8
        have e9 : upd H3 o3 (.lst (rgV 0 (((tn + 1 - 1 : Nat) : Int) + 1))) o3 = some (.lst (((List.range (tn + 1)).map fun i : Nat => (0 : Int) + (i : Int)).map V.int)) := by
          rw [← eG]
          exact upd_same
        refine ⟨_, _, .lst (sqlOf e8) (dp_ints _), .lst (sqlOf e9) (dp_ints _), sh_ints _, sh_ints _, _, rfl, ifF (eq_sh (sh_ints _)) (pNx ?_)⟩
        have h7 := (h2.same P w base s3).same P w base s7
        refine ⟨_, _, _, _, _, _, _, _, _, _, _, rfl, h7.tb, ?_⟩
        have kk : ∀ {o : HO}, Hz a0 = some o → (∀ ps, o ≠ .tbl ps) → upd H3 o3 (.lst (rgV 0 (((tn + 1 - 1 : Nat) : Int) + 1))) a0 = some o := fun {o} z n => h7.kz.at_ _ _ z (not_cons (tab_ne tz (hm_law T) z n) (not_cons (tab_ne tz (hm_l_bare_right T) z n) not_nil))
        rcases sz with (z | ⟨o, z⟩) | z
        · exact .inl (.inl (kk z (fun _ y => nomatch y)))
        · exact .inl (.inr ⟨o, kk z (fun _ y => nomatch y)⟩)
        · exact .inr z
    · rintro σ H3 ⟨y1, y2, y3, y4, y5, y6, y7, y8, y9, y10, y11, rfl, tz, sz⟩
      exact q H3
end
end Ob

set_option Elab.async false
set_option linter.all false
set_option maxRecDepth 100000
set_option maxHeartbeats 1000000
namespace Ob
open PySem PySem.Spec PyProof.Rows L2
open LamX (Tabs TabB TabS ExtN)

set_option hygiene false in
local macro_rules
  | `(tactic| kp_flats) => `(tactic| first
    | assumption
    | exact upd_same
    | (apply atNew; assumption; kp_flats)
    | (apply atNe; (next => kbo_bools); kp_flats)
    | (apply atSame; assumption; kp_flats)
    | (apply atKp; assumption; (next => kaf_pre); kp_flats))
set_option hygiene false in
local macro_rules
  | `(tactic| kaf_pre) => `(tactic| first
    | assumption
    | exact not_nil
    | (apply not_cons; (next => kbo_bools); kaf_pre)
    | (apply not_app; (next => kaf_pre); kaf_pre))
set_option hygiene false in
local macro_rules
  | `(tactic| kbo_bools) => `(tactic| first
    | assumption
    | (apply Ne.symm; assumption)
    | (apply neN; assumption; kp_flats)
    | (apply neN'; assumption; kp_flats))
set_option hygiene false in
local macro_rules
  | `(tactic| o_reads) => `(tactic| first
    | with_reducible rfl
    | assumption
    | rfl
    | kp_flats
    | (show SqL _ _ _ _; first | assumption | (apply sqlOf; kp_flats) | (apply sqlSame; assumption; o_reads))
    | (show SqT _ _ _ _; first | assumption | (apply sqtOf; kp_flats) | (apply sqtAll; assumption) | (apply sqtSame; assumption; o_reads))
    | (show Cls _ _; first | exact T.cl_Calls | exact T.cl_Joiner | exact T.cl_Planner | exact T.cl_EvenSums | exact T.cl_Shape | exact T.cl_TwoStacks)
    | (show NoAttr _ _ _; first | exact T.n_Calls_entries | exact T.n_Calls_running | exact T.n_Joiner_calls | exact T.n_Joiner_join_call | exact T.n_Planner_entries | exact T.n_EvenSums_calls | exact T.n_EvenSums_joiner | exact T.n_EvenSums_zero | exact T.n_EvenSums_given | exact T.n_EvenSums_held | exact T.n_EvenSums_shape | exact T.n_Shape_front | exact T.n_Shape_back | exact T.n_Shape_late | exact T.n_Shape_renewed | exact T.n_TwoStacks_calls | exact T.n_TwoStacks_joiner | exact T.n_TwoStacks_zero | exact T.n_TwoStacks_given | exact T.n_TwoStacks_held | exact T.n_TwoStacks_front | exact T.n_TwoStacks_back)
    | (apply Or.inl; o_reads)
    | (apply Or.inr; o_reads)
    | (apply And.intro; (next => o_reads); o_reads)
    | (apply Exists.intro; o_reads)
    | exact Nat.le_of_ble_eq_true rfl
    | exact Nat.succ_ne_zero _
    | (show Fr _ _; kba_ints)
    | (show Same _ _; kd_subs)
    | (show Kp _ _ _; kxs_still)
    | (show (_ : Nat) ≤ _; simp only [List.length_append, List.length_map, List.length_cons, List.length_nil, List.length_take, List.length_drop, List.length_replicate, List.length_range, sizeLine_eq]; omega)
    | (show _ = none; apply Fr.h; kba_ints)
    | (show Bag _ _; first | assumption | (apply bag_putF; assumption; o_reads) | (apply bag_neF; (next => kbo_bools); o_reads) | (apply bag_kpR; assumption; (next => kaf_pre); o_reads))
    | omega
    | decide)
local macro_rules
  | `(tactic| o_readsAll) => `(tactic| repeat (first
    | (refine fun (pNew : Addr) (nNew : _ = none) => ?_; replace nNew := Fr.mk nNew)
    | (refine fun (xNew dNew : Addr) (nNew : _ = none) (mNew : _ = none) (eNew : dNew ≠ xNew) => ?_; replace nNew := Fr.mk nNew; replace mNew := Fr.mk mNew)
    | (apply And.intro; next => o_reads)
    | apply Exists.intro (α := V)
    | apply Exists.intro (α := Addr)
    | apply Exists.intro (α := Int)
    | apply Exists.intro (α := Bool)
    | apply Exists.intro (α := List V)
    | apply Exists.intro (α := List Nat)
    | apply Exists.intro (α := List (Str × V))
    | apply Exists.intro (α := List _)
    | apply Exists.intro (α := Str)
    | apply Exists.intro (α := HO)
    | apply Exists.intro (α := Sp)
    | apply Exists.intro (α := VK)))
set_option hygiene false in
local macro_rules
  | `(tactic| kba_ints) => `(tactic| first
    | assumption
    | (apply frUp; (first | assumption | (apply Ne.symm; assumption)); kba_ints)
    | (apply noneOf; assumption; intro oF eF; apply Exists.intro; kp_flats)
    | (apply frUp; (next => kbo_bools); kba_ints))
set_option hygiene false in
local macro_rules
  | `(tactic| kxs_still) => `(tactic| first
    | assumption
    | exact kp_refl _ _
    | (apply kp_newF; assumption; kxs_still)
    | (apply kp_new; assumption; kxs_still)
    | (apply kp_up; (next => o_fieldsN); kxs_still)
    | (apply kp_new; (next => kba_ints); kxs_still)
    | (apply kp_sameR; assumption; kxs_still)
    | (apply kp_transR; assumption; kxs_still)
    | (apply kp_freshR; assumption; (next => kaf_suf); kxs_still))
set_option hygiene false in
local macro_rules
  | `(tactic| kaf_suf) => `(tactic| first
    | assumption
    | exact subNil
    | (apply subCons; (first | (apply Or.inl; o_fieldsN) | (apply Or.inr; kba_ints)); kaf_suf)
    | (apply subApp; (next => kaf_suf); kaf_suf))
set_option hygiene false in
local macro_rules
  | `(tactic| o_fieldsN) => `(tactic| first
    | assumption
    | exact memA
    | (apply memB; o_fieldsN)
    | (apply memL; o_fieldsN)
    | (apply memR; o_fieldsN))
set_option hygiene false in
local macro_rules
  | `(tactic| kd_subs) => `(tactic| first
    | assumption
    | exact Same.refl _
    | (apply same_putF; assumption; kd_subs)
    | (apply same_putG; assumption; kd_subs)
    | (apply same_putF; (next => kba_ints); kd_subs)
    | (apply same_transR; assumption; kd_subs))

open NdefX (TabsN)
set_option pp.maxSteps 700
theorem all_mk {QQ : Program} {l : PySem.W.OpenLaw} {w : World} {K : PySem.W.Frag} {h : Heap} {mg : Str → Option Value} {fa : Addr} (X : K.In h) (G : h.Ns mainGlobals mg) (hfa : mg "law" = some (.ref fa)) (tt : Inf.TopTabs QQ K mg h)
    {C_Calls : Addr} {C_Joiner : Addr} {C_Planner : Addr} {C_EvenSums : Addr} {C_Shape : Addr} {C_TwoStacks : Addr} {a0 : Addr} {oc0 kV0 dc0 pm0 ct0 : Value} {od0 an0 : Option Addr} {sl0 : Array (Option Value)} {cd0 : Value} {a1 : Addr} {oc1 kV1 dc1 pm1 ct1 : Value} {od1 an1 : Option Addr} {sl1 : Array (Option Value)} {cd1 : Value} {a2 : Addr} {oc2 kV2 dc2 pm2 ct2 : Value} {od2 an2 : Option Addr} {sl2 : Array (Option Value)} {cd2 : Value} {a3 : Addr} {oc3 kV3 dc3 pm3 ct3 : Value} {od3 an3 : Option Addr} {sl3 : Array (Option Value)} {cd3 : Value} {a4 : Addr} {oc4 kV4 dc4 pm4 ct4 : Value} {od4 an4 : Option Addr} {sl4 : Array (Option Value)} {cd4 : Value} {a5 : Addr} {oc5 kV5 dc5 pm5 ct5 : Value} {od5 an5 : Option Addr} {sl5 : Array (Option Value)} {cd5 : Value} {a6 : Addr} {oc6 kV6 dc6 pm6 ct6 : Value} {od6 an6 : Option Addr} {sl6 : Array (Option Value)} {cd6 : Value} {a7 : Addr} {kd7 : Addr} {oc7 dc7 pm7 ct7 : Value} {od7 an7 : Option Addr} {sl7 : Array (Option Value)} {cd7 : Value} {a8 : Addr} {oc8 kV8 dc8 pm8 ct8 : Value} {od8 an8 : Option Addr} {sl8 : Array (Option Value)} {cd8 : Value} {a9 : Addr} {oc9 kV9 dc9 pm9 ct9 : Value} {od9 an9 : Option Addr} {sl9 : Array (Option Value)} {cd9 : Value} {a10 : Addr} {oc10 kV10 dc10 pm10 ct10 : Value} {od10 an10 : Option Addr} {sl10 : Array (Option Value)} {cd10 : Value} {a11 : Addr} {oc11 kV11 dc11 pm11 ct11 : Value} {od11 an11 : Option Addr} {sl11 : Array (Option Value)} {cd11 : Value} {a12 : Addr} {oc12 kV12 dc12 pm12 ct12 : Value} {od12 an12 : Option Addr} {sl12 : Array (Option Value)} {cd12 : Value} {a13 : Addr} {oc13 kV13 dc13 pm13 ct13 : Value} {od13 an13 : Option Addr} {sl13 : Array (Option Value)} {cd13 : Value} {a14 : Addr} {oc14 kV14 dc14 pm14 ct14 : Value} {od14 an14 : Option Addr} {sl14 : Array (Option Value)} {cd14 : Value} {a15 : Addr} {oc15 kV15 dc15 pm15 ct15 : Value} {od15 an15 : Option Addr} {sl15 : Array (Option Value)} {cd15 : Value} {a16 : Addr} {oc16 kV16 dc16 pm16 ct16 : Value} {od16 an16 : Option Addr} {sl16 : Array (Option Value)} {cd16 : Value} {a17 : Addr} {oc17 kV17 dc17 pm17 ct17 : Value} {od17 an17 : Option Addr} {sl17 : Array (Option Value)} {cd17 : Value} {a18 : Addr} {kd18 : Addr} {oc18 dc18 pm18 ct18 : Value} {od18 an18 : Option Addr} {sl18 : Array (Option Value)} {cd18 : Value} {a19 : Addr} {oc19 kV19 dc19 pm19 ct19 : Value} {od19 an19 : Option Addr} {sl19 : Array (Option Value)} {cd19 : Value} {a20 : Addr} {oc20 kV20 dc20 pm20 ct20 : Value} {od20 an20 : Option Addr} {sl20 : Array (Option Value)} {cd20 : Value} {a21 : Addr} {oc21 kV21 dc21 pm21 ct21 : Value} {od21 an21 : Option Addr} {sl21 : Array (Option Value)} {cd21 : Value} {a22 : Addr} {oc22 kV22 dc22 pm22 ct22 : Value} {od22 an22 : Option Addr} {sl22 : Array (Option Value)} {cd22 : Value} {a23 : Addr} {oc23 kV23 dc23 pm23 ct23 : Value} {od23 an23 : Option Addr} {sl23 : Array (Option Value)} {cd23 : Value} {a24 : Addr} {oc24 kV24 dc24 pm24 ct24 : Value} {od24 an24 : Option Addr} {sl24 : Array (Option Value)} {cd24 : Value} {a25 : Addr} {oc25 kV25 dc25 pm25 ct25 : Value} {od25 an25 : Option Addr} {sl25 : Array (Option Value)} {cd25 : Value} {a26 : Addr} {oc26 kV26 dc26 pm26 ct26 : Value} {od26 an26 : Option Addr} {sl26 : Array (Option Value)} {cd26 : Value} {a27 : Addr} {oc27 kV27 dc27 pm27 ct27 : Value} {od27 an27 : Option Addr} {sl27 : Array (Option Value)} {cd27 : Value} {a28 : Addr} {oc28 kV28 dc28 pm28 ct28 : Value} {od28 an28 : Option Addr} {sl28 : Array (Option Value)} {cd28 : Value} {a29 : Addr} {oc29 kV29 dc29 pm29 ct29 : Value} {od29 an29 : Option Addr} {sl29 : Array (Option Value)} {cd29 : Value} {a30 : Addr} {oc30 kV30 dc30 pm30 ct30 : Value} {od30 an30 : Option Addr} {sl30 : Array (Option Value)} {cd30 : Value} {a31 : Addr} {oc31 kV31 dc31 pm31 ct31 : Value} {od31 an31 : Option Addr} {sl31 : Array (Option Value)} {cd31 : Value} {a32 : Addr} {oc32 kV32 dc32 pm32 ct32 : Value} {od32 an32 : Option Addr} {sl32 : Array (Option Value)} {cd32 : Value} {a33 : Addr} {oc33 kV33 dc33 pm33 ct33 : Value} {od33 an33 : Option Addr} {sl33 : Array (Option Value)} {cd33 : Value} {a34 : Addr} {oc34 kV34 dc34 pm34 ct34 : Value} {od34 an34 : Option Addr} {sl34 : Array (Option Value)} {cd34 : Value} {a35 : Addr} {oc35 kV35 dc35 pm35 ct35 : Value} {od35 an35 : Option Addr} {sl35 : Array (Option Value)} {cd35 : Value} {a36 : Addr} {oc36 kV36 dc36 pm36 ct36 : Value} {od36 an36 : Option Addr} {sl36 : Array (Option Value)} {cd36 : Value} {a37 : Addr} {oc37 kV37 dc37 pm37 ct37 : Value} {od37 an37 : Option Addr} {sl37 : Array (Option Value)} {cd37 : Value} {a38 : Addr} {oc38 kV38 dc38 pm38 ct38 : Value} {od38 an38 : Option Addr} {sl38 : Array (Option Value)} {cd38 : Value} {a39 : Addr} {oc39 kV39 dc39 pm39 ct39 : Value} {od39 an39 : Option Addr} {sl39 : Array (Option Value)} {cd39 : Value} {a40 : Addr} {oc40 kV40 dc40 pm40 ct40 : Value} {od40 an40 : Option Addr} {sl40 : Array (Option Value)} {cd40 : Value} {a41 : Addr} {oc41 kV41 dc41 pm41 ct41 : Value} {od41 an41 : Option Addr} {sl41 : Array (Option Value)} {cd41 : Value} {a42 : Addr} {oc42 kV42 dc42 pm42 ct42 : Value} {od42 an42 : Option Addr} {sl42 : Array (Option Value)} {cd42 : Value} {a43 : Addr} {oc43 kV43 dc43 pm43 ct43 : Value} {od43 an43 : Option Addr} {sl43 : Array (Option Value)} {cd43 : Value} {a44 : Addr} {oc44 kV44 dc44 pm44 ct44 : Value} {od44 an44 : Option Addr} {sl44 : Array (Option Value)} {cd44 : Value} {a45 : Addr} {oc45 kV45 dc45 pm45 ct45 : Value} {od45 an45 : Option Addr} {sl45 : Array (Option Value)} {cd45 : Value} {a46 : Addr} {oc46 kV46 dc46 pm46 ct46 : Value} {od46 an46 : Option Addr} {sl46 : Array (Option Value)} {cd46 : Value} {a47 : Addr} {oc47 kV47 dc47 pm47 ct47 : Value} {od47 an47 : Option Addr} {sl47 : Array (Option Value)} {cd47 : Value} {a48 : Addr} {oc48 kV48 dc48 pm48 ct48 : Value} {od48 an48 : Option Addr} {sl48 : Array (Option Value)} {cd48 : Value} {a49 : Addr} {oc49 kV49 dc49 pm49 ct49 : Value} {od49 an49 : Option Addr} {sl49 : Array (Option Value)} {cd49 : Value} {a50 : Addr} {oc50 kV50 dc50 pm50 ct50 : Value} {od50 an50 : Option Addr} {sl50 : Array (Option Value)} {cc50 pp50 : Addr} {lv50 : Array Value} {lo50 : Value} {ld50 : Option Addr} {ls50 : Array (Option Value)} {a51 : Addr} {oc51 kV51 dc51 pm51 ct51 : Value} {od51 an51 : Option Addr} {sl51 : Array (Option Value)} {cc51 pp51 : Addr} {lv51 : Array Value} {lo51 : Value} {ld51 : Option Addr} {ls51 : Array (Option Value)} {C_Empty C_Busy C_NoMember C_NotTorn C_OnceError C_Torn : Addr}
    (gc_Calls : PySem.W.nsIn K mainGlobals "Calls" = some (some (.ref C_Calls)))
    (gc_Joiner : PySem.W.nsIn K mainGlobals "Joiner" = some (some (.ref C_Joiner)))
    (gc_Planner : PySem.W.nsIn K mainGlobals "Planner" = some (some (.ref C_Planner)))
    (gc_EvenSums : PySem.W.nsIn K mainGlobals "EvenSums" = some (some (.ref C_EvenSums)))
    (gc_Shape : PySem.W.nsIn K mainGlobals "Shape" = some (some (.ref C_Shape)))
    (gc_TwoStacks : PySem.W.nsIn K mainGlobals "TwoStacks" = some (some (.ref C_TwoStacks)))
    (ma0 : PySem.W.findIn K (.ref C_Calls) "__init__" = some (some (.ref a0)))
    (l0 : K.lookup a0 = some ⟨oc0, od0, .func (PySem.W.fnOf "__init__" "Calls.__init__" (defArgs s_Calls_init) (defBody s_Calls_init) (defScope s_Calls_init) .none kV0 dc0 pm0 an0 cd0 ct0), sl0⟩) (c0 : PySem.W.codeIn K cd0 "Calls.__init__" = true) (k0 : PySem.W.keepIn K (.ref a0) = true)
    (mt0 : PySem.W.isFn K (.ref a0) = true) (my0 : PySem.W.typeIn K (.ref a0) = some (.type "function"))
    (ma1 : PySem.W.findIn K (.ref C_Calls) "check" = some (some (.ref a1)))
    (l1 : K.lookup a1 = some ⟨oc1, od1, .func (PySem.W.fnOf "check" "Calls.check" (defArgs s_Calls_check) (defBody s_Calls_check) (defScope s_Calls_check) .none kV1 dc1 pm1 an1 cd1 ct1), sl1⟩) (c1 : PySem.W.codeIn K cd1 "Calls.check" = true) (k1 : PySem.W.keepIn K (.ref a1) = true)
    (mt1 : PySem.W.isFn K (.ref a1) = true) (my1 : PySem.W.typeIn K (.ref a1) = some (.type "function"))
    (ma2 : PySem.W.findIn K (.ref C_Calls) "run" = some (some (.ref a2)))
    (l2 : K.lookup a2 = some ⟨oc2, od2, .func (PySem.W.fnOf "run" "Calls.run" (defArgs s_Calls_run) (defBody s_Calls_run) (defScope s_Calls_run) .none kV2 dc2 pm2 an2 cd2 ct2), sl2⟩) (c2 : PySem.W.codeIn K cd2 "Calls.run" = true) (k2 : PySem.W.keepIn K (.ref a2) = true)
    (mt2 : PySem.W.isFn K (.ref a2) = true) (my2 : PySem.W.typeIn K (.ref a2) = some (.type "function"))
    (ma3 : PySem.W.findIn K (.ref C_Joiner) "__init__" = some (some (.ref a3)))
    (l3 : K.lookup a3 = some ⟨oc3, od3, .func (PySem.W.fnOf "__init__" "Joiner.__init__" (defArgs s_Joiner_init) (defBody s_Joiner_init) (defScope s_Joiner_init) .none kV3 dc3 pm3 an3 cd3 ct3), sl3⟩) (c3 : PySem.W.codeIn K cd3 "Joiner.__init__" = true) (k3 : PySem.W.keepIn K (.ref a3) = true)
    (mt3 : PySem.W.isFn K (.ref a3) = true) (my3 : PySem.W.typeIn K (.ref a3) = some (.type "function"))
    (ma4 : PySem.W.findIn K (.ref C_Joiner) "joined" = some (some (.ref a4)))
    (l4 : K.lookup a4 = some ⟨oc4, od4, .func (PySem.W.fnOf "joined" "Joiner.joined" (defArgs s_Joiner_joined) (defBody s_Joiner_joined) (defScope s_Joiner_joined) .none kV4 dc4 pm4 an4 cd4 ct4), sl4⟩) (c4 : PySem.W.codeIn K cd4 "Joiner.joined" = true) (k4 : PySem.W.keepIn K (.ref a4) = true)
    (mt4 : PySem.W.isFn K (.ref a4) = true) (my4 : PySem.W.typeIn K (.ref a4) = some (.type "function"))
    (ma5 : PySem.W.findIn K (.ref C_Planner) "__init__" = some (some (.ref a5)))
    (l5 : K.lookup a5 = some ⟨oc5, od5, .func (PySem.W.fnOf "__init__" "Planner.__init__" (defArgs s_Planner_init) (defBody s_Planner_init) (defScope s_Planner_init) .none kV5 dc5 pm5 an5 cd5 ct5), sl5⟩) (c5 : PySem.W.codeIn K cd5 "Planner.__init__" = true) (k5 : PySem.W.keepIn K (.ref a5) = true)
    (mt5 : PySem.W.isFn K (.ref a5) = true) (my5 : PySem.W.typeIn K (.ref a5) = some (.type "function"))
    (ma6 : PySem.W.findIn K (.ref C_Planner) "joined" = some (some (.ref a6)))
    (l6 : K.lookup a6 = some ⟨oc6, od6, .func (PySem.W.fnOf "joined" "Planner.joined" (defArgs s_Planner_joined) (defBody s_Planner_joined) (defScope s_Planner_joined) .none kV6 dc6 pm6 an6 cd6 ct6), sl6⟩) (c6 : PySem.W.codeIn K cd6 "Planner.joined" = true) (k6 : PySem.W.keepIn K (.ref a6) = true)
    (mt6 : PySem.W.isFn K (.ref a6) = true) (my6 : PySem.W.typeIn K (.ref a6) = some (.type "function"))
    (ma7 : PySem.W.findIn K (.ref C_TwoStacks) "__init__" = some (some (.ref a7)))
    (l7 : K.lookup a7 = some ⟨oc7, od7, .func (PySem.W.fnOf "__init__" "TwoStacks.__init__" (defArgs s_TwoStacks_init) (defBody s_TwoStacks_init) (defScope s_TwoStacks_init) .none (.ref kd7) dc7 pm7 an7 cd7 ct7), sl7⟩) (c7 : PySem.W.codeIn K cd7 "TwoStacks.__init__" = true) (k7 : PySem.W.keepIn K (.ref a7) = true)
    (kw7_0 : PySem.W.nsIn K kd7 "zero" = some (some .none))
    (mt7 : PySem.W.isFn K (.ref a7) = true) (my7 : PySem.W.typeIn K (.ref a7) = some (.type "function"))
    (ma8 : PySem.W.findIn K (.ref C_TwoStacks) "add" = some (some (.ref a8)))
    (l8 : K.lookup a8 = some ⟨oc8, od8, .func (PySem.W.fnOf "add" "TwoStacks.add" (defArgs s_TwoStacks_add) (defBody s_TwoStacks_add) (defScope s_TwoStacks_add) .none kV8 dc8 pm8 an8 cd8 ct8), sl8⟩) (c8 : PySem.W.codeIn K cd8 "TwoStacks.add" = true) (k8 : PySem.W.keepIn K (.ref a8) = true)
    (mt8 : PySem.W.isFn K (.ref a8) = true) (my8 : PySem.W.typeIn K (.ref a8) = some (.type "function"))
    (ma9 : PySem.W.findIn K (.ref C_TwoStacks) "remove_oldest" = some (some (.ref a9)))
    (l9 : K.lookup a9 = some ⟨oc9, od9, .func (PySem.W.fnOf "remove_oldest" "TwoStacks.remove_oldest" (defArgs s_TwoStacks_remove_oldest) (defBody s_TwoStacks_remove_oldest) (defScope s_TwoStacks_remove_oldest) .none kV9 dc9 pm9 an9 cd9 ct9), sl9⟩) (c9 : PySem.W.codeIn K cd9 "TwoStacks.remove_oldest" = true) (k9 : PySem.W.keepIn K (.ref a9) = true)
    (mt9 : PySem.W.isFn K (.ref a9) = true) (my9 : PySem.W.typeIn K (.ref a9) = some (.type "function"))
    (ma10 : PySem.W.findIn K (.ref C_TwoStacks) "total" = some (some (.ref a10)))
    (l10 : K.lookup a10 = some ⟨oc10, od10, .func (PySem.W.fnOf "total" "TwoStacks.total" (defArgs s_TwoStacks_total) (defBody s_TwoStacks_total) (defScope s_TwoStacks_total) .none kV10 dc10 pm10 an10 cd10 ct10), sl10⟩) (c10 : PySem.W.codeIn K cd10 "TwoStacks.total" = true) (k10 : PySem.W.keepIn K (.ref a10) = true)
    (mt10 : PySem.W.isFn K (.ref a10) = true) (my10 : PySem.W.typeIn K (.ref a10) = some (.type "function"))
    (ma11 : PySem.W.findIn K (.ref C_TwoStacks) "members" = some (some (.ref a11)))
    (l11 : K.lookup a11 = some ⟨oc11, od11, .func (PySem.W.fnOf "members" "TwoStacks.members" (defArgs s_TwoStacks_members) (defBody s_TwoStacks_members) (defScope s_TwoStacks_members) .none kV11 dc11 pm11 an11 cd11 ct11), sl11⟩) (c11 : PySem.W.codeIn K cd11 "TwoStacks.members" = true) (k11 : PySem.W.keepIn K (.ref a11) = true)
    (mt11 : PySem.W.isFn K (.ref a11) = true) (my11 : PySem.W.typeIn K (.ref a11) = some (.type "function"))
    (ma12 : PySem.W.findIn K (.ref C_TwoStacks) "numbers" = some (some (.ref a12)))
    (l12 : K.lookup a12 = some ⟨oc12, od12, .func (PySem.W.fnOf "numbers" "TwoStacks.numbers" (defArgs s_TwoStacks_numbers) (defBody s_TwoStacks_numbers) (defScope s_TwoStacks_numbers) .none kV12 dc12 pm12 an12 cd12 ct12), sl12⟩) (c12 : PySem.W.codeIn K cd12 "TwoStacks.numbers" = true) (k12 : PySem.W.keepIn K (.ref a12) = true)
    (mt12 : PySem.W.isFn K (.ref a12) = true) (my12 : PySem.W.typeIn K (.ref a12) = some (.type "function"))
    (ma13 : PySem.W.findIn K (.ref C_TwoStacks) "plan_add" = some (some (.ref a13)))
    (l13 : K.lookup a13 = some ⟨oc13, od13, .func (PySem.W.fnOf "plan_add" "TwoStacks.plan_add" (defArgs s_TwoStacks_plan_add) (defBody s_TwoStacks_plan_add) (defScope s_TwoStacks_plan_add) .none kV13 dc13 pm13 an13 cd13 ct13), sl13⟩) (c13 : PySem.W.codeIn K cd13 "TwoStacks.plan_add" = true) (k13 : PySem.W.keepIn K (.ref a13) = true)
    (mt13 : PySem.W.isFn K (.ref a13) = true) (my13 : PySem.W.typeIn K (.ref a13) = some (.type "function"))
    (ma14 : PySem.W.findIn K (.ref C_TwoStacks) "plan_remove" = some (some (.ref a14)))
    (l14 : K.lookup a14 = some ⟨oc14, od14, .func (PySem.W.fnOf "plan_remove" "TwoStacks.plan_remove" (defArgs s_TwoStacks_plan_remove) (defBody s_TwoStacks_plan_remove) (defScope s_TwoStacks_plan_remove) .none kV14 dc14 pm14 an14 cd14 ct14), sl14⟩) (c14 : PySem.W.codeIn K cd14 "TwoStacks.plan_remove" = true) (k14 : PySem.W.keepIn K (.ref a14) = true)
    (mt14 : PySem.W.isFn K (.ref a14) = true) (my14 : PySem.W.typeIn K (.ref a14) = some (.type "function"))
    (ma15 : PySem.W.findIn K (.ref C_TwoStacks) "plan_total" = some (some (.ref a15)))
    (l15 : K.lookup a15 = some ⟨oc15, od15, .func (PySem.W.fnOf "plan_total" "TwoStacks.plan_total" (defArgs s_TwoStacks_plan_total) (defBody s_TwoStacks_plan_total) (defScope s_TwoStacks_plan_total) .none kV15 dc15 pm15 an15 cd15 ct15), sl15⟩) (c15 : PySem.W.codeIn K cd15 "TwoStacks.plan_total" = true) (k15 : PySem.W.keepIn K (.ref a15) = true)
    (mt15 : PySem.W.isFn K (.ref a15) = true) (my15 : PySem.W.typeIn K (.ref a15) = some (.type "function"))
    (ma16 : PySem.W.findIn K (.ref C_TwoStacks) "log" = some (some (.ref a16)))
    (l16 : K.lookup a16 = some ⟨oc16, od16, .func (PySem.W.fnOf "log" "TwoStacks.log" (defArgs s_TwoStacks_log) (defBody s_TwoStacks_log) (defScope s_TwoStacks_log) .none kV16 dc16 pm16 an16 cd16 ct16), sl16⟩) (c16 : PySem.W.codeIn K cd16 "TwoStacks.log" = true) (k16 : PySem.W.keepIn K (.ref a16) = true)
    (mt16 : PySem.W.isFn K (.ref a16) = true) (my16 : PySem.W.typeIn K (.ref a16) = some (.type "function"))
    (ma17 : PySem.W.findIn K (.ref C_TwoStacks) "__len__" = some (some (.ref a17)))
    (l17 : K.lookup a17 = some ⟨oc17, od17, .func (PySem.W.fnOf "__len__" "TwoStacks.__len__" (defArgs s_TwoStacks_len) (defBody s_TwoStacks_len) (defScope s_TwoStacks_len) .none kV17 dc17 pm17 an17 cd17 ct17), sl17⟩) (c17 : PySem.W.codeIn K cd17 "TwoStacks.__len__" = true) (k17 : PySem.W.keepIn K (.ref a17) = true)
    (mt17 : PySem.W.isFn K (.ref a17) = true) (my17 : PySem.W.typeIn K (.ref a17) = some (.type "function"))
    (ma18 : PySem.W.findIn K (.ref C_EvenSums) "__init__" = some (some (.ref a18)))
    (l18 : K.lookup a18 = some ⟨oc18, od18, .func (PySem.W.fnOf "__init__" "EvenSums.__init__" (defArgs s_EvenSums_init) (defBody s_EvenSums_init) (defScope s_EvenSums_init) .none (.ref kd18) dc18 pm18 an18 cd18 ct18), sl18⟩) (c18 : PySem.W.codeIn K cd18 "EvenSums.__init__" = true) (k18 : PySem.W.keepIn K (.ref a18) = true)
    (kw18_0 : PySem.W.nsIn K kd18 "zero" = some (some .none))
    (mt18 : PySem.W.isFn K (.ref a18) = true) (my18 : PySem.W.typeIn K (.ref a18) = some (.type "function"))
    (ma19 : PySem.W.findIn K (.ref C_EvenSums) "add" = some (some (.ref a19)))
    (l19 : K.lookup a19 = some ⟨oc19, od19, .func (PySem.W.fnOf "add" "EvenSums.add" (defArgs s_EvenSums_add) (defBody s_EvenSums_add) (defScope s_EvenSums_add) .none kV19 dc19 pm19 an19 cd19 ct19), sl19⟩) (c19 : PySem.W.codeIn K cd19 "EvenSums.add" = true) (k19 : PySem.W.keepIn K (.ref a19) = true)
    (mt19 : PySem.W.isFn K (.ref a19) = true) (my19 : PySem.W.typeIn K (.ref a19) = some (.type "function"))
    (ma20 : PySem.W.findIn K (.ref C_EvenSums) "remove_oldest" = some (some (.ref a20)))
    (l20 : K.lookup a20 = some ⟨oc20, od20, .func (PySem.W.fnOf "remove_oldest" "EvenSums.remove_oldest" (defArgs s_EvenSums_remove_oldest) (defBody s_EvenSums_remove_oldest) (defScope s_EvenSums_remove_oldest) .none kV20 dc20 pm20 an20 cd20 ct20), sl20⟩) (c20 : PySem.W.codeIn K cd20 "EvenSums.remove_oldest" = true) (k20 : PySem.W.keepIn K (.ref a20) = true)
    (mt20 : PySem.W.isFn K (.ref a20) = true) (my20 : PySem.W.typeIn K (.ref a20) = some (.type "function"))
    (ma21 : PySem.W.findIn K (.ref C_EvenSums) "total" = some (some (.ref a21)))
    (l21 : K.lookup a21 = some ⟨oc21, od21, .func (PySem.W.fnOf "total" "EvenSums.total" (defArgs s_EvenSums_total) (defBody s_EvenSums_total) (defScope s_EvenSums_total) .none kV21 dc21 pm21 an21 cd21 ct21), sl21⟩) (c21 : PySem.W.codeIn K cd21 "EvenSums.total" = true) (k21 : PySem.W.keepIn K (.ref a21) = true)
    (mt21 : PySem.W.isFn K (.ref a21) = true) (my21 : PySem.W.typeIn K (.ref a21) = some (.type "function"))
    (ma22 : PySem.W.findIn K (.ref C_EvenSums) "members" = some (some (.ref a22)))
    (l22 : K.lookup a22 = some ⟨oc22, od22, .func (PySem.W.fnOf "members" "EvenSums.members" (defArgs s_EvenSums_members) (defBody s_EvenSums_members) (defScope s_EvenSums_members) .none kV22 dc22 pm22 an22 cd22 ct22), sl22⟩) (c22 : PySem.W.codeIn K cd22 "EvenSums.members" = true) (k22 : PySem.W.keepIn K (.ref a22) = true)
    (mt22 : PySem.W.isFn K (.ref a22) = true) (my22 : PySem.W.typeIn K (.ref a22) = some (.type "function"))
    (ma23 : PySem.W.findIn K (.ref C_EvenSums) "numbers" = some (some (.ref a23)))
    (l23 : K.lookup a23 = some ⟨oc23, od23, .func (PySem.W.fnOf "numbers" "EvenSums.numbers" (defArgs s_EvenSums_numbers) (defBody s_EvenSums_numbers) (defScope s_EvenSums_numbers) .none kV23 dc23 pm23 an23 cd23 ct23), sl23⟩) (c23 : PySem.W.codeIn K cd23 "EvenSums.numbers" = true) (k23 : PySem.W.keepIn K (.ref a23) = true)
    (mt23 : PySem.W.isFn K (.ref a23) = true) (my23 : PySem.W.typeIn K (.ref a23) = some (.type "function"))
    (ma24 : PySem.W.findIn K (.ref C_EvenSums) "plan_add" = some (some (.ref a24)))
    (l24 : K.lookup a24 = some ⟨oc24, od24, .func (PySem.W.fnOf "plan_add" "EvenSums.plan_add" (defArgs s_EvenSums_plan_add) (defBody s_EvenSums_plan_add) (defScope s_EvenSums_plan_add) .none kV24 dc24 pm24 an24 cd24 ct24), sl24⟩) (c24 : PySem.W.codeIn K cd24 "EvenSums.plan_add" = true) (k24 : PySem.W.keepIn K (.ref a24) = true)
    (mt24 : PySem.W.isFn K (.ref a24) = true) (my24 : PySem.W.typeIn K (.ref a24) = some (.type "function"))
    (ma25 : PySem.W.findIn K (.ref C_EvenSums) "plan_remove" = some (some (.ref a25)))
    (l25 : K.lookup a25 = some ⟨oc25, od25, .func (PySem.W.fnOf "plan_remove" "EvenSums.plan_remove" (defArgs s_EvenSums_plan_remove) (defBody s_EvenSums_plan_remove) (defScope s_EvenSums_plan_remove) .none kV25 dc25 pm25 an25 cd25 ct25), sl25⟩) (c25 : PySem.W.codeIn K cd25 "EvenSums.plan_remove" = true) (k25 : PySem.W.keepIn K (.ref a25) = true)
    (mt25 : PySem.W.isFn K (.ref a25) = true) (my25 : PySem.W.typeIn K (.ref a25) = some (.type "function"))
    (ma26 : PySem.W.findIn K (.ref C_EvenSums) "plan_total" = some (some (.ref a26)))
    (l26 : K.lookup a26 = some ⟨oc26, od26, .func (PySem.W.fnOf "plan_total" "EvenSums.plan_total" (defArgs s_EvenSums_plan_total) (defBody s_EvenSums_plan_total) (defScope s_EvenSums_plan_total) .none kV26 dc26 pm26 an26 cd26 ct26), sl26⟩) (c26 : PySem.W.codeIn K cd26 "EvenSums.plan_total" = true) (k26 : PySem.W.keepIn K (.ref a26) = true)
    (mt26 : PySem.W.isFn K (.ref a26) = true) (my26 : PySem.W.typeIn K (.ref a26) = some (.type "function"))
    (ma27 : PySem.W.findIn K (.ref C_EvenSums) "log" = some (some (.ref a27)))
    (l27 : K.lookup a27 = some ⟨oc27, od27, .func (PySem.W.fnOf "log" "EvenSums.log" (defArgs s_EvenSums_log) (defBody s_EvenSums_log) (defScope s_EvenSums_log) .none kV27 dc27 pm27 an27 cd27 ct27), sl27⟩) (c27 : PySem.W.codeIn K cd27 "EvenSums.log" = true) (k27 : PySem.W.keepIn K (.ref a27) = true)
    (mt27 : PySem.W.isFn K (.ref a27) = true) (my27 : PySem.W.typeIn K (.ref a27) = some (.type "function"))
    (ma28 : PySem.W.findIn K (.ref C_EvenSums) "__len__" = some (some (.ref a28)))
    (l28 : K.lookup a28 = some ⟨oc28, od28, .func (PySem.W.fnOf "__len__" "EvenSums.__len__" (defArgs s_EvenSums_len) (defBody s_EvenSums_len) (defScope s_EvenSums_len) .none kV28 dc28 pm28 an28 cd28 ct28), sl28⟩) (c28 : PySem.W.codeIn K cd28 "EvenSums.__len__" = true) (k28 : PySem.W.keepIn K (.ref a28) = true)
    (mt28 : PySem.W.isFn K (.ref a28) = true) (my28 : PySem.W.typeIn K (.ref a28) = some (.type "function"))
    (ma29 : PySem.W.findIn K (.ref C_Shape) "__init__" = some (some (.ref a29)))
    (l29 : K.lookup a29 = some ⟨oc29, od29, .func (PySem.W.fnOf "__init__" "Shape.__init__" (defArgs s_Shape_init) (defBody s_Shape_init) (defScope s_Shape_init) .none kV29 dc29 pm29 an29 cd29 ct29), sl29⟩) (c29 : PySem.W.codeIn K cd29 "Shape.__init__" = true) (k29 : PySem.W.keepIn K (.ref a29) = true)
    (mt29 : PySem.W.isFn K (.ref a29) = true) (my29 : PySem.W.typeIn K (.ref a29) = some (.type "function"))
    (ga30 : PySem.W.nsIn K mainGlobals "check_filled" = some (some (.ref a30)))
    (l30 : K.lookup a30 = some ⟨oc30, od30, .func (PySem.W.fnOf "check_filled" "check_filled" (defArgs s_check_filled) (defBody s_check_filled) (defScope s_check_filled) .none kV30 dc30 pm30 an30 cd30 ct30), sl30⟩) (c30 : PySem.W.codeIn K cd30 "check_filled" = true) (k30 : PySem.W.keepIn K (.ref a30) = true)
    (ga31 : PySem.W.nsIn K mainGlobals "oldest" = some (some (.ref a31)))
    (l31 : K.lookup a31 = some ⟨oc31, od31, .func (PySem.W.fnOf "oldest" "oldest" (defArgs s_oldest) (defBody s_oldest) (defScope s_oldest) .none kV31 dc31 pm31 an31 cd31 ct31), sl31⟩) (c31 : PySem.W.codeIn K cd31 "oldest" = true) (k31 : PySem.W.keepIn K (.ref a31) = true)
    (ga32 : PySem.W.nsIn K mainGlobals "without" = some (some (.ref a32)))
    (l32 : K.lookup a32 = some ⟨oc32, od32, .func (PySem.W.fnOf "without" "without" (defArgs s_without) (defBody s_without) (defScope s_without) .none kV32 dc32 pm32 an32 cd32 ct32), sl32⟩) (c32 : PySem.W.codeIn K cd32 "without" = true) (k32 : PySem.W.keepIn K (.ref a32) = true)
    (ga33 : PySem.W.nsIn K mainGlobals "join_entry" = some (some (.ref a33)))
    (l33 : K.lookup a33 = some ⟨oc33, od33, .func (PySem.W.fnOf "join_entry" "join_entry" (defArgs s_join_entry) (defBody s_join_entry) (defScope s_join_entry) .none kV33 dc33 pm33 an33 cd33 ct33), sl33⟩) (c33 : PySem.W.codeIn K cd33 "join_entry" = true) (k33 : PySem.W.keepIn K (.ref a33) = true)
    (ga34 : PySem.W.nsIn K mainGlobals "single" = some (some (.ref a34)))
    (l34 : K.lookup a34 = some ⟨oc34, od34, .func (PySem.W.fnOf "single" "single" (defArgs s_single) (defBody s_single) (defScope s_single) .none kV34 dc34 pm34 an34 cd34 ct34), sl34⟩) (c34 : PySem.W.codeIn K cd34 "single" = true) (k34 : PySem.W.keepIn K (.ref a34) = true)
    (ga35 : PySem.W.nsIn K mainGlobals "span_length" = some (some (.ref a35)))
    (l35 : K.lookup a35 = some ⟨oc35, od35, .func (PySem.W.fnOf "span_length" "span_length" (defArgs s_span_length) (defBody s_span_length) (defScope s_span_length) .none kV35 dc35 pm35 an35 cd35 ct35), sl35⟩) (c35 : PySem.W.codeIn K cd35 "span_length" = true) (k35 : PySem.W.keepIn K (.ref a35) = true)
    (ga36 : PySem.W.nsIn K mainGlobals "extended" = some (some (.ref a36)))
    (l36 : K.lookup a36 = some ⟨oc36, od36, .func (PySem.W.fnOf "extended" "extended" (defArgs s_extended) (defBody s_extended) (defScope s_extended) .none kV36 dc36 pm36 an36 cd36 ct36), sl36⟩) (c36 : PySem.W.codeIn K cd36 "extended" = true) (k36 : PySem.W.keepIn K (.ref a36) = true)
    (ga37 : PySem.W.nsIn K mainGlobals "deepened" = some (some (.ref a37)))
    (l37 : K.lookup a37 = some ⟨oc37, od37, .func (PySem.W.fnOf "deepened" "deepened" (defArgs s_deepened) (defBody s_deepened) (defScope s_deepened) .none kV37 dc37 pm37 an37 cd37 ct37), sl37⟩) (c37 : PySem.W.codeIn K cd37 "deepened" = true) (k37 : PySem.W.keepIn K (.ref a37) = true)
    (ga38 : PySem.W.nsIn K mainGlobals "all_spans" = some (some (.ref a38)))
    (l38 : K.lookup a38 = some ⟨oc38, od38, .func (PySem.W.fnOf "all_spans" "all_spans" (defArgs s_all_spans) (defBody s_all_spans) (defScope s_all_spans) .none kV38 dc38 pm38 an38 cd38 ct38), sl38⟩) (c38 : PySem.W.codeIn K cd38 "all_spans" = true) (k38 : PySem.W.keepIn K (.ref a38) = true)
    (ga39 : PySem.W.nsIn K mainGlobals "whole_span" = some (some (.ref a39)))
    (l39 : K.lookup a39 = some ⟨oc39, od39, .func (PySem.W.fnOf "whole_span" "whole_span" (defArgs s_whole_span) (defBody s_whole_span) (defScope s_whole_span) .none kV39 dc39 pm39 an39 cd39 ct39), sl39⟩) (c39 : PySem.W.codeIn K cd39 "whole_span" = true) (k39 : PySem.W.keepIn K (.ref a39) = true)
    (ga40 : PySem.W.nsIn K mainGlobals "shape_after_addition" = some (some (.ref a40)))
    (l40 : K.lookup a40 = some ⟨oc40, od40, .func (PySem.W.fnOf "shape_after_addition" "shape_after_addition" (defArgs s_shape_after_addition) (defBody s_shape_after_addition) (defScope s_shape_after_addition) .none kV40 dc40 pm40 an40 cd40 ct40), sl40⟩) (c40 : PySem.W.codeIn K cd40 "shape_after_addition" = true) (k40 : PySem.W.keepIn K (.ref a40) = true)
    (ga41 : PySem.W.nsIn K mainGlobals "shape_after_removal" = some (some (.ref a41)))
    (l41 : K.lookup a41 = some ⟨oc41, od41, .func (PySem.W.fnOf "shape_after_removal" "shape_after_removal" (defArgs s_shape_after_removal) (defBody s_shape_after_removal) (defScope s_shape_after_removal) .none kV41 dc41 pm41 an41 cd41 ct41), sl41⟩) (c41 : PySem.W.codeIn K cd41 "shape_after_removal" = true) (k41 : PySem.W.keepIn K (.ref a41) = true)
    (ga42 : PySem.W.nsIn K mainGlobals "worked_shape" = some (some (.ref a42)))
    (l42 : K.lookup a42 = some ⟨oc42, od42, .func (PySem.W.fnOf "worked_shape" "worked_shape" (defArgs s_worked_shape) (defBody s_worked_shape) (defScope s_worked_shape) .none kV42 dc42 pm42 an42 cd42 ct42), sl42⟩) (c42 : PySem.W.codeIn K cd42 "worked_shape" = true) (k42 : PySem.W.keepIn K (.ref a42) = true)
    (ga43 : PySem.W.nsIn K mainGlobals "reaches" = some (some (.ref a43)))
    (l43 : K.lookup a43 = some ⟨oc43, od43, .func (PySem.W.fnOf "reaches" "reaches" (defArgs s_reaches) (defBody s_reaches) (defScope s_reaches) .none kV43 dc43 pm43 an43 cd43 ct43), sl43⟩) (c43 : PySem.W.codeIn K cd43 "reaches" = true) (k43 : PySem.W.keepIn K (.ref a43) = true)
    (ga44 : PySem.W.nsIn K mainGlobals "shape_spans" = some (some (.ref a44)))
    (l44 : K.lookup a44 = some ⟨oc44, od44, .func (PySem.W.fnOf "shape_spans" "shape_spans" (defArgs s_shape_spans) (defBody s_shape_spans) (defScope s_shape_spans) .none kV44 dc44 pm44 an44 cd44 ct44), sl44⟩) (c44 : PySem.W.codeIn K cd44 "shape_spans" = true) (k44 : PySem.W.keepIn K (.ref a44) = true)
    (ga45 : PySem.W.nsIn K mainGlobals "filled_spans" = some (some (.ref a45)))
    (l45 : K.lookup a45 = some ⟨oc45, od45, .func (PySem.W.fnOf "filled_spans" "filled_spans" (defArgs s_filled_spans) (defBody s_filled_spans) (defScope s_filled_spans) .none kV45 dc45 pm45 an45 cd45 ct45), sl45⟩) (c45 : PySem.W.codeIn K cd45 "filled_spans" = true) (k45 : PySem.W.keepIn K (.ref a45) = true)
    (ga46 : PySem.W.nsIn K mainGlobals "_law_bag" = some (some (.ref a46)))
    (l46 : K.lookup a46 = some ⟨oc46, od46, .func (PySem.W.fnOf "_law_bag" "_law_bag" (defArgs s_l_bag) (defBody s_l_bag) (defScope s_l_bag) .none kV46 dc46 pm46 an46 cd46 ct46), sl46⟩) (c46 : PySem.W.codeIn K cd46 "_law_bag" = true) (k46 : PySem.W.keepIn K (.ref a46) = true)
    (ga47 : PySem.W.nsIn K mainGlobals "_law_take" = some (some (.ref a47)))
    (l47 : K.lookup a47 = some ⟨oc47, od47, .func (PySem.W.fnOf "_law_take" "_law_take" (defArgs s_l_take) (defBody s_l_take) (defScope s_l_take) .none kV47 dc47 pm47 an47 cd47 ct47), sl47⟩) (c47 : PySem.W.codeIn K cd47 "_law_take" = true) (k47 : PySem.W.keepIn K (.ref a47) = true)
    (ga48 : PySem.W.nsIn K mainGlobals "_law_queue" = some (some (.ref a48)))
    (l48 : K.lookup a48 = some ⟨oc48, od48, .func (PySem.W.fnOf "_law_queue" "_law_queue" (defArgs s_l_queue) (defBody s_l_queue) (defScope s_l_queue) .none kV48 dc48 pm48 an48 cd48 ct48), sl48⟩) (c48 : PySem.W.codeIn K cd48 "_law_queue" = true) (k48 : PySem.W.keepIn K (.ref a48) = true)
    (ga49 : PySem.W.nsIn K mainGlobals "_law_empty" = some (some (.ref a49)))
    (l49 : K.lookup a49 = some ⟨oc49, od49, .func (PySem.W.fnOf "_law_empty" "_law_empty" (defArgs s_l_empty) (defBody s_l_empty) (defScope s_l_empty) .none kV49 dc49 pm49 an49 cd49 ct49), sl49⟩) (c49 : PySem.W.codeIn K cd49 "_law_empty" = true) (k49 : PySem.W.keepIn K (.ref a49) = true)
    (ga50 : PySem.W.nsIn K mainGlobals "_law_bare_right" = some (some (.ref a50)))
    (l50 : K.lookup a50 = some ⟨oc50, od50, .func (PySem.W.fnOf "_law_bare_right" "_law_bare_right" (defArgs s_l_bare_right) (defBody s_l_bare_right) (defScope s_l_bare_right) .none kV50 dc50 pm50 an50 (.ref cc50) ct50), sl50⟩) (c50 : PySem.W.codeIn K (.ref cc50) "_law_bare_right" = true) (k50 : PySem.W.keepIn K (.ref a50) = true)
    (tl50 : K.lookup cc50 = some ⟨lo50, ld50, .fields lv50, ls50⟩) (tp50 : lv50[11]? = some (.ref pp50)) (tn50 : K.lookup pp50 = none) (tr50 : (PyProof.Rows.recsOf QQ).any (fun d => d.name == "_law_bare_right") = true)
    (ga51 : PySem.W.nsIn K mainGlobals "law" = some (some (.ref a51)))
    (l51 : K.lookup a51 = some ⟨oc51, od51, .func (PySem.W.fnOf "law" "law" (defArgs s_law) (defBody s_law) (defScope s_law) .none kV51 dc51 pm51 an51 (.ref cc51) ct51), sl51⟩) (c51 : PySem.W.codeIn K (.ref cc51) "law" = true) (k51 : PySem.W.keepIn K (.ref a51) = true)
    (tl51 : K.lookup cc51 = some ⟨lo51, ld51, .fields lv51, ls51⟩) (tp51 : lv51[11]? = some (.ref pp51)) (tn51 : K.lookup pp51 = none) (tr51 : (PyProof.Rows.recsOf QQ).any (fun d => d.name == "law") = true)
    (pne50_51 : pp50 ≠ pp51)
    (z_IndexError : PySem.W.nsIn K mainGlobals "IndexError" = some none)
    (z_abs : PySem.W.nsIn K mainGlobals "abs" = some none)
    (z_enumerate : PySem.W.nsIn K mainGlobals "enumerate" = some none)
    (z_isinstance : PySem.W.nsIn K mainGlobals "isinstance" = some none)
    (z_iter : PySem.W.nsIn K mainGlobals "iter" = some none)
    (z_len : PySem.W.nsIn K mainGlobals "len" = some none)
    (z_list : PySem.W.nsIn K mainGlobals "list" = some none)
    (z_max : PySem.W.nsIn K mainGlobals "max" = some none)
    (z_min : PySem.W.nsIn K mainGlobals "min" = some none)
    (z_next : PySem.W.nsIn K mainGlobals "next" = some none)
    (z_range : PySem.W.nsIn K mainGlobals "range" = some none)
    (z_reversed : PySem.W.nsIn K mainGlobals "reversed" = some none)
    (z_sum : PySem.W.nsIn K mainGlobals "sum" = some none)
    (pg_Calls : PySem.W.plainGet K C_Calls Str.empty = true)
    (hd_Calls : PySem.W.hasDictIn K C_Calls = true)
    (po_Calls : PySem.W.plainOver K C_Calls = true)
    (sa_Calls : PySem.W.findIn K (.ref C_Calls) "__setattr__" = some (some (.builtin "object.__setattr__")))
    (mk_Calls : PySem.W.makesIn K C_Calls = true)
    (kp_Calls : PySem.W.keepIn K (.ref C_Calls) = true)
    (n_Calls_entries : PySem.W.findIn K (.ref C_Calls) "entries" = some none)
    (n_Calls_running : PySem.W.findIn K (.ref C_Calls) "running" = some none)
    (pg_Joiner : PySem.W.plainGet K C_Joiner Str.empty = true)
    (hd_Joiner : PySem.W.hasDictIn K C_Joiner = true)
    (po_Joiner : PySem.W.plainOver K C_Joiner = true)
    (sa_Joiner : PySem.W.findIn K (.ref C_Joiner) "__setattr__" = some (some (.builtin "object.__setattr__")))
    (mk_Joiner : PySem.W.makesIn K C_Joiner = true)
    (kp_Joiner : PySem.W.keepIn K (.ref C_Joiner) = true)
    (n_Joiner_calls : PySem.W.findIn K (.ref C_Joiner) "calls" = some none)
    (n_Joiner_join_call : PySem.W.findIn K (.ref C_Joiner) "join_call" = some none)
    (pg_Planner : PySem.W.plainGet K C_Planner Str.empty = true)
    (hd_Planner : PySem.W.hasDictIn K C_Planner = true)
    (po_Planner : PySem.W.plainOver K C_Planner = true)
    (sa_Planner : PySem.W.findIn K (.ref C_Planner) "__setattr__" = some (some (.builtin "object.__setattr__")))
    (mk_Planner : PySem.W.makesIn K C_Planner = true)
    (kp_Planner : PySem.W.keepIn K (.ref C_Planner) = true)
    (n_Planner_entries : PySem.W.findIn K (.ref C_Planner) "entries" = some none)
    (pg_EvenSums : PySem.W.plainGet K C_EvenSums Str.empty = true)
    (hd_EvenSums : PySem.W.hasDictIn K C_EvenSums = true)
    (po_EvenSums : PySem.W.plainOver K C_EvenSums = true)
    (sa_EvenSums : PySem.W.findIn K (.ref C_EvenSums) "__setattr__" = some (some (.builtin "object.__setattr__")))
    (mk_EvenSums : PySem.W.makesIn K C_EvenSums = true)
    (kp_EvenSums : PySem.W.keepIn K (.ref C_EvenSums) = true)
    (n_EvenSums_calls : PySem.W.findIn K (.ref C_EvenSums) "calls" = some none)
    (n_EvenSums_joiner : PySem.W.findIn K (.ref C_EvenSums) "joiner" = some none)
    (n_EvenSums_zero : PySem.W.findIn K (.ref C_EvenSums) "zero" = some none)
    (n_EvenSums_given : PySem.W.findIn K (.ref C_EvenSums) "given" = some none)
    (n_EvenSums_held : PySem.W.findIn K (.ref C_EvenSums) "held" = some none)
    (n_EvenSums_shape : PySem.W.findIn K (.ref C_EvenSums) "shape" = some none)
    (pg_Shape : PySem.W.plainGet K C_Shape Str.empty = true)
    (hd_Shape : PySem.W.hasDictIn K C_Shape = true)
    (po_Shape : PySem.W.plainOver K C_Shape = true)
    (sa_Shape : PySem.W.findIn K (.ref C_Shape) "__setattr__" = some (some (.builtin "object.__setattr__")))
    (mk_Shape : PySem.W.makesIn K C_Shape = true)
    (kp_Shape : PySem.W.keepIn K (.ref C_Shape) = true)
    (n_Shape_front : PySem.W.findIn K (.ref C_Shape) "front" = some none)
    (n_Shape_back : PySem.W.findIn K (.ref C_Shape) "back" = some none)
    (n_Shape_late : PySem.W.findIn K (.ref C_Shape) "late" = some none)
    (n_Shape_renewed : PySem.W.findIn K (.ref C_Shape) "renewed" = some none)
    (pg_TwoStacks : PySem.W.plainGet K C_TwoStacks Str.empty = true)
    (hd_TwoStacks : PySem.W.hasDictIn K C_TwoStacks = true)
    (po_TwoStacks : PySem.W.plainOver K C_TwoStacks = true)
    (sa_TwoStacks : PySem.W.findIn K (.ref C_TwoStacks) "__setattr__" = some (some (.builtin "object.__setattr__")))
    (mk_TwoStacks : PySem.W.makesIn K C_TwoStacks = true)
    (kp_TwoStacks : PySem.W.keepIn K (.ref C_TwoStacks) = true)
    (n_TwoStacks_calls : PySem.W.findIn K (.ref C_TwoStacks) "calls" = some none)
    (n_TwoStacks_joiner : PySem.W.findIn K (.ref C_TwoStacks) "joiner" = some none)
    (n_TwoStacks_zero : PySem.W.findIn K (.ref C_TwoStacks) "zero" = some none)
    (n_TwoStacks_given : PySem.W.findIn K (.ref C_TwoStacks) "given" = some none)
    (n_TwoStacks_held : PySem.W.findIn K (.ref C_TwoStacks) "held" = some none)
    (n_TwoStacks_front : PySem.W.findIn K (.ref C_TwoStacks) "front" = some none)
    (n_TwoStacks_back : PySem.W.findIn K (.ref C_TwoStacks) "back" = some none)
    (gc_Empty : PySem.W.nsIn K mainGlobals "Empty" = some (some (.ref C_Empty)))
    (gc_Busy : PySem.W.nsIn K mainGlobals "Busy" = some (some (.ref C_Busy)))
    (gc_NoMember : PySem.W.nsIn K mainGlobals "NoMember" = some (some (.ref C_NoMember)))
    (gc_NotTorn : PySem.W.nsIn K mainGlobals "NotTorn" = some (some (.ref C_NotTorn)))
    (gc_OnceError : PySem.W.nsIn K mainGlobals "OnceError" = some (some (.ref C_OnceError)))
    (gc_Torn : PySem.W.nsIn K mainGlobals "Torn" = some (some (.ref C_Torn)))
    (xE : PySem.W.excIn K C_Empty [.type "IndexError", .type "LookupError", .type "Exception", .type "BaseException", .type "object"] "IndexError.__new__" = true)
    (kE : PySem.W.keepIn K (.ref C_Empty) = true)
    (bE : PySem.W.subIn K (.ref C_Empty) (.type "BaseException") = some true)
    (tE : PySem.W.typeIn K (.ref C_Empty) = some (.type "type"))
    (sE : PySem.W.subIn K (.ref C_Empty) (.ref C_Empty) = some true)
    (i1 : PySem.W.findIn K (.ref C_Empty) "__getattribute__" = some (some (.builtin "BaseException.__getattribute__")))
    (i2 : PySem.W.findIn K (.ref C_Empty) "__getattr__" = some none)
    (i4 : PySem.W.hasDictIn K C_Empty = true)
    (i5 : PySem.W.findIn K (.ref C_Empty) "__class__" = some (some (.builtin "object.__class__")))
    (i6 : PySem.W.specialIn K (.builtin "object.__class__") "__get__" = some (some (.builtin "getset_descriptor.__get__")))
    (i7 : PySem.W.takesIn K (.builtin "object.__class__") = some true)
    (i8 : PySem.W.mroIn K C_Empty (.type "object") = some true)
    (k1E : PySem.W.kitOne K (.ref C_Empty) (.type "IndexError") = some true)
    (ci_Busy : PySem.W.isClsIn K C_Busy = true)
    (ct_Busy : PySem.W.typeIn K (.ref C_Busy) = some (.type "type"))
    (cs_Busy : PySem.W.subIn K (.ref C_Empty) (.ref C_Busy) = some false)
    (ci_NoMember : PySem.W.isClsIn K C_NoMember = true)
    (ct_NoMember : PySem.W.typeIn K (.ref C_NoMember) = some (.type "type"))
    (cs_NoMember : PySem.W.subIn K (.ref C_Empty) (.ref C_NoMember) = some false)
    (ci_NotTorn : PySem.W.isClsIn K C_NotTorn = true)
    (ct_NotTorn : PySem.W.typeIn K (.ref C_NotTorn) = some (.type "type"))
    (cs_NotTorn : PySem.W.subIn K (.ref C_Empty) (.ref C_NotTorn) = some false)
    (ci_OnceError : PySem.W.isClsIn K C_OnceError = true)
    (ct_OnceError : PySem.W.typeIn K (.ref C_OnceError) = some (.type "type"))
    (cs_OnceError : PySem.W.subIn K (.ref C_Empty) (.ref C_OnceError) = some false)
    (ci_Torn : PySem.W.isClsIn K C_Torn = true)
    (ct_Torn : PySem.W.typeIn K (.ref C_Torn) = some (.type "type"))
    (cs_Torn : PySem.W.subIn K (.ref C_Empty) (.ref C_Torn) = some false) : Inf.LawAtG l w K CX0 40 63 "_law_script" mg fa h := by
  have e := hfa.symm.trans (PySem.W.mg_of X G ga51)
  cases e
  have F0 := fun_mk (st := s_Calls_init) l0 c0 k0
  have F1 := fun_mk (st := s_Calls_check) l1 c1 k1
  have F2 := fun_mk (st := s_Calls_run) l2 c2 k2
  have F3 := fun_mk (st := s_Joiner_init) l3 c3 k3
  have F4 := fun_mk (st := s_Joiner_joined) l4 c4 k4
  have F5 := fun_mk (st := s_Planner_init) l5 c5 k5
  have F6 := fun_mk (st := s_Planner_joined) l6 c6 k6
  have F7 : FunD K "__init__" "TwoStacks.__init__" (defArgs s_TwoStacks_init) (defBody s_TwoStacks_init) (defScope s_TwoStacks_init) [] [("zero", V.non)] a7 _ := ⟨⟨_, _, _, _, _, _, _, _, _, _, rfl, l7, c7, .inl ⟨rfl, rfl⟩, .inr ⟨kd7, rfl, fun q hq => by
      rcases List.mem_singleton.mp hq with rfl
      exact ⟨_, kw7_0, rfl⟩⟩⟩, k7⟩
  have F8 := fun_mk (st := s_TwoStacks_add) l8 c8 k8
  have F9 := fun_mk (st := s_TwoStacks_remove_oldest) l9 c9 k9
  have F10 := fun_mk (st := s_TwoStacks_total) l10 c10 k10
  have F11 := fun_mk (st := s_TwoStacks_members) l11 c11 k11
  have F12 := fun_mk (st := s_TwoStacks_numbers) l12 c12 k12
  have F13 := fun_mk (st := s_TwoStacks_plan_add) l13 c13 k13
  have F14 := fun_mk (st := s_TwoStacks_plan_remove) l14 c14 k14
  have F15 := fun_mk (st := s_TwoStacks_plan_total) l15 c15 k15
  have F16 := fun_mk (st := s_TwoStacks_log) l16 c16 k16
  have F17 := fun_mk (st := s_TwoStacks_len) l17 c17 k17
  have F18 : FunD K "__init__" "EvenSums.__init__" (defArgs s_EvenSums_init) (defBody s_EvenSums_init) (defScope s_EvenSums_init) [] [("zero", V.non)] a18 _ := ⟨⟨_, _, _, _, _, _, _, _, _, _, rfl, l18, c18, .inl ⟨rfl, rfl⟩, .inr ⟨kd18, rfl, fun q hq => by
      rcases List.mem_singleton.mp hq with rfl
      exact ⟨_, kw18_0, rfl⟩⟩⟩, k18⟩
  have F19 := fun_mk (st := s_EvenSums_add) l19 c19 k19
  have F20 := fun_mk (st := s_EvenSums_remove_oldest) l20 c20 k20
  have F21 := fun_mk (st := s_EvenSums_total) l21 c21 k21
  have F22 := fun_mk (st := s_EvenSums_members) l22 c22 k22
  have F23 := fun_mk (st := s_EvenSums_numbers) l23 c23 k23
  have F24 := fun_mk (st := s_EvenSums_plan_add) l24 c24 k24
  have F25 := fun_mk (st := s_EvenSums_plan_remove) l25 c25 k25
  have F26 := fun_mk (st := s_EvenSums_plan_total) l26 c26 k26
  have F27 := fun_mk (st := s_EvenSums_log) l27 c27 k27
  have F28 := fun_mk (st := s_EvenSums_len) l28 c28 k28
  have F29 := fun_mk (st := s_Shape_init) l29 c29 k29
  have F30 := fun_mk (st := s_check_filled) l30 c30 k30
  have F31 := fun_mk (st := s_oldest) l31 c31 k31
  have F32 := fun_mk (st := s_without) l32 c32 k32
  have F33 := fun_mk (st := s_join_entry) l33 c33 k33
  have F34 := fun_mk (st := s_single) l34 c34 k34
  have F35 := fun_mk (st := s_span_length) l35 c35 k35
  have F36 := fun_mk (st := s_extended) l36 c36 k36
  have F37 := fun_mk (st := s_deepened) l37 c37 k37
  have F38 := fun_mk (st := s_all_spans) l38 c38 k38
  have F39 := fun_mk (st := s_whole_span) l39 c39 k39
  have F40 := fun_mk (st := s_shape_after_addition) l40 c40 k40
  have F41 := fun_mk (st := s_shape_after_removal) l41 c41 k41
  have F42 := fun_mk (st := s_worked_shape) l42 c42 k42
  have F43 := fun_mk (st := s_reaches) l43 c43 k43
  have F44 := fun_mk (st := s_shape_spans) l44 c44 k44
  have F45 := fun_mk (st := s_filled_spans) l45 c45 k45
  have F46 := fun_mk (st := s_l_bag) l46 c46 k46
  have F47 := fun_mk (st := s_l_take) l47 c47 k47
  have F48 := fun_mk (st := s_l_queue) l48 c48 k48
  have F49 := fun_mk (st := s_l_empty) l49 c49 k49
  have F50 : FunT K "_law_bare_right" "_law_bare_right" s_l_bare_right a50 _ cc50 := ⟨⟨_, _, _, _, _, _, _, _, rfl, l50, c50⟩, k50⟩
  have B50 : Binds K _ ["_law_queue_here", "_law_empty_here", "_law_log"] [] := .all (fd := PySem.W.fnOf "_law_bare_right" "_law_bare_right" (defArgs s_l_bare_right) (defBody s_l_bare_right) (defScope s_l_bare_right) .none kV50 dc50 pm50 an50 (.ref cc50) ct50) fun us hl => match us, hl with | [_, _, _], _ => rfl
  have F51 : FunT K "law" "law" s_law fa _ cc51 := ⟨⟨_, _, _, _, _, _, _, _, rfl, l51, c51⟩, k51⟩
  have B51 : Binds K _ ["_law_script"] [] := .all (fd := PySem.W.fnOf "law" "law" (defArgs s_law) (defBody s_law) (defScope s_law) .none kV51 dc51 pm51 an51 (.ref cc51) ct51) fun us hl => match us, hl with | [_], _ => rfl
  have T50 := tt "_law_bare_right" a50 cc50 pp50 _ _ _ _ _ _ tr50 (PySem.W.mg_of X G ga50) l50 rfl rfl tl50 tp50
  have T51 := tt "law" fa cc51 pp51 _ _ _ _ _ _ tr51 hfa l51 rfl rfl tl51 tp51
  let T : Txt K mg := {
    C_Calls := C_Calls,
    gc_Calls := PySem.W.mg_of X G gc_Calls,
    C_Joiner := C_Joiner,
    gc_Joiner := PySem.W.mg_of X G gc_Joiner,
    C_Planner := C_Planner,
    gc_Planner := PySem.W.mg_of X G gc_Planner,
    C_EvenSums := C_EvenSums,
    gc_EvenSums := PySem.W.mg_of X G gc_EvenSums,
    C_Shape := C_Shape,
    gc_Shape := PySem.W.mg_of X G gc_Shape,
    C_TwoStacks := C_TwoStacks,
    gc_TwoStacks := PySem.W.mg_of X G gc_TwoStacks,
    f_Calls_init := a0,
    d_Calls_init := _,
    F_Calls_init := F0,
    b_Calls_init := (F0.binds (ps := ["self"]) fun _ _ _ _ _ _ us hl => match us, hl with | [_], _ => rfl),
    m_Calls_init := ma0,
    t_Calls_init := mt0,
    y_Calls_init := my0,
    k_Calls_init := k0,
    f_Calls_check := a1,
    d_Calls_check := _,
    F_Calls_check := F1,
    b_Calls_check := (F1.binds (ps := ["self"]) fun _ _ _ _ _ _ us hl => match us, hl with | [_], _ => rfl),
    m_Calls_check := ma1,
    t_Calls_check := mt1,
    y_Calls_check := my1,
    k_Calls_check := k1,
    f_Calls_run := a2,
    d_Calls_run := _,
    F_Calls_run := F2,
    m_Calls_run := ma2,
    t_Calls_run := mt2,
    y_Calls_run := my2,
    k_Calls_run := k2,
    f_Joiner_init := a3,
    d_Joiner_init := _,
    F_Joiner_init := F3,
    b_Joiner_init := (F3.binds (ps := ["self", "calls", "join"]) fun _ _ _ _ _ _ us hl => match us, hl with | [_, _, _], _ => rfl),
    m_Joiner_init := ma3,
    t_Joiner_init := mt3,
    y_Joiner_init := my3,
    k_Joiner_init := k3,
    f_Joiner_joined := a4,
    d_Joiner_joined := _,
    F_Joiner_joined := F4,
    b_Joiner_joined := (F4.binds (ps := ["self", "one", "other"]) fun _ _ _ _ _ _ us hl => match us, hl with | [_, _, _], _ => rfl),
    m_Joiner_joined := ma4,
    t_Joiner_joined := mt4,
    y_Joiner_joined := my4,
    k_Joiner_joined := k4,
    f_Planner_init := a5,
    d_Planner_init := _,
    F_Planner_init := F5,
    b_Planner_init := (F5.binds (ps := ["self"]) fun _ _ _ _ _ _ us hl => match us, hl with | [_], _ => rfl),
    m_Planner_init := ma5,
    t_Planner_init := mt5,
    y_Planner_init := my5,
    k_Planner_init := k5,
    f_Planner_joined := a6,
    d_Planner_joined := _,
    F_Planner_joined := F6,
    b_Planner_joined := (F6.binds (ps := ["self", "one", "other"]) fun _ _ _ _ _ _ us hl => match us, hl with | [_, _, _], _ => rfl),
    m_Planner_joined := ma6,
    t_Planner_joined := mt6,
    y_Planner_joined := my6,
    k_Planner_joined := k6,
    f_TwoStacks_init := a7,
    d_TwoStacks_init := _,
    F_TwoStacks_init := F7,
    m_TwoStacks_init := ma7,
    t_TwoStacks_init := mt7,
    y_TwoStacks_init := my7,
    k_TwoStacks_init := k7,
    f_TwoStacks_add := a8,
    d_TwoStacks_add := _,
    F_TwoStacks_add := F8,
    b_TwoStacks_add := (F8.binds (ps := ["self", "member"]) fun _ _ _ _ _ _ us hl => match us, hl with | [_, _], _ => rfl),
    m_TwoStacks_add := ma8,
    t_TwoStacks_add := mt8,
    y_TwoStacks_add := my8,
    k_TwoStacks_add := k8,
    f_TwoStacks_remove_oldest := a9,
    d_TwoStacks_remove_oldest := _,
    F_TwoStacks_remove_oldest := F9,
    b_TwoStacks_remove_oldest := (F9.binds (ps := ["self"]) fun _ _ _ _ _ _ us hl => match us, hl with | [_], _ => rfl),
    m_TwoStacks_remove_oldest := ma9,
    t_TwoStacks_remove_oldest := mt9,
    y_TwoStacks_remove_oldest := my9,
    k_TwoStacks_remove_oldest := k9,
    f_TwoStacks_total := a10,
    d_TwoStacks_total := _,
    F_TwoStacks_total := F10,
    b_TwoStacks_total := (F10.binds (ps := ["self"]) fun _ _ _ _ _ _ us hl => match us, hl with | [_], _ => rfl),
    m_TwoStacks_total := ma10,
    t_TwoStacks_total := mt10,
    y_TwoStacks_total := my10,
    k_TwoStacks_total := k10,
    f_TwoStacks_members := a11,
    d_TwoStacks_members := _,
    F_TwoStacks_members := F11,
    b_TwoStacks_members := (F11.binds (ps := ["self"]) fun _ _ _ _ _ _ us hl => match us, hl with | [_], _ => rfl),
    m_TwoStacks_members := ma11,
    t_TwoStacks_members := mt11,
    y_TwoStacks_members := my11,
    k_TwoStacks_members := k11,
    f_TwoStacks_numbers := a12,
    d_TwoStacks_numbers := _,
    F_TwoStacks_numbers := F12,
    b_TwoStacks_numbers := (F12.binds (ps := ["self"]) fun _ _ _ _ _ _ us hl => match us, hl with | [_], _ => rfl),
    m_TwoStacks_numbers := ma12,
    t_TwoStacks_numbers := mt12,
    y_TwoStacks_numbers := my12,
    k_TwoStacks_numbers := k12,
    f_TwoStacks_plan_add := a13,
    d_TwoStacks_plan_add := _,
    F_TwoStacks_plan_add := F13,
    b_TwoStacks_plan_add := (F13.binds (ps := ["self"]) fun _ _ _ _ _ _ us hl => match us, hl with | [_], _ => rfl),
    m_TwoStacks_plan_add := ma13,
    t_TwoStacks_plan_add := mt13,
    y_TwoStacks_plan_add := my13,
    k_TwoStacks_plan_add := k13,
    f_TwoStacks_plan_remove := a14,
    d_TwoStacks_plan_remove := _,
    F_TwoStacks_plan_remove := F14,
    b_TwoStacks_plan_remove := (F14.binds (ps := ["self"]) fun _ _ _ _ _ _ us hl => match us, hl with | [_], _ => rfl),
    m_TwoStacks_plan_remove := ma14,
    t_TwoStacks_plan_remove := mt14,
    y_TwoStacks_plan_remove := my14,
    k_TwoStacks_plan_remove := k14,
    f_TwoStacks_plan_total := a15,
    d_TwoStacks_plan_total := _,
    F_TwoStacks_plan_total := F15,
    b_TwoStacks_plan_total := (F15.binds (ps := ["self"]) fun _ _ _ _ _ _ us hl => match us, hl with | [_], _ => rfl),
    m_TwoStacks_plan_total := ma15,
    t_TwoStacks_plan_total := mt15,
    y_TwoStacks_plan_total := my15,
    k_TwoStacks_plan_total := k15,
    f_TwoStacks_log := a16,
    d_TwoStacks_log := _,
    F_TwoStacks_log := F16,
    b_TwoStacks_log := (F16.binds (ps := ["self"]) fun _ _ _ _ _ _ us hl => match us, hl with | [_], _ => rfl),
    m_TwoStacks_log := ma16,
    t_TwoStacks_log := mt16,
    y_TwoStacks_log := my16,
    k_TwoStacks_log := k16,
    f_TwoStacks_len := a17,
    d_TwoStacks_len := _,
    F_TwoStacks_len := F17,
    b_TwoStacks_len := (F17.binds (ps := ["self"]) fun _ _ _ _ _ _ us hl => match us, hl with | [_], _ => rfl),
    m_TwoStacks_len := ma17,
    t_TwoStacks_len := mt17,
    y_TwoStacks_len := my17,
    k_TwoStacks_len := k17,
    f_EvenSums_init := a18,
    d_EvenSums_init := _,
    F_EvenSums_init := F18,
    m_EvenSums_init := ma18,
    t_EvenSums_init := mt18,
    y_EvenSums_init := my18,
    k_EvenSums_init := k18,
    f_EvenSums_add := a19,
    d_EvenSums_add := _,
    F_EvenSums_add := F19,
    b_EvenSums_add := (F19.binds (ps := ["self", "member"]) fun _ _ _ _ _ _ us hl => match us, hl with | [_, _], _ => rfl),
    m_EvenSums_add := ma19,
    t_EvenSums_add := mt19,
    y_EvenSums_add := my19,
    k_EvenSums_add := k19,
    f_EvenSums_remove_oldest := a20,
    d_EvenSums_remove_oldest := _,
    F_EvenSums_remove_oldest := F20,
    b_EvenSums_remove_oldest := (F20.binds (ps := ["self"]) fun _ _ _ _ _ _ us hl => match us, hl with | [_], _ => rfl),
    m_EvenSums_remove_oldest := ma20,
    t_EvenSums_remove_oldest := mt20,
    y_EvenSums_remove_oldest := my20,
    k_EvenSums_remove_oldest := k20,
    f_EvenSums_total := a21,
    d_EvenSums_total := _,
    F_EvenSums_total := F21,
    b_EvenSums_total := (F21.binds (ps := ["self"]) fun _ _ _ _ _ _ us hl => match us, hl with | [_], _ => rfl),
    m_EvenSums_total := ma21,
    t_EvenSums_total := mt21,
    y_EvenSums_total := my21,
    k_EvenSums_total := k21,
    f_EvenSums_members := a22,
    d_EvenSums_members := _,
    F_EvenSums_members := F22,
    b_EvenSums_members := (F22.binds (ps := ["self"]) fun _ _ _ _ _ _ us hl => match us, hl with | [_], _ => rfl),
    m_EvenSums_members := ma22,
    t_EvenSums_members := mt22,
    y_EvenSums_members := my22,
    k_EvenSums_members := k22,
    f_EvenSums_numbers := a23,
    d_EvenSums_numbers := _,
    F_EvenSums_numbers := F23,
    b_EvenSums_numbers := (F23.binds (ps := ["self"]) fun _ _ _ _ _ _ us hl => match us, hl with | [_], _ => rfl),
    m_EvenSums_numbers := ma23,
    t_EvenSums_numbers := mt23,
    y_EvenSums_numbers := my23,
    k_EvenSums_numbers := k23,
    f_EvenSums_plan_add := a24,
    d_EvenSums_plan_add := _,
    F_EvenSums_plan_add := F24,
    b_EvenSums_plan_add := (F24.binds (ps := ["self"]) fun _ _ _ _ _ _ us hl => match us, hl with | [_], _ => rfl),
    m_EvenSums_plan_add := ma24,
    t_EvenSums_plan_add := mt24,
    y_EvenSums_plan_add := my24,
    k_EvenSums_plan_add := k24,
    f_EvenSums_plan_remove := a25,
    d_EvenSums_plan_remove := _,
    F_EvenSums_plan_remove := F25,
    b_EvenSums_plan_remove := (F25.binds (ps := ["self"]) fun _ _ _ _ _ _ us hl => match us, hl with | [_], _ => rfl),
    m_EvenSums_plan_remove := ma25,
    t_EvenSums_plan_remove := mt25,
    y_EvenSums_plan_remove := my25,
    k_EvenSums_plan_remove := k25,
    f_EvenSums_plan_total := a26,
    d_EvenSums_plan_total := _,
    F_EvenSums_plan_total := F26,
    b_EvenSums_plan_total := (F26.binds (ps := ["self"]) fun _ _ _ _ _ _ us hl => match us, hl with | [_], _ => rfl),
    m_EvenSums_plan_total := ma26,
    t_EvenSums_plan_total := mt26,
    y_EvenSums_plan_total := my26,
    k_EvenSums_plan_total := k26,
    f_EvenSums_log := a27,
    d_EvenSums_log := _,
    F_EvenSums_log := F27,
    b_EvenSums_log := (F27.binds (ps := ["self"]) fun _ _ _ _ _ _ us hl => match us, hl with | [_], _ => rfl),
    m_EvenSums_log := ma27,
    t_EvenSums_log := mt27,
    y_EvenSums_log := my27,
    k_EvenSums_log := k27,
    f_EvenSums_len := a28,
    d_EvenSums_len := _,
    F_EvenSums_len := F28,
    b_EvenSums_len := (F28.binds (ps := ["self"]) fun _ _ _ _ _ _ us hl => match us, hl with | [_], _ => rfl),
    m_EvenSums_len := ma28,
    t_EvenSums_len := mt28,
    y_EvenSums_len := my28,
    k_EvenSums_len := k28,
    f_Shape_init := a29,
    d_Shape_init := _,
    F_Shape_init := F29,
    b_Shape_init := (F29.binds (ps := ["self", "front", "back", "late", "renewed"]) fun _ _ _ _ _ _ us hl => match us, hl with | [_, _, _, _, _], _ => rfl),
    m_Shape_init := ma29,
    t_Shape_init := mt29,
    y_Shape_init := my29,
    k_Shape_init := k29,
    f_check_filled := a30,
    d_check_filled := _,
    F_check_filled := F30,
    b_check_filled := (F30.binds (ps := ["held"]) fun _ _ _ _ _ _ us hl => match us, hl with | [_], _ => rfl),
    g_check_filled := PySem.W.mg_of X G ga30,
    f_oldest := a31,
    d_oldest := _,
    F_oldest := F31,
    b_oldest := (F31.binds (ps := ["held"]) fun _ _ _ _ _ _ us hl => match us, hl with | [_], _ => rfl),
    g_oldest := PySem.W.mg_of X G ga31,
    f_without := a32,
    d_without := _,
    F_without := F32,
    b_without := (F32.binds (ps := ["held", "numbers"]) fun _ _ _ _ _ _ us hl => match us, hl with | [_, _], _ => rfl),
    g_without := PySem.W.mg_of X G ga32,
    f_join_entry := a33,
    d_join_entry := _,
    F_join_entry := F33,
    b_join_entry := (F33.binds (ps := ["one", "other"]) fun _ _ _ _ _ _ us hl => match us, hl with | [_, _], _ => rfl),
    g_join_entry := PySem.W.mg_of X G ga33,
    f_single := a34,
    d_single := _,
    F_single := F34,
    b_single := (F34.binds (ps := ["number", "member"]) fun _ _ _ _ _ _ us hl => match us, hl with | [_, _], _ => rfl),
    g_single := PySem.W.mg_of X G ga34,
    f_span_length := a35,
    d_span_length := _,
    F_span_length := F35,
    b_span_length := (F35.binds (ps := ["span"]) fun _ _ _ _ _ _ us hl => match us, hl with | [_], _ => rfl),
    g_span_length := PySem.W.mg_of X G ga35,
    f_extended := a36,
    d_extended := _,
    F_extended := F36,
    b_extended := (F36.binds (ps := ["joiner", "span", "number", "member"]) fun _ _ _ _ _ _ us hl => match us, hl with | [_, _, _, _], _ => rfl),
    g_extended := PySem.W.mg_of X G ga36,
    f_deepened := a37,
    d_deepened := _,
    F_deepened := F37,
    b_deepened := (F37.binds (ps := ["joiner", "spans", "number", "member"]) fun _ _ _ _ _ _ us hl => match us, hl with | [_, _, _, _], _ => rfl),
    g_deepened := PySem.W.mg_of X G ga37,
    f_all_spans := a38,
    d_all_spans := _,
    F_all_spans := F38,
    b_all_spans := (F38.binds (ps := ["joiner", "held"]) fun _ _ _ _ _ _ us hl => match us, hl with | [_, _], _ => rfl),
    g_all_spans := PySem.W.mg_of X G ga38,
    f_whole_span := a39,
    d_whole_span := _,
    F_whole_span := F39,
    b_whole_span := (F39.binds (ps := ["joiner", "spans"]) fun _ _ _ _ _ _ us hl => match us, hl with | [_, _], _ => rfl),
    g_whole_span := PySem.W.mg_of X G ga39,
    f_shape_after_addition := a40,
    d_shape_after_addition := _,
    F_shape_after_addition := F40,
    b_shape_after_addition := (F40.binds (ps := ["joiner", "shape", "held", "number"]) fun _ _ _ _ _ _ us hl => match us, hl with | [_, _, _, _], _ => rfl),
    g_shape_after_addition := PySem.W.mg_of X G ga40,
    f_shape_after_removal := a41,
    d_shape_after_removal := _,
    F_shape_after_removal := F41,
    b_shape_after_removal := (F41.binds (ps := ["joiner", "shape", "held"]) fun _ _ _ _ _ _ us hl => match us, hl with | [_, _, _], _ => rfl),
    g_shape_after_removal := PySem.W.mg_of X G ga41,
    f_worked_shape := a42,
    d_worked_shape := _,
    F_worked_shape := F42,
    b_worked_shape := (F42.binds (ps := ["joiner", "shape", "held"]) fun _ _ _ _ _ _ us hl => match us, hl with | [_, _, _], _ => rfl),
    g_worked_shape := PySem.W.mg_of X G ga42,
    f_reaches := a43,
    d_reaches := _,
    F_reaches := F43,
    b_reaches := (F43.binds (ps := ["renewed", "number"]) fun _ _ _ _ _ _ us hl => match us, hl with | [_, _], _ => rfl),
    g_reaches := PySem.W.mg_of X G ga43,
    f_shape_spans := a44,
    d_shape_spans := _,
    F_shape_spans := F44,
    b_shape_spans := (F44.binds (ps := ["shape"]) fun _ _ _ _ _ _ us hl => match us, hl with | [_], _ => rfl),
    g_shape_spans := PySem.W.mg_of X G ga44,
    f_filled_spans := a45,
    d_filled_spans := _,
    F_filled_spans := F45,
    b_filled_spans := (F45.binds (ps := ["front", "backs"]) fun _ _ _ _ _ _ us hl => match us, hl with | [_, _], _ => rfl),
    g_filled_spans := PySem.W.mg_of X G ga45,
    f_l_bag := a46,
    d_l_bag := _,
    F_l_bag := F46,
    b_l_bag := (F46.binds (ps := ["_law_script", "_law_at"]) fun _ _ _ _ _ _ us hl => match us, hl with | [_, _], _ => rfl),
    g_l_bag := PySem.W.mg_of X G ga46,
    f_l_take := a47,
    d_l_take := _,
    F_l_take := F47,
    b_l_take := (F47.binds (ps := ["_law_bag_here", "_law_many"]) fun _ _ _ _ _ _ us hl => match us, hl with | [_, _], _ => rfl),
    g_l_take := PySem.W.mg_of X G ga47,
    f_l_queue := a48,
    d_l_queue := _,
    F_l_queue := F48,
    b_l_queue := (F48.binds (ps := ["_law_form", "_law_call", "_law_empty_here"]) fun _ _ _ _ _ _ us hl => match us, hl with | [_, _, _], _ => rfl),
    g_l_queue := PySem.W.mg_of X G ga48,
    f_l_empty := a49,
    d_l_empty := _,
    F_l_empty := F49,
    b_l_empty := (F49.binds (ps := ["_law_deed"]) fun _ _ _ _ _ _ us hl => match us, hl with | [_], _ => rfl),
    g_l_empty := PySem.W.mg_of X G ga49,
    f_l_bare_right := a50,
    d_l_bare_right := _,
    c_l_bare_right := cc50,
    p_l_bare_right := pp50,
    F_l_bare_right := F50,
    b_l_bare_right := B50,
    g_l_bare_right := PySem.W.mg_of X G ga50,
    c_law := cc51,
    p_law := pp51,
    pne_l_bare_right_law := pne50_51,
    z_IndexError := PySem.W.mg_none_of X G z_IndexError,
    z_abs := PySem.W.mg_none_of X G z_abs,
    z_enumerate := PySem.W.mg_none_of X G z_enumerate,
    z_isinstance := PySem.W.mg_none_of X G z_isinstance,
    z_iter := PySem.W.mg_none_of X G z_iter,
    z_len := PySem.W.mg_none_of X G z_len,
    z_list := PySem.W.mg_none_of X G z_list,
    z_max := PySem.W.mg_none_of X G z_max,
    z_min := PySem.W.mg_none_of X G z_min,
    z_next := PySem.W.mg_none_of X G z_next,
    z_range := PySem.W.mg_none_of X G z_range,
    z_reversed := PySem.W.mg_none_of X G z_reversed,
    z_sum := PySem.W.mg_none_of X G z_sum,
    cl_Calls := ⟨pg_Calls, hd_Calls, po_Calls, sa_Calls⟩,
    mk_Calls := mk_Calls,
    kp_Calls := kp_Calls,
    n_Calls_entries := n_Calls_entries,
    n_Calls_running := n_Calls_running,
    cl_Joiner := ⟨pg_Joiner, hd_Joiner, po_Joiner, sa_Joiner⟩,
    mk_Joiner := mk_Joiner,
    kp_Joiner := kp_Joiner,
    n_Joiner_calls := n_Joiner_calls,
    n_Joiner_join_call := n_Joiner_join_call,
    cl_Planner := ⟨pg_Planner, hd_Planner, po_Planner, sa_Planner⟩,
    mk_Planner := mk_Planner,
    kp_Planner := kp_Planner,
    n_Planner_entries := n_Planner_entries,
    cl_EvenSums := ⟨pg_EvenSums, hd_EvenSums, po_EvenSums, sa_EvenSums⟩,
    mk_EvenSums := mk_EvenSums,
    kp_EvenSums := kp_EvenSums,
    n_EvenSums_calls := n_EvenSums_calls,
    n_EvenSums_joiner := n_EvenSums_joiner,
    n_EvenSums_zero := n_EvenSums_zero,
    n_EvenSums_given := n_EvenSums_given,
    n_EvenSums_held := n_EvenSums_held,
    n_EvenSums_shape := n_EvenSums_shape,
    cl_Shape := ⟨pg_Shape, hd_Shape, po_Shape, sa_Shape⟩,
    mk_Shape := mk_Shape,
    kp_Shape := kp_Shape,
    n_Shape_front := n_Shape_front,
    n_Shape_back := n_Shape_back,
    n_Shape_late := n_Shape_late,
    n_Shape_renewed := n_Shape_renewed,
    cl_TwoStacks := ⟨pg_TwoStacks, hd_TwoStacks, po_TwoStacks, sa_TwoStacks⟩,
    mk_TwoStacks := mk_TwoStacks,
    kp_TwoStacks := kp_TwoStacks,
    n_TwoStacks_calls := n_TwoStacks_calls,
    n_TwoStacks_joiner := n_TwoStacks_joiner,
    n_TwoStacks_zero := n_TwoStacks_zero,
    n_TwoStacks_given := n_TwoStacks_given,
    n_TwoStacks_held := n_TwoStacks_held,
    n_TwoStacks_front := n_TwoStacks_front,
    n_TwoStacks_back := n_TwoStacks_back,
    C_Empty := C_Empty,
    gc_Empty := PySem.W.mg_of X G gc_Empty,
    C_Busy := C_Busy,
    gc_Busy := PySem.W.mg_of X G gc_Busy,
    C_NoMember := C_NoMember,
    gc_NoMember := PySem.W.mg_of X G gc_NoMember,
    C_NotTorn := C_NotTorn,
    gc_NotTorn := PySem.W.mg_of X G gc_NotTorn,
    C_OnceError := C_OnceError,
    gc_OnceError := PySem.W.mg_of X G gc_OnceError,
    C_Torn := C_Torn,
    gc_Torn := PySem.W.mg_of X G gc_Torn,
    xE := xE,
    kE := kE,
    bE := bE,
    tE := tE,
    eE := PySem.W.exm_ref bE i4 tE sE,
    iE := ⟨i1, i2, bE, i4, i5, i6, i7, i8⟩,
    k2E := (kit_noneOf (kit_own sE ci_Busy ct_Busy cs_Busy) (kit_noneOf (kit_own sE ci_NoMember ct_NoMember cs_NoMember) (kit_noneOf (kit_own sE ci_NotTorn ct_NotTorn cs_NotTorn) (kit_noneOf (kit_own sE ci_OnceError ct_OnceError cs_OnceError) (kit_noneOf (kit_own sE ci_Torn ct_Torn cs_Torn) rfl))))),
    k1E := k1E }
  refine ⟨PySem.W.fnOf "law" "law" (defArgs s_law) (defBody s_law) (defScope s_law) .none kV51 dc51 pm51 an51 (.ref cc51) ct51, [(cc50, pp50), (cc51, pp51)], spLaw T, (all_cons T50.2 (all_cons T51.2 (fun _ z => nomatch z))), (all_cons tn50 (all_cons tn51 (fun _ z => nomatch z))), (all_cons T50.1 (all_cons T51.1 (fun _ z => nomatch z))), fun s v => .of_eq rfl, fun H a ns hl ht hS => ⟨a, ns, rfl, hS, hl, ht _ (List.mem_cons_self ..), ht _ (List.mem_cons_of_mem _ (List.mem_cons_self ..)), fun _ => rfl⟩, fun base _ _ tb => Inf.FnOkG.of (ok_law T (tb _ (List.mem_cons_self ..)) (tb _ (List.mem_cons_of_mem _ (List.mem_cons_self ..))) F51)⟩
end Ob
open PySem PySem.W PyProof.Rows
set_option maxHeartbeats 0 in
theorem PySem.Challenge.cw_oncebuilt_k66_queues_without_members_holds : PySem.Challenge.rw_oncebuilt_k66_queues_without_members.Holds := by
  w_on; o_law; k_head; (case hw => w_witness2)
  k_fill
  refine Inf.walk_topG (l := PySem.Challenge.rw_oncebuilt_k66_queues_without_members) (n := 63) (k := 40) (x := "_law_script") (YP := _) (CX := fun _ => L2.CX0) rfl (by decide) rfl ⟨rfl, by decide, by decide⟩ (fun w h Y => by first | exact PySem.W.kIn_of Y | exact PySem.W.km_in_of Y) ?F (fun _ _ _ _ _ h => h)
  case F =>
    intro w mg fa h Y KX G hmg tt
    refine' Ob.all_mk KX G hmg tt ?gc_Calls ?gc_Joiner ?gc_Planner ?gc_EvenSums ?gc_Shape ?gc_TwoStacks ?ma0 ?l0 ?c0 ?k0 ?mt0 ?my0 ?ma1 ?l1 ?c1 ?k1 ?mt1 ?my1 ?ma2 ?l2 ?c2 ?k2 ?mt2 ?my2 ?ma3 ?l3 ?c3 ?k3 ?mt3 ?my3 ?ma4 ?l4 ?c4 ?k4 ?mt4 ?my4 ?ma5 ?l5 ?c5 ?k5 ?mt5 ?my5 ?ma6 ?l6 ?c6 ?k6 ?mt6 ?my6 ?ma7 ?l7 ?c7 ?k7 ?kw7_0 ?mt7 ?my7 ?ma8 ?l8 ?c8 ?k8 ?mt8 ?my8 ?ma9 ?l9 ?c9 ?k9 ?mt9 ?my9 ?ma10 ?l10 ?c10 ?k10 ?mt10 ?my10 ?ma11 ?l11 ?c11 ?k11 ?mt11 ?my11 ?ma12 ?l12 ?c12 ?k12 ?mt12 ?my12 ?ma13 ?l13 ?c13 ?k13 ?mt13 ?my13 ?ma14 ?l14 ?c14 ?k14 ?mt14 ?my14 ?ma15 ?l15 ?c15 ?k15 ?mt15 ?my15 ?ma16 ?l16 ?c16 ?k16 ?mt16 ?my16 ?ma17 ?l17 ?c17 ?k17 ?mt17 ?my17 ?ma18 ?l18 ?c18 ?k18 ?kw18_0 ?mt18 ?my18 ?ma19 ?l19 ?c19 ?k19 ?mt19 ?my19 ?ma20 ?l20 ?c20 ?k20 ?mt20 ?my20 ?ma21 ?l21 ?c21 ?k21 ?mt21 ?my21 ?ma22 ?l22 ?c22 ?k22 ?mt22 ?my22 ?ma23 ?l23 ?c23 ?k23 ?mt23 ?my23 ?ma24 ?l24 ?c24 ?k24 ?mt24 ?my24 ?ma25 ?l25 ?c25 ?k25 ?mt25 ?my25 ?ma26 ?l26 ?c26 ?k26 ?mt26 ?my26 ?ma27 ?l27 ?c27 ?k27 ?mt27 ?my27 ?ma28 ?l28 ?c28 ?k28 ?mt28 ?my28 ?ma29 ?l29 ?c29 ?k29 ?mt29 ?my29 ?ga30 ?l30 ?c30 ?k30 ?ga31 ?l31 ?c31 ?k31 ?ga32 ?l32 ?c32 ?k32 ?ga33 ?l33 ?c33 ?k33 ?ga34 ?l34 ?c34 ?k34 ?ga35 ?l35 ?c35 ?k35 ?ga36 ?l36 ?c36 ?k36 ?ga37 ?l37 ?c37 ?k37 ?ga38 ?l38 ?c38 ?k38 ?ga39 ?l39 ?c39 ?k39 ?ga40 ?l40 ?c40 ?k40 ?ga41 ?l41 ?c41 ?k41 ?ga42 ?l42 ?c42 ?k42 ?ga43 ?l43 ?c43 ?k43 ?ga44 ?l44 ?c44 ?k44 ?ga45 ?l45 ?c45 ?k45 ?ga46 ?l46 ?c46 ?k46 ?ga47 ?l47 ?c47 ?k47 ?ga48 ?l48 ?c48 ?k48 ?ga49 ?l49 ?c49 ?k49 ?ga50 ?l50 ?c50 ?k50 ?tl50 ?tp50 ?tn50 ?tr50 ?ga51 ?l51 ?c51 ?k51 ?tl51 ?tp51 ?tn51 ?tr51 ?pne50_51 ?z_IndexError ?z_abs ?z_enumerate ?z_isinstance ?z_iter ?z_len ?z_list ?z_max ?z_min ?z_next ?z_range ?z_reversed ?z_sum ?pg_Calls ?hd_Calls ?po_Calls ?sa_Calls ?mk_Calls ?kp_Calls ?n_Calls_entries ?n_Calls_running ?pg_Joiner ?hd_Joiner ?po_Joiner ?sa_Joiner ?mk_Joiner ?kp_Joiner ?n_Joiner_calls ?n_Joiner_join_call ?pg_Planner ?hd_Planner ?po_Planner ?sa_Planner ?mk_Planner ?kp_Planner ?n_Planner_entries ?pg_EvenSums ?hd_EvenSums ?po_EvenSums ?sa_EvenSums ?mk_EvenSums ?kp_EvenSums ?n_EvenSums_calls ?n_EvenSums_joiner ?n_EvenSums_zero ?n_EvenSums_given ?n_EvenSums_held ?n_EvenSums_shape ?pg_Shape ?hd_Shape ?po_Shape ?sa_Shape ?mk_Shape ?kp_Shape ?n_Shape_front ?n_Shape_back ?n_Shape_late ?n_Shape_renewed ?pg_TwoStacks ?hd_TwoStacks ?po_TwoStacks ?sa_TwoStacks ?mk_TwoStacks ?kp_TwoStacks ?n_TwoStacks_calls ?n_TwoStacks_joiner ?n_TwoStacks_zero ?n_TwoStacks_given ?n_TwoStacks_held ?n_TwoStacks_front ?n_TwoStacks_back ?gc_Empty ?gc_Busy ?gc_NoMember ?gc_NotTorn ?gc_OnceError ?gc_Torn ?xE ?kE ?bE ?tE ?sE ?i1 ?i2 ?i4 ?i5 ?i6 ?i7 ?i8 ?k1E ?ci_Busy ?ct_Busy ?cs_Busy ?ci_NoMember ?ct_NoMember ?cs_NoMember ?ci_NotTorn ?ct_NotTorn ?cs_NotTorn ?ci_OnceError ?ct_OnceError ?cs_OnceError ?ci_Torn ?ct_Torn ?cs_Torn
    (case gc_Calls => k_is); (case gc_Joiner => k_is); (case gc_Planner => k_is); (case gc_EvenSums => k_is); (case gc_Shape => k_is); (case gc_TwoStacks => k_is); (case ma0 => k_is); (case l0 => k_is); (case c0 => k_is); (case k0 => k_is); (case mt0 => k_is); (case my0 => k_is); (case ma1 => k_is); (case l1 => k_is); (case c1 => k_is); (case k1 => k_is); (case mt1 => k_is); (case my1 => k_is); (case ma2 => k_is); (case l2 => k_is); (case c2 => k_is); (case k2 => k_is); (case mt2 => k_is); (case my2 => k_is); (case ma3 => k_is); (case l3 => k_is); (case c3 => k_is); (case k3 => k_is); (case mt3 => k_is); (case my3 => k_is); (case ma4 => k_is); (case l4 => k_is); (case c4 => k_is); (case k4 => k_is); (case mt4 => k_is); (case my4 => k_is); (case ma5 => k_is); (case l5 => k_is); (case c5 => k_is); (case k5 => k_is); (case mt5 => k_is); (case my5 => k_is); (case ma6 => k_is); (case l6 => k_is); (case c6 => k_is); (case k6 => k_is); (case mt6 => k_is); (case my6 => k_is); (case ma7 => k_is); (case l7 => k_is); (case c7 => k_is); (case k7 => k_is); (case kw7_0 => k_is); (case mt7 => k_is); (case my7 => k_is); (case ma8 => k_is); (case l8 => k_is); (case c8 => k_is); (case k8 => k_is); (case mt8 => k_is); (case my8 => k_is); (case ma9 => k_is); (case l9 => k_is); (case c9 => k_is); (case k9 => k_is); (case mt9 => k_is); (case my9 => k_is); (case ma10 => k_is); (case l10 => k_is); (case c10 => k_is); (case k10 => k_is); (case mt10 => k_is); (case my10 => k_is); (case ma11 => k_is); (case l11 => k_is); (case c11 => k_is); (case k11 => k_is); (case mt11 => k_is); (case my11 => k_is); (case ma12 => k_is); (case l12 => k_is); (case c12 => k_is); (case k12 => k_is); (case mt12 => k_is); (case my12 => k_is); (case ma13 => k_is); (case l13 => k_is); (case c13 => k_is); (case k13 => k_is); (case mt13 => k_is); (case my13 => k_is); (case ma14 => k_is); (case l14 => k_is); (case c14 => k_is); (case k14 => k_is); (case mt14 => k_is); (case my14 => k_is); (case ma15 => k_is); (case l15 => k_is); (case c15 => k_is); (case k15 => k_is); (case mt15 => k_is); (case my15 => k_is); (case ma16 => k_is); (case l16 => k_is); (case c16 => k_is); (case k16 => k_is); (case mt16 => k_is); (case my16 => k_is); (case ma17 => k_is); (case l17 => k_is); (case c17 => k_is); (case k17 => k_is); (case mt17 => k_is); (case my17 => k_is); (case ma18 => k_is); (case l18 => k_is); (case c18 => k_is); (case k18 => k_is); (case kw18_0 => k_is); (case mt18 => k_is); (case my18 => k_is); (case ma19 => k_is); (case l19 => k_is); (case c19 => k_is); (case k19 => k_is); (case mt19 => k_is); (case my19 => k_is); (case ma20 => k_is); (case l20 => k_is); (case c20 => k_is); (case k20 => k_is); (case mt20 => k_is); (case my20 => k_is); (case ma21 => k_is); (case l21 => k_is); (case c21 => k_is); (case k21 => k_is); (case mt21 => k_is); (case my21 => k_is); (case ma22 => k_is); (case l22 => k_is); (case c22 => k_is); (case k22 => k_is); (case mt22 => k_is); (case my22 => k_is); (case ma23 => k_is); (case l23 => k_is); (case c23 => k_is); (case k23 => k_is); (case mt23 => k_is); (case my23 => k_is); (case ma24 => k_is); (case l24 => k_is); (case c24 => k_is); (case k24 => k_is); (case mt24 => k_is); (case my24 => k_is); (case ma25 => k_is); (case l25 => k_is); (case c25 => k_is); (case k25 => k_is); (case mt25 => k_is); (case my25 => k_is); (case ma26 => k_is); (case l26 => k_is); (case c26 => k_is); (case k26 => k_is); (case mt26 => k_is); (case my26 => k_is); (case ma27 => k_is); (case l27 => k_is); (case c27 => k_is); (case k27 => k_is); (case mt27 => k_is); (case my27 => k_is); (case ma28 => k_is); (case l28 => k_is); (case c28 => k_is); (case k28 => k_is); (case mt28 => k_is); (case my28 => k_is); (case ma29 => k_is); (case l29 => k_is); (case c29 => k_is); (case k29 => k_is); (case mt29 => k_is); (case my29 => k_is); (case ga30 => k_is); (case l30 => k_is); (case c30 => k_is); (case k30 => k_is); (case ga31 => k_is); (case l31 => k_is); (case c31 => k_is); (case k31 => k_is); (case ga32 => k_is); (case l32 => k_is); (case c32 => k_is); (case k32 => k_is); (case ga33 => k_is); (case l33 => k_is); (case c33 => k_is); (case k33 => k_is); (case ga34 => k_is); (case l34 => k_is); (case c34 => k_is); (case k34 => k_is); (case ga35 => k_is); (case l35 => k_is); (case c35 => k_is); (case k35 => k_is); (case ga36 => k_is); (case l36 => k_is); (case c36 => k_is); (case k36 => k_is); (case ga37 => k_is); (case l37 => k_is); (case c37 => k_is); (case k37 => k_is); (case ga38 => k_is); (case l38 => k_is); (case c38 => k_is); (case k38 => k_is); (case ga39 => k_is); (case l39 => k_is); (case c39 => k_is); (case k39 => k_is); (case ga40 => k_is); (case l40 => k_is); (case c40 => k_is); (case k40 => k_is); (case ga41 => k_is); (case l41 => k_is); (case c41 => k_is); (case k41 => k_is); (case ga42 => k_is); (case l42 => k_is); (case c42 => k_is); (case k42 => k_is); (case ga43 => k_is); (case l43 => k_is); (case c43 => k_is); (case k43 => k_is); (case ga44 => k_is); (case l44 => k_is); (case c44 => k_is); (case k44 => k_is); (case ga45 => k_is); (case l45 => k_is); (case c45 => k_is); (case k45 => k_is); (case ga46 => k_is); (case l46 => k_is); (case c46 => k_is); (case k46 => k_is); (case ga47 => k_is); (case l47 => k_is); (case c47 => k_is); (case k47 => k_is); (case ga48 => k_is); (case l48 => k_is); (case c48 => k_is); (case k48 => k_is); (case ga49 => k_is); (case l49 => k_is); (case c49 => k_is); (case k49 => k_is); (case ga50 => k_is); (case l50 => k_is); (case c50 => k_is); (case k50 => k_is); (case tl50 => k_is); (case tp50 => rfl); (case tn50 => kernel_rfl); (case tr50 => rfl); (case ga51 => k_is); (case l51 => k_is); (case c51 => k_is); (case k51 => k_is); (case tl51 => k_is); (case tp51 => rfl); (case tn51 => kernel_rfl); (case tr51 => rfl); (case pne50_51 => decide); (case z_IndexError => k_is); (case z_abs => k_is); (case z_enumerate => k_is); (case z_isinstance => k_is); (case z_iter => k_is); (case z_len => k_is); (case z_list => k_is); (case z_max => k_is); (case z_min => k_is); (case z_next => k_is); (case z_range => k_is); (case z_reversed => k_is); (case z_sum => k_is); (case pg_Calls => k_is); (case hd_Calls => k_is); (case po_Calls => k_is); (case sa_Calls => k_is); (case mk_Calls => k_is); (case kp_Calls => k_is); (case n_Calls_entries => k_is); (case n_Calls_running => k_is); (case pg_Joiner => k_is); (case hd_Joiner => k_is); (case po_Joiner => k_is); (case sa_Joiner => k_is); (case mk_Joiner => k_is); (case kp_Joiner => k_is); (case n_Joiner_calls => k_is); (case n_Joiner_join_call => k_is); (case pg_Planner => k_is); (case hd_Planner => k_is); (case po_Planner => k_is); (case sa_Planner => k_is); (case mk_Planner => k_is); (case kp_Planner => k_is); (case n_Planner_entries => k_is); (case pg_EvenSums => k_is); (case hd_EvenSums => k_is); (case po_EvenSums => k_is); (case sa_EvenSums => k_is); (case mk_EvenSums => k_is); (case kp_EvenSums => k_is); (case n_EvenSums_calls => k_is); (case n_EvenSums_joiner => k_is); (case n_EvenSums_zero => k_is); (case n_EvenSums_given => k_is); (case n_EvenSums_held => k_is); (case n_EvenSums_shape => k_is); (case pg_Shape => k_is); (case hd_Shape => k_is); (case po_Shape => k_is); (case sa_Shape => k_is); (case mk_Shape => k_is); (case kp_Shape => k_is); (case n_Shape_front => k_is); (case n_Shape_back => k_is); (case n_Shape_late => k_is); (case n_Shape_renewed => k_is); (case pg_TwoStacks => k_is); (case hd_TwoStacks => k_is); (case po_TwoStacks => k_is); (case sa_TwoStacks => k_is); (case mk_TwoStacks => k_is); (case kp_TwoStacks => k_is); (case n_TwoStacks_calls => k_is); (case n_TwoStacks_joiner => k_is); (case n_TwoStacks_zero => k_is); (case n_TwoStacks_given => k_is); (case n_TwoStacks_held => k_is); (case n_TwoStacks_front => k_is); (case n_TwoStacks_back => k_is); (case gc_Empty => k_is); (case gc_Busy => k_is); (case gc_NoMember => k_is); (case gc_NotTorn => k_is); (case gc_OnceError => k_is); (case gc_Torn => k_is); (case xE => k_exc); (case kE => k_is); (case bE => k_is); (case tE => k_is); (case sE => first | rfl | k_is); (case i1 => k_is); (case i2 => k_is); (case i4 => k_is); (case i5 => k_is); (case i6 => k_is); (case i7 => k_is); (case i8 => k_is); (case k1E => first | k_is | rfl | decide); (case ci_Busy => k_is); (case ct_Busy => k_is); (case cs_Busy => k_is); (case ci_NoMember => k_is); (case ct_NoMember => k_is); (case cs_NoMember => k_is); (case ci_NotTorn => k_is); (case ct_NotTorn => k_is); (case cs_NotTorn => k_is); (case ci_OnceError => k_is); (case ct_OnceError => k_is); (case cs_OnceError => k_is); (case ci_Torn => k_is); (case ct_Torn => k_is); (case cs_Torn => k_is)


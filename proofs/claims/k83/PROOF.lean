import PyProof.Rows.All
import Wide.All
import OpenK.AllK
import Wide.FinOn
import HandS.ForMost
import HandS.ForExc
import HandS.Nested
import HandS.Star
import HandS.Finally
import HandS.EndTab
import HandS.Replace
import HandS.Defaults
import HandS.ClsMeth
import HandS.MakeKwOnly
import KE.KMinKey
import HandS.SortKw
import KE.KDictCopyH
import KE.KDictIter
import HandS.IterVal
import HandS.DictTup
import KE.SortUse
import HandS.Rev
import PyProof.ListNew
import HandS.Style
import HandS.GenYield
import HandS.GenList
import HandS.Walk
import KE.DatumOrd
import KE.KTupSum
import HandS.SortRule
import KE.DataFind
import HandS.SetFor
import HandS.ExcIs
import HandS.Wide
import HandS.WideBits
import HandS.IsInst
import HandS.Codes
import HandS.Comp
import HandS.Conv
import HandS.SortInts
import HandS.MethStar
import PySem.Challenge.RW_oncebuilt_k83_whole_ranked_components
import HandS.TryOnly
import HandS.DictComp
set_option Elab.async false
set_option linter.all false
set_option maxRecDepth 100000
set_option maxHeartbeats 4000000
namespace Inf
open PySem PySem.Spec PyProof.Rows L2 NdefX LamX
/-! ### a cell that is told -/
def CellO (c : Addr) (v : V) : HO := .ext fun h => ∃ u, L2.RelV v u ∧ h.IsCell c (some u)
theorem cellO_at {P : Program} {w : World} {H : Hp} {h : Heap} {c : Addr} {v : V} (hok : HOk P w H h) (e : H c = some (CellO c v)) : ∃ u, L2.RelV v u ∧ h.IsCell c (some u) := by
  obtain ⟨z, _, _⟩ := hok c _ e
  exact z
theorem cellO_ok {P : Program} {w : World} {H : Hp} {h : Heap} {c : Addr} {v : V} (x : ∃ u, L2.RelV v u ∧ h.IsCell c (some u)) : ObjOk P w H h c (CellO c v) := by
  refine ⟨x, ?_, fun h1 h2 ⟨u, r, o, e, d⟩ k => ⟨u, r, o, k o e, d⟩⟩
  obtain ⟨u, _, o, e, _⟩ := x
  exact ⟨o, e⟩
/-! ### cells left out, and put back -/
def cut (cs : List Addr) (H : Hp) : Hp := fun b => if b ∈ cs then Option.none else H b
def mend (cs : List Addr) (H H1 : Hp) : Hp := fun b => if b ∈ cs then H b else H1 b
theorem cut_in {cs : List Addr} {H : Hp} {b : Addr} (h : b ∈ cs) : cut cs H b = Option.none := if_pos h
theorem cut_out {cs : List Addr} {H : Hp} {b : Addr} (h : b ∉ cs) : cut cs H b = H b := if_neg h
theorem mend_in {cs : List Addr} {H H1 : Hp} {b : Addr} (h : b ∈ cs) : mend cs H H1 b = H b := if_pos h
theorem mend_out {cs : List Addr} {H H1 : Hp} {b : Addr} (h : b ∉ cs) : mend cs H H1 b = H1 b := if_neg h
def cellsOf (F : NF) (fr : List Str) : List Addr := fr.filterMap fun y => F.cl.lookup y
theorem mem_cells {F : NF} {fr : List Str} {c : Addr} : c ∈ cellsOf F fr ↔ ∃ y ∈ fr, F.cl.lookup y = some c := List.mem_filterMap
/-- the function F stands at f, and its captured cells hold ws -/
structure Clo (H : Hp) (f : Addr) (F : NF) (fr : List Str) (ws : List V) : Prop where
  fn : H f = some (FnO f F)
  code : H F.c = some (CodeO F.c F.qual)
  len : ws.length = fr.length
  dom : ∀ y c, F.cl.lookup y = some c → y ∈ fr
  inj : ∀ x y c, F.cl.lookup x = some c → F.cl.lookup y = some c → x = y
  at_ : ∀ (i : Nat) (y : Str), fr[i]? = some y → ∃ c v, F.cl.lookup y = some c ∧ ws[i]? = some v ∧ H c = some (CellO c v)
theorem Clo.same {H H1 : Hp} {f : Addr} {F : NF} {fr : List Str} {ws : List V} (h : Clo H f F fr ws) (s : Same H H1) : Clo H1 f F fr ws :=
  ⟨s _ _ h.fn, s _ _ h.code, h.len, h.dom, h.inj, fun i y e => by
    obtain ⟨c, v, a, b, d⟩ := h.at_ i y e
    exact ⟨c, v, a, b, s _ _ d⟩⟩
theorem Clo.cell {H : Hp} {f : Addr} {F : NF} {fr : List Str} {ws : List V} (h : Clo H f F fr ws) {b : Addr} (hb : b ∈ cellsOf F fr) : ∃ v, H b = some (CellO b v) := by
  obtain ⟨y, hy, e⟩ := mem_cells.mp hb
  obtain ⟨i, hi⟩ := List.mem_iff_getElem?.mp hy
  obtain ⟨c, v, a, _, d⟩ := h.at_ i y hi
  rw [e] at a
  cases a
  exact ⟨v, d⟩
/-- what is no thing by a word of its own is no cell -/
theorem Clo.out {H : Hp} {f : Addr} {F : NF} {fr : List Str} {ws : List V} (h : Clo H f F fr ws) {b : Addr} {o : HO} (e : H b = some o) (n : ∀ φ, o ≠ .ext φ) : b ∉ cellsOf F fr := fun hb => by
  obtain ⟨v, d⟩ := h.cell hb
  rw [e] at d
  exact n _ (Option.some.inj d)
section
variable {P : Program} {w : World} {K : PySem.W.Frag} {mg : Str → Option Value} {base : Heap} {k : Nat} {f : Addr} {F : NF} {ps fr : List Str} {sp : List (Option V) → Sp}
/-- A FUNCTION THAT WAS MADE IN A DEF, called from anywhere: its cells are told; while it runs they are left out, behind it they are put back -/
theorem clo_fnR (N : NOk P w K mg base CX0 k f F ps fr sp) :
    FnR P w K mg base CX0 k f (fun vs H Q E => ∃ ws, Clo H f F fr ws ∧ sp (ws.map some) vs (cut (cellsOf F fr) H) (fun v H1 => (∀ b, b ∈ cellsOf F fr → H1 b = Option.none) → Q v (mend (cellsOf F fr) H H1)) E) := by
  intro A outer s H us vs Q E hr e0 r hsp
  obtain ⟨ws, hc, hsp⟩ := hsp
  have cellAt : ∀ b, b ∈ cellsOf F fr → ∃ v, H b = some (CellO b v) := fun b hb => hc.cell hb
  have fnout : f ∉ cellsOf F fr := fun hb => by
    obtain ⟨v, e⟩ := cellAt f hb
    obtain ⟨u, _, o, e1, e2⟩ := cellO_at e0.hok e
    obtain ⟨od, sl, doc, pm, ctv, e3⟩ := fnO_at e0.hok hc.fn
    rw [e1] at e3
    cases e3
    cases e2
  have cout : F.c ∉ cellsOf F fr := fun hb => by
    obtain ⟨v, e⟩ := cellAt F.c hb
    obtain ⟨u, _, o, e1, e2⟩ := cellO_at e0.hok e
    obtain ⟨⟨oc, vs', t, h1, h2, h3⟩, _, _⟩ := e0.hok F.c _ hc.code
    rw [e1] at h1
    cases h1
    rw [e2] at h2
    cases h2
  have hokc : HOk P w (cut (cellsOf F fr) H) s.heap := fun b o e => by
    by_cases hb : b ∈ cellsOf F fr
    · rw [cut_in hb] at e
      cases e
    · rw [cut_out hb] at e
      refine (e0.hok b o e).stay (fun c u _ q => q) (fun c q => ?_) fun c xs q => ?_
      · rw [cut_out (hc.out q (fun φ z => nomatch z))]
        exact q
      · rw [cut_out (hc.out q (fun φ z => nomatch z))]
        exact q
  have noneC : ∀ b, H b = Option.none → cut (cellsOf F fr) H b = Option.none := fun b e => by
    by_cases hb : b ∈ cellsOf F fr
    · exact cut_in hb
    · rw [cut_out hb]
      exact e
  have e1 : Env0 P w K mg base A outer s (cut (cellsOf F fr) H) := ⟨e0.frames, e0.mod, fun b o q => ⟨(e0.bs b o q).1, noneC b (e0.bs b o q).2⟩, e0.bsz, e0.funs, fun b hb => noneC b (e0.frf b hb), hokc, e0.bare⟩
  have C : CellsAt F.cl fr (ws.map some) s.heap (cut (cellsOf F fr) H) := by
    refine ⟨by rw [List.length_map]; exact hc.len, fun y c e => ?_, hc.inj, fun i y e => ?_⟩
    · have hb : c ∈ cellsOf F fr := mem_cells.mpr ⟨y, hc.dom y c e, e⟩
      obtain ⟨v, d⟩ := cellAt c hb
      obtain ⟨u, _, z⟩ := cellO_at e0.hok d
      exact ⟨cut_in hb, _, z⟩
    · obtain ⟨c, v, a, b, d⟩ := hc.at_ i y e
      refine ⟨c, a, fun v' e' => ?_⟩
      rw [List.getElem?_map, b] at e'
      cases e'
      obtain ⟨u, r', z⟩ := cellO_at e0.hok d
      exact ⟨u, r', z⟩
  refine codeAny_mono (N.run A outer s (cut (cellsOf F fr) H) us vs (ws.map some) _ E hr e1 (by rw [cut_out fnout]; exact hc.fn) (by rw [cut_out cout]; exact hc.code) C r hsp) fun res s' hq => ?_
  cases res with
  | error e => exact hq
  | ok fl =>
    cases fl with
    | next => exact hq
    | brk => exact hq
    | cont => exact hq
    | ret u =>
      obtain ⟨v, H1, os, bare, un, hok1, rv, q⟩ := hq
      have gone : ∀ b, b ∈ cellsOf F fr → H1 b = Option.none := fun b hb => by
        obtain ⟨v, d⟩ := cellAt b hb
        obtain ⟨u, _, o, z1, z2⟩ := cellO_at e0.hok d
        exact un.free b o z1 (cut_in hb) (by simp)
      have notfr : ∀ b, b ∈ cellsOf F fr → b ∉ frs outer := fun b hb z => by
        obtain ⟨v, d⟩ := cellAt b hb
        rw [e0.frf b z] at d
        cases d
      refine ⟨v, mend (cellsOf F fr) H H1, os, bare, ⟨fun b o a n h1 h2 => un.keep b o a (noneC b n) h1 h2, fun b o a n h1 h2 => un.slot b o a (noneC b n) h1 h2, fun b o a n h2 => ?_, un.there, fun b xs e => ?_, fun b o u e => ?_, fun b ps e => ?_⟩, fun b o e => ?_, rv, q gone⟩
      · by_cases hb : b ∈ cellsOf F fr
        · rw [mend_in hb]
          exact n
        · rw [mend_out hb]
          exact un.free b o a (noneC b n) h2
      · have hb := hc.out e (fun φ z => nomatch z)
        rw [mend_out hb]
        exact un.tups b xs (by rw [cut_out hb]; exact e)
      · have hb := hc.out e (fun φ z => nomatch z)
        rw [mend_out hb]
        exact un.frzs b o u (by rw [cut_out hb]; exact e)
      · have hb := hc.out e (fun φ z => nomatch z)
        rw [mend_out hb]
        exact un.tbls b ps (by rw [cut_out hb]; exact e)
      · by_cases hb : b ∈ cellsOf F fr
        · rw [mend_in hb] at e
          obtain ⟨v', d⟩ := cellAt b hb
          rw [d] at e
          cases e
          obtain ⟨u', r', o', z1, z2⟩ := cellO_at e0.hok d
          exact cellO_ok ⟨u', r', o', un.keep b o' z1 (cut_in hb) (notfr b hb) (by simp), z2⟩
        · rw [mend_out hb] at e
          refine (hok1 b o e).stay (fun c u _ q => q) (fun c q => ?_) fun c xs q => ?_
          · have hb' : c ∉ cellsOf F fr := fun z => by
              rw [gone c z] at q
              cases q
            rw [mend_out hb']
            exact q
          · have hb' : c ∉ cellsOf F fr := fun z => by
              rw [gone c z] at q
              cases q
            rw [mend_out hb']
            exact q
end
theorem mend_at {cs : List Addr} {H H1 : Hp} {a : Addr} {o : HO} (g : ∀ b, b ∈ cs → H1 b = Option.none) (e : H1 a = some o) : mend cs H H1 a = some o := by
  rw [mend_out fun z => by rw [g a z] at e; cases e]
  exact e
theorem cut_at {cs : List Addr} {H : Hp} {a : Addr} {o : HO} (n : a ∉ cs) (e : H a = some o) : cut cs H a = some o := (cut_out n).trans e
end Inf

set_option Elab.async false
set_option linter.all false
set_option maxRecDepth 100000
set_option maxHeartbeats 4000000
namespace Inf
open PySem PySem.Spec PyProof.Rows L2 NdefX LamX
/-! ### a body that ends in a return: what its names hold there is told -/
abbrev TSR := (L2.St → V → Hp → Prop) → L2.St → Hp → Prop
structure PSsR (X : Cx) (ss : List Stmt) (t : TSR) : Prop where
  run : ∀ (pins : List (Addr × Obj)) (s : Shared) (σ : L2.St) (H : Hp) (R : L2.St → V → Hp → Prop), Inv X pins σ H s → t R σ H →
    wpAny (model X.prog X.w) X.A (execs ss X.env) (fun fl s' => ∃ u v σ' H', fl = .ret u ∧ Inv X pins σ' H' s' ∧ L2.RelV v u ∧ R σ' v H') X.xe s
theorem psr_cons {X : Cx} {st : Stmt} {rest : List Stmt} {t : TS} {u : TSR} (h1 : PS X st t) (h2 : PSsR X rest u) : PSsR X (st :: rest) (fun R σ H => t { nx := fun σ' H' => u R σ' H', rt := fun _ _ => False } σ H) := by
  refine ⟨fun pins s σ H R I h => ?_⟩
  refine wpAny_execs_cons (thn (h1.run pins s σ H { nx := fun σ' H' => u R σ' H', rt := fun _ _ => False } I h) fun fl s1 q => ?_)
  cases fl with
  | next =>
    obtain ⟨σ1, H1, I1, q1⟩ := q
    exact h2.run pins s1 σ1 H1 R I1 q1
  | brk =>
    obtain ⟨_, _, _, q1⟩ := q
    exact False.elim q1
  | cont =>
    obtain ⟨_, _, _, q1⟩ := q
    exact False.elim q1
  | ret v =>
    obtain ⟨_, _, _, _, _, q1⟩ := q
    exact False.elim q1
theorem psr_ret {X : Cx} {e : Expr} {pos : Pos} {te : TE} (he : PE X e te) : PSsR X [.Return (some e) pos] (fun R σ H => te σ H (R σ)) := by
  refine ⟨fun pins s σ H R I h => ?_⟩
  refine wpAny_execs_cons (wpAny_Return_some (thn (he.run pins s σ H _ I h) fun v s1 ⟨x, H1, I1, r1, q1⟩ => ?_))
  exact ⟨v, x, σ, H1, rfl, I1, r1, q1⟩
/-! ### a def that returns things that hold its names -/
/-- the heap behind the return: the def's cells are told -/
structure Fin (cells : List (Str × Addr)) (names : List (Str × NameKind)) (N : List Str) (σ : L2.St) (H H' : Hp) : Prop where
  same : Same H H'
  gone : ∀ b, H' b = Option.none → H b = Option.none
  inj : ∀ x y c, cells.lookup x = some c → cells.lookup y = some c → x = y
  at_ : ∀ (i : Nat) (y : Str) (c : Addr) (v : V), N[i]? = some y → names.lookup y = some .cell → cells.lookup y = some c → σ[i]? = some (some v) → H' c = some (CellO c v)
theorem cells_big : ∀ (names : List (Str × NameKind)) (n lo : Nat) (acc : List (Str × Addr)), (∀ p ∈ acc, lo ≤ p.2) → lo ≤ n → ∀ p ∈ cellsFrom n names acc, lo ≤ p.2
  | [], n, lo, acc, h, _ => h
  | (x, kd) :: r, n, lo, acc, h, hn => by
    unfold cellsFrom
    split
    · exact cells_big r (n + 1) lo _ (fun p hp => by
        rcases List.mem_cons.mp hp with rfl | hp
        · exact hn
        · exact h p hp) (by omega)
    · exact cells_big r n lo acc h hn
section
variable {CX : CXT} {P : Program} {w : World} {K : PySem.W.Frag} {mg : Str → Option Value} {base : Heap} {N ps : List Str} {qual : Str} {scope : Scope} {f : Addr} {cdv : Value} {A : Around} {outer : List Env} {s s' : Shared} {H H' : Hp} {E : XK} {σ : L2.St} {Q : VK}
open Classical in
theorem fin_make (nd : N.Nodup) (J : Inv (cxOf CX P w K mg base N qual scope f cdv A outer s H E) [] σ H' s') :
    ∃ H'', Fin (envOfC qual scope s.heap.objs.size f cdv).cells scope.names N σ H' H'' ∧ Un (frs outer) [] H H'' s.heap s'.heap ∧ HOk P w H'' s'.heap := by
  have ge : ∀ (y : Str) (c : Addr), (envOfC qual scope s.heap.objs.size f cdv).cells.lookup y = some c → s.heap.objs.size ≤ c := fun y c e =>
    cells_big scope.names (s.heap.objs.size + 1) s.heap.objs.size [] (fun p hp => by cases hp) (Nat.le_succ _) (y, c) (PySem.mem_of_lookup e)
  have J0 : Un (frs outer) [] H H' s.heap s'.heap := J.base
  have inj := J.ok.inj
  let Pr : Addr → V → Prop := fun b v => ∃ (i : Nat) (y : Str), N[i]? = some y ∧ scope.names.lookup y = some .cell ∧ (envOfC qual scope s.heap.objs.size f cdv).cells.lookup y = some b ∧ σ[i]? = some (some v)
  have gone : ∀ b v, Pr b v → H' b = Option.none := fun b v ⟨i, y, _, _, e, _⟩ => J.freeC y b e
  have uniq : ∀ b v u, Pr b v → Pr b u → v = u := fun b v u ⟨i, y, a1, a2, a3, a4⟩ ⟨j, z, b1, b2, b3, b4⟩ => by
    have e1 : y = z := inj y z b a3 b3
    subst e1
    have e2 : i = j := by
      obtain ⟨h1, g1⟩ := List.getElem?_eq_some_iff.mp a1
      obtain ⟨h2, g2⟩ := List.getElem?_eq_some_iff.mp b1
      exact (List.getElem_inj nd).mp (g1.trans g2.symm)
    subst e2
    rw [a4] at b4
    exact Option.some.inj (Option.some.inj b4)
  let H'' : Hp := fun b => if h : ∃ v, Pr b v then some (CellO b (Classical.choose h)) else H' b
  have inC : ∀ b v, Pr b v → H'' b = some (CellO b v) := fun b v h => by
    have hx : ∃ v, Pr b v := ⟨v, h⟩
    show (if h : ∃ v, Pr b v then some (CellO b (Classical.choose h)) else H' b) = _
    rw [dif_pos hx, uniq b _ v (Classical.choose_spec hx) h]
  have outC : ∀ b, (¬ ∃ v, Pr b v) → H'' b = H' b := fun b h => dif_neg h
  have known : ∀ b o, H' b = some o → H'' b = some o := fun b o e => by
    rw [outC b fun ⟨v, h⟩ => by rw [gone b v h] at e; cases e]
    exact e
  refine ⟨H'', ⟨known, fun b e => ?_, inj, fun i y c v h1 h2 h3 h4 => inC c v ⟨i, y, h1, h2, h3, h4⟩⟩, ⟨J0.keep, J0.slot, fun b o a n h2 => ?_, J0.there, fun b xs e => known _ _ (J0.tups b xs e), fun b o u e => known _ _ (J0.frzs b o u e), fun b ps' e => ?_⟩, fun b o e => ?_⟩
  · by_cases hb : ∃ v, Pr b v
    · obtain ⟨v, h⟩ := hb
      rw [inC b v h] at e
      cases e
    · rw [outC b hb] at e
      exact e
  · rw [outC b fun ⟨v, i, y, _, _, e, _⟩ => by
      exact absurd (Heap.lt_size a) (Nat.not_lt.mpr (ge y b e))]
    exact J0.free b o a n h2
  · obtain ⟨more, e2⟩ := J0.tbls b ps' e
    exact ⟨more, known _ _ e2⟩
  · by_cases hb : ∃ v, Pr b v
    · obtain ⟨v, h⟩ := hb
      rw [inC b v h] at e
      cases e
      obtain ⟨i, y, a1, a2, a3, a4⟩ := h
      obtain ⟨m, hn, hl⟩ := J.loc
      obtain ⟨u, ru, lk⟩ := hl i y v a1 a4 (.inr (.inl a2))
      refine cellO_ok ⟨u, ru, ?_⟩
      rcases lk with ⟨z, _⟩ | ⟨_, c', hc', hcell⟩
      · have z' : scope.names.lookup y = some .local := z
        rw [a2] at z'
        cases z'
      · have hc2 : (envOfC qual scope s.heap.objs.size f cdv).cells.lookup y = some c' := hc'
        rw [a3] at hc2
        cases hc2
        exact hcell
    · rw [outC b hb] at e
      exact (J.hok b o e).stay (fun c u _ q => q) (fun c q => known _ _ q) fun c xs q => known _ _ q
end
/-- THE RULE for such a def -/
theorem Fun.okC {P : Program} {w : World} {K : PySem.W.Frag} {mg : Str → Option Value} {base : Heap} {x qual : Str} {st : Stmt} {f : Addr} {fd : FuncData} {N ps : List Str} {k : Nat} {sp : Sp} (F : L2.Fun K x qual st f fd) (S : FnScope N ps (defScope st)) (len : ∀ vs H Q E, sp vs H Q E → vs.length = ps.length)
    (hbody : ∀ (cdv : Value) (A : Around) (outer : List Env) (s : Shared) (H : Hp) (vs : List V) (Q : VK) (E : XK), Room k (A.deeper (envOfC qual (defScope st) s.heap.objs.size f cdv)) → PySem.W.codeIn K cdv qual = true → sp vs H Q E →
      ∃ t, PSsR (cxOf CX0 P w K mg base N qual (defScope st) f cdv A outer s H E).nox (defBody st) t ∧
        t (fun σ v H' => ∀ H'', Fin (envOfC qual (defScope st) s.heap.objs.size f cdv).cells (defScope st).names N σ H' H'' → Q v H'') (start N vs) H) : FnOk P w K mg base CX0 (k + 1) f fd ps sp := by
  obtain ⟨oc, od, kV, doc, pm, an, cdv, ct, osl, rfl, lk, hcd⟩ := F.ex
  refine ⟨len, fun A outer s H args us vs Q E hr e0 hb r hsp => ?_⟩
  have hl := len _ _ _ _ hsp
  have KX : K.In s.heap := e0.mod.kin.keeps fun b o e => (e0.bs b o e).1
  have lim : s.heap.NoLimit := e0.mod.nolimit.keeps fun b o e => (e0.bs b o e).1
  have hkind : ∀ y ∈ ps.zip us, (defScope st).names.lookup y.1 = some .local ∨ ((defScope st).names.lookup y.1 = some .cell ∧ ((cellsFrom (s.heap.objs.size + 1) (defScope st).names []).lookup y.1).isSome = true) := fun ⟨n, v⟩ hy => by
    rcases S.par n (List.of_mem_zip hy).1 with q | q
    · exact .inl q
    · exact .inr ⟨q, PySem.W.cellsFrom_some _ _ _ (.inl q)⟩
  refine codeAny_call_function hr.depth (KX _ _ lk) rfl S.co S.gen rfl (PySem.W.codeRec_of KX hcd) (hb _ _ _ _ ?_)
  refine wpAny_newFunctionEnv_cells S.kind hkind fun env he s1 xx => ?_
  subst he
  refine ⟨lim.keeps xx.toInCall.keep, codeAny_func ?_⟩
  obtain ⟨t, ht, hq⟩ := hbody cdv A outer s H vs Q E (hr.deeper _) hcd hsp
  have I : Inv (cxOf CX0 P w K mg base N qual (defScope st) f cdv A outer s H E) [] (start N vs) H s1 := inv_start S hr.hd e0 hl r xx
  refine wpAny_mono (ht.run [] s1 (start N vs) H _ (I.wish _) hq) (fun fl s' hs => ?_) fun e s' hs => False.elim hs
  obtain ⟨u, v, σ', H', rfl, J', rv, q⟩ := hs
  have J : Inv (cxOf CX0 P w K mg base N qual (defScope st) f cdv A outer s H E) [] σ' H' s' := J'.unwish
  obtain ⟨H'', hF, hU, hO⟩ := fin_make S.nd J
  exact ⟨v, H'', J.os, J.bare, hU, hO, rv, q H'' hF⟩
end Inf

set_option Elab.async false
set_option linter.all false
set_option maxRecDepth 100000
set_option maxHeartbeats 4000000
namespace Inf
open PySem PySem.Spec PyProof.Rows L2 NdefX LamX
/-! ### f( *values), f a name that holds a function that was made in a def -/
/-- such a thing is a function object -/
def FnHO (f : Addr) (o : HO) : Prop := ∀ (P : Program) (w : World) (H : Hp) (h : Heap), HOk P w H h → H f = some o → PySem.W.FnAt f h
theorem fnHO_of {f : Addr} {F : NF} : FnHO f (FnO f F) := fun P w H h hok e => by
  obtain ⟨od, sl, doc, pm, ctv, z⟩ := fnO_at hok e
  exact ⟨_, od, _, sl, z⟩
def tAct (P : Program) (w : World) (K : PySem.W.Frag) (mg : Str → Option Value) (base : Heap) (CX : CXT) (k i : Nat) (E : L2.St → XK) (te : TE) : TE := fun σ H Q => ∃ f, σ[i]? = some (some (.ref f)) ∧ te σ H fun y H1 => ∃ a xs o sp, y = V.ref a ∧ (SqT K H1 a xs ∨ SqL K H1 a xs) ∧ H1 f = some o ∧ FnHO f o ∧
  FnR P w K mg base CX k f sp ∧ sp xs H1 Q (E σ)
section
variable {X : Cx} {CX : CXT} {k i : Nat} {E : L2.St → XK} {x : Str} {e : Expr} {te : TE} {p sp_ pos : Pos}
theorem run_fnE {pins : List (Addr × Obj)} {σ : L2.St} {H : Hp} {s : Shared} {f : Addr} {sp : Sp} {Q : VK} {us : List Value} {vs : List V} (F : FnR X.prog X.w X.K X.mg X.base CX k f sp) (hr : Room k X.A) (hx : PassesAt CX X σ (E σ)) (I : Inv X pins σ H s) (r : Vals vs us) (h : sp vs H Q (E σ)) :
    wpAny (model X.prog X.w) X.A (call (.ref f) us) (EP X pins σ Q) X.xe s := by
  refine wpAny_call (codeAny_mono (F X.A X.stack s H us vs Q (E σ) hr I.env0 r h) fun r s' hq => ?_)
  match r, hq with
  | .error e, hq => exact hx pins H s e s' I hq
  | .ok (.ret u), hq => exact I.after hq
  | .ok .next, hq => exact False.elim hq
  | .ok .brk, hq => exact False.elim hq
  | .ok .cont, hq => exact False.elim hq
theorem pe_act (hN : X.N[i]? = some x) (hv : Vis X.env.scope x) (hr : Room k X.A) (hx : ∀ σ, PassesAt CX X σ (E σ)) (he : PE X e te) (hd : (x == ("__debug__" : Str)) = false := by decide) (hcd : (x == ("__classdict__" : Str)) = false := by decide)
    (hst : starEach [.Starred e sp_] X.env = [(true, eval e X.env)] := by rfl) : PE X (.Call (.Name x p) [.Starred e sp_] [] pos) (tAct X.prog X.w X.K X.mg X.base CX k i E te) := by
  refine ⟨fun pins s σ H Q I h => ?_⟩
  obtain ⟨f, hs, h⟩ := h
  refine wpAny_Call_Name_kw (thn ((pe_var (pos := p) hN hv hd hcd).run pins s σ H (fun v H1 => v = .ref f ∧ H1 = H) I ⟨.ref f, hs, rfl, rfl⟩) fun u s1 ⟨v, H1, I1, r1, ev, eH⟩ => ?_)
  subst ev
  rw [eH] at I1
  obtain rfl : u = Value.ref f := r1
  rw [show backTo pos (starEach [.Starred e sp_] X.env) = [(true, (do let v ← eval e X.env; standAt pos; pure v))] by rw [hst]; rfl]
  refine PySem.W.ks_call (P := PySem.W.FnAt f) rfl PySem.W.keeps_F (PySem.W.ks_lone ?_)
  refine thn (he.run pins s1 σ H _ I1 h) fun v s2 ⟨y, H2, I2, ry, a, xs, o, sp, ey, hxs, hf, ho, hF, q⟩ => ?_
  subst ey
  obtain rfl : v = Value.ref a := ry
  exact StX.star_any I2 hxs fun us s3 I3 rv => ⟨ho _ _ _ _ I3.hok hf, run_fnE hF hr (hx σ) I3 rv q⟩
end
/-! ### try: body finally: suite, where nothing is raised -/
section
variable {X : Cx} {body : List Stmt} {f₀ : Stmt} {fs : List Stmt} {pos : Pos} {tb tf : TS}
def tFin0 (tb tf : TS) : TS := fun D σ H => tb { nx := fun σ1 H1 => tf D σ1 H1, rt := fun _ _ => False } σ H
theorem ps_fin0 (hb : PSs X.nox body tb) (hf : PSs X.nox (f₀ :: fs) tf) : PS X (.Try body [] [] (f₀ :: fs) pos) (tFin0 tb tf) := by
  refine ⟨fun pins s σ H D I h => wpAny_Try_finally (wpAny_mono (hb.run pins s σ H _ (I.wish _) h) (fun g s1 z => ?_) fun _ _ z => False.elim z)⟩
  match g, z with
  | .ret u, z => exact (z.elim fun _ z => z.elim fun _ z => z.elim fun _ z => z.2.2).elim
  | .brk, z => exact (z.elim fun _ z => z.elim fun _ z => z.2).elim
  | .cont, z => exact (z.elim fun _ z => z.elim fun _ z => z.2).elim
  | .next, z =>
    obtain ⟨σ1, H1, J1, q1⟩ := z
    refine wpAny_execs_nil (wpAny_mono (hf.run pins s1 σ1 H1 D (J1.unwish.wish _) q1) (fun g2 s2 q2 => ?_) fun _ _ e => False.elim e)
    have q3 : SP X pins D g2 s2 := q2.unwish
    cases g2 <;> exact q3
end
end Inf

set_option Elab.async false
set_option linter.all false
set_option maxRecDepth 100000
set_option maxHeartbeats 4000000
namespace Inf
open PySem PySem.Spec PyProof.Rows L2 NdefX LamX
/-- the tables of the code objects of the top's defs, as the written part and the head tell them -/
def TopTabs (q : Program) (K : PySem.W.Frag) (mg : Str → Option Value) (h : Heap) : Prop := ∀ (x : Str) (f c P : Addr) (o1 : Obj) (fd1 : FuncData) (e : Value) (dd : Option Addr) (vs1 : Array Value) (sl : Array (Option Value)),
  (recsOf q).any (fun d => d.name == x) = true → mg x = some (.ref f) → K.lookup f = some o1 → o1.data = .func fd1 → fd1.code = .ref c → K.lookup c = some ⟨e, dd, .fields vs1, sl⟩ → vs1[11]? = some (.ref P) →
    PySem.W.CodeHd h c P ∧ h.get? P = some { cls := .none, data := .fields #[] }
theorem walk_top {l : PySem.W.OpenLaw} {n k : Nat} {q : Program} {loose : List Str} {XP : (Str → Option Value) → Heap → Prop} {YP : World → Heap → Prop} {d : DefRec} {K : Params → PySem.W.Frag} {CX : World → CXT} {x : Str}
    (hn : l.most = some n) (hn2 : n ≤ sizeLine) (hdf : d.params.defaults = []) (hr : Room k callerA) (hY : ∀ (w : World) (h : Heap), YP w h → (K w.params).In h)
    (F : ∀ (w : World) (mg : Str → Option Value) (fa : Addr) (h : Heap), YP w h → (K w.params).In h → h.Ns mainGlobals mg → mg d.name = some (.ref fa) → TopTabs q (K w.params) mg h → LawAtS l w (K w.params) (CX w) k n x mg fa h)
    (hCX : ∀ (w : World) (H : Hp) (s : Shared) (e : Value) (s' : Shared), CX w [] H s (fun _ _ _ => False) e s' → False) :
    PySem.W.WalkO q loose XP YP l.row.toRowW d [] (fun f vs => PySem.call f vs) :=
  Att.attach_callB hn hdf fun w s₀ s₁ mg mb fa o pm cd doc a vs ns G Y ho hd hcd hmg hobj hints hlen hbits hg => by
    have KX := hY w _ Y
    have tabs : TopTabs q (K w.params) mg s₁.heap := fun x f c P o1 fd1 e dd vs1 sl hrec hx k1 k2 k3 k4 k5 => by
      obtain ⟨dL, hm, hn1⟩ := List.any_eq_true.mp hrec
      have hn2 : dL.name = x := beq_iff_eq.mp hn1
      obtain ⟨a', o', fd', c', P', h1, h2, h3, h4, h5, h6⟩ := G.T.tab dL hm
      rw [hn2, hx] at h1
      cases h1
      have g1 := KX _ _ k1
      rw [g1] at h2
      cases h2
      rw [k2] at h3
      cases h3
      rw [k3] at h4
      cases h4
      have hC := PySem.W.CodeHd.of h5 h6
      obtain ⟨⟨oc, vc, e1, _, e3, e4⟩, hP⟩ := h6
      have g2 := KX _ _ k4
      rw [g2] at e1
      cases e1
      cases e3
      rw [k5] at e4
      cases e4
      exact ⟨hC, hP⟩
    obtain ⟨fd, cs, sp, hT, nT, C, hb, hsp, hF⟩ := F w mg fa _ Y KX G.T.g hmg tabs
    exact law_callTs KX G.T.g G.T.b G.T.builtins G.T.nolimit hg hT nT C G.T.bmain hobj hints (Nat.le_trans hlen hn2) hr hF hb (fun H hH hS => hsp H a ns hlen hbits hH hS) fun H e s' => hCX w H s₁ e s'
end Inf

set_option Elab.async false
set_option linter.all false
set_option maxRecDepth 100000
set_option maxHeartbeats 4000000
namespace Inf
open PySem PySem.Spec PyProof.Rows L2 NdefX LamX
/-! ### promises of defs that are called where no repr is under way -/
structure FnOkG (P : Program) (w : World) (K : PySem.W.Frag) (mg : Str → Option Value) (base : Heap) (CX : CXT) (k : Nat) (f : Addr) (fd : FuncData) (ps : List Str) (sp : Sp) : Prop where
  len : ∀ vs H Q E, sp vs H Q E → vs.length = ps.length
  run : ∀ (A : Around) (outer : List Env) (s : Shared) (H : Hp) (args : Args) (us : List Value) (vs : List V) (Q : VK) (E : XK), A.guards = some [] → Room k A → Env0 P w K mg base A outer s H → BindsTo s fd args (ps.zip us) → Vals vs us → sp vs H Q E →
    codeAny (model P w) A (.call (.ref f) args) (CR CX outer P w H s Q E) s
theorem FnOkG.of {P : Program} {w : World} {K : PySem.W.Frag} {mg : Str → Option Value} {base : Heap} {CX : CXT} {k : Nat} {f : Addr} {fd : FuncData} {ps : List Str} {sp : Sp} (F : FnOk P w K mg base CX k f fd ps sp) : FnOkG P w K mg base CX k f fd ps sp :=
  ⟨F.len, fun A outer s H args us vs Q E _ => F.run A outer s H args us vs Q E⟩
section
variable {P : Program} {w : World} {K : PySem.W.Frag} {mg mb : Str → Option Value} {CX : CXT} {k : Nat} {fa a : Addr} {cs : List (Addr × Addr)} {fd : FuncData} {x : Str} {sp : Sp} {s₁ : Shared} {vs : List Value} {ns : List Int}
/-- the law's call, from such a promise -/
theorem call_lawG (KX : K.In s₁.heap) (hns : s₁.heap.Ns mainGlobals mg) (hb : s₁.heap.Ns builtinsNs mb) (hbb : ∀ x : Str, x ≠ "__name__" → mb x = bootBuiltins x) (hlim : s₁.heap.NoLimit) (hg : s₁.gens = #[])
    (hT : ∀ p ∈ cs, s₁.heap.get? p.2 = some { cls := .none, data := .fields #[] }) (nT : ∀ p ∈ cs, K.lookup p.2 = none) (C : ∀ p ∈ cs, PySem.W.CodeHd s₁.heap p.1 p.2)
    (hbm : ∃ (bm : Addr) (ob : Obj), mg "__builtins__" = some (.ref bm) ∧ bm ≠ builtinsNs ∧ s₁.heap.get? bm = some ob ∧ ob.cls = .type "module" ∧ ob.dict = some builtinsNs ∧ ob.data = .plain)
    (ha : s₁.heap.get? a = some { cls := .type "list", data := .seq vs.toArray }) (hi : IntsAre vs ns) (hl : ns.length ≤ sizeLine) (hr : Room k callerA)
    (F : ∀ base : Heap, K.In base → base.Ns mainGlobals mg → (∀ p ∈ cs, TabB base mg p.1 p.2) → FnOkG P w K mg base CX k fa fd [x] sp) (hbind : ∀ (s : Shared) (u : Value), BindsTo s fd ⟨[u], []⟩ [(x, u)])
    (hsp : ∀ H : Hp, (∀ p ∈ cs, H p.2 = some (.tbl #[])) → SqL K H a (ns.map V.int) → sp [.ref a] H (fun v _ => v = .bl true) fun _ _ _ => False)
    (hCX : ∀ H e s', CX [] H s₁ (fun _ _ _ => False) e s' → False) :
    codeAny (model P w) callerA (.call (.ref fa) ⟨[.ref a], []⟩) (fun r s' => r = .ok (.ret (.bool true)) ∧ OldK s₁.heap s'.heap ∧ s'.os = s₁.os ∧ AllBare s'.gens) s₁ := by
  have tabAt : ∀ b, b ∈ cs.map (·.2) → s₁.heap.get? b = some { cls := .none, data := .fields #[] } := fun b hb => (List.mem_map.mp hb).elim fun p hp => hp.2 ▸ hT p hp.1
  have tabK : ∀ b, b ∈ cs.map (·.2) → K.lookup b = none := fun b hb => (List.mem_map.mp hb).elim fun p hp => hp.2 ▸ nT p hp.1
  -- the abstract heap: the tables, and the script where the written part doesn't hold it
  let H : Hp := fun b => if b ∈ cs.map (·.2) then some (.tbl #[]) else if b = a ∧ K.lookup a = none then some (.frz { cls := .type "list", data := .seq vs.toArray } (.lst (ns.map V.int))) else none
  have aNot : a ∉ cs.map (·.2) := fun z => by
    have := tabAt a z
    rw [ha] at this
    cases this
  have Htab : ∀ b, b ∈ cs.map (·.2) → H b = some (.tbl #[]) := fun b hb => if_pos hb
  have Hcase : ∀ b u, H b = some u → (b ∈ cs.map (·.2) ∧ u = .tbl #[]) ∨ (b = a ∧ K.lookup a = none ∧ u = .frz { cls := .type "list", data := .seq vs.toArray } (.lst (ns.map V.int))) := fun b u e => by
    by_cases h1 : b ∈ cs.map (·.2)
    · exact .inl ⟨h1, Option.some.inj (e.symm.trans (Htab b h1))⟩
    · by_cases h2 : b = a ∧ K.lookup a = none
      · exact .inr ⟨h2.1, h2.2, Option.some.inj (e.symm.trans ((if_neg h1).trans (if_pos h2)))⟩
      · exact absurd (e.symm.trans ((if_neg h1).trans (if_neg h2))) (fun z => nomatch z)
  have other : ∀ b o, s₁.heap.get? b = some o → (∀ its n, o.data ≠ .seq its n) → o.data ≠ .fields #[] → H b = none := fun b o e n1 n2 => by
    match q : H b with
    | none => rfl
    | some u =>
      rcases Hcase b u q with ⟨z, _⟩ | ⟨z, _, _⟩
      · rw [tabAt b z] at e
        exact absurd (by cases e; rfl) n2
      · rw [z, ha] at e
        exact absurd (by cases e; rfl) (n1 vs.toArray 0)
  have hok : HOk P w H s₁.heap := fun b u e => by
    rcases Hcase b u e with ⟨z, rfl⟩ | ⟨rfl, _, rfl⟩
    · exact tabAt b z
    · exact ⟨ha, by rw [List.length_map]; exact hl, vs, _, vals_ints hi, ha⟩
  have hS : SqL K H a (ns.map V.int) := by
    match hk : K.lookup a with
    | none => exact .inl (.inr ⟨_, (if_neg aNot).trans (if_pos ⟨rfl, hk⟩)⟩)
    | some o =>
      have e := KX a o hk
      rw [ha] at e
      cases e
      have lenV := hi.length
      exact .inr ⟨_, vs.toArray, _, hk, rfl, rfl, rfl, by rw [List.size_toArray, lenV]; exact hl, by simpa using vals_ints hi⟩
  have low : ∀ b o, s₁.heap.get? b = some o → H b = none → (hidT s₁.heap H).get? b = some o := fun b o e n => hidT_get e n
  have lowNs : ∀ {b : Addr} {m : Str → Option Value}, s₁.heap.Ns b m → (hidT s₁.heap H).Ns b m := fun {b m} h => by
    obtain ⟨o, es, ep, e, d, r⟩ := h
    exact ⟨o, es, ep, low b o e (other b o e (fun its n z => by rw [d] at z; cases z) fun z => by rw [d] at z; cases z), d, r⟩
  have lowK : K.In (hidT s₁.heap H) := fun b o e => low b o (KX b o e) (by
    match q : H b with
    | none => rfl
    | some u =>
      rcases Hcase b u q with ⟨z, _⟩ | ⟨rfl, z, _⟩
      · rw [tabK b z] at e
        cases e
      · rw [z] at e
        cases e)
  have notG : ∀ b o, s₁.heap.get? b = some o → (∀ es ep, o.data ≠ .dict es ep) → b ≠ mainGlobals := fun b o e n z => by
    obtain ⟨o', es, ep, e', d, _⟩ := hns
    rw [z, e'] at e
    cases e
    exact n es ep d
  have lowT : ∀ p ∈ cs, TabB (hidT s₁.heap H) mg p.1 p.2 := fun p hp => by
    refine ⟨?_, ?_, Ne.symm (notG p.2 _ (hT p hp) (fun es ep z => nomatch z))⟩
    · obtain ⟨o, us, file, tf, flags, tg, inF, text, tt, e1, r1, r2, r3, rest⟩ := C p hp
      refine ⟨o, us, file, tf, flags, tg, inF, text, tt, low _ o e1 (other _ o e1 (fun its n z => by rw [r2] at z; cases z) fun z => ?_), r1, r2, r3, rest⟩
      rw [r2] at z
      cases z
      simp at r3
    · obtain ⟨bm, ob, b1, b2, b3, b4, b5, b6⟩ := hbm
      refine ⟨bm, ob, b1, b2, notG bm ob b3 (fun es ep z => by rw [b6] at z; cases z), fun z => ?_, low bm ob b3 (other bm ob b3 (fun its n z => by rw [b6] at z; cases z) fun z => by rw [b6] at z; cases z), b4, b5, b6⟩
      rw [z, hT p hp] at b3
      cases b3
      cases b6
  have lowM : L2.Mod K mg (hidT s₁.heap H) := ⟨lowK, lowNs hns, ⟨mb, lowNs hb, hbb⟩, hlim.elim fun mc h => ⟨mc, lowNs h.1, h.2⟩⟩
  have e0 : Env0 P w K mg (hidT s₁.heap H) callerA [] s₁ H := ⟨rfl, lowM, fun b o e => of_hidT e, Nat.le_of_eq (hidT_size _ _), trivial, fun b hb => absurd (show b ∈ ([] : List Addr) from hb) (List.not_mem_nil), hok, .of_eq hg⟩
  refine codeAny_mono ((F _ lowK (lowNs hns) lowT).run callerA [] s₁ H ⟨[.ref a], []⟩ [.ref a] [.ref a] _ _ rfl hr e0 (hbind s₁ (.ref a)) (.cons rfl .nil) (hsp H (fun p hp => Htab _ (List.mem_map.mpr ⟨p, hp, rfl⟩)) hS)) fun r s' h => ?_
  match r, h with
  | .error e, h => exact (hCX H e s' h).elim
  | .ok .next, h => exact False.elim h
  | .ok .brk, h => exact False.elim h
  | .ok .cont, h => exact False.elim h
  | .ok (.ret u), h =>
    obtain ⟨v, H', os, bare, un, hok', r', q⟩ := h
    have q2 : v = .bl true := q
    subst q2
    obtain rfl : u = Value.bool true := r'
    have stays : ∀ b o, b ∉ cs.map (·.2) → s₁.heap.get? b = some o → s'.heap.get? b = some o := fun b o nb e => by
      match z : H b with
      | none => exact un.keep b o e z (fun z => nomatch z) (fun z => nomatch z)
      | some u =>
        rcases Hcase b u z with ⟨y, _⟩ | ⟨rfl, _, rfl⟩
        · exact absurd y nb
        · obtain ⟨e1, _⟩ := hok' b _ (un.frzs b _ _ z)
          rw [ha] at e
          cases e
          exact e1
    have tabs : ∀ p ∈ cs, ∃ more : Array Value, s'.heap.get? p.2 = some { cls := .none, data := .fields more } := fun p hp =>
      (un.tbls p.2 #[] (Htab _ (List.mem_map.mpr ⟨p, hp, rfl⟩))).elim fun more z => ⟨_, hok' p.2 _ z⟩
    refine ⟨rfl, ⟨fun b o e => ?_, fun b o e => ?_⟩, os, bare⟩
    · by_cases nb : b ∈ cs.map (·.2)
      · obtain ⟨p, hp, rfl⟩ := List.mem_map.mp nb
        rw [hT p hp] at e
        cases e
        exact (tabs p hp).elim fun more hm => .inr (.inl ⟨((C p hp).tab (hT p hp)).isCodeTable, rfl, #[], more, rfl, hm.trans (by rw [Array.empty_append])⟩)
      · exact .inl (stays b o nb e)
    · by_cases nb : b ∈ cs.map (·.2)
      · obtain ⟨p, hp, rfl⟩ := List.mem_map.mp nb
        exact (tabs p hp).elim fun more hm => ⟨_, hm⟩
      · exact ⟨o, stays b o nb e⟩
end
/-- what is known of the law's promise at the head's heap, where no repr is under way -/
def LawAtG (l : PySem.W.OpenLaw) (w : World) (K : PySem.W.Frag) (CX : CXT) (k n : Nat) (x : Str) (mg : Str → Option Value) (fa : Addr) (h : Heap) : Prop :=
  ∃ (fd : FuncData) (cs : List (Addr × Addr)) (sp : Sp), (∀ p ∈ cs, h.get? p.2 = some { cls := .none, data := .fields #[] }) ∧ (∀ p ∈ cs, K.lookup p.2 = none) ∧ (∀ p ∈ cs, PySem.W.CodeHd h p.1 p.2) ∧ (∀ (s : Shared) (u : Value), BindsTo s fd ⟨[u], []⟩ [(x, u)]) ∧
    (∀ (H : Hp) (a : Addr) (ns : List Int), ns.length ≤ n → (∀ p ∈ cs, H p.2 = some (.tbl #[])) → SqL K H a (ns.map V.int) → sp [.ref a] H (fun v _ => v = .bl true) fun _ _ _ => False) ∧
    ∀ base : Heap, K.In base → base.Ns mainGlobals mg → (∀ p ∈ cs, TabB base mg p.1 p.2) → FnOkG l.prog w K mg base CX k fa fd [x] sp
theorem walk_topG {l : PySem.W.OpenLaw} {n k : Nat} {q : Program} {loose : List Str} {XP : (Str → Option Value) → Heap → Prop} {YP : World → Heap → Prop} {d : DefRec} {K : Params → PySem.W.Frag} {CX : World → CXT} {x : Str}
    (hn : l.most = some n) (hn2 : n ≤ sizeLine) (hdf : d.params.defaults = []) (hr : Room k callerA) (hY : ∀ (w : World) (h : Heap), YP w h → (K w.params).In h)
    (F : ∀ (w : World) (mg : Str → Option Value) (fa : Addr) (h : Heap), YP w h → (K w.params).In h → h.Ns mainGlobals mg → mg d.name = some (.ref fa) → TopTabs q (K w.params) mg h → LawAtG l w (K w.params) (CX w) k n x mg fa h)
    (hCX : ∀ (w : World) (H : Hp) (s : Shared) (e : Value) (s' : Shared), CX w [] H s (fun _ _ _ => False) e s' → False) :
    PySem.W.WalkO q loose XP YP l.row.toRowW d [] (fun f vs => PySem.call f vs) :=
  Att.attach_callB hn hdf fun w s₀ s₁ mg mb fa o pm cd doc a vs ns G Y ho hd hcd hmg hobj hints hlen hbits hg => by
    have KX := hY w _ Y
    have tabs : TopTabs q (K w.params) mg s₁.heap := fun x f c P o1 fd1 e dd vs1 sl hrec hx k1 k2 k3 k4 k5 => by
      obtain ⟨dL, hm, hn1⟩ := List.any_eq_true.mp hrec
      have hn2 : dL.name = x := beq_iff_eq.mp hn1
      obtain ⟨a', o', fd', c', P', h1, h2, h3, h4, h5, h6⟩ := G.T.tab dL hm
      rw [hn2, hx] at h1
      cases h1
      have g1 := KX _ _ k1
      rw [g1] at h2
      cases h2
      rw [k2] at h3
      cases h3
      rw [k3] at h4
      cases h4
      have hC := PySem.W.CodeHd.of h5 h6
      obtain ⟨⟨oc, vc, e1, _, e3, e4⟩, hP⟩ := h6
      have g2 := KX _ _ k4
      rw [g2] at e1
      cases e1
      cases e3
      rw [k5] at e4
      cases e4
      exact ⟨hC, hP⟩
    obtain ⟨fd, cs, sp, hT, nT, C, hb, hsp, hF⟩ := F w mg fa _ Y KX G.T.g hmg tabs
    exact call_lawG KX G.T.g G.T.b G.T.builtins G.T.nolimit hg hT nT C G.T.bmain hobj hints (Nat.le_trans hlen hn2) hr hF hb (fun H hH hS => hsp H a ns hlen hH hS) fun H e s' => hCX w H s₁ e s'
/-! ### bodies and calls of such defs -/
theorem okG {P : Program} {w : World} {K : PySem.W.Frag} {mg : Str → Option Value} {base : Heap} {x qual : Str} {st : Stmt} {f : Addr} {fd : FuncData} {N ps : List Str} {k : Nat} {sp : Sp} (F : L2.Fun K x qual st f fd) (S : FnScope N ps (defScope st)) (len : ∀ vs H Q E, sp vs H Q E → vs.length = ps.length)
    (hbody : ∀ (cdv : Value) (A : Around) (outer : List Env) (s : Shared) (H : Hp) (vs : List V) (Q : VK) (E : XK), (A.deeper (envOfC qual (defScope st) s.heap.objs.size f cdv)).guards = some [] → Room k (A.deeper (envOfC qual (defScope st) s.heap.objs.size f cdv)) → sp vs H Q E →
      ∃ t, PSs (cxOf CX0 P w K mg base N qual (defScope st) f cdv A outer s H E).nox (defBody st) t ∧ t { nx := fun _ H' => Q .non H', rt := Q } (start N vs) H) : FnOkG P w K mg base CX0 (k + 1) f fd ps sp := by
  obtain ⟨oc, od, kV, doc, pm, an, cdv, ct, osl, rfl, lk, hcd⟩ := F.ex
  refine ⟨len, fun A outer s H args us vs Q E hga hr e0 hb r hsp => ?_⟩
  have KX : K.In s.heap := e0.mod.kin.keeps fun b o e => (e0.bs b o e).1
  have lim : s.heap.NoLimit := e0.mod.nolimit.keeps fun b o e => (e0.bs b o e).1
  have hl := len _ _ _ _ hsp
  have hkind : ∀ y ∈ ps.zip us, (defScope st).names.lookup y.1 = some .local ∨ ((defScope st).names.lookup y.1 = some .cell ∧ ((cellsFrom (s.heap.objs.size + 1) (defScope st).names []).lookup y.1).isSome = true) := fun ⟨n, v⟩ hy =>
    (S.par n (List.of_mem_zip hy).1).elim .inl fun q => .inr ⟨q, PySem.W.cellsFrom_some _ _ _ (.inl q)⟩
  refine codeAny_call_function hr.depth (KX _ _ lk) rfl S.co S.gen rfl (PySem.W.codeRec_of KX hcd) (hb _ _ _ _ (wpAny_newFunctionEnv_cells S.kind hkind fun env he s1 xx => ?_))
  subst he
  obtain ⟨t, ht, hq⟩ := hbody cdv A outer s H vs Q E hga (hr.deeper _) hsp
  have I : Inv (cxOf CX0 P w K mg base N qual (defScope st) f cdv A outer s H E) [] (start N vs) H s1 := inv_start S hr.hd e0 hl r xx
  refine ⟨lim.keeps xx.toInCall.keep, codeAny_func (wpAny_mono (ht.run [] s1 (start N vs) H _ (I.wish _) hq) (fun fl s' hs => ?_) fun e s' hs => False.elim hs)⟩
  have fin : ∀ {σ' : L2.St} {H' : Hp} {v : V} {u : Value}, Inv (cxOf CX0 P w K mg base N qual (defScope st) f cdv A outer s H E).nox [] σ' H' s' → L2.RelV v u → Q v H' → CE outer P w H s Q u s' :=
    fun {σ' H' v u} J rv q => ⟨v, H', J.os, J.bare, J.base, J.hok, rv, q⟩
  match fl, hs with
  | .ret u, hs => exact hs.elim fun v z => z.elim fun σ' z => z.elim fun H' z => fin z.1 z.2.1 z.2.2
  | .next, hs => exact hs.elim fun σ' z => z.elim fun H' z => fin (v := V.non) (u := Value.none) z.1 rfl z.2
  | .brk, hs => exact hs.elim fun _ z => z.elim fun _ z => False.elim z.2
  | .cont, hs => exact hs.elim fun _ z => z.elim fun _ z => False.elim z.2
section
variable {X : Cx} {CX : CXT} {k : Nat} {f : Addr} {fd : FuncData} {ps : List Str} {sp : Sp} {E : XK} {x : Str} {p pos : Pos} {e : Expr} {es : List Expr} {t : TA}
/-- f(e, ..), f such a def -/
theorem pe_callG (F : FnOkG X.prog X.w X.K X.mg X.base CX k f fd ps sp) (hG : X.A.guards = some []) (hr : Room k X.A) (hg : Gl X x) (hm : X.mg x = some (.ref f)) (hk : PySem.W.keepIn X.K (.ref f) = true) (hb : L2.Binds X.K fd ps []) (hx : Passes CX X E)
    (ha : PA X (e :: es) t) (hdb : (x == ("__debug__" : Str)) = false := by decide) (he : starEach (e :: es) X.env = (false, eval e X.env) :: starEach es X.env := by rfl) (hpl : (backTo pos (starEach es X.env)).any (·.1) = false := by rfl) :
    PE X (.Call (.Name x p) (e :: es) [] pos) (fun σ H Q => t σ H fun vs H1 => sp vs H1 Q E) := by
  refine ⟨fun pins s σ H Q I h => wpAny_Call_Name_kw (ld_glob I hg hm (PySem.W.callWith_K (h₀ := X.base) I.ok.mod.kin hk (thn (ha.run pos pins s σ H _ I h) fun us s1 ⟨vs, H1, I1, r, q⟩ => ⟨I1.kIn, ?_⟩) he hpl) hdb)⟩
  have hl : us.length = ps.length := r.length.symm.trans (F.len _ _ _ _ q)
  have hb2 : BindsTo s1 fd ⟨us, []⟩ (ps.zip us) := by
    have := hb s1 us I1.kIn (by rw [List.append_nil]; exact hl)
    rwa [List.append_nil] at this
  refine wpAny_call (codeAny_mono (F.run X.A X.stack s1 H1 ⟨us, []⟩ us vs Q E hG hr I1.env0 hb2 r q) fun res s' hq => ?_)
  match res, hq with
  | .error er, hq => exact hx pins σ H1 s1 er s' I1 hq
  | .ok (.ret u), hq => exact I1.after hq
  | .ok .next, hq => exact False.elim hq
  | .ok .brk, hq => exact False.elim hq
  | .ok .cont, hq => exact False.elim hq
/-- repr of data: what PyData.shown says -/
theorem call_reprD (hG : X.A.guards = some []) (hu : X.A.units + 64 + 16 < cLine) : CallR X (.builtin "repr") (fun xs H Q => ∃ (v : V) (d : PyData), xs = [v] ∧ Dp X.K H v d ∧ d.showable = true ∧ d.hasDict = false ∧ d.depth ≤ 64 ∧ d.shown.length ≤ sizeLine ∧ (∀ i, v = .int i → i.natAbs.log2 < 1920) ∧ Q (.str d.shown) H) := by
  intro pins s σ H xs us Q I r h
  obtain ⟨v, d, rfl, hd, hs, hnd, hdp, hsz, hi, q⟩ := h
  obtain ⟨u, rfl, ru⟩ := vals1 r
  have txt : ∀ tk, ∃ (y : V) (H1 : Hp), Inv X pins σ H1 { s with toks := tk } ∧ L2.RelV y (.str d.shown s.toks) ∧ Q y H1 := fun tk => ⟨.str d.shown, H, I.kept (t' := tk) fun _ _ z => z, ⟨_, rfl⟩, q⟩
  have obj : ∀ (a : Addr), u = .ref a → wpAny (model X.prog X.w) X.A (call (.builtin "repr") [u]) (EP X pins σ Q) X.xe s := fun a e => by
    subst e
    obtain ⟨as, rd⟩ := Dp.reads I _ _ _ hd ru
    exact repr_of_reads' rd hs (fun z => by rw [hnd] at z; cases z) hG (by omega) (fun _ _ z => z) (fun h' u tk hk => ⟨.str d.shown, H, I.kept (h' := h') (t' := tk) hk, ⟨_, rfl⟩, q⟩) hsz
  cases hd with
  | non =>
    obtain rfl : u = Value.none := ru
    exact P.repr_of_none (txt _)
  | bl b =>
    obtain rfl : u = Value.bool b := ru
    exact P.repr_of_bool (by cases b <;> exact txt _)
  | int i =>
    obtain ⟨t, rfl⟩ := ru
    exact P.repr_of_int (hi i rfl) (txt _)
  | str y =>
    obtain ⟨t, rfl⟩ := ru
    exact P.repr_of_str (txt _) hsz
  | lst h1 h2 => exact obj _ ru
  | tup h1 h2 => exact obj _ ru
end
end Inf

set_option Elab.async false
set_option linter.all false
set_option maxRecDepth 100000
set_option maxHeartbeats 4000000
namespace Inf
open PySem PySem.Spec PyProof.Rows L2 NdefX LamX
/-! ### a lambda as a value: a function that stands where it was made -/
/-- its words, the cells that it captured, its code object -/
structure LF where
  qual : Str
  params : Arguments
  body : Expr
  scope : Scope
  cl : List (Str × Addr)
  c : Addr
def LamO (f : Addr) (F : LF) : HO := .ext fun h => ∃ (pm ctv : Value), h.get? f = some (PySem.W.kla_obj "<lambda>" F.qual F.params F.body F.scope F.cl pm F.c ctv)
theorem lamO_at {P : Program} {w : World} {H : Hp} {h : Heap} {f : Addr} {F : LF} (hok : HOk P w H h) (e : H f = some (LamO f F)) : ∃ (pm ctv : Value), h.get? f = some (PySem.W.kla_obj "<lambda>" F.qual F.params F.body F.scope F.cl pm F.c ctv) := by
  obtain ⟨z, _, _⟩ := hok f _ e
  exact z
theorem lamO_ok {P : Program} {w : World} {H : Hp} {h : Heap} {f : Addr} {F : LF} (e : ∃ (pm ctv : Value), h.get? f = some (PySem.W.kla_obj "<lambda>" F.qual F.params F.body F.scope F.cl pm F.c ctv)) : ObjOk P w H h f (LamO f F) := by
  refine ⟨e, ?_, fun h1 h2 ⟨pm, ctv, z⟩ k => ⟨pm, ctv, k _ z⟩⟩
  obtain ⟨pm, ctv, z⟩ := e
  exact ⟨_, z⟩
theorem lamHO {f : Addr} {F : LF} : FnHO f (LamO f F) := fun P w H h hok e => by
  obtain ⟨pm, ctv, z⟩ := lamO_at hok e
  exact ⟨_, _, _, _, z⟩
section
variable {X : Cx} {pins : List (Addr × Obj)} {σ : L2.St} {H : Hp} {s : Shared}
/-- the lambda is made and told where it stands; its code object is new, or found in the table -/
theorem lam_told {T : List (Addr × Str)} {c P : Addr} {params : Arguments} {body : Expr} {scope : Scope} {pos : Pos} {E : Value → Shared → Prop} {Q : Value → Shared → Prop} (I : Inv X pins σ H s) (TB : TabB X.base X.mg c P) (hcode : X.env.code = .ref c)
    (hm : (P, X.env.qual ++ "<lambda>") ∈ T) (hu : ∀ p ∈ T, p.1 = P → p.2 = X.env.qual ++ "<lambda>") (hT : Tabs T H) (hdef : defaultsOf params X.env = ([], [])) (hfree : ∀ y ∈ scope.names, y.2 = .free → ∃ c, X.env.cells.lookup y.1 = some c)
    (h : ∀ (f c' : Addr) (H1 : Hp) (s' : Shared), Inv X pins σ (upd H1 f (LamO f ⟨X.env.qual ++ "<lambda>", params, body, scope, cloFrom X.env.cells scope.names [], c'⟩)) s' → (∀ b o, H b = some o → b ≠ P → H1 b = some o) → (∀ b, H1 b = none → H b = none) → Tabs T H1 → H1 f = none → H1 c' = some (CodeO c' (X.env.qual ++ "<lambda>")) → Q (.ref f) s') :
    wpAny (model X.prog X.w) X.A (eval (.Lambda params body scope pos) X.env) Q E s := by
  obtain ⟨ps, tP, tO, tA⟩ := hT _ hm
  have bP := TB.bm.keeps (h' := s.heap) I.bk
  have gP : s.heap.get? P = some { cls := .none, data := .fields ps } := I.hok P _ tP
  refine PySem.W.kla_eval hdef ?_
  cases cd : codeAmong pos ps.toList with
  | none =>
    refine PySem.W.kla_makeFunction (mg := X.mg) (c := c) (P := P) (ps := ps) (closure_ok hfree) I.ok.glob (I.mod.glob.keeps I.bk) hcode (TB.code.keeps I.bk) gP tO cd TB.gP bP fun c' ctv h' tk hx hge hlt hrec htb => ?_
    obtain ⟨c2, oc, vs, t, e2, hoc, hd, hv⟩ := hrec
    cases e2
    have nC : H c' = none := I.hok.fresh hge
    have I0 := inv_table (q := X.env.qual ++ "<lambda>") (t' := tk) (more := #[rawInt pos.line, rawInt pos.col, .ref c']) (h' := h') I tP hx htb hge ⟨oc, vs, t, hoc, hd, hv⟩
    have I1 := I0.laid (a := h'.objs.size) (o := LamO h'.objs.size ⟨X.env.qual ++ "<lambda>", params, body, scope, cloFrom X.env.cells scope.names [], c'⟩) (h' := h'.push (PySem.W.kla_obj "<lambda>" (X.env.qual ++ "<lambda>") params body scope (cloFrom X.env.cells scope.names []) ((X.mg "__name__").getD .none) c' ctv)) (t' := tk)
      (fun b u z => Heap.get?_push_of_some _ z) (Nat.le_refl _) (lamO_ok ⟨_, _, Heap.get?_push_size _ rfl⟩)
    have stays : ∀ b o, H b = some o → b ≠ P → (upd (upd H P (.tbl (ps ++ #[rawInt pos.line, rawInt pos.col, .ref c']))) c' (CodeO c' (X.env.qual ++ "<lambda>"))) b = some o := fun b o e n => by
      rw [upd_ne (ne_of_none e nC), upd_ne n]
      exact e
    have neP : ∀ {b : Addr} {c2 : Addr} {q : Str}, H b = some (CodeO c2 q) → b ≠ P := fun e z => by
      rw [z, tP] at e
      exact codeO_ne _ (Option.some.inj e).symm
    refine h _ c' _ _ I1 stays (fun b z => ?_) (fun p hp => ?_) (I0.hok.fresh (Nat.le_refl _)) upd_same
    · by_cases b1 : b = c'
      · rw [b1]
        exact nC
      · rw [upd_ne b1] at z
        by_cases b2 : b = P
        · rw [b2, upd_same] at z
          cases z
        · rw [upd_ne b2] at z
          exact z
    · obtain ⟨qs, a1, a2, a3⟩ := hT p hp
      by_cases hb : p.1 = P
      · have eL : (ps ++ #[rawInt pos.line, rawInt pos.col, .ref c']).toList = ps.toList ++ [rawInt pos.line, rawInt pos.col, .ref c'] := by simp
        refine ⟨_, by rw [hb, upd_ne (ne_of_none tP nC), upd_same], ?_, fun p' cv y => ?_⟩
        · rw [eL]
          exact PySem.TriplesOk_snoc _ _ _ _ tO
        · rw [eL] at y
          rw [hu p hp hb]
          rcases among_app _ tO y with z | z
          · obtain ⟨c0, k1, k2⟩ := tA p' cv z
            exact ⟨c0, k1, stays _ _ k2 (neP k2)⟩
          · exact ⟨c', z, upd_same⟩
      · refine ⟨qs, ?_, a2, fun p' cv y => ?_⟩
        · rw [upd_ne (ne_of_none a1 nC), upd_ne hb]
          exact a1
        · obtain ⟨c0, k1, k2⟩ := a3 p' cv y
          exact ⟨c0, k1, stays _ _ k2 (neP k2)⟩
  | some cv =>
    obtain ⟨c', e, hco⟩ := tA pos cv cd
    subst e
    refine PySem.W.kla_makeFunctionHit (mg := X.mg) (c := c) (P := P) (ps := ps) (closure_ok hfree) I.ok.glob (I.mod.glob.keeps I.bk) hcode (TB.code.keeps I.bk) gP tO cd bP fun ctv h' tk hx hsz => ?_
    have I0 : Inv X pins σ H { s with heap := h', toks := tk } := I.kept hx
    have I1 := I0.laid (a := h'.objs.size) (o := LamO h'.objs.size ⟨X.env.qual ++ "<lambda>", params, body, scope, cloFrom X.env.cells scope.names [], c'⟩) (h' := h'.push (PySem.W.kla_obj "<lambda>" (X.env.qual ++ "<lambda>") params body scope (cloFrom X.env.cells scope.names []) ((X.mg "__name__").getD .none) c' ctv)) (t' := tk)
      (fun b u z => Heap.get?_push_of_some _ z) (Nat.le_refl _) (lamO_ok ⟨_, _, Heap.get?_push_size _ rfl⟩)
    exact h _ c' H _ I1 (fun _ _ e _ => e) (fun _ z => z) hT (I0.hok.fresh (Nat.le_refl _)) hco
end
def tLamO (T : List (Addr × Str)) (P : Addr) (F : Addr → LF) : TE := fun σ H Q => Tabs T H ∧ ∀ (f c' : Addr) (H1 : Hp), (∀ b o, H b = some o → b ≠ P → H1 b = some o) → (∀ b, H1 b = none → H b = none) → Tabs T H1 → H1 f = none → H1 c' = some (CodeO c' (F c').qual) → Q (.ref f) (upd H1 f (LamO f (F c')))
theorem pe_lamO {X : Cx} {T : List (Addr × Str)} {c P : Addr} {params : Arguments} {body : Expr} {scope : Scope} {pos : Pos} (TB : TabB X.base X.mg c P) (hcode : X.env.code = .ref c) (hm : (P, X.env.qual ++ "<lambda>") ∈ T) (hu : ∀ p ∈ T, p.1 = P → p.2 = X.env.qual ++ "<lambda>")
    (hdef : defaultsOf params X.env = ([], [])) (hfree : ∀ y ∈ scope.names, y.2 = .free → X.env.scope.names.lookup y.1 = some .cell ∨ X.env.scope.names.lookup y.1 = some .free) :
    PE X (.Lambda params body scope pos) (tLamO T P fun c' => ⟨X.env.qual ++ "<lambda>", params, body, scope, cloFrom X.env.cells scope.names [], c'⟩) := by
  refine ⟨fun pins s σ H Q I h => ?_⟩
  obtain ⟨hT, q⟩ := h
  exact lam_told I TB hcode hm hu hT hdef (fun y hy e => (hfree y hy e).elim (fun z => I.ok.has _ (.inl z)) fun z => I.ok.has _ (.inr z)) fun f c' H1 s' I1 e1 n1 t1 nf hc => ⟨.ref f, _, I1, rfl, q f c' H1 e1 n1 t1 nf hc⟩
end Inf

set_option Elab.async false
set_option linter.all false
set_option maxRecDepth 100000
set_option maxHeartbeats 4000000
namespace Inf
open PySem PySem.Spec PyProof.Rows L2 NdefX LamX
/-- its words as those of a function: for the frame alone -/
def LF.nf (F : LF) : NF := ⟨"<lambda>", F.qual, F.params, [], F.scope, F.cl, F.c⟩
section
variable {P : Program} {w : World} {K : PySem.W.Frag} {mg : Str → Option Value} {base : Heap} {k : Nat} {f : Addr} {F : LF} {N ps : List Str} {sp : Sp}
/-- a lambda that captures nothing, called from anywhere -/
theorem lam_fnR (S : NScope N ps [] F.scope) (hcl : F.cl = []) (hb : ∀ (pm ctv : Value) (us : List Value), us.length = ps.length → bindArgs (PySem.W.kla_fn "<lambda>" F.qual F.params F.body F.scope F.cl pm (.ref F.c) ctv) ⟨us, []⟩ = pure (ps.zip us))
    (len : ∀ vs H Q E, sp vs H Q E → vs.length = ps.length)
    (hbody : ∀ (A : Around) (outer : List Env) (s : Shared) (H : Hp) (vs : List V) (Q : VK) (E : XK), Room k (A.deeper (envF F.nf f s.heap.objs.size)) → sp vs H Q E → ∃ te, PE (ncx CX0 P w K mg base N F.nf f A outer s H E) F.body te ∧ te (startF N vs []) H Q) :
    FnR P w K mg base CX0 (k + 1) f (fun vs H Q E => H f = some (LamO f F) ∧ H F.c = some (CodeO F.c F.qual) ∧ sp vs H Q E) := by
  intro A outer s H us vs Q E hr e0 r hsp
  obtain ⟨hf, hc, hsp⟩ := hsp
  have hl := len _ _ _ _ hsp
  have lim : s.heap.NoLimit := e0.mod.nolimit.keeps fun b o e => (e0.bs b o e).1
  obtain ⟨pm, ctv, ho⟩ := lamO_at e0.hok hf
  have C : CellsAt F.nf.cl [] [] s.heap H := by
    show CellsAt F.cl [] [] s.heap H
    rw [hcl]
    exact ⟨rfl, (fun y c e => nomatch e), (fun x y c e => nomatch e), (fun i y e => nomatch e)⟩
  refine PySem.W.kla_callFunE hr.depth ho rfl S.co S.gen rfl (codeO_at e0.hok hc) ?_
  rw [hb pm ctv us (by rw [← r.length]; exact hl)]
  refine wpAny_pure (wpAny_newFunctionEnv S.nocell (fun ⟨n, _⟩ hy => S.par n (List.of_mem_zip hy).1) (fun h₁ hns hsb => ⟨lim.fresh _ hsb, ?_⟩) S.kind)
  obtain ⟨te, ht, hq⟩ := hbody A outer s H vs Q E (hr.deeper _) hsp
  have kp : ∀ b o, s.heap.get? b = some o → h₁.get? b = some o := fun b o e => hsb.extBut b o (Nat.ne_of_lt (Heap.lt_size e)) (Heap.get?_push_of_some _ e)
  have I := inv_startN (CX := CX0) (P := P) (w := w) (K := K) (mg := mg) (base := base) (F := F.nf) (f := f) (A := A) (outer := outer) (E := E) (tk := s.toks + (ps.zip us).length) S hr.hd e0 hl r C hns kp
  refine PySem.W.kla_codeExpr (wpAny_mono (ht.run [] _ (startF N vs []) H Q I hq) (fun u s' hs => ?_) fun e s' hs => hs)
  obtain ⟨v, H', J, rv, q⟩ := hs
  exact ⟨v, H', J.os, J.bare, J.base, J.hok, rv, q⟩
end
end Inf

set_option Elab.async false
set_option linter.all false
set_option maxRecDepth 100000
set_option maxHeartbeats 4000000
namespace Inf
open PySem PySem.Spec PyProof.Rows L2 NdefX LamX
/-- a def that returns things that hold its names, by what K knows of it -/
theorem okC_of {P : Program} {w : World} {K : PySem.W.Frag} {mg : Str → Option Value} {base : Heap} {x qual : Str} {st : Stmt} {f : Addr} {N ps : List Str} {k : Nat} {sp : Sp} {oc : Value} {od : Option Addr} {kV doc pm cdv ct : Value} {an : Option Addr} {osl : Array (Option Value)}
    (lk : K.lookup f = some ⟨oc, od, .func (PySem.W.fnOf x qual (defArgs st) (defBody st) (defScope st) .none kV doc pm an cdv ct), osl⟩) (hcd : PySem.W.codeIn K cdv qual = true) (S : FnScope N ps (defScope st)) (len : ∀ vs H Q E, sp vs H Q E → vs.length = ps.length)
    (hbody : ∀ (A : Around) (outer : List Env) (s : Shared) (H : Hp) (vs : List V) (Q : VK) (E : XK), Room k (A.deeper (envOfC qual (defScope st) s.heap.objs.size f cdv)) → sp vs H Q E →
      ∃ t, PSsR (cxOf CX0 P w K mg base N qual (defScope st) f cdv A outer s H E).nox (defBody st) t ∧
        t (fun σ v H' => ∀ H'', Fin (envOfC qual (defScope st) s.heap.objs.size f cdv).cells (defScope st).names N σ H' H'' → Q v H'') (start N vs) H) :
    FnOk P w K mg base CX0 (k + 1) f (PySem.W.fnOf x qual (defArgs st) (defBody st) (defScope st) .none kV doc pm an cdv ct) ps sp := by
  refine ⟨len, fun A outer s H args us vs Q E hr e0 hb r hsp => ?_⟩
  have hl := len _ _ _ _ hsp
  have KX : K.In s.heap := e0.mod.kin.keeps fun b o e => (e0.bs b o e).1
  have lim : s.heap.NoLimit := e0.mod.nolimit.keeps fun b o e => (e0.bs b o e).1
  have hkind : ∀ y ∈ ps.zip us, (defScope st).names.lookup y.1 = some .local ∨ ((defScope st).names.lookup y.1 = some .cell ∧ ((cellsFrom (s.heap.objs.size + 1) (defScope st).names []).lookup y.1).isSome = true) := fun ⟨n, v⟩ hy => by
    rcases S.par n (List.of_mem_zip hy).1 with q | q
    · exact .inl q
    · exact .inr ⟨q, PySem.W.cellsFrom_some _ _ _ (.inl q)⟩
  refine codeAny_call_function hr.depth (KX _ _ lk) rfl S.co S.gen rfl (PySem.W.codeRec_of KX hcd) (hb _ _ _ _ ?_)
  refine wpAny_newFunctionEnv_cells S.kind hkind fun env he s1 xx => ?_
  subst he
  refine ⟨lim.keeps xx.toInCall.keep, codeAny_func ?_⟩
  obtain ⟨t, ht, hq⟩ := hbody A outer s H vs Q E (hr.deeper _) hsp
  have I : Inv (cxOf CX0 P w K mg base N qual (defScope st) f cdv A outer s H E) [] (start N vs) H s1 := inv_start S hr.hd e0 hl r xx
  refine wpAny_mono (ht.run [] s1 (start N vs) H _ (I.wish _) hq) (fun fl s' hs => ?_) fun e s' hs => False.elim hs
  obtain ⟨u, v, σ', H', rfl, J', rv, q⟩ := hs
  have J : Inv (cxOf CX0 P w K mg base N qual (defScope st) f cdv A outer s H E) [] σ' H' s' := J'.unwish
  obtain ⟨H'', hF, hU, hO⟩ := fin_make S.nd J
  exact ⟨v, H'', J.os, J.bare, hU, hO, rv, q H'' hF⟩
/-- a function that the def made, behind its return: its captured cells are told -/
theorem clo_fin {cells : List (Str × Addr)} {names nn : List (Str × NameKind)} {N fr : List Str} {σ : L2.St} {H H' : Hp} {f : Addr} {F : NF} {ws : List V} (X : Fin cells names N σ H H') (hc : ∀ y, names.lookup y = some .cell → (cells.lookup y).isSome = true) (hcl : F.cl = cloFrom cells nn []) (hcel : ∀ y ∈ nn, y.2 = .free → names.lookup y.1 = some .cell)
    (hfr : ∀ y ∈ fr, (y, NameKind.free) ∈ nn) (hrf : ∀ y ∈ nn, y.2 = .free → y.1 ∈ fr) (hf : H f = some (FnO f F)) (hco : H F.c = some (CodeO F.c F.qual)) (len : ws.length = fr.length) (at_ : ∀ (i : Nat) (y : Str), fr[i]? = some y → ∃ (j : Nat) (v : V), N[j]? = some y ∧ ws[i]? = some v ∧ σ[j]? = some (some v)) : Clo H' f F fr ws := by
  have hfree : ∀ y ∈ nn, y.2 = .free → ∃ c, cells.lookup y.1 = some c := fun y hy e => Option.isSome_iff_exists.mp (hc _ (hcel y hy e))
  refine ⟨X.same _ _ hf, X.same _ _ hco, len, fun y c e => ?_, fun x y c e1 e2 => ?_, fun i y e => ?_⟩
  · rw [hcl] at e
    have m := PySem.mem_of_lookup e
    rcases cloFrom_mem m with q | ⟨q, _⟩
    · cases q
    · exact hrf _ q rfl
  · rw [hcl] at e1 e2
    exact X.inj x y c (clo_cm hfree e1) (clo_cm hfree e2)
  · have hy : y ∈ fr := List.mem_of_getElem? e
    have hm := hfr y hy
    have hn := hcel _ hm rfl
    obtain ⟨c, hcc⟩ := Option.isSome_iff_exists.mp (hc y hn)
    obtain ⟨j, v, h1, h2, h3⟩ := at_ i y e
    refine ⟨c, v, ?_, h2, X.at_ j y c v h1 hn hcc h3⟩
    rw [hcl]
    exact clo_has hfree hm hcc
end Inf

set_option Elab.async false
set_option linter.all false
set_option maxRecDepth 100000
set_option maxHeartbeats 4000000
namespace Inf
open PySem PySem.Spec PyProof.Rows L2
section
variable {X : Cx}
/-- o.replace(str(e), "c"), a token out: what is struck is not c -/
def tStrike (to tt : TE) (c : Str) : TE := fun σ H Q => to σ H fun x H1 => ∃ a, x = V.str a ∧ tt σ H1 fun y H2 => ∃ i : Int, y = .int i ∧ i.natAbs.log2 < 1920 ∧ (Str.ofString (toString i) == c) = false ∧ a.length + (a.length + 1) * c.length ≤ 16777216 ∧ Q (.str (Txt.replace a (Str.ofString (toString i)) c)) H2
theorem pet_strike {o e : Expr} {to tt : TE} {c : Str} {ck : Nat} {apos np cp ccp pos : Pos} (ho : PE X o to) (he : PE X e tt) (hg : Gl X "str") (hm : X.mg "str" = none)
    (hbase : attributeBase o "replace" X.env (eval o X.env) = eval o X.env := by rfl)
    (hfew : ((backTo pos (starEach [.Call (.Name "str" np) [e] [] cp, .Constant (.str c) ck ccp] X.env)).all (fun x => !x.1) && (backToKw pos (keywordEach [] X.env)).all (fun x => x.1.isSome)
      && decide (([.Call (.Name "str" np) [e] [] cp, .Constant (.str c) ck ccp] : List Expr).length + ([] : List Keyword).length + (if ([] : List Keyword).isEmpty then 0 else 1) < 30)) = true := by rfl)
    (hline : (apos.endLine == pos.line) = true := by rfl) (hs : starEach [e] X.env = [(false, eval e X.env)] := by rfl) (hpl : (backTo cp (starEach [] X.env)).any (·.1) = false := by rfl) :
    PET X (.Call (.Attribute o "replace" apos) [.Call (.Name "str" np) [e] [] cp, .Constant (.str c) ck ccp] [] pos) (tStrike to tt c) := by
  intro pins s σ H Q h0 I h
  refine wpAny_Call_method_late hbase hfew hline rfl (wpAny_mono (PySem.wpAny_toks (ho.run pins s σ H _ I h)) (fun v s1 q => ?_) fun _ _ z => z.2)
  obtain ⟨hk1, x, H1, I1, r1, a, rfl, q⟩ := q
  obtain ⟨t, rfl⟩ := _root_.id r1
  refine ⟨"str", _, F.plainAttrs_str, F.slot_str_replace, F.type_str_replace, typeIs_str _ _ _, (fun _ e => nomatch e), ?_⟩
  refine Calls.callWith_builtin rfl (Calls.evalArgs_plain ?_)
  show wpAny _ _ (spliced ((false, eval (.Call (.Name "str" np) [e] [] cp) X.env) :: backTo pos (starEach [.Constant (.str c) ck ccp] X.env))) _ _ s1
  refine Calls.spliced_cons ?_
  refine wpAny_Call_Name_kw (ld_blt I1 hg hm (show bootBuiltins "str" = some (.type "str") by decide +kernel) ?_ (by decide) (by decide))
  refine PyProof.Rows.callWith_type1 (wpAny_mono (PySem.wpAny_toks ((pa_cons he pa_nil hs).run cp pins s1 σ H1 (fun vs H2 => match vs with
    | [y] => ∃ i : Int, y = V.int i ∧ i.natAbs.log2 < 1920 ∧ (Str.ofString (toString i) == c) = false ∧ a.length + (a.length + 1) * c.length ≤ 16777216 ∧ Q (.str (Txt.replace a (Str.ofString (toString i)) c)) H2
    | _ => False) I1 q)) (fun us s2 q2 => ?_) fun _ _ z => z.2) hs hpl
  obtain ⟨hk2, vs, H2, I2, r2, q2⟩ := q2
  match vs, r2, q2 with
  | [y], r2, ⟨i, ey, hz, hne, hb, q3⟩ =>
    subst ey
    obtain ⟨u, rfl, t2, rfl⟩ := vals1 r2
    have h2 : 1 ≤ s2.toks := Nat.le_trans h0 (Nat.le_trans hk1 hk2)
    refine PySem.P.str_of_int hz ?_
    refine Calls.spliced_cons (Calls.Constant_str (k := ck) (pos := ccp) (Calls.spliced_nil ?_))
    refine SC.replace (u := s2.toks) (v := s2.toks + 1) (Nat.ne_of_gt h2) (Nat.succ_ne_zero _) (Nat.ne_of_lt (Nat.lt_succ_self _)) hne hb fun t' k => ?_
    exact ⟨.str _, H2, I2.tok _, ⟨_, rfl⟩, q3⟩
/-- one token out: a return -/
theorem pst_ret {e : Expr} {te : TE} {pos : Pos} (he : PET X e te) : PST X (.Return (some e) pos) (tRet te) := fun pins s σ H D h0 I h =>
  wpAny_Return_some (thn (he pins s σ H _ h0 I h) fun v s1 ⟨x, H1, I1, r1, q1⟩ => ⟨x, σ, H1, I1, r1, q1⟩)
theorem psst_one {st : Stmt} {t : TS} (h1 : PST X st t) : PSsT X [st] t := by
  intro pins s σ H D h0 I h
  refine wpAny_execs_cons (thn (h1 pins s σ H D h0 I h) fun f s1 q => ?_)
  cases f with
  | next => exact wpAny_execs_nil q
  | ret v => exact q
  | brk => exact q
  | cont => exact q
/-- if x op 3: behind the test a token is out -/
theorem ps_ifC {a : Expr} {op : CmpOp} {r : R2} {ta : TE} {j : Int} {k : Nat} {cpos cp pos : Pos} {A B : List Stmt} {t u : TS} (ho : OpR X (compareOp op) r) (ha : PE X a ta) (hm : behindInMarks op (.Constant (.int j) k cpos) = false) (hA : PSsT X A t) (hB : PSs X B u) :
    PS X (.If (.Compare a [op] [.Constant (.int j) k cpos] cp) A B pos) (tIfS (tTest (tOp r ta (tC (.int j)))) t u) := by
  refine ⟨fun pins s σ H D I h => ?_⟩
  refine wpAny_If (wpAny_mono (Q := fun d s' => 1 ≤ s'.toks ∧ TP X pins σ (fun b H1 => if b = true then t D σ H1 else u D σ H1) d s') (E := X.xe) ?_ (fun d s1 q => ?_) fun _ _ z => z)
  · refine wpAny_isTrue_Compare1 (thn (ha.run pins s σ H _ I h) fun v s1 ⟨x, H1, I1, r1, q1⟩ => ?_) hm
    refine wpAny_Constant_int ?_
    refine wpAny_mono (PySem.wpAny_toks (ho pins _ σ H1 x (.int j) v (.int j s1.toks) _ (I1.tok _) r1 ⟨_, rfl⟩ q1)) (fun c s3 q3 => ?_) fun _ _ z => z.2
    obtain ⟨hk, z, H3, I3, r3, b, e, q3⟩ := q3
    subst e
    cases r3
    exact wpAny_truthy_bool ⟨Nat.le_trans (Nat.le_add_left 1 _) hk, H3, I3, q3⟩
  · obtain ⟨hk, H1, I1, q1⟩ := q
    cases d with
    | true => exact hA pins s1 σ H1 D hk I1 q1
    | false => exact hB.run pins s1 σ H1 D I1 q1
end
end Inf

set_option Elab.async false
set_option linter.all false
set_option maxRecDepth 100000
set_option maxHeartbeats 4000000
namespace Inf
open PySem PySem.Spec PyProof.Rows L2
section
variable {X : Cx} {CX : CXT} {k n : Nat} {f C : Addr} {fd : FuncData} {ps ks : List Str} {sp : Sp} {E : XK} {m : Str} {pos apos : Pos} {e o : Expr} {es : List Expr} {kws : List Keyword} {ta : TE} {t tk : TA} {g : List Value → List Value → List Value} {gV : List V → List V → List V}
/-- a method called with keywords: n values are written, then j keywords -/
def tMethN (C : Addr) (m : Str) (n j : Nat) (sp : Sp) (gV : List V → List V → List V) (E : XK) (ta : TE) (t tk : TA) : TE := fun σ H Q => ta σ H fun x H1 => ∃ a dx fs, x = V.ref a ∧ H1 a = some (.ins C dx fs) ∧ fs.lookup m = none ∧ t σ H1 fun vs H2 => tk σ H2 fun zs H3 => vs.length = n ∧ zs.length = j ∧ sp (gV (.ref a :: vs) zs) H3 Q E
theorem pe_methK0 {pl : Sem Bool} (he : PE X o ta) (c : Cls X.K C) (hm : Meth X.K C m f) (F : FnOk X.prog X.w X.K X.mg X.base CX k f fd ps sp) (hr : Room k X.A) (hb : KBn X.K fd ps 1 ks g gV) (hx : Passes CX X E) (hkw : PK X kws tk)
    (hall : (backToKw pos (keywordEach kws X.env)).all (·.1.isSome) = true := by rfl) (hks : (backToKw pos (keywordEach kws X.env)).filterMap (·.1) = ks := by rfl)
    (hpl : ((backTo pos (starEach [] X.env)).any (·.1) || (backToKw pos (keywordEach kws X.env)).any (·.1.isNone)) = false := by rfl)
    (ht : eval (.Call (.Attribute o m apos) [] kws pos) X.env = (do
      let ov ← eval o X.env
      standAt apos.atName
      let (f, first) ← holding [ov] (getMethod ov m pl)
      callWith pos f first (backTo pos (starEach [] X.env)) (backToKw pos (keywordEach kws X.env))) := by rfl) :
    PE X (.Call (.Attribute o m apos) [] kws pos) (tMethN C m 0 ks.length sp gV E ta tNil tk) := by
  refine ⟨fun pins s σ H Q I h => ?_⟩
  refine PySem.W.methodCall_KW (pl := pl) (thn (he.run pins s σ H _ I h) fun u s1 ⟨x, H1, I1, rx, a, dx, fs, ex, ea, l, q⟩ => ?_) ht
  subst ex
  obtain rfl : u = Value.ref a := rx
  refine getmeth_ok I1 ea c hm l ?_
  refine PySem.W.callWith_KW0 (first := [.ref a]) (h₀ := X.base) I.ok.mod.kin hm.kp hall (thn (hkw.run pos pins s1 σ H1 _ I1 q) fun ws s2 ⟨zs, H2, I2, rz, l1, l2, q2⟩ => ⟨I2.kIn, ?_⟩) hpl
  rw [hks]
  exact run_fnN (us := [.ref a]) (vs := [.ref a]) F hr hb hx I2 (.cons rfl .nil) rz rfl l2 q2
theorem pe_methK {pl : Sem Bool} (he : PE X o ta) (c : Cls X.K C) (hm : Meth X.K C m f) (F : FnOk X.prog X.w X.K X.mg X.base CX k f fd ps sp) (hr : Room k X.A) (hb : KBn X.K fd ps (n + 1) ks g gV) (hx : Passes CX X E) (ha : PA X (e :: es) t) (hkw : PK X kws tk)
    (hall : (backToKw pos (keywordEach kws X.env)).all (·.1.isSome) = true := by rfl) (hks : (backToKw pos (keywordEach kws X.env)).filterMap (·.1) = ks := by rfl)
    (hst : starEach (e :: es) X.env = (false, eval e X.env) :: starEach es X.env := by rfl)
    (hpl : ((backTo pos (starEach (e :: es) X.env)).any (·.1) || (backToKw pos (keywordEach kws X.env)).any (·.1.isNone)) = false := by rfl)
    (ht : eval (.Call (.Attribute o m apos) (e :: es) kws pos) X.env = (do
      let ov ← eval o X.env
      standAt apos.atName
      let (f, first) ← holding [ov] (getMethod ov m pl)
      callWith pos f first (backTo pos (starEach (e :: es) X.env)) (backToKw pos (keywordEach kws X.env))) := by rfl) :
    PE X (.Call (.Attribute o m apos) (e :: es) kws pos) (tMethN C m n ks.length sp gV E ta t tk) := by
  refine ⟨fun pins s σ H Q I h => ?_⟩
  refine PySem.W.methodCall_KW (pl := pl) (thn (he.run pins s σ H _ I h) fun u s1 ⟨x, H1, I1, rx, a, dx, fs, ex, ea, l, q⟩ => ?_) ht
  subst ex
  obtain rfl : u = Value.ref a := rx
  refine getmeth_ok I1 ea c hm l ?_
  refine PySem.W.callWith_KW (first := [.ref a]) (h₀ := X.base) I.ok.mod.kin hm.kp hall (thn (ha.run pos pins s1 σ H1 _ I1 q) fun us s2 ⟨vs, H2, I2, r, q2⟩ => ?_) hpl hst
  refine thn (hkw.run pos pins s2 σ H2 _ I2 q2) fun ws s3 ⟨zs, H3, I3, rz, l1, l2, q3⟩ => ⟨I3.kIn, ?_⟩
  rw [hks]
  exact run_fnN (us := .ref a :: us) (vs := .ref a :: vs) F hr hb hx I3 (.cons rfl r) rz (congrArg Nat.succ l1) l2 q3
end
end Inf

set_option Elab.async false
set_option linter.all false
set_option maxRecDepth 100000
set_option maxHeartbeats 4000000
namespace Inf
open PySem PySem.Spec PyProof.Rows L2 NdefX LamX
section
variable {X : Cx} {pins : List (Addr × Obj)} {σ : L2.St} {H : Hp} {s : Shared}
/-- a lambda in a def that makes functions by name, too: the table knows the names by their places -/
theorem lam_toldN {T : List NTab} {nm : Nat → Nat → Str} {c P : Addr} {params : Arguments} {body : Expr} {scope : Scope} {pos : Pos} {E : Value → Shared → Prop} {Q : Value → Shared → Prop} (I : Inv X pins σ H s) (TB : TabB X.base X.mg c P) (hcode : X.env.code = .ref c)
    (hm : (P, nm) ∈ T) (hn : nm pos.line pos.col = X.env.qual ++ "<lambda>") (hu : ∀ p ∈ T, p.1 = P → p.2 = nm) (hT : TabsN T H) (hdef : defaultsOf params X.env = ([], [])) (hfree : ∀ y ∈ scope.names, y.2 = .free → ∃ c, X.env.cells.lookup y.1 = some c)
    (h : ∀ (f c' : Addr) (H1 : Hp) (s' : Shared), Inv X pins σ H1 s' → ExtN H H1 → (∀ b, H1 b = Option.none → H b = Option.none) → TabsN T H1 → H f = none → H1 f = some (LamO f ⟨X.env.qual ++ "<lambda>", params, body, scope, cloFrom X.env.cells scope.names [], c'⟩) → H1 c' = some (CodeO c' (X.env.qual ++ "<lambda>")) → Q (.ref f) s') :
    wpAny (model X.prog X.w) X.A (eval (.Lambda params body scope pos) X.env) Q E s := by
  obtain ⟨ps, hP, ht, ha⟩ := (show TabN H P nm from hT _ hm)
  have bP := TB.bm.keeps (h' := s.heap) I.bk
  have gP : s.heap.get? P = some { cls := .none, data := .fields ps } := I.hok P _ hP
  refine PySem.W.kla_eval hdef ?_
  cases cd : codeAmong pos ps.toList with
  | none =>
    refine PySem.W.kla_makeFunction (mg := X.mg) (c := c) (P := P) (ps := ps) (closure_ok hfree) I.ok.glob (I.mod.glob.keeps I.bk) hcode (TB.code.keeps I.bk) gP ht cd TB.gP bP fun c' ctv h' tk hx hge hlt hrec htb => ?_
    obtain ⟨c2, oc, vs, t, e2, hoc, hd, hv⟩ := hrec
    cases e2
    have nC : H c' = none := I.hok.fresh hge
    have I1 := inv_table (q := X.env.qual ++ "<lambda>") (t' := tk) (more := #[rawInt pos.line, rawInt pos.col, .ref c']) (h' := h') I hP hx htb hge ⟨oc, vs, t, hoc, hd, hv⟩
    have hE : ExtN H (upd (upd H P (.tbl (ps ++ #[rawInt pos.line, rawInt pos.col, .ref c']))) c' (CodeO c' (X.env.qual ++ "<lambda>"))) := fun b o e n => by
      rw [upd_ne (ne_of_none e nC), upd_ne (fun z => n ps (Option.some.inj (e.symm.trans (by rw [z]; exact hP))))]
      exact e
    have eL : (ps ++ #[rawInt pos.line, rawInt pos.col, .ref c']).toList = ps.toList ++ [rawInt pos.line, rawInt pos.col, .ref c'] := by simp
    have T1 : TabsN T (upd (upd H P (.tbl (ps ++ #[rawInt pos.line, rawInt pos.col, .ref c']))) c' (CodeO c' (X.env.qual ++ "<lambda>"))) := fun p hp => by
      by_cases hb : p.1 = P
      · rw [hu p hp hb, hb]
        refine ⟨_, by rw [upd_ne (ne_of_none hP nC), upd_same], by rw [eL]; exact PySem.TriplesOk_snoc _ _ _ _ ht, fun p' cv hcv => ?_⟩
        rw [eL] at hcv
        rcases among_app2 _ ht hcv with z | ⟨z, z1, z2⟩
        · obtain ⟨c0, e1, e2⟩ := ha p' cv z
          exact ⟨c0, e1, hE _ _ e2 codeO_ne⟩
        · refine ⟨c', z, ?_⟩
          rw [← z1, ← z2, hn]
          exact upd_same
      · obtain ⟨ps', a1, a2, a3⟩ := hT p hp
        refine ⟨ps', by rw [upd_ne (ne_of_none a1 nC), upd_ne hb]; exact a1, a2, fun p' cv hcv => ?_⟩
        obtain ⟨c0, e1, e2⟩ := a3 p' cv hcv
        exact ⟨c0, e1, hE _ _ e2 codeO_ne⟩
    have nF := I1.hok.fresh (Nat.le_refl h'.objs.size)
    have I2 := I1.laid (a := h'.objs.size) (o := LamO h'.objs.size ⟨X.env.qual ++ "<lambda>", params, body, scope, cloFrom X.env.cells scope.names [], c'⟩) (h' := h'.push (PySem.W.kla_obj "<lambda>" (X.env.qual ++ "<lambda>") params body scope (cloFrom X.env.cells scope.names []) ((X.mg "__name__").getD .none) c' ctv)) (t' := tk)
      (fun b u z => Heap.get?_push_of_some _ z) (Nat.le_refl _) (lamO_ok ⟨_, _, Heap.get?_push_size _ rfl⟩)
    refine h h'.objs.size c' _ _ I2 (fun b o e n => ?_) (fun b e => NdefX.upd_none (NdefX.upd_none (NdefX.upd_none e))) (T1.ext fun b o e => ?_) (I.hok.fresh (Nat.le_trans hge (Nat.le_of_lt hlt))) upd_same ?_
    · have e1 := hE b o e n
      exact (upd_ne (ne_of_none e1 nF)).trans e1
    · exact (upd_ne (ne_of_none e nF)).trans e
    · exact (upd_ne (Nat.ne_of_lt hlt)).trans upd_same
  | some cv =>
    obtain ⟨c', e, hco⟩ := ha pos cv cd
    subst e
    rw [hn] at hco
    refine PySem.W.kla_makeFunctionHit (mg := X.mg) (c := c) (P := P) (ps := ps) (closure_ok hfree) I.ok.glob (I.mod.glob.keeps I.bk) hcode (TB.code.keeps I.bk) gP ht cd bP fun ctv h' tk hx hsz => ?_
    have I0 : Inv X pins σ H { s with heap := h', toks := tk } := I.kept hx
    have nF : H h'.objs.size = none := I0.hok.fresh (Nat.le_refl _)
    have I2 := I0.laid (a := h'.objs.size) (o := LamO h'.objs.size ⟨X.env.qual ++ "<lambda>", params, body, scope, cloFrom X.env.cells scope.names [], c'⟩) (h' := h'.push (PySem.W.kla_obj "<lambda>" (X.env.qual ++ "<lambda>") params body scope (cloFrom X.env.cells scope.names []) ((X.mg "__name__").getD .none) c' ctv)) (t' := tk)
      (fun b u z => Heap.get?_push_of_some _ z) (Nat.le_refl _) (lamO_ok ⟨_, _, Heap.get?_push_size _ rfl⟩)
    refine h h'.objs.size c' _ _ I2 (fun b o e n => ?_) (fun b e => NdefX.upd_none e) (hT.ext fun b o e => ?_) nF upd_same ?_
    · exact (upd_ne (ne_of_none e nF)).trans e
    · exact (upd_ne (ne_of_none e nF)).trans e
    · exact (upd_ne (ne_of_none hco nF)).trans hco
end
def tLamN (T : List NTab) (F : Addr → LF) : TE := fun σ H Q => TabsN T H ∧ ∀ (f c' : Addr) (H1 : Hp), ExtN H H1 → (∀ b, H1 b = Option.none → H b = Option.none) → TabsN T H1 → H f = none → H1 f = some (LamO f (F c')) → H1 c' = some (CodeO c' (F c').qual) → Q (.ref f) H1
theorem pe_lamN {X : Cx} {T : List NTab} {nm : Nat → Nat → Str} {c P : Addr} {params : Arguments} {body : Expr} {scope : Scope} {pos : Pos} (TB : TabB X.base X.mg c P) (hcode : X.env.code = .ref c) (hm : (P, nm) ∈ T) (hn : nm pos.line pos.col = X.env.qual ++ "<lambda>") (hu : ∀ p ∈ T, p.1 = P → p.2 = nm)
    (hdef : defaultsOf params X.env = ([], [])) (hfree : ∀ y ∈ scope.names, y.2 = .free → X.env.scope.names.lookup y.1 = some .cell ∨ X.env.scope.names.lookup y.1 = some .free) :
    PE X (.Lambda params body scope pos) (tLamN T fun c' => ⟨X.env.qual ++ "<lambda>", params, body, scope, cloFrom X.env.cells scope.names [], c'⟩) := by
  refine ⟨fun pins s σ H Q I h => ?_⟩
  obtain ⟨hT, q⟩ := h
  exact lam_toldN I TB hcode hm hn hu hT hdef (fun y hy e => (hfree y hy e).elim (fun z => I.ok.has _ (.inl z)) fun z => I.ok.has _ (.inr z)) fun f c' H1 s' I1 e1 n1 t1 nf hf hc => ⟨.ref f, H1, I1, rfl, q f c' H1 e1 n1 t1 nf hf hc⟩
end Inf

set_option Elab.async false
set_option linter.all false
set_option maxRecDepth 100000
set_option maxHeartbeats 4000000
namespace Inf
open PySem PySem.Spec PyProof.Rows L2 ClX
section
variable {M : Model} {A : Around} {E : Value → Shared → Prop} {s : Shared} {K : PySem.W.Frag} {env : Env} {pos : Pos} {first : List Value} {Q : Value → Shared → Prop} {kws : List Keyword} {q g : Addr} {self : Value}
/-- a bound method, called by names alone -/
theorem callWith_MK0 (hf : PySem.W.fnIn K g = true) (hall : (backToKw pos (keywordEach kws env)).all (·.1.isSome) = true)
    (h : wpAny M A (evalAll ((backToKw pos (keywordEach kws env)).map (·.2))) (fun ks s₂ => PySem.W.MethP K q g self s₂.heap ∧ wpAny M A (call (.ref q) (first ++ []) (((backToKw pos (keywordEach kws env)).filterMap (·.1)).zip ks)) Q E s₂) E s)
    (hplain : ((backTo pos (starEach [] env)).any (·.1) || (backToKw pos (keywordEach kws env)).any (·.1.isNone)) = false := by rfl) :
    wpAny M A (callWith pos (.ref q) first (backTo pos (starEach [] env)) (backToKw pos (keywordEach kws env))) Q E s :=
  PySem.W.callWith_of hplain (PySem.W.keeps_M hf) (evalArgs_kw2_nil hall h)
theorem callWith_MK {e : Expr} {rest : List Expr} (hf : PySem.W.fnIn K g = true) (hall : (backToKw pos (keywordEach kws env)).all (·.1.isSome) = true)
    (h : wpAny M A (spliced (backTo pos (starEach (e :: rest) env))) (fun vs s₁ => wpAny M A (evalAll ((backToKw pos (keywordEach kws env)).map (·.2)))
      (fun ks s₂ => PySem.W.MethP K q g self s₂.heap ∧ wpAny M A (call (.ref q) (first ++ vs) (((backToKw pos (keywordEach kws env)).filterMap (·.1)).zip ks)) Q E s₂) E s₁) E s)
    (hplain : ((backTo pos (starEach (e :: rest) env)).any (·.1) || (backToKw pos (keywordEach kws env)).any (·.1.isNone)) = false := by rfl) (he : starEach (e :: rest) env = (false, eval e env) :: starEach rest env := by rfl) :
    wpAny M A (callWith pos (.ref q) first (backTo pos (starEach (e :: rest) env)) (backToKw pos (keywordEach kws env))) Q E s :=
  PySem.W.callWith_of hplain (PySem.W.keeps_M hf) (evalArgs_kw2 hall h he)
end
section
variable {X : Cx} {CX : CXT} {k n : Nat} {f C p : Addr} {mc : Value} {fd : FuncData} {ps ks : List Str} {sp : Sp} {E : XK} {m x : Str} {pos apos : Pos} {e o : Expr} {es : List Expr} {kws : List Keyword} {ta : TE} {t tk : TA} {g : List Value → List Value → List Value} {gV : List V → List V → List V}
/-- the call of a bound classmethod by values and names -/
theorem run_cmN {pins : List (Addr × Obj)} {σ : L2.St} {H : Hp} {s : Shared} {Q : VK} {q : Addr} {us ws : List Value} {vs zs : List V} (F : FnOk X.prog X.w X.K X.mg X.base CX k f fd ps sp) (hr : Room k X.A) (hb : KBn X.K fd ps (n + 1) ks g gV) (hx : Passes CX X E)
    (I : Inv X ((q, PySem.W.methodObj (.ref f) (.ref C)) :: pins) σ H s) (r : Vals vs us) (rz : Vals zs ws) (l1 : vs.length = n) (l2 : zs.length = ks.length) (h : sp (gV (.ref C :: vs) zs) H Q E) :
    wpAny (model X.prog X.w) X.A (call (.ref q) us (ks.zip ws)) (EP X pins σ Q) X.xe s := by
  have r1 : Vals (V.ref C :: vs) (Value.ref C :: us) := .cons rfl r
  have r2 := hb.rel r1 rz
  have n1 : (Value.ref C :: us).length = n + 1 := by
    rw [List.length_cons, ← r.length, l1]
  have z : wpAny (model X.prog X.w) X.A (call (.ref q) us (ks.zip ws)) (EP X ((q, PySem.W.methodObj (.ref f) (.ref C)) :: pins) σ Q) X.xe s := by
    refine wpAny_call (PySem.W.method_call (pin_at I) (codeAny_mono (F.run X.A X.stack s H ⟨Value.ref C :: us, ks.zip ws⟩ (g (Value.ref C :: us) ws) _ Q E hr I.env0 (hb.to s _ ws I.kIn n1 (rz.length.symm.trans l2)) r2 h) fun r s' hq => ?_))
    cases r with
    | error e => exact hx _ σ H s e s' I hq
    | ok fl =>
      cases fl with
      | ret u => exact I.after hq
      | next => exact False.elim hq
      | brk => exact False.elim hq
      | cont => exact False.elim hq
  exact thn z fun _ _ y => unpinE y
/-- C.m(k = v, ..), m a classmethod: n values are written, then j names -/
def tCMethN (C : Addr) (n j : Nat) (sp : Sp) (gV : List V → List V → List V) (E : XK) (ta : TE) (t tk : TA) : TE := fun σ H Q => ta σ H fun x H1 => x = .ref C ∧ t σ H1 fun vs H2 => tk σ H2 fun zs H3 => vs.length = n ∧ zs.length = j ∧ sp (gV (.ref C :: vs) zs) H3 Q E
theorem pe_cmethK0 {pl : Sem Bool} (he : PE X o ta) (r : CRead X.K C mc) (c : CMet X.K C mc m p f) (F : FnOk X.prog X.w X.K X.mg X.base CX k f fd ps sp) (hr : Room k X.A) (hb : KBn X.K fd ps 1 ks g gV) (hx : Passes CX X E) (hkw : PK X kws tk)
    (hall : (backToKw pos (keywordEach kws X.env)).all (·.1.isSome) = true := by rfl) (hks : (backToKw pos (keywordEach kws X.env)).filterMap (·.1) = ks := by rfl)
    (hpl : ((backTo pos (starEach [] X.env)).any (·.1) || (backToKw pos (keywordEach kws X.env)).any (·.1.isNone)) = false := by rfl)
    (ht : eval (.Call (.Attribute o m apos) [] kws pos) X.env = (do
      let ov ← eval o X.env
      standAt apos.atName
      let (f, first) ← holding [ov] (getMethod ov m pl)
      callWith pos f first (backTo pos (starEach [] X.env)) (backToKw pos (keywordEach kws X.env))) := by rfl) :
    PE X (.Call (.Attribute o m apos) [] kws pos) (tCMethN C 0 ks.length sp gV E ta tNil tk) := by
  refine ⟨fun pins s σ H Q I h => ?_⟩
  refine PySem.W.methodCall_KW (pl := pl) (thn (he.run pins s σ H _ I h) fun u s1 ⟨x, H1, I1, rx, ex, q⟩ => ?_) ht
  subst ex
  obtain rfl : u = Value.ref C := rx
  refine getmethcm_ok I1 r c fun s2 I2 => ?_
  refine callWith_MK0 (first := []) c.fi hall (thn (hkw.run pos _ s2 σ H1 _ I2 q) fun ws s3 ⟨zs, H2, I3, rz, l1, l2, q2⟩ => ⟨⟨pin_at I3, I3.kIn⟩, ?_⟩) hpl
  rw [hks]
  exact run_cmN (us := []) (vs := []) F hr hb hx I3 .nil rz rfl l2 q2
theorem pe_cmethK {pl : Sem Bool} (he : PE X o ta) (r : CRead X.K C mc) (c : CMet X.K C mc m p f) (F : FnOk X.prog X.w X.K X.mg X.base CX k f fd ps sp) (hr : Room k X.A) (hb : KBn X.K fd ps (n + 1) ks g gV) (hx : Passes CX X E) (ha : PA X (e :: es) t) (hkw : PK X kws tk)
    (hall : (backToKw pos (keywordEach kws X.env)).all (·.1.isSome) = true := by rfl) (hks : (backToKw pos (keywordEach kws X.env)).filterMap (·.1) = ks := by rfl)
    (hst : starEach (e :: es) X.env = (false, eval e X.env) :: starEach es X.env := by rfl)
    (hpl : ((backTo pos (starEach (e :: es) X.env)).any (·.1) || (backToKw pos (keywordEach kws X.env)).any (·.1.isNone)) = false := by rfl)
    (ht : eval (.Call (.Attribute o m apos) (e :: es) kws pos) X.env = (do
      let ov ← eval o X.env
      standAt apos.atName
      let (f, first) ← holding [ov] (getMethod ov m pl)
      callWith pos f first (backTo pos (starEach (e :: es) X.env)) (backToKw pos (keywordEach kws X.env))) := by rfl) :
    PE X (.Call (.Attribute o m apos) (e :: es) kws pos) (tCMethN C n ks.length sp gV E ta t tk) := by
  refine ⟨fun pins s σ H Q I h => ?_⟩
  refine PySem.W.methodCall_KW (pl := pl) (thn (he.run pins s σ H _ I h) fun u s1 ⟨x, H1, I1, rx, ex, q⟩ => ?_) ht
  subst ex
  obtain rfl : u = Value.ref C := rx
  refine getmethcm_ok I1 r c fun s2 I2 => ?_
  refine callWith_MK (self := .ref C) (first := []) c.fi hall (thn (ha.run pos _ s2 σ H1 _ I2 q) fun us s3 ⟨vs, H2, I3, rv, q2⟩ => ?_) hpl hst
  refine thn (hkw.run pos _ s3 σ H2 _ I3 q2) fun ws s4 ⟨zs, H3, I4, rz, l1, l2, q3⟩ => ⟨⟨pin_at I4, I4.kIn⟩, ?_⟩
  rw [hks]
  exact run_cmN F hr hb hx I4 rv rz l1 l2 q3
/-- c(e, .., k = v, ..), c a local name that holds the class at C -/
def tMakeL (C : Addr) (n j : Nat) (sp : Sp) (gV : List V → List V → List V) (E : XK) (ta : TE) (t tk : TA) : TE := fun σ H Q => ta σ H fun x H0 => x = .ref C ∧ tMakeK C n j sp gV E t tk σ H0 Q
theorem pe_makeL (hc : PE X (.Name x pos) ta) (M : Mk X.K C f) (F : FnOk X.prog X.w X.K X.mg X.base CX k f fd ps sp) (hr : Room (k + 1) X.A) (hb : KBn X.K fd ps (n + 1) ks g gV) (hx : Passes CX X E) (ha : PA X (e :: es) t) (hkw : PK X kws tk)
    (hall : (backToKw apos (keywordEach kws X.env)).all (·.1.isSome) = true := by rfl) (hks : (backToKw apos (keywordEach kws X.env)).filterMap (·.1) = ks := by rfl)
    (he : starEach (e :: es) X.env = (false, eval e X.env) :: starEach es X.env := by rfl) (hpl : ((backTo apos (starEach (e :: es) X.env)).any (·.1) || (backToKw apos (keywordEach kws X.env)).any (·.1.isNone)) = false := by rfl) :
    PE X (.Call (.Name x pos) (e :: es) kws apos) (tMakeL C n ks.length sp gV E ta t tk) := by
  refine ⟨fun pins s σ H Q I h => ?_⟩
  refine wpAny_Call_Name_kw (thn (hc.run pins s σ H _ I h) fun u s0 ⟨y, H0, I0, ry, ey, h0⟩ => ?_)
  subst ey
  obtain rfl : u = Value.ref C := ry
  refine PySem.W.callWith_KW (h₀ := X.base) I0.ok.mod.kin M.kp hall (thn (ha.run apos pins s0 σ H0 _ I0 h0) fun us s1 ⟨vs, H1, I1, r, q⟩ => ?_) hpl he
  refine thn (hkw.run apos pins s1 σ H1 _ I1 q) fun ws s2 ⟨zs, H2, I2, rz, l1, l2, q2⟩ => ⟨I2.kIn, ?_⟩
  rw [hks]
  exact run_makeK M F hr hb hx I2 r rz l1 l2 q2
end
end Inf

set_option Elab.async false
set_option linter.all false
set_option maxRecDepth 100000
set_option maxHeartbeats 4000000
namespace Inf
open PySem PySem.Spec PyProof.Rows L2 NdefX LamX
/-! ### a lambda that captures cells -/
/-- a cell at c that holds v -/
def CellAt (H : Hp) (c : Addr) (v : V) : Prop := ∃ φ, H c = some (.ext φ) ∧ ∀ h : Heap, φ h → ∃ u, L2.RelV v u ∧ h.IsCell c (some u)
theorem CellAt.of {H : Hp} {c : Addr} {v : V} (h : H c = some (CellO c v)) : CellAt H c v := ⟨_, h, fun _ z => z⟩
theorem CellAt.at_ {P : Program} {w : World} {H : Hp} {h : Heap} {c : Addr} {v : V} (hok : HOk P w H h) (e : CellAt H c v) : ∃ u, L2.RelV v u ∧ h.IsCell c (some u) := by
  obtain ⟨φ, e1, e2⟩ := e
  obtain ⟨z, _, _⟩ := hok c _ e1
  exact e2 _ z
theorem CellAt.same {H H1 : Hp} {c : Addr} {v : V} (h : CellAt H c v) (s : Same H H1) : CellAt H1 c v := by
  obtain ⟨φ, e1, e2⟩ := h
  exact ⟨φ, s _ _ e1, e2⟩
/-- the lambda F stands at f, and its captured cells hold ws -/
structure LClo (H : Hp) (f : Addr) (F : LF) (fr : List Str) (ws : List V) : Prop where
  fn : H f = some (LamO f F)
  code : H F.c = some (CodeO F.c F.qual)
  len : ws.length = fr.length
  dom : ∀ y c, F.cl.lookup y = some c → y ∈ fr
  inj : ∀ x y c, F.cl.lookup x = some c → F.cl.lookup y = some c → x = y
  at_ : ∀ (i : Nat) (y : Str), fr[i]? = some y → ∃ c v, F.cl.lookup y = some c ∧ ws[i]? = some v ∧ CellAt H c v
theorem LClo.same {H H1 : Hp} {f : Addr} {F : LF} {fr : List Str} {ws : List V} (h : LClo H f F fr ws) (s : Same H H1) : LClo H1 f F fr ws :=
  ⟨s _ _ h.fn, s _ _ h.code, h.len, h.dom, h.inj, fun i y e => by
    obtain ⟨c, v, a, b, d⟩ := h.at_ i y e
    exact ⟨c, v, a, b, d.same s⟩⟩
theorem LClo.cell {H : Hp} {f : Addr} {F : LF} {fr : List Str} {ws : List V} (h : LClo H f F fr ws) {b : Addr} (hb : b ∈ cellsOf F.nf fr) : ∃ v, CellAt H b v := by
  obtain ⟨y, hy, e⟩ := mem_cells.mp hb
  obtain ⟨i, hi⟩ := List.mem_iff_getElem?.mp hy
  obtain ⟨c, v, a, _, d⟩ := h.at_ i y hi
  have e' : F.cl.lookup y = some b := e
  rw [e'] at a
  cases a
  exact ⟨v, d⟩
theorem LClo.out {H : Hp} {f : Addr} {F : LF} {fr : List Str} {ws : List V} (h : LClo H f F fr ws) {b : Addr} {o : HO} (e : H b = some o) (n : ∀ φ, o ≠ .ext φ) : b ∉ cellsOf F.nf fr := fun hb => by
  obtain ⟨v, φ, d, _⟩ := h.cell hb
  rw [e] at d
  exact n _ (Option.some.inj d)
section
variable {P : Program} {w : World} {K : PySem.W.Frag} {mg : Str → Option Value} {base : Heap} {k : Nat} {f : Addr} {F : LF} {N ps fr : List Str} {sp : List (Option V) → Sp}
theorem lam_run (S : NScope N ps fr F.scope) (hb : ∀ (pm ctv : Value) (us : List Value), us.length = ps.length → bindArgs (PySem.W.kla_fn "<lambda>" F.qual F.params F.body F.scope F.cl pm (.ref F.c) ctv) ⟨us, []⟩ = pure (ps.zip us))
    (len : ∀ ws vs H Q E, sp ws vs H Q E → vs.length = ps.length)
    (hbody : ∀ (A : Around) (outer : List Env) (s : Shared) (H : Hp) (vs : List V) (ws : List (Option V)) (Q : VK) (E : XK), Room k (A.deeper (envF F.nf f s.heap.objs.size)) → ws.length = fr.length → sp ws vs H Q E → ∃ te, PE (ncx CX0 P w K mg base N F.nf f A outer s H E) F.body te ∧ te (startF N vs ws) H Q)
    (A : Around) (outer : List Env) (s : Shared) (H : Hp) (us : List Value) (vs : List V) (ws : List (Option V)) (Q : VK) (E : XK) (hr : Room (k + 1) A) (e0 : Env0 P w K mg base A outer s H) (hf : H f = some (LamO f F)) (hc : H F.c = some (CodeO F.c F.qual)) (C : CellsAt F.cl fr ws s.heap H) (r : Vals vs us) (hsp : sp ws vs H Q E) :
    codeAny (model P w) A (.call (.ref f) ⟨us, []⟩) (CR CX0 outer P w H s Q E) s := by
  have hl := len _ _ _ _ _ hsp
  have lim : s.heap.NoLimit := e0.mod.nolimit.keeps fun b o e => (e0.bs b o e).1
  obtain ⟨pm, ctv, ho⟩ := lamO_at e0.hok hf
  refine PySem.W.kla_callFunE hr.depth ho rfl S.co S.gen rfl (codeO_at e0.hok hc) ?_
  rw [hb pm ctv us (by rw [← r.length]; exact hl)]
  refine wpAny_pure (wpAny_newFunctionEnv S.nocell (fun ⟨n, _⟩ hy => S.par n (List.of_mem_zip hy).1) (fun h₁ hns hsb => ⟨lim.fresh _ hsb, ?_⟩) S.kind)
  obtain ⟨te, ht, hq⟩ := hbody A outer s H vs ws Q E (hr.deeper _) C.len hsp
  have kp : ∀ b o, s.heap.get? b = some o → h₁.get? b = some o := fun b o e => hsb.extBut b o (Nat.ne_of_lt (Heap.lt_size e)) (Heap.get?_push_of_some _ e)
  have I := inv_startN (CX := CX0) (P := P) (w := w) (K := K) (mg := mg) (base := base) (F := F.nf) (f := f) (A := A) (outer := outer) (E := E) (tk := s.toks + (ps.zip us).length) S hr.hd e0 hl r C hns kp
  refine PySem.W.kla_codeExpr (wpAny_mono (ht.run [] _ (startF N vs ws) H Q I hq) (fun u s' hs => ?_) fun e s' hs => hs)
  obtain ⟨v, H', J, rv, q⟩ := hs
  exact ⟨v, H', J.os, J.bare, J.base, J.hok, rv, q⟩
/-- A LAMBDA THAT CAPTURES CELLS, called from anywhere: its cells are told; while it runs they are left out, behind it they are put back -/
theorem lam_cloR (S : NScope N ps fr F.scope) (hb : ∀ (pm ctv : Value) (us : List Value), us.length = ps.length → bindArgs (PySem.W.kla_fn "<lambda>" F.qual F.params F.body F.scope F.cl pm (.ref F.c) ctv) ⟨us, []⟩ = pure (ps.zip us))
    (len : ∀ ws vs H Q E, sp ws vs H Q E → vs.length = ps.length)
    (hbody : ∀ (A : Around) (outer : List Env) (s : Shared) (H : Hp) (vs : List V) (ws : List (Option V)) (Q : VK) (E : XK), Room k (A.deeper (envF F.nf f s.heap.objs.size)) → ws.length = fr.length → sp ws vs H Q E → ∃ te, PE (ncx CX0 P w K mg base N F.nf f A outer s H E) F.body te ∧ te (startF N vs ws) H Q) :
    FnR P w K mg base CX0 (k + 1) f (fun vs H Q E => ∃ ws, LClo H f F fr ws ∧ sp (ws.map some) vs (cut (cellsOf F.nf fr) H) (fun v H1 => (∀ b, b ∈ cellsOf F.nf fr → H1 b = Option.none) → Q v (mend (cellsOf F.nf fr) H H1)) E) := by
  intro A outer s H us vs Q E hr e0 r hsp
  obtain ⟨ws, hc, hsp⟩ := hsp
  have cellAt : ∀ b, b ∈ cellsOf F.nf fr → ∃ v, CellAt H b v := fun b hb => hc.cell hb
  have isC : ∀ b, b ∈ cellsOf F.nf fr → ∃ u, s.heap.IsCell b (some u) := fun b hb => by
    obtain ⟨v, e⟩ := cellAt b hb
    obtain ⟨u, _, z⟩ := e.at_ e0.hok
    exact ⟨u, z⟩
  have fnout : f ∉ cellsOf F.nf fr := fun hb => by
    obtain ⟨u, o, e1, e2⟩ := isC f hb
    obtain ⟨pm, ctv, e3⟩ := lamO_at e0.hok hc.fn
    rw [e1] at e3
    cases e3
    cases e2
  have cout : F.c ∉ cellsOf F.nf fr := fun hb => by
    obtain ⟨u, o, e1, e2⟩ := isC F.c hb
    obtain ⟨⟨oc, vs', t, h1, h2, h3⟩, _, _⟩ := e0.hok F.c _ hc.code
    rw [e1] at h1
    cases h1
    rw [e2] at h2
    cases h2
  have hokc : HOk P w (cut (cellsOf F.nf fr) H) s.heap := fun b o e => by
    by_cases hb : b ∈ cellsOf F.nf fr
    · rw [cut_in hb] at e
      cases e
    · rw [cut_out hb] at e
      refine (e0.hok b o e).stay (fun c u _ q => q) (fun c q => ?_) fun c xs q => ?_
      · rw [cut_out (hc.out q (fun φ z => nomatch z))]
        exact q
      · rw [cut_out (hc.out q (fun φ z => nomatch z))]
        exact q
  have noneC : ∀ b, H b = Option.none → cut (cellsOf F.nf fr) H b = Option.none := fun b e => by
    by_cases hb : b ∈ cellsOf F.nf fr
    · exact cut_in hb
    · rw [cut_out hb]
      exact e
  have e1 : Env0 P w K mg base A outer s (cut (cellsOf F.nf fr) H) := ⟨e0.frames, e0.mod, fun b o q => ⟨(e0.bs b o q).1, noneC b (e0.bs b o q).2⟩, e0.bsz, e0.funs, fun b hb => noneC b (e0.frf b hb), hokc, e0.bare⟩
  have C : CellsAt F.cl fr (ws.map some) s.heap (cut (cellsOf F.nf fr) H) := by
    refine ⟨by rw [List.length_map]; exact hc.len, fun y c e => ?_, hc.inj, fun i y e => ?_⟩
    · have hb : c ∈ cellsOf F.nf fr := mem_cells.mpr ⟨y, hc.dom y c e, e⟩
      obtain ⟨u, z⟩ := isC c hb
      exact ⟨cut_in hb, _, z⟩
    · obtain ⟨c, v, a, b, d⟩ := hc.at_ i y e
      refine ⟨c, a, fun v' e' => ?_⟩
      rw [List.getElem?_map, b] at e'
      cases e'
      obtain ⟨u, r', z⟩ := d.at_ e0.hok
      exact ⟨u, r', z⟩
  refine codeAny_mono (lam_run S hb len hbody A outer s (cut (cellsOf F.nf fr) H) us vs (ws.map some) _ E hr e1 (by rw [cut_out fnout]; exact hc.fn) (by rw [cut_out cout]; exact hc.code) C r hsp) fun res s' hq => ?_
  cases res with
  | error e => exact hq
  | ok fl =>
    cases fl with
    | next => exact hq
    | brk => exact hq
    | cont => exact hq
    | ret u =>
      obtain ⟨v, H1, os, bare, un, hok1, rv, q⟩ := hq
      have gone : ∀ b, b ∈ cellsOf F.nf fr → H1 b = Option.none := fun b hb => by
        obtain ⟨u, o, z1, z2⟩ := isC b hb
        exact un.free b o z1 (cut_in hb) (by simp)
      have notfr : ∀ b, b ∈ cellsOf F.nf fr → b ∉ frs outer := fun b hb z => by
        obtain ⟨v, φ, d, _⟩ := cellAt b hb
        rw [e0.frf b z] at d
        cases d
      refine ⟨v, mend (cellsOf F.nf fr) H H1, os, bare, ⟨fun b o a n h1 h2 => un.keep b o a (noneC b n) h1 h2, fun b o a n h1 h2 => un.slot b o a (noneC b n) h1 h2, fun b o a n h2 => ?_, un.there, fun b xs e => ?_, fun b o u e => ?_, fun b ps e => ?_⟩, fun b o e => ?_, rv, q gone⟩
      · by_cases hb : b ∈ cellsOf F.nf fr
        · rw [mend_in hb]
          exact n
        · rw [mend_out hb]
          exact un.free b o a (noneC b n) h2
      · have hb := hc.out e (fun φ z => nomatch z)
        rw [mend_out hb]
        exact un.tups b xs (by rw [cut_out hb]; exact e)
      · have hb := hc.out e (fun φ z => nomatch z)
        rw [mend_out hb]
        exact un.frzs b o u (by rw [cut_out hb]; exact e)
      · have hb := hc.out e (fun φ z => nomatch z)
        rw [mend_out hb]
        exact un.tbls b ps (by rw [cut_out hb]; exact e)
      · by_cases hb : b ∈ cellsOf F.nf fr
        · rw [mend_in hb] at e
          obtain ⟨v', φ, d, _⟩ := cellAt b hb
          rw [d] at e
          cases e
          obtain ⟨z, ⟨o', z1⟩, st⟩ := e0.hok b _ d
          have z2 := un.keep b o' z1 (cut_in hb) (notfr b hb) (by simp)
          refine ⟨st _ _ z (fun x hx => ?_), ⟨o', z2⟩, st⟩
          rw [z1] at hx
          cases hx
          exact z2
        · rw [mend_out hb] at e
          refine (hok1 b o e).stay (fun c u _ q => q) (fun c q => ?_) fun c xs q => ?_
          · have hb' : c ∉ cellsOf F.nf fr := fun z => by
              rw [gone c z] at q
              cases q
            rw [mend_out hb']
            exact q
          · have hb' : c ∉ cellsOf F.nf fr := fun z => by
              rw [gone c z] at q
              cases q
            rw [mend_out hb']
            exact q
end
/-! ### a call while the def's cells are told -/
/-- HT is H with the def's cells cs told -/
structure Tel (cells : List (Str × Addr)) (names : List (Str × NameKind)) (N : List Str) (σ : L2.St) (H : Hp) (cs : List Addr) (HT : Hp) : Prop where
  no : ∀ b, b ∈ cs → H b = Option.none
  ext : ∀ b, b ∈ cs → ∃ φ, HT b = some (.ext φ)
  out : ∀ b, b ∉ cs → HT b = H b
  inj : ∀ x y c, cells.lookup x = some c → cells.lookup y = some c → x = y
  has : ∀ y, names.lookup y = some .cell → ∃ c, cells.lookup y = some c
  at_ : ∀ (i : Nat) (y : Str) (c : Addr) (v : V), N[i]? = some y → names.lookup y = some .cell → cells.lookup y = some c → σ[i]? = some (some v) → CellAt HT c v
  nc : ∀ b, b ∈ cs → ∀ q, HT b ≠ some (CodeO b q)
  mem : ∀ y c, cells.lookup y = some c → c ∈ cs
theorem Tel.same {cells : List (Str × Addr)} {names : List (Str × NameKind)} {N : List Str} {σ : L2.St} {H HT : Hp} {cs : List Addr} (t : Tel cells names N σ H cs HT) : Same H HT := fun b o e => by
  rw [t.out b fun z => by rw [t.no b z] at e; cases e]
  exact e
theorem Tel.cut_at {cells : List (Str × Addr)} {names : List (Str × NameKind)} {N : List Str} {σ : L2.St} {H HT H1 : Hp} {cs : List Addr} (t : Tel cells names N σ H cs HT) (g : ∀ b, b ∈ cs → H1 b = HT b) {b : Addr} {o : HO} (e : H1 b = some o) (n : ∀ φ, o ≠ .ext φ) : cut cs H1 b = some o := by
  rw [cut_out fun z => ?_]
  · exact e
  · obtain ⟨φ, f⟩ := t.ext b z
    rw [g b z, f] at e
    exact n _ (Option.some.inj e).symm
theorem Tel.cut_same {cells : List (Str × Addr)} {names : List (Str × NameKind)} {N : List Str} {σ : L2.St} {H HT H1 : Hp} {cs : List Addr} (t : Tel cells names N σ H cs HT) (s : Same HT H1) : Same H (cut cs H1) := fun b o e => by
  rw [cut_out fun z => by rw [t.no b z] at e; cases e]
  exact s _ _ (t.same _ _ e)
theorem Tel.back {cells : List (Str × Addr)} {names : List (Str × NameKind)} {N : List Str} {σ : L2.St} {H HT : Hp} {cs : List Addr} (t : Tel cells names N σ H cs HT) : cut cs HT = H := funext fun b => by
  by_cases hb : b ∈ cs
  · rw [cut_in hb, t.no b hb]
  · rw [cut_out hb, t.out b hb]
theorem mend_cut {cs : List Addr} {H : Hp} : mend cs H (cut cs H) = H := funext fun b => by
  by_cases hb : b ∈ cs
  · rw [mend_in hb]
  · rw [mend_out hb, cut_out hb]
/-- a lambda that was made in the def, while the def's cells are told -/
theorem Tel.lclo {cells : List (Str × Addr)} {names : List (Str × NameKind)} {N : List Str} {σ : L2.St} {H HT : Hp} {cs : List Addr} (t : Tel cells names N σ H cs HT) {NL psL fr : List Str} {F : LF} {f : Addr} {js : List Nat} {ws : List V}
    (S : NScope NL psL fr F.scope) (hcl : F.cl = cloFrom cells F.scope.names []) (hfree : ∀ y ∈ fr, names.lookup y = some .cell)
    (hN : js.map (fun j => N[j]?) = fr.map some) (hσ : js.map (fun j => σ[j]?) = ws.map fun v => some (some v))
    (hf : H f = some (LamO f F)) (hc : H F.c = some (CodeO F.c F.qual)) : LClo HT f F fr ws := by
  have hfr : ∀ y ∈ F.scope.names, y.2 = .free → ∃ c, cells.lookup y.1 = some c := fun y hy e => t.has _ (hfree _ (S.free y hy e))
  have l1 := congrArg List.length hN
  have l2 := congrArg List.length hσ
  rw [List.length_map, List.length_map] at l1 l2
  refine ⟨t.same _ _ hf, t.same _ _ hc, by omega, fun y c e => ?_, fun x y c e1 e2 => ?_, fun i y e => ?_⟩
  · rw [hcl] at e
    rcases cloFrom_mem (PySem.mem_of_lookup e) with h | ⟨h, _⟩
    · cases h
    · exact S.free _ h rfl
  · rw [hcl] at e1 e2
    exact t.inj x y c (clo_cm hfr e1) (clo_cm hfr e2)
  · have my : y ∈ fr := List.mem_of_getElem? e
    obtain ⟨c, hc⟩ := t.has y (hfree y my)
    have li : i < fr.length := (List.getElem?_eq_some_iff.mp e).1
    obtain ⟨j, hj⟩ : ∃ j, js[i]? = some j := ⟨_, List.getElem?_eq_getElem (by omega)⟩
    obtain ⟨v, hv⟩ : ∃ v, ws[i]? = some v := ⟨_, List.getElem?_eq_getElem (by omega)⟩
    have n1 : (js.map fun j => N[j]?)[i]? = some (some y) := by
      rw [hN, List.getElem?_map, e]
      rfl
    have n2 : (js.map fun j => σ[j]?)[i]? = some (some (some v)) := by
      rw [hσ, List.getElem?_map, hv]
      rfl
    rw [List.getElem?_map, hj] at n1 n2
    exact ⟨c, v, by rw [hcl]; exact clo_has hfr (PySem.mem_of_lookup (S.frk y my)) hc, hv, t.at_ j y c v (Option.some.inj n1) (hfree y my) hc (Option.some.inj n2)⟩
/-- the cells of such a lambda are the def's own -/
theorem Tel.lin {cells : List (Str × Addr)} {names : List (Str × NameKind)} {N : List Str} {σ : L2.St} {H HT : Hp} {cs : List Addr} (t : Tel cells names N σ H cs HT) {NL psL fr : List Str} {F : LF}
    (S : NScope NL psL fr F.scope) (hcl : F.cl = cloFrom cells F.scope.names []) (hfree : ∀ y ∈ fr, names.lookup y = some .cell) : ∀ b, b ∈ cellsOf F.nf fr → b ∈ cs := fun b hb => by
  have hfr : ∀ y ∈ F.scope.names, y.2 = .free → ∃ c, cells.lookup y.1 = some c := fun y hy e => t.has _ (hfree _ (S.free y hy e))
  obtain ⟨y, hy, e⟩ := mem_cells.mp hb
  have e : F.cl.lookup y = some b := e
  rw [hcl] at e
  exact t.mem _ _ (clo_cm hfr e)
section
variable {X : Cx} {pins : List (Addr × Obj)} {σ : L2.St} {H : Hp} {s : Shared}
def frCells (l : List (Str × Addr)) : List Addr := l.filterMap fun p => l.lookup p.1
theorem mem_frCells {l : List (Str × Addr)} {b : Addr} (h : b ∈ frCells l) : ∃ x, l.lookup x = some b := by
  obtain ⟨p, _, e⟩ := List.mem_filterMap.mp h
  exact ⟨p.1, e⟩
theorem frCells_mem {l : List (Str × Addr)} {x : Str} {b : Addr} (h : l.lookup x = some b) : b ∈ frCells l := List.mem_filterMap.mpr ⟨(x, b), PySem.mem_of_lookup h, h⟩
theorem tel_run {k : Nat} {f : Addr} {fd : FuncData} {ps : List Str} {ds : List Value} {dvs : List V} {sp : Sp} {Q : VK} {us : List Value} {vs : List V} (F : FnOk X.prog X.w X.K X.mg X.base CX0 k f fd ps sp) (hr : Room k X.A) (hb : Binds X.K fd ps ds) (hd : Vals dvs ds) (hfn : ∀ x, X.fn x = true)
    (I : Inv X pins σ H s) (r : Vals vs us) (h : ∀ cs HT, Tel X.env.cells X.env.scope.names X.N σ H cs HT → sp (vs ++ dvs) HT (fun v H1 => (∀ b, b ∈ cs → H1 b = HT b) ∧ Q v (cut cs H1)) E0) : wpAny (model X.prog X.w) X.A (call (.ref f) us) (EP X pins σ Q) X.xe s := by
  let cs := frCells X.env.cells
  let HT : Hp := fun b => if b ∈ cs then (match s.heap.get? b with | some o => some (.ext fun h => h.get? b = some o) | Option.none => Option.none) else H b
  have big : ∀ b, b ∈ cs → X.s_0.heap.objs.size ≤ b := fun b hb => by
    obtain ⟨x, e⟩ := mem_frCells hb
    exact I.ok.cab x b (hfn x) e
  have no : ∀ b, b ∈ cs → H b = Option.none := fun b hb => by
    obtain ⟨x, e⟩ := mem_frCells hb
    exact I.freeC x b e
  have inT : ∀ b, b ∈ cs → ∃ v o, s.heap.get? b = some o ∧ o.data = .cell v ∧ HT b = some (.ext fun h => h.get? b = some o) := fun b hb => by
    obtain ⟨x, e⟩ := mem_frCells hb
    obtain ⟨v, o, e1, e2⟩ := I.cell x b e
    refine ⟨v, o, e1, e2, ?_⟩
    show (if b ∈ cs then _ else _) = _
    rw [if_pos hb, e1]
  have outT : ∀ b, b ∉ cs → HT b = H b := fun b hb => if_neg hb
  have nonT : ∀ b, b ∉ cs → H b = Option.none → HT b = Option.none := fun b hb e => (outT b hb).trans e
  have T : Tel X.env.cells X.env.scope.names X.N σ H cs HT := by
    refine ⟨no, fun b hb => ?_, outT, I.ok.inj, fun y h => I.ok.has _ (.inl h), fun i y c v h1 h2 h3 h4 => ?_, fun b hb q hq => ?_, fun y c e => frCells_mem e⟩
    · obtain ⟨v, o, _, _, e⟩ := inT b hb
      exact ⟨_, e⟩
    · obtain ⟨v', o, e1, e2, e3⟩ := inT c (frCells_mem h3)
      obtain ⟨m, hn, hl⟩ := I.loc
      obtain ⟨u, ru, lk⟩ := hl i y v h1 h4 (.inr (.inl h2))
      refine ⟨_, e3, fun h hh => ⟨u, ru, o, hh, ?_⟩⟩
      rcases lk with ⟨z, _⟩ | ⟨_, c', hc', hcell⟩
      · have z' : X.env.scope.names.lookup y = some .local := z
        rw [h2] at z'
        cases z'
      · rw [h3] at hc'
        cases hc'
        obtain ⟨o', g1, g2⟩ := hcell
        rw [e1] at g1
        cases g1
        exact g2
    · obtain ⟨v, o, e1, e2, e3⟩ := inT b hb
      rw [e3] at hq
      have hq := HO.ext.inj (Option.some.inj hq)
      have hq := (congrFun hq s.heap).mp e1
      obtain ⟨oc, vs, t, g1, g2, _⟩ := hq
      rw [e1] at g1
      cases g1
      rw [e2] at g2
      cases g2
  have ncs : ∀ b, b < X.s_0.heap.objs.size → b ∉ cs := fun b l m => Nat.not_lt.mpr (big b m) l
  have e0 := I.env0
  have notfr : ∀ b, b ∈ frs X.stack → b ∉ cs := fun b hb m => by
    rcases List.mem_cons.mp (I.stkSub b hb) with e | hb'
    · obtain ⟨x, ex⟩ := mem_frCells m
      exact I.cne x b ex e
    · obtain ⟨_, o, ho, _⟩ := I.ok.funs.mem hb'
      exact ncs b (Heap.lt_size ho) m
  have nonext : ∀ {b : Addr} {o : HO}, H b = some o → b ∉ cs := fun e m => by
    rw [no _ m] at e
    cases e
  have e1 : Env0 X.prog X.w X.K X.mg X.base X.A X.stack s HT := by
    refine ⟨e0.frames, e0.mod, fun b o q => ⟨(e0.bs b o q).1, nonT b (ncs b (Nat.lt_of_lt_of_le (Heap.lt_size q) I.ok.bsz)) (e0.bs b o q).2⟩, e0.bsz, e0.funs, fun b hb => nonT b (notfr b hb) (e0.frf b hb), fun b o e => ?_, e0.bare⟩
    by_cases hb : b ∈ cs
    · obtain ⟨v, o', g1, g2, g3⟩ := inT b hb
      rw [g3] at e
      cases e
      exact ⟨g1, ⟨o', g1⟩, fun h1 h2 z k => k _ z⟩
    · rw [outT b hb] at e
      refine (e0.hok b o e).stay (fun c u _ q => q) (fun c q => ?_) fun c xs q => ?_
      · rw [outT c (nonext q)]
        exact q
      · rw [outT c (nonext q)]
        exact q
  have hq0 := h cs HT T
  have r2 : Vals (vs ++ dvs) (us ++ ds) := r.append hd
  have hl : (us ++ ds).length = ps.length := by rw [← r2.length]; exact F.len _ _ _ _ hq0
  refine wpAny_call (codeAny_mono (F.run X.A X.stack s HT ⟨us, []⟩ (us ++ ds) (vs ++ dvs) _ E0 hr e1 (hb s us I.kIn hl) r2 hq0) fun r s' hq => ?_)
  cases r with
  | error e => exact False.elim hq
  | ok fl =>
    cases fl with
    | next => exact False.elim hq
    | brk => exact False.elim hq
    | cont => exact False.elim hq
    | ret u =>
      obtain ⟨v, H1, os, bare, un, hok1, rv, kc, q⟩ := hq
      have notin : ∀ {b : Addr} {o : HO}, H1 b = some o → (∀ φ, o ≠ .ext φ) → b ∉ cs := fun {b o} e n m => by
        obtain ⟨v, o', _, _, g3⟩ := inT b m
        rw [kc b m, g3] at e
        exact n _ (Option.some.inj e).symm
      have keepC : ∀ b o, b ∈ cs → s.heap.get? b = some o → s'.heap.get? b = some o := fun b o m e => by
        obtain ⟨v, o', g1, _, g3⟩ := inT b m
        rw [g1] at e
        cases e
        have := hok1 b _ ((kc b m).trans g3)
        exact this.1
      refine I.after ⟨v, cut cs H1, os, bare, ⟨fun b o a n h1 h2 => ?_, fun b o a n h1 h2 => ?_, fun b o a n h2 => ?_, un.there, fun b xs e => ?_, fun b o u e => ?_, fun b ps e => ?_⟩, fun b o e => ?_, rv, q⟩
      · by_cases m : b ∈ cs
        · exact keepC b o m a
        · exact un.keep b o a (nonT b m n) h1 h2
      · exact un.slot b o a (nonT b (notfr b h1) n) h1 h2
      · by_cases m : b ∈ cs
        · exact cut_in m
        · rw [cut_out m]
          exact un.free b o a (nonT b m n) h2
      · have m := nonext e
        rw [cut_out m]
        exact un.tups b xs ((outT b m).trans e)
      · have m := nonext e
        rw [cut_out m]
        exact un.frzs b o u ((outT b m).trans e)
      · have m := nonext e
        rw [cut_out m]
        exact un.tbls b ps ((outT b m).trans e)
      · by_cases m : b ∈ cs
        · rw [cut_in m] at e
          cases e
        · rw [cut_out m] at e
          refine (hok1 b o e).stay (fun c u _ q => q) (fun c q => ?_) fun c xs q => ?_
          · rw [cut_out (notin q (fun φ z => nomatch z))]
            exact q
          · rw [cut_out (notin q (fun φ z => nomatch z))]
            exact q
end
/-- f(..) while the cells are told -/
def tCallT (X : Cx) (sp : Sp) (dvs : List V) (t : TA) : TE := fun σ H Q => t σ H fun vs H1 => ∀ cs HT, Tel X.env.cells X.env.scope.names X.N σ H1 cs HT → sp (vs ++ dvs) HT (fun v H2 => (∀ b, b ∈ cs → H2 b = HT b) ∧ Q v (cut cs H2)) E0
theorem pe_callT {X : Cx} {k : Nat} {f : Addr} {fd : FuncData} {ps : List Str} {ds : List Value} {dvs : List V} {sp : Sp} {x : Str} {p pos : Pos} {e : Expr} {es : List Expr} {t : TA} (hfn : ∀ x, X.fn x = true) (F : FnOk X.prog X.w X.K X.mg X.base CX0 k f fd ps sp) (hr : Room k X.A) (hg : Gl X x) (hm : X.mg x = some (.ref f)) (hk : PySem.W.keepIn X.K (.ref f) = true) (hb : Binds X.K fd ps ds) (hd : Vals dvs ds)
    (ha : PA X (e :: es) t) (hdb : (x == ("__debug__" : Str)) = false := by decide) (he : starEach (e :: es) X.env = (false, eval e X.env) :: starEach es X.env := by rfl) (hpl : (backTo pos (starEach es X.env)).any (·.1) = false := by rfl) :
    PE X (.Call (.Name x p) (e :: es) [] pos) (tCallT X sp dvs t) := by
  refine ⟨fun pins s σ H Q I h => ?_⟩
  refine wpAny_Call_Name_kw (ld_glob I hg hm ?_ hdb)
  refine PySem.W.callWith_K (h₀ := X.base) I.ok.mod.kin hk (thn (ha.run pos pins s σ H _ I h) fun us s1 ⟨vs, H1, I1, r, q⟩ => ⟨I1.kIn, ?_⟩) he hpl
  exact tel_run F hr hb hd hfn I1 r q
section
variable {X : Cx} {pins : List (Addr × Obj)} {σ : L2.St} {H : Hp} {s : Shared}
/-- a lambda in a def that makes functions by name, too: the table knows the names by their places -/
theorem lam_toldP {T : List NTab} {nm : Nat → Nat → Str} {c P : Addr} {params : Arguments} {body : Expr} {scope : Scope} {pos : Pos} {E : Value → Shared → Prop} {Q : Value → Shared → Prop} (I : Inv X pins σ H s) (TB : TabB X.base X.mg c P) (hcode : X.env.code = .ref c)
    (hm : (P, nm) ∈ T) (hn : nm pos.line pos.col = X.env.qual ++ "<lambda>") (hu : ∀ p ∈ T, p.1 = P → p.2 = nm) (hT : TabsN T H) (hdef : defaultsOf params X.env = ([], [])) (hfree : ∀ y ∈ scope.names, y.2 = .free → ∃ c, X.env.cells.lookup y.1 = some c)
    (h : ∀ (f c' : Addr) (H1 : Hp) (s' : Shared), Inv X pins σ H1 s' → (∀ b o, H b = some o → b ≠ P → H1 b = some o) → (∀ b, H1 b = Option.none → H b = Option.none) → TabsN T H1 → H f = none → H1 f = some (LamO f ⟨X.env.qual ++ "<lambda>", params, body, scope, cloFrom X.env.cells scope.names [], c'⟩) → H1 c' = some (CodeO c' (X.env.qual ++ "<lambda>")) → Q (.ref f) s') :
    wpAny (model X.prog X.w) X.A (eval (.Lambda params body scope pos) X.env) Q E s := by
  obtain ⟨ps, hP, ht, ha⟩ := (show TabN H P nm from hT _ hm)
  have bP := TB.bm.keeps (h' := s.heap) I.bk
  have gP : s.heap.get? P = some { cls := .none, data := .fields ps } := I.hok P _ hP
  refine PySem.W.kla_eval hdef ?_
  cases cd : codeAmong pos ps.toList with
  | none =>
    refine PySem.W.kla_makeFunction (mg := X.mg) (c := c) (P := P) (ps := ps) (closure_ok hfree) I.ok.glob (I.mod.glob.keeps I.bk) hcode (TB.code.keeps I.bk) gP ht cd TB.gP bP fun c' ctv h' tk hx hge hlt hrec htb => ?_
    obtain ⟨c2, oc, vs, t, e2, hoc, hd, hv⟩ := hrec
    cases e2
    have nC : H c' = none := I.hok.fresh hge
    have I1 := inv_table (q := X.env.qual ++ "<lambda>") (t' := tk) (more := #[rawInt pos.line, rawInt pos.col, .ref c']) (h' := h') I hP hx htb hge ⟨oc, vs, t, hoc, hd, hv⟩
    have hE : ExtN H (upd (upd H P (.tbl (ps ++ #[rawInt pos.line, rawInt pos.col, .ref c']))) c' (CodeO c' (X.env.qual ++ "<lambda>"))) := fun b o e n => by
      rw [upd_ne (ne_of_none e nC), upd_ne (fun z => n ps (Option.some.inj (e.symm.trans (by rw [z]; exact hP))))]
      exact e
    have eL : (ps ++ #[rawInt pos.line, rawInt pos.col, .ref c']).toList = ps.toList ++ [rawInt pos.line, rawInt pos.col, .ref c'] := by simp
    have T1 : TabsN T (upd (upd H P (.tbl (ps ++ #[rawInt pos.line, rawInt pos.col, .ref c']))) c' (CodeO c' (X.env.qual ++ "<lambda>"))) := fun p hp => by
      by_cases hb : p.1 = P
      · rw [hu p hp hb, hb]
        refine ⟨_, by rw [upd_ne (ne_of_none hP nC), upd_same], by rw [eL]; exact PySem.TriplesOk_snoc _ _ _ _ ht, fun p' cv hcv => ?_⟩
        rw [eL] at hcv
        rcases among_app2 _ ht hcv with z | ⟨z, z1, z2⟩
        · obtain ⟨c0, e1, e2⟩ := ha p' cv z
          exact ⟨c0, e1, hE _ _ e2 codeO_ne⟩
        · refine ⟨c', z, ?_⟩
          rw [← z1, ← z2, hn]
          exact upd_same
      · obtain ⟨ps', a1, a2, a3⟩ := hT p hp
        refine ⟨ps', by rw [upd_ne (ne_of_none a1 nC), upd_ne hb]; exact a1, a2, fun p' cv hcv => ?_⟩
        obtain ⟨c0, e1, e2⟩ := a3 p' cv hcv
        exact ⟨c0, e1, hE _ _ e2 codeO_ne⟩
    have nF := I1.hok.fresh (Nat.le_refl h'.objs.size)
    have I2 := I1.laid (a := h'.objs.size) (o := LamO h'.objs.size ⟨X.env.qual ++ "<lambda>", params, body, scope, cloFrom X.env.cells scope.names [], c'⟩) (h' := h'.push (PySem.W.kla_obj "<lambda>" (X.env.qual ++ "<lambda>") params body scope (cloFrom X.env.cells scope.names []) ((X.mg "__name__").getD .none) c' ctv)) (t' := tk)
      (fun b u z => Heap.get?_push_of_some _ z) (Nat.le_refl _) (lamO_ok ⟨_, _, Heap.get?_push_size _ rfl⟩)
    have hX : ∀ b o, H b = some o → b ≠ P → (upd (upd H P (.tbl (ps ++ #[rawInt pos.line, rawInt pos.col, .ref c']))) c' (CodeO c' (X.env.qual ++ "<lambda>"))) b = some o := fun b o e n => by
      rw [upd_ne (ne_of_none e nC), upd_ne n]
      exact e
    refine h h'.objs.size c' _ _ I2 (fun b o e n => ?_) (fun b e => NdefX.upd_none (NdefX.upd_none (NdefX.upd_none e))) (T1.ext fun b o e => ?_) (I.hok.fresh (Nat.le_trans hge (Nat.le_of_lt hlt))) upd_same ?_
    · have e1 := hX b o e n
      exact (upd_ne (ne_of_none e1 nF)).trans e1
    · exact (upd_ne (ne_of_none e nF)).trans e
    · exact (upd_ne (Nat.ne_of_lt hlt)).trans upd_same
  | some cv =>
    obtain ⟨c', e, hco⟩ := ha pos cv cd
    subst e
    rw [hn] at hco
    refine PySem.W.kla_makeFunctionHit (mg := X.mg) (c := c) (P := P) (ps := ps) (closure_ok hfree) I.ok.glob (I.mod.glob.keeps I.bk) hcode (TB.code.keeps I.bk) gP ht cd bP fun ctv h' tk hx hsz => ?_
    have I0 : Inv X pins σ H { s with heap := h', toks := tk } := I.kept hx
    have nF : H h'.objs.size = none := I0.hok.fresh (Nat.le_refl _)
    have I2 := I0.laid (a := h'.objs.size) (o := LamO h'.objs.size ⟨X.env.qual ++ "<lambda>", params, body, scope, cloFrom X.env.cells scope.names [], c'⟩) (h' := h'.push (PySem.W.kla_obj "<lambda>" (X.env.qual ++ "<lambda>") params body scope (cloFrom X.env.cells scope.names []) ((X.mg "__name__").getD .none) c' ctv)) (t' := tk)
      (fun b u z => Heap.get?_push_of_some _ z) (Nat.le_refl _) (lamO_ok ⟨_, _, Heap.get?_push_size _ rfl⟩)
    refine h h'.objs.size c' _ _ I2 (fun b o e n => ?_) (fun b e => NdefX.upd_none e) (hT.ext fun b o e => ?_) nF upd_same ?_
    · exact (upd_ne (ne_of_none e nF)).trans e
    · exact (upd_ne (ne_of_none e nF)).trans e
    · exact (upd_ne (ne_of_none hco nF)).trans hco
end
def tLamP (T : List NTab) (P : Addr) (F : Addr → LF) : TE := fun σ H Q => TabsN T H ∧ ∀ (f c' : Addr) (H1 : Hp), (∀ b o, H b = some o → b ≠ P → H1 b = some o) → (∀ b, H1 b = Option.none → H b = Option.none) → TabsN T H1 → H f = none → H1 f = some (LamO f (F c')) → H1 c' = some (CodeO c' (F c').qual) → Q (.ref f) H1
theorem pe_lamP {X : Cx} {T : List NTab} {nm : Nat → Nat → Str} {c P : Addr} {params : Arguments} {body : Expr} {scope : Scope} {pos : Pos} (TB : TabB X.base X.mg c P) (hcode : X.env.code = .ref c) (hm : (P, nm) ∈ T) (hn : nm pos.line pos.col = X.env.qual ++ "<lambda>") (hu : ∀ p ∈ T, p.1 = P → p.2 = nm)
    (hdef : defaultsOf params X.env = ([], [])) (hfree : ∀ y ∈ scope.names, y.2 = .free → X.env.scope.names.lookup y.1 = some .cell ∨ X.env.scope.names.lookup y.1 = some .free) :
    PE X (.Lambda params body scope pos) (tLamP T P fun c' => ⟨X.env.qual ++ "<lambda>", params, body, scope, cloFrom X.env.cells scope.names [], c'⟩) := by
  refine ⟨fun pins s σ H Q I h => ?_⟩
  obtain ⟨hT, q⟩ := h
  exact lam_toldP I TB hcode hm hn hu hT hdef (fun y hy e => (hfree y hy e).elim (fun z => I.ok.has _ (.inl z)) fun z => I.ok.has _ (.inr z)) fun f c' H1 s' I1 e1 n1 t1 nf hf hc => ⟨.ref f, H1, I1, rfl, q f c' H1 e1 n1 t1 nf hf hc⟩
/-! ### f(e, ..), f a name that holds a function that was made in a def -/
def tActP (P : Program) (w : World) (K : PySem.W.Frag) (mg : Str → Option Value) (base : Heap) (CX : CXT) (k i : Nat) (E : L2.St → XK) (t : TA) : TE := fun σ H Q => ∃ f, σ[i]? = some (some (.ref f)) ∧ t σ H fun vs H1 => ∃ o sp, H1 f = some o ∧ FnHO f o ∧ FnR P w K mg base CX k f sp ∧ sp vs H1 Q (E σ)
theorem lamHO2 {f : Addr} {F : LF} : FnHO f (LamO f F) := lamHO
theorem pe_actP {X : Cx} {CX : CXT} {k i : Nat} {E : L2.St → XK} {x : Str} {e : Expr} {es : List Expr} {t : TA} {p pos : Pos} (hN : X.N[i]? = some x) (hv : Vis X.env.scope x) (hr : Room k X.A) (hx : ∀ σ, PassesAt CX X σ (E σ)) (ha : PA X (e :: es) t) (hd : (x == ("__debug__" : Str)) = false := by decide) (hcd : (x == ("__classdict__" : Str)) = false := by decide)
    (he : starEach (e :: es) X.env = (false, eval e X.env) :: starEach es X.env := by rfl) (hpl : (backTo pos (starEach es X.env)).any (·.1) = false := by rfl) : PE X (.Call (.Name x p) (e :: es) [] pos) (tActP X.prog X.w X.K X.mg X.base CX k i E t) := by
  refine ⟨fun pins s σ H Q I h => ?_⟩
  obtain ⟨f, hs, h⟩ := h
  refine wpAny_Call_Name_kw (thn ((pe_var (pos := p) hN hv hd hcd).run pins s σ H (fun v H1 => v = .ref f ∧ H1 = H) I ⟨.ref f, hs, rfl, rfl⟩) fun u s1 ⟨v, H1, I1, r1, ev, eH⟩ => ?_)
  subst ev
  rw [eH] at I1
  obtain rfl : u = Value.ref f := r1
  rw [he]
  refine PySem.W.callWith_of (P := PySem.W.FnAt f) (by show ((false || (backTo pos (starEach es X.env)).any (·.1)) || false) = false; rw [hpl]; rfl) PySem.W.keeps_F (PySem.Calls.evalArgs_plain (?_ : wpAny _ _ (spliced (backTo pos ((false, eval e X.env) :: starEach es X.env))) _ _ _))
  rw [← he]
  exact thn (ha.run pos pins s1 σ H _ I1 h) fun us s2 ⟨vs, H2, I2, r, o, sp, hf, ho, hF, q⟩ => ⟨ho _ _ _ _ I2.hok hf, run_fnE hF hr (hx σ) I2 r q⟩
/-! ### f( *values), f a name that holds a function: one of a def, or one of the module -/
def FnIs (K : PySem.W.Frag) (H : Hp) (f : Addr) : Prop := (∃ o, H f = some o ∧ FnHO f o) ∨ ∃ (oc : Value) (od : Option Addr) (fd : FuncData) (sl : Array (Option Value)), K.lookup f = some ⟨oc, od, .func fd, sl⟩
theorem FnIs.at_ {K : PySem.W.Frag} {P : Program} {w : World} {H : Hp} {h : Heap} {f : Addr} (g : FnIs K H f) (hok : HOk P w H h) (k : K.In h) : PySem.W.FnAt f h := by
  rcases g with ⟨o, e, z⟩ | ⟨oc, od, fd, sl, e⟩
  · exact z _ _ _ _ hok e
  · exact ⟨_, _, _, _, k _ _ e⟩
def tActG (P : Program) (w : World) (K : PySem.W.Frag) (mg : Str → Option Value) (base : Heap) (CX : CXT) (k i : Nat) (E : L2.St → XK) (te : TE) : TE := fun σ H Q => ∃ f, σ[i]? = some (some (.ref f)) ∧ te σ H fun y H1 => ∃ a xs sp, y = V.ref a ∧ (SqT K H1 a xs ∨ SqL K H1 a xs) ∧ FnIs K H1 f ∧
  FnR P w K mg base CX k f sp ∧ sp xs H1 Q (E σ)
theorem pe_actG {X : Cx} {CX : CXT} {k i : Nat} {E : L2.St → XK} {x : Str} {e : Expr} {te : TE} {p sp_ pos : Pos} (hN : X.N[i]? = some x) (hv : Vis X.env.scope x) (hr : Room k X.A) (hx : ∀ σ, PassesAt CX X σ (E σ)) (he : PE X e te) (hd : (x == ("__debug__" : Str)) = false := by decide) (hcd : (x == ("__classdict__" : Str)) = false := by decide)
    (hst : starEach [.Starred e sp_] X.env = [(true, eval e X.env)] := by rfl) : PE X (.Call (.Name x p) [.Starred e sp_] [] pos) (tActG X.prog X.w X.K X.mg X.base CX k i E te) := by
  refine ⟨fun pins s σ H Q I h => ?_⟩
  obtain ⟨f, hs, h⟩ := h
  refine wpAny_Call_Name_kw (thn ((pe_var (pos := p) hN hv hd hcd).run pins s σ H (fun v H1 => v = .ref f ∧ H1 = H) I ⟨.ref f, hs, rfl, rfl⟩) fun u s1 ⟨v, H1, I1, r1, ev, eH⟩ => ?_)
  subst ev
  rw [eH] at I1
  obtain rfl : u = Value.ref f := r1
  rw [show backTo pos (starEach [.Starred e sp_] X.env) = [(true, (do let v ← eval e X.env; standAt pos; pure v))] by rw [hst]; rfl]
  refine PySem.W.ks_call (P := PySem.W.FnAt f) rfl PySem.W.keeps_F (PySem.W.ks_lone ?_)
  refine thn (he.run pins s1 σ H _ I1 h) fun v s2 ⟨y, H2, I2, ry, a, xs, sp, ey, hxs, hf, hF, q⟩ => ?_
  subst ey
  obtain rfl : v = Value.ref a := ry
  exact StX.star_any I2 hxs fun us s3 I3 rv => ⟨hf.at_ I3.hok I3.kIn, run_fnE hF hr (hx σ) I3 rv q⟩
end Inf

set_option Elab.async false
set_option linter.all false
set_option maxRecDepth 100000
set_option maxHeartbeats 4000000
namespace Inf
open PySem PySem.Spec PyProof.Rows L2 NdefX LamX
/-! ### min(xs, default=d) -/
/-- what the walk has kept behind j items -/
def OldAt (P : Nat → Value → Prop) (bt : Nat → Nat → Bool) : Nat → Array Value → Prop
  | 0, old => old = #[]
  | j + 1, old => ∃ v, old = #[v, v] ∧ P (argBest bt j) v
/-- what it ends with -/
def EndAt (P : Nat → Value → Prop) (bt : Nat → Nat → Bool) (n : Nat) (d v : Value) : Prop := (n = 0 ∧ v = d) ∨ (0 < n ∧ P (argBest bt (n - 1)) v)
def kwD (d : Value) : List (Str × Value) := [(Str.ofString "default", d)]
theorem nameD : (toString "min" ++ toString ".loop" : String) = "min.loop" := by decide
theorem minD_loop {prog : Program} {w : World} {A : Around} {R : Result → Shared → Prop} {I : Addr} {fp wr : List Addr} {n : Nat} {P : Nat → Value → Prop} {St : Nat → Heap → Prop} (W : Walks prog w A.in1 I fp wr n P St) {bt : Nat → Nat → Bool} (hc : CmpOf prog w A.in1 .Lt P bt) {S : Addr} (hSf : S ∉ fp) (d : Value) :
    ∀ (k j : Nat) (s : Shared) (old : Array Value) (c : Nat), n = j + k → St j s.heap → OldAt P bt j old → s.heap.get? S = some { cls := .type "list", dict := none, data := .seq old c, slots := #[] } →
      (∀ v h' tk, EndAt P bt n d v → (∀ b o, b ∉ wr → b ≠ S → s.heap.get? b = some o → h'.get? b = some o) → R (.ok (.ret v)) { s with heap := h', toks := tk }) → codeAny (model prog w) A (.builtin "min.loop" ⟨[.ref I, .none, .ref S], kwD d⟩) R s := by
  have hSw : S ∉ wr := fun h => hSf (W.sub _ h)
  intro k
  induction k with
  | zero =>
    intro j s old c hk hst ho hS hR
    obtain rfl : n = j := hk
    refine codeAny_builtin F.entry_min_loop (?_ : wpAny _ _ _ _ _ _)
    rw [Around.under_plainId F.plain_min_loop _]
    refine wpAny_bind (wpAny_seqItems hS rfl (?_ : wpAny _ _ (tryCatch (pyNext (.ref I)) _ >>= _) _ _ _))
    refine wpAny_bind (wpAny_tryCatch (W.done s _ _ hst fun h' tk hk' => ?_))
    cases n with
    | zero =>
      obtain rfl : old = #[] := ho
      refine wpAny_bind (wpAny_rule (wpAny_pure (hR d h' tk (.inl ⟨rfl, rfl⟩) fun b o hb _ e => hk' b o hb e)))
    | succ j =>
      obtain ⟨v, rfl, hv⟩ := ho
      have hS' := hk' S _ hSw hS
      refine wpAny_bind (?_ : wpAny _ _ (updateSeq S fun _ => #[]) _ _ _)
      refine wpAny_updateSeq hS' rfl (wpAny_bind (wpAny_letGo (wpAny_pure (hR v _ tk (.inr ⟨Nat.succ_pos j, hv⟩) fun b o hb n e => ?_))))
      exact (Heap.get?_update_other _ _ (Ne.symm n)).trans (hk' b o hb e)
  | succ k ih =>
    intro j s old c hk hst ho hS hR
    refine codeAny_builtin F.entry_min_loop (?_ : wpAny _ _ _ _ _ _)
    rw [Around.under_plainId F.plain_min_loop _]
    refine wpAny_bind (wpAny_seqItems hS rfl (?_ : wpAny _ _ (tryCatch (pyNext (.ref I)) _ >>= _) _ _ _))
    refine wpAny_bind (wpAny_tryCatch (W.item j s _ _ (by omega) hst fun v h' tk hP hst' hk' => ?_))
    have hS' := hk' S _ hSw hS
    have off : ∀ (g : Array Value → Array Value) (b : Addr) (o : Obj), b ≠ S → h'.get? b = some o → (h'.update S (Obj.mapSeq g)).get? b = some o := fun g b o n e => (Heap.get?_update_other _ _ (Ne.symm n)).trans e
    cases j with
    | zero =>
      obtain rfl : old = #[] := ho
      refine wpAny_bind (wpAny_pure ?_)
      refine wpAny_bind (?_ : wpAny _ _ (updateSeq S fun _ => #[v, v]) _ _ _)
      refine wpAny_updateSeq hS' rfl ?_
      rw [nameD]
      refine wpAny_pure ⟨plainId_quiet F.plain_min_loop _, ih 1 _ #[v, v] _ (by omega) (W.frame _ _ _ hst' fun b hb o e => off _ b o (fun z => hSf (by rw [← z]; exact hb)) e) ⟨v, rfl, hP⟩ (Heap.get?_update_self _ hS' rfl) fun v' h'' tk'' he hk'' => ?_⟩
      exact hR v' h'' tk'' he fun b o hb n e => hk'' b o hb n (off _ b o n (hk' b o hb e))
    | succ j =>
      obtain ⟨vb, rfl, hPb⟩ := ho
      refine wpAny_bind (wpAny_pure ?_)
      refine wpAny_bind (wpAny_tryCatch (wpAny_holding (wpAny_bind (hc (j + 1) (argBest bt j) v vb _ _ _ hP hPb ?_))))
      refine wpAny_bind (wpAny_holding (wpAny_truthy_bool (wpAny_bind (wpAny_letGo (wpAny_pure ?_)))))
      cases hb : bt (j + 1) (argBest bt j) with
      | true =>
        rw [if_pos rfl]
        refine wpAny_bind (?_ : wpAny _ _ (updateSeq S fun _ => #[v, v]) _ _ _)
        refine wpAny_updateSeq hS' rfl (wpAny_bind (wpAny_letGo ?_))
        rw [nameD]
        refine wpAny_pure ⟨plainId_quiet F.plain_min_loop _, ih (j + 2) _ #[v, v] _ (by omega) (W.frame _ _ _ hst' fun b hb o e => off _ b o (fun z => hSf (by rw [← z]; exact hb)) e) ⟨v, rfl, by rw [argBest, hb]; exact hP⟩ (Heap.get?_update_self _ hS' rfl) fun v' h'' tk'' he hk'' => ?_⟩
        exact hR v' h'' tk'' he fun b o hb n e => hk'' b o hb n (off _ b o n (hk' b o hb e))
      | false =>
        rw [if_neg Bool.false_ne_true]
        refine wpAny_bind (wpAny_letGo ?_)
        rw [nameD]
        refine wpAny_pure ⟨plainId_quiet F.plain_min_loop _, ih (j + 2) _ #[vb, vb] c (by omega) hst' ⟨vb, rfl, by rw [argBest, hb]; exact hPb⟩ hS' fun v' h'' tk'' he hk'' => ?_⟩
        exact hR v' h'' tk'' he fun b o hb n e => hk'' b o hb n (hk' b o hb e)
theorem args_minD (a d : Value) : argsOk "min" ⟨[a], kwD d⟩ := by unfold argsOk; kernel_rfl
theorem call_minD {prog : Program} {w : World} {A : Around} {E : Value → Shared → Prop} {s : Shared} {l : Addr} {d : Value} {xs : Array (Int × Tok)} {Q : Value → Shared → Prop} (hh : A.handled = none) (hl : s.heap.IsList l (intItems xs))
    (h : ∀ v h' tk, EndAt (fun i v => (intItems xs)[i]? = some v) (fun i j => decide (numAt xs i < numAt xs j)) xs.size d v → (∀ b o, s.heap.get? b = some o → h'.get? b = some o) → Q v { s with heap := h', toks := tk }) :
    wpAny (model prog w) A (call (.builtin "min") [.ref l] (kwD d)) Q E s := by
  refine PyProof.Rows.kmk_tree PySem.F.kind_min PySem.F.plain_min PySem.F.entry_min (args_minD _ _) ?_
  refine wpAny_bind (m := Builtin.Builtins.bindParams "min" ["key", "default"] 0 ⟨[], kwD d⟩) (wpAny_of_eq (show Builtin.Builtins.bindParams "min" ["key", "default"] 0 ⟨[], kwD d⟩ = pure [none, some d] from rfl) (wpAny_bind (wpAny_pure ?_)))
  refine wpAny_bind (iter_intList hl fun s₂ e st hfp hne => ?_)
  subst e
  refine wpAny_bind (wpAny_newObj_type ?_)
  rw [nameD]
  have hlt : l < s.heap.objs.size := by
    obtain ⟨_, e, _⟩ := hl
    exact Heap.lt_size e
  refine wpAny_pure ⟨plainId_quiet F.plain_min_loop _, minD_loop (Walks.list (A := A.in1) hh _ l hne (intItems xs)) (CmpOf.ints_lt (numAt xs) (fun _ _ => intItems_at)) (fun hm => Nat.lt_irrefl _ (hfp _ hm)) d (intItems xs).size 0 _ #[] _ (Nat.zero_add _).symm ?_ rfl (Heap.get?_push_size _ rfl) fun v h' tk he hk => ?_⟩
  · exact (Walks.list (prog := prog) (w := w) (A := A.in1) hh _ l hne (intItems xs)).frame _ _ _ st fun b _ o e => Heap.get?_push_of_some _ e
  · refine h v h' tk (by simpa [intItems] using he) fun b o e => ?_
    have lb := Heap.lt_size e
    have sz : (s.heap.push { cls := .type "list_iterator", data := .fields #[.ref l, .int 0 0] }).objs.size = s.heap.objs.size + 1 := Heap.size_push ..
    refine hk b o (fun m => ?_) (fun z => ?_) (Heap.get?_push_of_some _ (Heap.get?_push_of_some _ e))
    · rw [List.mem_singleton.mp m] at lb
      exact Nat.lt_irrefl _ lb
    · have z : b = (s.heap.push { cls := .type "list_iterator", data := .fields #[.ref l, .int 0 0] }).objs.size := z
      rw [z, sz] at lb
      exact absurd lb (Nat.not_lt.mpr (Nat.le_succ _))
/-- min(xs, default=d) of a list of ints, any number of them -/
def rMinD (K : PySem.W.Frag) : List V → List V → Hp → VK → Prop := fun vs zs H Q => ∃ (a : Addr) (ns : List Int) (d : V), vs = [V.ref a] ∧ zs = [d] ∧ SqL K H a (ns.map V.int) ∧ (ns = [] → Q d H) ∧ ∀ m ∈ ns, (∀ y ∈ ns, m ≤ y) → Q (.int m) H
theorem cr_minD {X : Cx} (hc : X.calm = true) : CallRK X (.builtin "min") [Str.ofString "default"] (rMinD X.K) := by
  intro pins s σ H vs zs us ws Q I r rz h
  obtain ⟨a, ns, d, rfl, rfl, hs, q0, q1⟩ := h
  obtain rfl := Vals.ref1 r
  obtain ⟨wd, rfl, ed⟩ := vals1 rz
  obtain ⟨its, rv, hl, hz⟩ := I.list hs
  have hi := rv.ints
  obtain ⟨xs, e⟩ := hi.allInts.items
  have hn : numsOf (intItems xs).toList = ns := by rw [← e]; exact hi.numsOf
  rw [nums_intItems] at hn
  subst hn
  have hl2 := hl.isList
  rw [e] at hl2
  refine call_minD (d := wd) (I.ok.hd hc) hl2 fun v h' tk he hk => ?_
  have lx : (xs.toList.map (·.1)).length = xs.size := by rw [List.length_map, Array.length_toList]
  rcases he with ⟨h0, rfl⟩ | ⟨h0, he⟩
  · exact ⟨d, H, I.kept hk, ed, q0 (List.length_eq_zero_iff.mp (lx.trans h0))⟩
  · obtain ⟨t, rfl⟩ := intItems_at he
    obtain ⟨h1, h2⟩ := argBest_lt (numAt xs) (xs.size - 1)
    refine ⟨.int _, H, I.kept hk, ⟨t, rfl⟩, q1 _ ?_ fun y my => ?_⟩
    · rw [numAt_eq]
      exact PySem.getD_mem (by rw [lx]; omega)
    · obtain ⟨j, hj, rfl⟩ := mem_getD my
      rw [lx] at hj
      rw [← numAt_eq]
      exact h2 j (by omega)
end Inf

set_option Elab.async false
set_option linter.all false
set_option maxRecDepth 100000
set_option maxHeartbeats 4000000
namespace Inf
open PySem PySem.Spec PyProof.Rows
/-! ### {**d, k: v} -/
section
variable {prog : Program} {w : World} {K : Type} [DecidableEq K] {knd : KeyKind prog w K} {A : Around} {E : Value → Shared → Prop} {s : Shared}
theorem idx_list {es : Array DictEntry} {p : DictEntry → Bool} : es.findIdx? p = es.toList.findIdx? p := by
  obtain ⟨l⟩ := es
  simp
/-- what a stored pair makes of a dict, on either way -/
theorem put_hit {h : Heap} {d : Addr} {o : Obj} {es : Array DictEntry} {ep i : Nat} {kvs : List (K × Value)} {k : K} {v : Value} (ho : h.get? d = some o) (hc : o.ExactDict) (hd : o.data = .dict es ep) (hk : KeysOf knd es) (hp : Pairs knd es.toList kvs) (hn : (kvs.map (·.1)).Nodup) (hi : es.findIdx? (fun e => knd.is k e.key) = some i) :
    (h.update d (Obj.mapDict fun es => es.modify i fun e => { e with val := v })).DictOf knd d (stored kvs k v) := by
  have hl : es.toList.findIdx? (fun e => knd.is k e.key) = some i := idx_list.symm.trans hi
  have hx : kvs.findIdx? (fun kv => decide (kv.1 = k)) = some i := (hp.findIdx k).symm.trans hl
  have e : stored kvs k v = kvs.map fun kv => if kv.1 = k then (kv.1, v) else kv := by
    unfold stored
    exact if_pos (any_of_findIdx_some hx)
  have h1 := hp.modify hn hl v
  refine ⟨_, _, ep, Heap.get?_update_self _ ho (Obj.isFreed_of_dict (Obj.data_mapDict hd _)), hc.mapDict _, Obj.data_mapDict hd _, hk.modify _ _, ?_, ?_⟩
  · rw [e]
    obtain ⟨l⟩ := es
    simpa using h1
  · rw [e, keys_map_store]
    exact hn
theorem put_new {h : Heap} {d : Addr} {o : Obj} {es : Array DictEntry} {ep : Nat} {kvs : List (K × Value)} {k : K} {key v : Value} (hkey : knd.is k key = true) (ho : h.get? d = some o) (hc : o.ExactDict) (hd : o.data = .dict es ep) (hk : KeysOf knd es) (hp : Pairs knd es.toList kvs) (hn : (kvs.map (·.1)).Nodup) (hi : es.findIdx? (fun e => knd.is k e.key) = none) :
    (h.update d (Obj.mapDictKeys (·.push ⟨knd.hash k, key, v⟩))).DictOf knd d (stored kvs k v) := by
  have hx : kvs.findIdx? (fun kv => decide (kv.1 = k)) = none := (hp.findIdx k).symm.trans (idx_list.symm.trans hi)
  have hm : k ∉ kvs.map (·.1) := not_mem_of_findIdx_none hx
  have e : stored kvs k v = kvs ++ [(k, v)] := by
    unfold stored
    refine if_neg fun z => ?_
    obtain ⟨kv, m, q⟩ := List.any_eq_true.mp z
    exact hm (List.mem_map.mpr ⟨kv, m, of_decide_eq_true q⟩)
  have h1 := hp.append hkey (knd.hash k) v
  refine ⟨_, _, ep + 1, Heap.get?_update_self _ ho (Obj.isFreed_of_dict (Obj.data_mapDictKeys hd _)), hc.mapDictKeys _, Obj.data_mapDictKeys hd _, hk.push hkey _, ?_, ?_⟩
  · rw [e]
    obtain ⟨l⟩ := es
    simpa using h1
  · rw [e, List.map_append]
    refine List.nodup_append.mpr ⟨hn, List.nodup_cons.mpr ⟨(fun z => nomatch z), List.nodup_nil⟩, fun a ha b hb z => ?_⟩
    rw [z, List.mem_singleton.mp hb] at ha
    exact hm ha
theorem put_ok {d : Addr} {kvs : List (K × Value)} {k : K} {key v : Value} {Q : Unit → Shared → Prop} (hkey : knd.is k key = true) (hm : s.heap.DictOf knd d kvs) (hsz : kvs.length ≤ sizeLine)
    (hQ : ∀ h', h'.DictOf knd d (stored kvs k v) → Heap.SameBut d s.heap h' → Q () { s with heap := h' }) : wpAny (model prog w) A (dictPut d (knd.hash k) key v) Q E s := by
  obtain ⟨o, es, ep, ho, hc, hd, hk, hp, hn⟩ := hm
  have hes : es.size ≤ sizeLine := by
    have := hp.length
    rw [Array.length_toList] at this
    omega
  unfold dictPut
  refine wpAny_bind (wpAny_dictFind_of hkey ho hd hk ?_)
  cases hi : es.findIdx? fun e => knd.is k e.key with
  | some i => exact wpAny_updateDict ho hd (hQ _ (put_hit ho hc hd hk hp hn hi) (Heap.SameBut.update ..))
  | none => exact wpAny_updateDictKeys (hz := hes) ho hd (hQ _ (put_new hkey ho hc hd hk hp hn hi) (Heap.SameBut.update ..))
theorem ite_same {M : Model} {c : Prop} [Decidable c] {a b : Sem Unit} {Q : Unit → Shared → Prop} (hb : wpAny M A b Q E s) (ha : wpAny M A b Q E s → wpAny M A a Q E s) : wpAny M A (if c then a else b) Q E s := by
  by_cases z : c
  · rw [if_pos z]
    exact ha hb
  · rw [if_neg z]
    exact hb
theorem merge_ok {d o : Addr} {kvs more : List (K × Value)} {Q : Unit → Shared → Prop} (hdo : d ≠ o) (hoS : (o == sysModules) = false) (hd : s.heap.DictOf knd d kvs) (ho : s.heap.DictOf knd o more) (hsz : kvs.length + more.length ≤ sizeLine)
    (hQ : ∀ h', h'.DictOf knd d (merged kvs more) → Heap.SameBut d s.heap h' → Q () { s with heap := h' }) : wpAny (model prog w) A (mergeMapping d (.ref o) false) Q E s := by
  obtain ⟨od, esd, epd, hod, hcd, hdd, hkd, hpd, hnd⟩ := id hd
  obtain ⟨oo, eso, epo, hoo, hco, hdo', hko, hpo, hno⟩ := id ho
  have hlen : more.length = eso.size := by
    rw [← hpo.length, Array.length_toList]
  unfold mergeMapping
  refine wpAny_bind (wpAny_isInstance ho.typeIs isSubtype_dict_dict ?_)
  dsimp only
  rw [if_pos rfl]
  refine wpAny_bind (wpAny_specialOf ho.typeIs F.slot_dict_iter.lookup ?_)
  refine wpAny_bind (wpAny_pure ?_)
  rw [show (some (Value.builtin "dict.__iter__") == some (Value.builtin "dict.__iter__")) = true from beq_self_eq_true _]
  dsimp only
  rw [if_neg (by rw [hoS]; exact Bool.false_ne_true)]
  refine wpAny_bind (wpAny_dictEntries hod hdd ?_)
  refine ite_same ?_ fun loop => ?_
  · refine wpAny_bind (wpAny_dictEntries hoo hdo' (wpAny_bind (wpAny_dictEpoch hoo hdo' (wpAny_bind ?_))))
    refine wpAny_forIn_list _ (fun rest _ s' => ∃ h' i, s' = { s with heap := h' } ∧ rest = (List.range eso.size).drop i ∧ i ≤ eso.size ∧ h'.DictOf knd d (merged kvs (more.take i)) ∧ h'.get? o = some oo ∧ Heap.SameBut d s.heap h')
      _ ?_ ?_ _ _ ⟨s.heap, 0, rfl, rfl, Nat.zero_le _, hd, hoo, Heap.SameBut.refl _ _⟩
    · rintro x rest b s' ⟨h', i, rfl, hr, hi, hd', hoo', hs'⟩
      have hlt : i < eso.size := by
        refine Nat.lt_of_not_le fun z => ?_
        rw [List.drop_eq_nil_of_le (by rw [List.length_range]; exact z)] at hr
        cases hr
      rw [List.drop_eq_getElem_cons (by rw [List.length_range]; exact hlt)] at hr
      obtain ⟨hx, hrest⟩ := List.cons.inj hr
      rw [List.getElem_range] at hx
      subst hx
      have hml : x < more.length := by omega
      obtain ⟨hkey, hval⟩ := hpo.get? (e := eso[x]) (k := more[x].1) (v := more[x].2) (by rw [Array.getElem?_toList, Array.getElem?_eq_getElem hlt]) (List.getElem?_eq_getElem hml)
      obtain ⟨k', hkey', hhash⟩ := hko eso[x] (Array.getElem_mem hlt)
      have ek : k' = more[x].1 := knd.inj _ _ _ hkey' hkey
      refine wpAny_bind (wpAny_dictEntries hoo' hdo' ?_)
      rw [Array.getElem?_eq_getElem hlt]
      dsimp only
      rw [if_neg Bool.false_ne_true, hhash, ek]
      have hz : (merged kvs (more.take x)).length ≤ sizeLine := by
        have h1 := merged_length_le kvs (more.take x)
        rw [List.length_take] at h1
        omega
      refine wpAny_bind (wpAny_holding (put_ok hkey hd' hz fun h'' hd'' hs'' => ?_))
      have hoo'' : h''.get? o = some oo := (hs''.2 o (Ne.symm hdo)).trans hoo'
      refine wpAny_bind (wpAny_dictEpoch hoo'' hdo' ?_)
      rw [if_neg (by simp)]
      refine wpAny_pure ⟨h'', x + 1, rfl, hrest, hlt, ?_, hoo'', hs'.trans hs''⟩
      rw [merged_take_succ kvs more x more[x] (List.getElem?_eq_getElem hml), ← hval]
      exact hd''
    · rintro b s' ⟨h', i, rfl, hr, hi, hd', hoo', hs'⟩
      have hin : i = eso.size := by
        refine Nat.le_antisymm hi (Nat.le_of_not_lt fun z => ?_)
        rw [List.drop_eq_getElem_cons (by rw [List.length_range]; exact z)] at hr
        cases hr
      rw [hin, ← hlen, List.take_length] at hd'
      exact wpAny_pure (hQ h' hd' hs')
  · refine wpAny_bind (wpAny_dictEntries hoo hdo' (wpAny_bind (wpAny_of_eq (a := PUnit.unit) ?_ loop)))
    rw [← Array.forIn_toList]
    refine forIn_yield_id _ fun e he c => ?_
    obtain ⟨k, hkey, _⟩ := hko e (Array.mem_toList_iff.mp he)
    have := knd.byValue k _ hkey
    cases hek : e.key with
    | ref a =>
      rw [hek] at this
      cases this
    | _ => rfl
/-- {**m, k: v} -/
theorem star_ok {m tk tv : Sem Value} {Q : Value → Shared → Prop}
    (h : wpAny (model prog w) A m (fun mv s1 => ∃ o more, mv = .ref o ∧ s.heap.objs.size ≠ o ∧ (o == sysModules) = false ∧ more.length < sizeLine ∧ s1.heap.DictOf knd s.heap.objs.size [] ∧ s1.heap.DictOf knd o more ∧
      ∀ h', h'.DictOf knd s.heap.objs.size more → Heap.SameBut s.heap.objs.size s1.heap h' →
        wpAny (model prog w) A (subDict [(tk, tv)]) (fun b s2 => ∃ more2 k v, s.heap.objs.size ≠ b ∧ (b == sysModules) = false ∧ more2.length < sizeLine ∧ s2.heap.DictOf knd s.heap.objs.size more2 ∧ s2.heap.DictOf knd b [(k, v)] ∧
          ∀ h'', h''.DictOf knd s.heap.objs.size (stored more2 k v) → Heap.SameBut s.heap.objs.size s2.heap h'' → Q (.ref s.heap.objs.size) { s2 with heap := h'' }) E { s1 with heap := h' }) E
      { s with heap := s.heap.push { cls := .type "dict", data := .dict #[] } }) :
    wpAny (model prog w) A (dictDisplay [(none, m), (some tk, tv)]) Q E s := by
  unfold dictDisplay
  dsimp only
  refine wpAny_bind ?_
  rw [List.forIn_cons]
  dsimp only
  refine wpAny_bind (wpAny_bind ?_)
  rw [if_pos (show ([] : List (Sem Value × Sem Value)).isEmpty = true from rfl)]
  refine wpAny_pure ?_
  dsimp only
  refine wpAny_bind (wpAny_alloc ?_)
  refine wpAny_bind (wpAny_holding (wpAny_mono h (fun mv s1 h1 => ?_) fun _ _ e => e))
  obtain ⟨o, more, rfl, hdo, hoS, hz, hd, ho, q⟩ := h1
  have hn : (more.map (·.1)).Nodup := let ⟨_, _, _, _, _, _, _, _, hn⟩ := ho; hn
  refine wpAny_bind (wpAny_onRaise (wpAny_tryCatch (wpAny_onRaise (wpAny_holding (merge_ok hdo hoS hd ho (by rw [List.length_nil]; omega) fun h' hd' hs' => ?_)))))
  rw [merged_nil_of_nodup more hn] at hd'
  refine wpAny_pure ?_
  dsimp only
  rw [List.forIn_cons]
  dsimp only
  rw [if_neg (by simp)]
  refine wpAny_bind (wpAny_pure ?_)
  dsimp only
  rw [List.forIn_nil]
  refine wpAny_pure ?_
  dsimp only
  refine wpAny_bind ?_
  rw [if_neg (by simp)]
  refine wpAny_bind (wpAny_holding (wpAny_mono (q h' hd' hs') (fun b s2 h2 => ?_) fun _ _ e => e))
  obtain ⟨more2, k, v, hdb, hbS, hz2, hd2, hb2, q2⟩ := h2
  refine wpAny_bind (wpAny_onRaise (wpAny_holding (merge_ok hdb hbS hd2 hb2 (by rw [List.length_singleton]; omega) fun h'' hd'' hs'' => ?_)))
  refine wpAny_pure ?_
  dsimp only
  exact wpAny_pure (q2 h'' hd'' hs'')
end
section
open L2
variable {X : Cx} {pos : Pos}
/-- {**e, k: v}: a new dict, and one more for the pair -/
def tStar (te tk tv : TE) : TE := fun σ H Q => ∀ p, H p = none → te σ (upd H p (.dK [])) fun x H1 => ∃ (a : Addr) (kvs : List (Key × V)), x = .ref a ∧ a ≠ p ∧ H1 p = some (.dK []) ∧ Rd H1 a (.dK kvs) ∧ kvs.length < sizeLine ∧
  ∀ b, upd H1 p (.dK kvs) b = none → tk σ (upd (upd H1 p (.dK kvs)) b (.dK [])) fun y H2 => tv σ H2 fun z H3 => ∃ k z', [(y, z)] = [(kV k, z')] ∧ p ≠ b ∧ H3 p = some (.dK kvs) ∧ H3 b = some (.dK []) ∧ Q (.ref p) (upd (upd H3 b (.dK [(k, z')])) p (.dK (putK kvs k z')))
theorem pe_dstar {e k v : Expr} {te tk tv : TE} (he : PE X e te) (hk : PE X k tk) (hv : PE X v tv) : PE X (.Dict [none, some k] [e, v] pos) (tStar te tk tv) := by
  refine ⟨fun pins s σ H Q I q => ?_⟩
  rw [arm_eval_Dict]
  show wpAny _ _ (do standAt pos; dictDisplay [(none, do let x ← eval e X.env; standAt pos; pure x), (some (eval k X.env), do let x ← eval v X.env; standAt pos; pure x)]) _ _ _
  refine wpAny_bind (wpAny_standAt (star_ok (knd := mixKind X.prog X.w) ?_))
  have hn := I.hok.fresh (Nat.le_refl s.heap.objs.size)
  have I1 := I.laid (a := s.heap.objs.size) (o := .dK []) (h' := s.heap.push { cls := .type "dict", data := .dict #[] }) (t' := s.toks) (fun _ _ q => Heap.get?_push_of_some _ q) (Nat.le_refl _) (dk_empty s.heap I.big)
  refine wpAny_bind (thn (he.run pins _ σ _ _ I1 (q _ hn)) fun u s1 ⟨x, H1, I2, rx, a, kvs, ex, na, hp, hr, hz, q2⟩ => ?_)
  subst ex
  obtain rfl : u = .ref a := rx
  obtain ⟨z, lo, vs, rel, dd⟩ := dk_rd I2.hok hr
  obtain ⟨z0, lo0, vs0, r0, dd0⟩ := dk_of I2.hok hp
  cases r0
  have hl : vs.length < sizeLine := by rw [← rel.length]; exact hz
  refine wpAny_bind (wpAny_standAt (wpAny_pure ⟨a, vs, rfl, Ne.symm na, lo, hl, dd0, dd, fun h' d' hs => ?_⟩))
  have he0 : ∃ q, h'.get? s.heap.objs.size = some q := let ⟨q, _, _, hq, _⟩ := d'; ⟨q, hq⟩
  have I3 := d_write (t' := s1.toks) I2 (by rw [hp]; exact True.intro) hs he0 (dk_new z lo0 rel d')
  have I4 := I3.laid (a := h'.objs.size) (o := .dK []) (h' := h'.push { cls := .type "dict", data := .dict #[] }) (t' := s1.toks) (fun _ _ q => Heap.get?_push_of_some _ q) (Nat.le_refl _) (dk_empty h' I3.big)
  refine wpAny_subDict (knd := mixKind X.prog X.w) (Nat.le_of_ble_eq_true rfl) ?_
  refine thn ((pps_cons hk hv pps_nil).run pins _ σ _ (fun ps H3 => ∃ k z', ps = [(kV k, z')] ∧ s.heap.objs.size ≠ h'.objs.size ∧ H3 s.heap.objs.size = some (.dK kvs) ∧ H3 h'.objs.size = some (.dK []) ∧ Q (.ref s.heap.objs.size) (upd (upd H3 h'.objs.size (.dK [(k, z')])) s.heap.objs.size (.dK (putK kvs k z')))) I4 (q2 _ (I3.hok.fresh (Nat.le_refl _)))) fun ws s2 ⟨ps, H3, I5, rel2, k, z', eps, npb, hp3, hb3, q3⟩ => ?_
  subst eps
  obtain ⟨rs, c, rk⟩ := carries_of (P := X.prog) (w := X.w) (kvs := [(k, z')]) rel2
  obtain ⟨zb, hdb, vsb, rb, ddb⟩ := dk_of I5.hok hb3
  cases rb
  refine ⟨rs, c, ddb, fun h2 d2 hs2 => ?_⟩
  obtain ⟨zp, hdp, vsp, rp, ddp⟩ := dk_of I5.hok hp3
  cases rk with
  | @cons p1 q1 ps1 qs1 hpq t1 =>
    cases t1
    obtain ⟨kq, wq⟩ := q1
    obtain ⟨ek, rw'⟩ := hpq
    have ek : k = kq := ek
    subst ek
    have ddp2 : h2.DictOf (mixKind X.prog X.w) s.heap.objs.size vsp := ddp.sameBut hs2 npb
    have he2 : ∃ q, h2.get? h'.objs.size = some q := let ⟨q, _, _, hq, _⟩ := d2; ⟨q, hq⟩
    have I6 := d_write (t' := s2.toks + ws.length) I5 (by rw [hb3]; exact True.intro) hs2 he2 (dk_new (kvs := [(k, z')]) (vs := [(k, wq)]) (by rw [sizeLine_eq, List.length_singleton]; omega) hdb (.cons ⟨rfl, rw'⟩ .nil) d2)
    have hp6 : upd H3 h'.objs.size (.dK [(k, z')]) s.heap.objs.size = some (.dK kvs) := by
      rw [upd_ne npb]
      exact hp3
    refine ⟨vsp, k, wq, npb, hdb, by rw [← rp.length]; exact hz, ddp2, d2, fun h3 d3 hs3 => ⟨.ref s.heap.objs.size, _, ?_, rfl, q3⟩⟩
    have he3 : ∃ q, h3.get? s.heap.objs.size = some q := let ⟨q, _, _, hq, _⟩ := d3; ⟨q, hq⟩
    have hz3 : (putK kvs k z').length ≤ sizeLine := Nat.le_trans (length_putK _ _ _) hz
    exact d_write (t' := s2.toks + ws.length) I6 (by rw [hp6]; exact True.intro) hs3 he3 (dk_new hz3 hdp (rp.put k rw') d3)
end
end Inf

set_option Elab.async false
set_option linter.all false
set_option maxRecDepth 100000
set_option maxHeartbeats 4000000
namespace Inf
open PySem PySem.Spec PyProof.Rows L2
/-! ### next(iter(d), None) -/
section
variable {prog : Program} {w : World} {K : Type} [DecidableEq K] {knd : PySem.KeyKind prog w K} {A : Around} {E : Value → Shared → Prop} {s : Shared} {d it : Addr} {kvs : List (K × Value)} {ep : Nat} {v : Value}
theorem itr_ok {Q : Value → Shared → Prop} (lo : (d == sysModules) = false) (hm : s.heap.DictAt knd d kvs ep)
    (h : ∀ o, (s.heap.push o).IsKeyIter s.heap.objs.size d 0 kvs.length ep → Q (.ref s.heap.objs.size) { s with heap := s.heap.push o }) : wpAny (model prog w) A (call (.builtin "iter") [.ref d]) Q E s := by
  refine Calls.call_function_entry (by decide +kernel) (by decide +kernel) PySem.W.kdk_entry_iter (PySem.W.kdk_args_iter _) ?_
  unfold Builtin.«iter»
  refine wpAny_bind (m := someArgs "iter" 1 2 _) (wpAny_of_eq (a := [Value.ref d]) (by first | rfl | kernel_rfl!) ?_)
  show wpAny _ _ (pyIter (.ref d) >>= _) _ _ _
  refine wpAny_bind (wpAny_pyIter_dict lo hm ?_)
  exact wpAny_pure ⟨_, rfl, h _ ⟨_, Heap.get?_push_size _ rfl, rfl, rfl⟩⟩
theorem nxt_ok {Q : Value → Shared → Prop} (hh : A.handled = none) (hit : s.heap.IsKeyIter it d 0 kvs.length ep) (hm : s.heap.DictAt knd d kvs ep)
    (h : ∀ u h', (match kvs with | [] => u = v | kv :: _ => knd.is kv.1 u = true) → Heap.ExtBut it s.heap h' → Q u { s with heap := h' }) : wpAny (model prog w) A (call (.builtin "next") [.ref it, v]) Q E s := by
  refine Calls.call_function_entry (by decide +kernel) (by decide +kernel) PySem.W.kdk_entry_next (PySem.W.kdk_args_next2 _ _) ?_
  unfold Builtin.«next»
  refine wpAny_bind (m := someArgs "next" 1 2 _) (wpAny_of_eq (a := [Value.ref it, v]) (by first | rfl | kernel_rfl!) ?_)
  dsimp only
  refine wpAny_bind (wpAny_specialOf (name := Str.ofString "__next__") hit.typeIs PySem.F.slot_dict_keyiterator_next.lookup ?_)
  refine wpAny_ite_split (fun hab => absurd hab (by decide)) (fun _ => ?_)
  match kvs, hit, hm, h with
  | [], hit, hm, h => exact wpAny_bind (wpAny_pyNext_dict_end (A := A.in1) hh hit hm rfl fun h' k => wpAny_pure ⟨_, rfl, h _ _ rfl k⟩)
  | kv :: r, hit, hm, h => exact wpAny_bind (wpAny_pyNext_dict_item (k := kv.1) (v := kv.2) hit hm rfl fun key h' hk _ sb => wpAny_pure ⟨_, rfl, h _ _ hk sb.extBut⟩)
end
section
variable {X : Cx} {e : Expr} {te : TE}
def fstV (kvs : List (Key × V)) : V := match kvs with
  | [] => .non
  | kv :: _ => kV kv.1
/-- the first key of a dict, None without one -/
def tFirst (te : TE) : TE := fun σ H Q => te σ H fun x H1 => ∃ (a : Addr) (kvs : List (Key × V)), x = .ref a ∧ Rd H1 a (.dK kvs) ∧ Q (fstV kvs) H1
theorem key_rel {k : Key} {u : Value} (h : keyIs k u = true) : RelV (kV k) u := by
  rcases keyIs_shape h with ⟨i, t, ek, ev⟩ | ⟨z, t, ek, ev⟩
  · subst ek
    exact ⟨t, ev⟩
  · subst ek
    exact ⟨t, ev⟩
theorem pe_first {p p2 p3 pos pos2 : Pos} {j : Nat} (hc : X.calm = true) (hgi : Gl X "iter") (hmi : X.mg "iter" = none) (hgn : Gl X "next") (hmn : X.mg "next" = none) (he : PE X e te)
    (hs : starEach [e] X.env = (false, eval e X.env) :: starEach [] X.env := by rfl)
    (hs2 : ∀ a b : Expr, starEach [.Call a [e] [] pos2, b] X.env = (false, eval (.Call a [e] [] pos2) X.env) :: starEach [b] X.env := by intros; rfl) :
    PE X (.Call (.Name "next" p) [.Call (.Name "iter" p2) [e] [] pos2, .Constant .none j p3] [] pos) (tFirst te) := by
  refine ⟨fun pins s σ H Q I h => ?_⟩
  refine wpAny_Call_Name_kw (ld_blt (u := .builtin "next") I hgn hmn (by first | rfl | decide +kernel) ?_ (by decide) (by decide))
  refine PyProof.Rows.callWith_builtin1 ?_ (hs2 _ _) rfl
  rw [hs2]
  show wpAny _ _ (spliced ((false, eval (.Call (.Name "iter" p2) [e] [] pos2) X.env) :: [(false, eval (.Constant .none j p3) X.env)])) _ _ s
  refine Calls.spliced_cons ?_
  refine wpAny_Call_Name_kw (ld_blt (u := .builtin "iter") I hgi hmi (by first | rfl | decide +kernel) ?_ (by decide) (by decide))
  refine PyProof.Rows.callWith_builtin1 ?_ hs rfl
  rw [hs]
  show wpAny _ _ (spliced [(false, eval e X.env)]) _ _ s
  refine Calls.spliced_cons (thn (he.run pins s σ H _ I h) fun u s1 ⟨x, H1, I1, r1, a, kvs, ex, hr, q⟩ => Calls.spliced_nil ?_)
  subst ex
  obtain rfl : u = .ref a := r1
  obtain ⟨z, lo, vs, rel, dd⟩ := dk_rd I1.hok hr
  obtain ⟨ep, hat⟩ := dd.dictAt
  refine itr_ok lo hat fun o hit => ?_
  have hat2 : (s1.heap.push o).DictAt (mixKind X.prog X.w) a vs ep := let ⟨o', es, ho, r⟩ := hat; ⟨o', es, Heap.get?_push_of_some _ ho, r⟩
  refine Calls.spliced_cons (Constant_none (Calls.spliced_nil ?_))
  refine nxt_ok (I1.ok.hd hc) hit hat2 fun u h' hu k => ?_
  have I2 : L2.Inv X pins σ H1 { s1 with heap := h' } := I1.kept (t' := s1.toks) fun b w' e => k b w' (fun z => by
    rw [z] at e
    exact absurd (Heap.lt_size e) (Nat.lt_irrefl _)) (Heap.get?_push_of_some _ e)
  refine ⟨fstV kvs, H1, I2, ?_, q⟩
  cases rel with
  | nil => exact hu
  | @cons a1 b1 _ _ hh t =>
    show L2.RelV (kV a1.1) u
    rw [hh.1]
    exact key_rel hu
end
end Inf

set_option Elab.async false
set_option linter.all false
set_option maxRecDepth 100000
set_option maxHeartbeats 4000000
namespace Inf
open PySem PySem.Spec PyProof.Rows L2 NdefX LamX
/-! ### o.m(..) while the def's cells are told -/
def tMethT (X : Cx) (C : Addr) (m : Str) (sp : Sp) (dvs : List V) (ta : TE) (t : TA) : TE := fun σ H Q => ta σ H fun x H1 => ∃ a dx fs, x = .ref a ∧ H1 a = some (.ins C dx fs) ∧ fs.lookup m = none ∧
  t σ H1 fun vs H2 => ∀ cs HT, Tel X.env.cells X.env.scope.names X.N σ H2 cs HT → sp (x :: (vs ++ dvs)) HT (fun v H3 => (∀ b, b ∈ cs → H3 b = HT b) ∧ Q v (cut cs H3)) E0
section
variable {X : Cx} {k : Nat} {C f : Addr} {m : Str} {fd : FuncData} {ps : List Str} {ds : List Value} {dvs : List V} {sp : Sp} {o e : Expr} {es : List Expr} {ta : TE} {t : TA} {apos pos : Pos} {pl : Sem Bool}
theorem pe_methT (hfn : ∀ x, X.fn x = true) (he : PE X o ta) (c : Cls X.K C) (hm : Meth X.K C m f) (F : FnOk X.prog X.w X.K X.mg X.base CX0 k f fd ps sp) (hr : Room k X.A) (hb : Binds X.K fd ps ds) (hd : Vals dvs ds) (ha : PA X (e :: es) t)
    (hst : starEach (e :: es) X.env = (false, eval e X.env) :: starEach es X.env := by rfl) (hpl : (backTo pos (starEach es X.env)).any (·.1) = false := by rfl)
    (ht : eval (.Call (.Attribute o m apos) (e :: es) [] pos) X.env = (do
      let ov ← eval o X.env
      standAt apos.atName
      let (f, first) ← holding [ov] (getMethod ov m pl)
      callWith pos f first (backTo pos (starEach (e :: es) X.env)) (backToKw pos (keywordEach [] X.env))) := by rfl) :
    PE X (.Call (.Attribute o m apos) (e :: es) [] pos) (tMethT X C m sp dvs ta t) := by
  refine ⟨fun pins s σ H Q I h => ?_⟩
  refine PySem.W.methodCall_KW (pl := pl) (thn (he.run pins s σ H _ I h) fun u s1 ⟨x, H1, I1, rx, a, dx, fs, ex, ea, l, q⟩ => ?_) ht
  subst ex
  obtain rfl : u = Value.ref a := rx
  refine getmeth_ok I1 ea c hm l ?_
  refine PySem.W.callWith_K (first := [.ref a]) (h₀ := X.base) I.ok.mod.kin hm.kp (thn (ha.run pos pins s1 σ H1 _ I1 q) fun us s2 ⟨vs, H2, I2, r, q2⟩ => ⟨I2.kIn, ?_⟩) hst hpl
  exact tel_run (us := .ref a :: us) (vs := .ref a :: vs) F hr hb hd hfn I2 (.cons rfl r) q2
theorem pe_methT0 (hfn : ∀ x, X.fn x = true) (he : PE X o ta) (c : Cls X.K C) (hm : Meth X.K C m f) (F : FnOk X.prog X.w X.K X.mg X.base CX0 k f fd ps sp) (hr : Room k X.A) (hb : Binds X.K fd ps ds) (hd : Vals dvs ds)
    (ht : eval (.Call (.Attribute o m apos) [] [] pos) X.env = (do
      let ov ← eval o X.env
      standAt apos.atName
      let (f, first) ← holding [ov] (getMethod ov m pl)
      callWith pos f first (backTo pos (starEach [] X.env)) (backToKw pos (keywordEach [] X.env))) := by rfl) :
    PE X (.Call (.Attribute o m apos) [] [] pos) (tMethT X C m sp dvs ta tNil) := by
  refine ⟨fun pins s σ H Q I h => ?_⟩
  refine PySem.W.methodCall_KW (pl := pl) (thn (he.run pins s σ H _ I h) fun u s1 ⟨x, H1, I1, rx, a, dx, fs, ex, ea, l, q⟩ => ?_) ht
  subst ex
  obtain rfl : u = Value.ref a := rx
  refine getmeth_ok I1 ea c hm l ?_
  exact PySem.W.callWith_K0 (first := [.ref a]) I1.kIn hm.kp (tel_run (us := [.ref a]) (vs := [.ref a]) F hr hb hd hfn I1 (.cons rfl .nil) q)
end
end Inf

set_option Elab.async false
set_option linter.all false
set_option maxRecDepth 100000
set_option maxHeartbeats 4000000
namespace Inf
open PySem PySem.Spec PyProof.Rows L2
/-! ### d.setdefault(t, x), t a tuple of ints and texts -/
def rSetT : V → List V → Hp → VK → Prop := fun x xs H Q => ∃ (a : Addr) (kvs : List (List L2.Key × V)) (k : List L2.Key) (b : Addr) (d : V), x = .ref a ∧ xs = [.ref b, d] ∧ H a = some (.dT kvs) ∧ H b = some (.tup (k.map kV)) ∧ kvs.length < sizeLine ∧
  (∀ v, valV kvs k = some v → Q v H) ∧ (valV kvs k = none → Q d (upd H a (.dT (putK kvs k d))))
theorem relO_some {o : Option V} {u : Value} (r : RelO o (some u)) : ∃ v, o = some v ∧ RelV v u := by
  cases o with
  | none => exact (show False from r).elim
  | some v => exact ⟨v, rfl, r⟩
theorem relO_none {o : Option V} (r : RelO o none) : o = none := by
  cases o with
  | none => rfl
  | some v => exact (show False from r).elim
theorem mt_setT {X : Cx} (hu : X.A.units + 1 < cLine) : MtR X "dict.setdefault" rSetT := by
  intro pins s σ H x xs v us Q I rx rxs h
  obtain ⟨a, kvs, k, b, d, rfl, rfl, ha, hb, hl, q1, q2⟩ := h
  cases rx
  obtain ⟨u1, u2, rfl, r1, r2⟩ := vals2 rxs
  cases r1
  obtain ⟨z, hd, xs', rel, dd⟩ := dt_of I.hok ha
  have hz : xs'.length ≤ sizeLine := by rw [← Paired.length rel]; exact z
  have hl2 : (putK kvs k d).length ≤ sizeLine := by
    have := length_putK kvs k d
    omega
  have rv := rel.val k
  refine call_setdefault_heap (hsz := hz) (tupleKind_room_in1 hu) (key_of I.hok hb) hd dd (fun p hp => ?_) fun hn h' dd' hs => ?_
  · rw [hp] at rv
    obtain ⟨v0, ev, r0⟩ := relO_some rv
    show EP X pins σ Q p.2 _
    exact ⟨v0, H, I.tok _, r0, q1 v0 ev⟩
  · rw [hn] at rv
    obtain ⟨o, es, ep, hq, h2, h3, h4, _, h5⟩ := dd'
    show EP X pins σ Q u2 _
    refine ⟨d, _, d_write (ob := .dT (putK kvs k d)) I (by rw [ha]; exact True.intro) hs ⟨o, hq⟩ ⟨hl2, hd, _, (rel.put k hb r2).keeps (fun c ys ec => ?_), o, es, ep, hq, h2, h3, h4, h5⟩, r2, q2 (relO_none rv)⟩
    rw [upd_ne (ne_of ec ha (fun z => nomatch z))]
    exact ec
end Inf

set_option Elab.async false
set_option linter.all false
set_option maxRecDepth 100000
set_option maxHeartbeats 4000000
namespace Inf
open PySem PySem.Spec PyProof.Rows L2
/-! ### f(), f a local name that holds a function -/
def tActZ (P : Program) (w : World) (K : PySem.W.Frag) (mg : Str → Option Value) (base : Heap) (CX : CXT) (k i : Nat) (E : L2.St → XK) : TE := fun σ H Q => ∃ f o sp, σ[i]? = some (some (.ref f)) ∧ H f = some o ∧ FnHO f o ∧ FnR P w K mg base CX k f sp ∧ sp [] H Q (E σ)
theorem pe_actZ {X : Cx} {CX : CXT} {k i : Nat} {E : L2.St → XK} {x : Str} {p pos : Pos} (hN : X.N[i]? = some x) (hv : Vis X.env.scope x) (hr : Room k X.A) (hx : ∀ σ, PassesAt CX X σ (E σ)) (hd : (x == ("__debug__" : Str)) = false := by decide) (hcd : (x == ("__classdict__" : Str)) = false := by decide) :
    PE X (.Call (.Name x p) [] [] pos) (tActZ X.prog X.w X.K X.mg X.base CX k i E) := by
  refine ⟨fun pins s σ H Q I h => ?_⟩
  obtain ⟨f, o, sp, hs, hf, ho, hF, q⟩ := h
  refine wpAny_Call_Name_kw (thn ((pe_var (pos := p) hN hv hd hcd).run pins s σ H (fun v H1 => v = .ref f ∧ H1 = H) I ⟨.ref f, hs, rfl, rfl⟩) fun u s1 ⟨v, H1, I1, r1, ev, eH⟩ => ?_)
  subst ev
  rw [eH] at I1
  obtain rfl : u = Value.ref f := r1
  refine PySem.W.callWith_of (P := PySem.W.FnAt f) (by rfl) PySem.W.keeps_F (PyProof.Rows.evalArgs_empty ?_)
  exact ⟨ho _ _ _ _ I1.hok hf, run_fnE hF hr (hx σ) I1 .nil q⟩
end Inf

set_option Elab.async false
set_option linter.all false
set_option maxRecDepth 100000
set_option maxHeartbeats 4000000
namespace Inf
open PySem PySem.Spec PyProof.Rows L2 NdefX LamX
/-! ### a call by names alone while the def's cells are told -/
section
variable {X : Cx} {pins : List (Addr × Obj)} {σ : L2.St} {H : Hp} {s : Shared}
theorem tel_runN {k n : Nat} {f : Addr} {fd : FuncData} {ps ks : List Str} {g : List Value → List Value → List Value} {gV : List V → List V → List V} {sp : Sp} {Q : VK} {us ws : List Value} {vs zs : List V} (F : FnOk X.prog X.w X.K X.mg X.base CX0 k f fd ps sp) (hr : Room k X.A) (hb : KBn X.K fd ps n ks g gV) (hfn : ∀ x, X.fn x = true)
    (I : Inv X pins σ H s) (r : Vals vs us) (rz : Vals zs ws) (l1 : vs.length = n) (l2 : zs.length = ks.length) (h : ∀ cs HT, Tel X.env.cells X.env.scope.names X.N σ H cs HT → sp (gV vs zs) HT (fun v H1 => (∀ b, b ∈ cs → H1 b = HT b) ∧ Q v (cut cs H1)) E0) : wpAny (model X.prog X.w) X.A (call (.ref f) us (ks.zip ws)) (EP X pins σ Q) X.xe s := by
  let cs := frCells X.env.cells
  let HT : Hp := fun b => if b ∈ cs then (match s.heap.get? b with | some o => some (.ext fun h => h.get? b = some o) | Option.none => Option.none) else H b
  have big : ∀ b, b ∈ cs → X.s_0.heap.objs.size ≤ b := fun b hb => by
    obtain ⟨x, e⟩ := mem_frCells hb
    exact I.ok.cab x b (hfn x) e
  have no : ∀ b, b ∈ cs → H b = Option.none := fun b hb => by
    obtain ⟨x, e⟩ := mem_frCells hb
    exact I.freeC x b e
  have inT : ∀ b, b ∈ cs → ∃ v o, s.heap.get? b = some o ∧ o.data = .cell v ∧ HT b = some (.ext fun h => h.get? b = some o) := fun b hb => by
    obtain ⟨x, e⟩ := mem_frCells hb
    obtain ⟨v, o, e1, e2⟩ := I.cell x b e
    refine ⟨v, o, e1, e2, ?_⟩
    show (if b ∈ cs then _ else _) = _
    rw [if_pos hb, e1]
  have outT : ∀ b, b ∉ cs → HT b = H b := fun b hb => if_neg hb
  have nonT : ∀ b, b ∉ cs → H b = Option.none → HT b = Option.none := fun b hb e => (outT b hb).trans e
  have T : Tel X.env.cells X.env.scope.names X.N σ H cs HT := by
    refine ⟨no, fun b hb => ?_, outT, I.ok.inj, fun y h => I.ok.has _ (.inl h), fun i y c v h1 h2 h3 h4 => ?_, fun b hb q hq => ?_, fun y c e => frCells_mem e⟩
    · obtain ⟨v, o, _, _, e⟩ := inT b hb
      exact ⟨_, e⟩
    · obtain ⟨v', o, e1, e2, e3⟩ := inT c (frCells_mem h3)
      obtain ⟨m, hn, hl⟩ := I.loc
      obtain ⟨u, ru, lk⟩ := hl i y v h1 h4 (.inr (.inl h2))
      refine ⟨_, e3, fun h hh => ⟨u, ru, o, hh, ?_⟩⟩
      rcases lk with ⟨z, _⟩ | ⟨_, c', hc', hcell⟩
      · have z' : X.env.scope.names.lookup y = some .local := z
        rw [h2] at z'
        cases z'
      · rw [h3] at hc'
        cases hc'
        obtain ⟨o', g1, g2⟩ := hcell
        rw [e1] at g1
        cases g1
        exact g2
    · obtain ⟨v, o, e1, e2, e3⟩ := inT b hb
      rw [e3] at hq
      have hq := HO.ext.inj (Option.some.inj hq)
      have hq := (congrFun hq s.heap).mp e1
      obtain ⟨oc, vs, t, g1, g2, _⟩ := hq
      rw [e1] at g1
      cases g1
      rw [e2] at g2
      cases g2
  have ncs : ∀ b, b < X.s_0.heap.objs.size → b ∉ cs := fun b l m => Nat.not_lt.mpr (big b m) l
  have e0 := I.env0
  have notfr : ∀ b, b ∈ frs X.stack → b ∉ cs := fun b hb m => by
    rcases List.mem_cons.mp (I.stkSub b hb) with e | hb'
    · obtain ⟨x, ex⟩ := mem_frCells m
      exact I.cne x b ex e
    · obtain ⟨_, o, ho, _⟩ := I.ok.funs.mem hb'
      exact ncs b (Heap.lt_size ho) m
  have nonext : ∀ {b : Addr} {o : HO}, H b = some o → b ∉ cs := fun e m => by
    rw [no _ m] at e
    cases e
  have e1 : Env0 X.prog X.w X.K X.mg X.base X.A X.stack s HT := by
    refine ⟨e0.frames, e0.mod, fun b o q => ⟨(e0.bs b o q).1, nonT b (ncs b (Nat.lt_of_lt_of_le (Heap.lt_size q) I.ok.bsz)) (e0.bs b o q).2⟩, e0.bsz, e0.funs, fun b hb => nonT b (notfr b hb) (e0.frf b hb), fun b o e => ?_, e0.bare⟩
    by_cases hb : b ∈ cs
    · obtain ⟨v, o', g1, g2, g3⟩ := inT b hb
      rw [g3] at e
      cases e
      exact ⟨g1, ⟨o', g1⟩, fun h1 h2 z k => k _ z⟩
    · rw [outT b hb] at e
      refine (e0.hok b o e).stay (fun c u _ q => q) (fun c q => ?_) fun c xs q => ?_
      · rw [outT c (nonext q)]
        exact q
      · rw [outT c (nonext q)]
        exact q
  have hq0 := h cs HT T
  have r2 := hb.rel r rz
  refine wpAny_call (codeAny_mono (F.run X.A X.stack s HT ⟨us, ks.zip ws⟩ (g us ws) (gV vs zs) _ E0 hr e1 (hb.to s us ws I.kIn (r.length.symm.trans l1) (rz.length.symm.trans l2)) r2 hq0) fun r s' hq => ?_)
  cases r with
  | error e => exact False.elim hq
  | ok fl =>
    cases fl with
    | next => exact False.elim hq
    | brk => exact False.elim hq
    | cont => exact False.elim hq
    | ret u =>
      obtain ⟨v, H1, os, bare, un, hok1, rv, kc, q⟩ := hq
      have notin : ∀ {b : Addr} {o : HO}, H1 b = some o → (∀ φ, o ≠ .ext φ) → b ∉ cs := fun {b o} e n m => by
        obtain ⟨v, o', _, _, g3⟩ := inT b m
        rw [kc b m, g3] at e
        exact n _ (Option.some.inj e).symm
      have keepC : ∀ b o, b ∈ cs → s.heap.get? b = some o → s'.heap.get? b = some o := fun b o m e => by
        obtain ⟨v, o', g1, _, g3⟩ := inT b m
        rw [g1] at e
        cases e
        have := hok1 b _ ((kc b m).trans g3)
        exact this.1
      refine I.after ⟨v, cut cs H1, os, bare, ⟨fun b o a n h1 h2 => ?_, fun b o a n h1 h2 => ?_, fun b o a n h2 => ?_, un.there, fun b xs e => ?_, fun b o u e => ?_, fun b ps e => ?_⟩, fun b o e => ?_, rv, q⟩
      · by_cases m : b ∈ cs
        · exact keepC b o m a
        · exact un.keep b o a (nonT b m n) h1 h2
      · exact un.slot b o a (nonT b (notfr b h1) n) h1 h2
      · by_cases m : b ∈ cs
        · exact cut_in m
        · rw [cut_out m]
          exact un.free b o a (nonT b m n) h2
      · have m := nonext e
        rw [cut_out m]
        exact un.tups b xs ((outT b m).trans e)
      · have m := nonext e
        rw [cut_out m]
        exact un.frzs b o u ((outT b m).trans e)
      · have m := nonext e
        rw [cut_out m]
        exact un.tbls b ps ((outT b m).trans e)
      · by_cases m : b ∈ cs
        · rw [cut_in m] at e
          cases e
        · rw [cut_out m] at e
          refine (hok1 b o e).stay (fun c u _ q => q) (fun c q => ?_) fun c xs q => ?_
          · rw [cut_out (notin q (fun φ z => nomatch z))]
            exact q
          · rw [cut_out (notin q (fun φ z => nomatch z))]
            exact q
end
def tCallKT (X : Cx) (m : Nat) (sp : Sp) (gV : List V → List V → List V) (tk : TA) : TE := fun σ H Q => tk σ H fun zs H1 => zs.length = m ∧ ∀ cs HT, Tel X.env.cells X.env.scope.names X.N σ H1 cs HT → sp (gV [] zs) HT (fun v H2 => (∀ b, b ∈ cs → H2 b = HT b) ∧ Q v (cut cs H2)) E0
theorem pe_kwT {X : Cx} {k : Nat} {f : Addr} {fd : FuncData} {ps ks : List Str} {g : List Value → List Value → List Value} {gV : List V → List V → List V} {sp : Sp} {x : Str} {p pos : Pos} {kws : List Keyword} {tk : TA} (hfn : ∀ x, X.fn x = true) (F : FnOk X.prog X.w X.K X.mg X.base CX0 k f fd ps sp) (hr : Room k X.A) (hg : Gl X x) (hm : X.mg x = some (.ref f))
    (hk : PySem.W.keepIn X.K (.ref f) = true) (hb : KBn X.K fd ps 0 ks g gV) (hkw : PK X kws tk)
    (hall : (backToKw pos (keywordEach kws X.env)).all (·.1.isSome) = true := by rfl)
    (hks : (backToKw pos (keywordEach kws X.env)).filterMap (·.1) = ks := by rfl) (hdb : (x == ("__debug__" : Str)) = false := by decide)
    (hpl : ((backTo pos (starEach [] X.env)).any (·.1) || (backToKw pos (keywordEach kws X.env)).any (·.1.isNone)) = false := by rfl) :
    PE X (.Call (.Name x p) [] kws pos) (tCallKT X ks.length sp gV tk) :=
  ⟨fun pins s σ H Q I h => wpAny_Call_Name_kw (ld_glob I hg hm (PySem.W.callWith_KW0 (h₀ := X.base) I.ok.mod.kin hk hall
    (thn (hkw.run pos pins s σ H _ I h) fun ws s2 ⟨zs, H2, I2, rz, l1, q2⟩ => ⟨I2.kIn, by rw [hks]; exact tel_runN (us := []) (vs := []) F hr hb hfn I2 .nil rz rfl l1 q2⟩) hpl) hdb)⟩
end Inf

set_option Elab.async false
set_option linter.all false
set_option maxRecDepth 100000
set_option maxHeartbeats 4000000
namespace Inf
open PySem PySem.Spec PyProof.Rows L2 NdefX LamX
/-! ### sorted(pairs, key=lambda p: (-p[1], p[0])) -/
/-- the lambda F: (-x[1], x[0]) -/
structure KeyLam (F : LF) (x : Str) : Prop where
  sc : NScope [x] [x] [] F.scope
  body : ∃ p1 k1 p2 p3 p4 p5 k2 p6 p7 k3 p8, F.body = .Tuple [.UnaryOp .USub (.Subscript (.Name x p1) (.Constant (.int 1) k1 p2) p3) p4, .Subscript (.Name x p5) (.Constant (.int 0) k2 p6) p7] k3 p8
  bind : ∀ (pm ctv v : Value), bindArgs (PySem.W.kla_fn "<lambda>" F.qual F.params F.body F.scope F.cl pm (.ref F.c) ctv) ⟨[v], []⟩ = pure [(x, v)]
  nd : (x == ("__debug__" : Str)) = false
section
variable {prog : Program} {w : World} {A : Around} {s : Shared} {E : Value → Shared → Prop}
theorem sub_at {env : Env} {x : Str} {p1 p2 p3 : Pos} {k1} {n : Int} {t : Addr} {its : Array Value} {j : Nat} {y : Value} {m : Str → Option Value} {Q : Value → Shared → Prop} (hk : env.scope.kind = .function) (hl : env.kindOf x = some .local) (hn : s.heap.Ns env.locals m) (hm : m x = some (.ref t)) (nd : (x == ("__debug__" : Str)) = false)
    (ht : IsTup s.heap t its) (h1 : -(2 ^ 63) ≤ n) (h2 : n < 2 ^ 63) (h3 : seqIndex? n its.size = some j) (h4 : its[j]? = some y) (q : Q y { s with toks := s.toks + 1 }) :
    wpAny (model prog w) A (eval (.Subscript (.Name x p1) (.Constant (.int n) k1 p2) p3) env) Q E s := by
  refine Subscript_ (wpAny_Name (wpAny_loadName_local hk hl hn hm ?_) nd)
  refine wpAny_Constant_int ?_
  exact subscriptTail_builtinR (s := { s with toks := s.toks + 1 }) (x := y) ht.typeIs slot_tuple_getitem.lookup (getItem_tuple (j := j) (Q := fun r s' => r = y ∧ Q r s') ht h1 h2 h3 h4 ⟨rfl, q⟩) rfl
theorem key_call {f t : Addr} {F : LF} {x : Str} {pm ctv : Value} {i j : Int} {ti tj : Tok} (L : KeyLam F x) (hd : A.depth < recursionLimit) (lim : s.heap.NoLimit) (ho : s.heap.get? f = some (PySem.W.kla_obj "<lambda>" F.qual F.params F.body F.scope F.cl pm F.c ctv)) (hc : s.heap.CodeRec (.ref F.c) F.qual) (ht : IsTup s.heap t #[.int i ti, .int j tj]) :
    wpAny (model prog w) A (call (.ref f) [.ref t]) (PySem.W.KeyPure (.tuple [.int (-j), .int i]) s) (fun _ _ => False) s := by
  refine wpAny_call ?_
  refine PySem.W.kla_callFunE hd ho rfl L.sc.co L.sc.gen rfl hc ?_
  rw [L.bind pm ctv]
  refine wpAny_pure (wpAny_newFunctionEnv L.sc.nocell (fun y hy => ?_) (fun h₁ hns hsb => ⟨lim.fresh _ hsb, ?_⟩) L.sc.kind)
  · rw [List.mem_singleton.mp hy]
    exact L.sc.par x List.mem_cons_self
  have kp : ∀ b o, s.heap.get? b = some o → h₁.get? b = some o := fun b o e => hsb.extBut b o (Nat.ne_of_lt (Heap.lt_size e)) (Heap.get?_push_of_some _ e)
  have ht1 : IsTup h₁ t #[.int i ti, .int j tj] := by
    obtain ⟨o, h1, h2, n, h3⟩ := ht
    exact ⟨o, kp _ _ h1, h2, n, h3⟩
  have hl : F.scope.names.lookup x = some .local := L.sc.par x List.mem_cons_self
  have hm : ([(x, Value.ref t)] : List (Str × Value)).reverse.lookup x = some (.ref t) := by
    show ([(x, Value.ref t)] : List (Str × Value)).lookup x = _
    rw [List.lookup_cons, beq_self_eq_true]
  obtain ⟨p1, k1, p2, p3, p4, p5, k2, p6, p7, k3, p8, hb⟩ := L.body
  refine PySem.W.kla_codeExpr ?_
  rw [hb]
  refine wpAny_Tuple_spliced ?_
  refine Calls.spliced_cons ?_
  refine wpAny_UnaryOp (sub_at (j := 1) (y := .int j tj) L.sc.kind hl hns hm L.nd ht1 (by decide) (by decide) rfl rfl ?_)
  refine neg_int ?_
  refine Calls.spliced_cons ?_
  refine sub_at (j := 0) (y := .int i ti) L.sc.kind hl hns hm L.nd ht1 (by decide) (by decide) rfl rfl ?_
  refine Calls.spliced_nil ⟨(show (2 : Nat) ≤ sizeLine by decide), ?_⟩
  refine ⟨_, _, rfl, fun b o e => Heap.get?_push_of_some _ (kp b o e), ?_⟩
  exact .tuple (Heap.get?_push_size _ rfl) rfl rfl (.cons (as := []) (.int _ _) (.cons (as := []) (.int _ _) .nil))
end
/-- the pairs stand at their addresses; the result goes by the second, the greatest first, then by the first -/
def pairLe (p q : Addr × Int × Int) : Bool := decide (-p.2.2 < -q.2.2 ∨ (-p.2.2 = -q.2.2 ∧ p.2.1 ≤ q.2.1))
def rSortKey (K : PySem.W.Frag) : List V → List V → Hp → VK → Prop := fun vs zs H Q => ∃ (a f : Addr) (F : LF) (x : Str) (bs : List (Addr × Int × Int)), vs = [.ref a] ∧ zs = [.ref f] ∧ SqL K H a (bs.map fun b => V.ref b.1) ∧ (∀ b ∈ bs, H b.1 = some (.tup [.int b.2.1, .int b.2.2])) ∧ KeyLam F x ∧ H f = some (LamO f F) ∧ H F.c = some (CodeO F.c F.qual) ∧
  ∀ p, H p = Option.none → Q (.ref p) (upd H p (.lst ((bs.mergeSort pairLe).map fun b => V.ref b.1)))
def PairIs (h : Heap) (v : Value) (b : Addr × Int × Int) : Prop := v = .ref b.1 ∧ ∃ ti tj, IsTup h b.1 #[.int b.2.1 ti, .int b.2.2 tj]
theorem pairs_each {h : Heap} : ∀ {bs : List (Addr × Int × Int)} {us : List Value}, Vals (bs.map fun b => V.ref b.1) us → (∀ b ∈ bs, ∃ ti tj, IsTup h b.1 #[.int b.2.1 ti, .int b.2.2 tj]) → PySem.W.EachIs (PairIs h) us bs
  | [], _, .nil, _ => .nil
  | b :: bs, _, .cons r t, k => .cons ⟨r, k b List.mem_cons_self⟩ (pairs_each t fun c m => k c (List.mem_cons_of_mem _ m))
theorem each_vals {h : Heap} : ∀ {bs : List (Addr × Int × Int)} {us : List Value}, PySem.W.EachIs (PairIs h) us bs → Vals (bs.map fun b => V.ref b.1) us
  | [], _, .nil => .nil
  | b :: bs, _, .cons r t => .cons r.1 (each_vals t)
theorem cr_sortKey {X : Cx} {k : Nat} (hr : Room k X.A) : CallRK X (.builtin "sorted") [Str.ofString "key"] (rSortKey X.K) := by
  intro pins s σ H vs zs us ws Q I r rz h
  obtain ⟨a, f, F, x, bs, rfl, rfl, hs, hb, L, hf, hcf, q⟩ := h
  obtain ⟨its, rv, hl, hz⟩ := I.list hs
  obtain rfl := Vals.ref1 r
  obtain ⟨w1, rfl, e1⟩ := vals1 rz
  obtain rfl : w1 = Value.ref f := e1
  have hp : ∀ b ∈ bs, ∃ ti tj, IsTup s.heap b.1 #[.int b.2.1 ti, .int b.2.2 tj] := fun b m => by
    obtain ⟨its2, r2, t2, _⟩ := I.tuple (SqT.of (hb b m))
    obtain ⟨u1, u2, rfl, g1, g2⟩ := vals2 r2
    obtain ⟨ti, rfl⟩ := g1
    obtain ⟨tj, rfl⟩ := g2
    exact ⟨ti, tj, t2⟩
  have e0 := I.env0
  have lim : s.heap.NoLimit := e0.mod.nolimit.keeps fun b o e => (e0.bs b o e).1
  obtain ⟨pm, ctv, ho⟩ := lamO_at I.hok hf
  have hc := codeO_at I.hok hcf
  rw [List.length_map] at hz
  refine PySem.W.sorted_key_data (b := false) (R := PairIs s.heap) (fun b : Addr × Int × Int => PyData.tuple [.int (-b.2.2), .int b.2.1]) hl.isList (pairs_each rv hp) (PySem.W.AllAlike.of fun _ _ => by simp [PySem.W.alike, PySem.W.alikeAll]) (PySem.W.Sortable.tuples fun _ => ⟨_, _, rfl⟩) hz (fun b _ => ?_) (ksk_s1 _ _) (fun _ => ksk_l1 _ _) (fun _ => ksk_t1 _ _)
    (fun v b hR _ h tk kp => ?_) fun out c h' tk kp _ hD hlo eo => ?_
  · have hd : (PyData.tuple [.int (-b.2.2), .int b.2.1]).depth = 1 := by simp [PyData.depth, PyData.depthAll]
    have := hr.un
    rw [hd]
    omega
  · obtain ⟨rfl, ti, tj, o, h1, h2, n, h3⟩ := hR
    obtain ⟨c, oc, vs, t, g1, g2, g3, g4⟩ := hc
    exact key_call L (A := X.A.in1.in1) (s := { s with heap := h, toks := tk }) hr.depth (lim.keeps kp) (kp _ _ ho) ⟨c, oc, vs, t, g1, kp _ _ g2, g3, g4⟩ ⟨o, kp _ _ h1, h2, n, h3⟩
  · rw [PySem.W.dataLe_ii (β := Addr × Int × Int) (fun p => -p.2.2) (fun p => p.2.1)] at eo
    have hlen : ((bs.mergeSort pairLe).map fun b => V.ref b.1).length ≤ sizeLine := by
      rw [List.length_map, List.length_mergeSort]
      exact hz
    exact ⟨.ref _, upd H (s.heap.objs.size + 1) (.lst ((bs.mergeSort pairLe).map fun b => V.ref b.1)), I.laid (t' := tk) kp (Nat.le_succ _) ⟨hlen, out, c, each_vals eo, hD⟩, rfl, q _ (I.hok.fresh (Nat.le_succ _))⟩
end Inf

set_option Elab.async false
set_option linter.all false
set_option maxRecDepth 100000
set_option maxHeartbeats 4000000
namespace Inf
open PySem PySem.Spec PyProof.Rows L2 NdefX LamX
/-! ### o.m(.., k=..) while the def's cells are told -/
def tMethKT (X : Cx) (C : Addr) (m : Str) (n r : Nat) (sp : Sp) (gV : List V → List V → List V) (ta : TE) (t tk : TA) : TE := fun σ H Q => ta σ H fun x H1 => ∃ a dx fs, x = .ref a ∧ H1 a = some (.ins C dx fs) ∧ fs.lookup m = none ∧
  t σ H1 fun vs H2 => tk σ H2 fun zs H3 => vs.length = n ∧ zs.length = r ∧ ∀ cs HT, Tel X.env.cells X.env.scope.names X.N σ H3 cs HT → sp (gV (x :: vs) zs) HT (fun v H4 => (∀ b, b ∈ cs → H4 b = HT b) ∧ Q v (cut cs H4)) E0
section
variable {X : Cx} {CX : CXT} {k n : Nat} {f C : Addr} {fd : FuncData} {ps ks : List Str} {sp : Sp} {E : XK} {m : Str} {pos apos : Pos} {e o : Expr} {es : List Expr} {kws : List Keyword} {ta : TE} {t tk : TA} {g : List Value → List Value → List Value} {gV : List V → List V → List V}
theorem pe_methKT {pl : Sem Bool} (hfn : ∀ x, X.fn x = true) (he : PE X o ta) (c : Cls X.K C) (hm : Meth X.K C m f) (F : FnOk X.prog X.w X.K X.mg X.base CX0 k f fd ps sp) (hr : Room k X.A) (hb : KBn X.K fd ps (n + 1) ks g gV) (ha : PA X (e :: es) t) (hkw : PK X kws tk)
    (hall : (backToKw pos (keywordEach kws X.env)).all (·.1.isSome) = true := by rfl) (hks : (backToKw pos (keywordEach kws X.env)).filterMap (·.1) = ks := by rfl)
    (hst : starEach (e :: es) X.env = (false, eval e X.env) :: starEach es X.env := by rfl)
    (hpl : ((backTo pos (starEach (e :: es) X.env)).any (·.1) || (backToKw pos (keywordEach kws X.env)).any (·.1.isNone)) = false := by rfl)
    (ht : eval (.Call (.Attribute o m apos) (e :: es) kws pos) X.env = (do
      let ov ← eval o X.env
      standAt apos.atName
      let (f, first) ← holding [ov] (getMethod ov m pl)
      callWith pos f first (backTo pos (starEach (e :: es) X.env)) (backToKw pos (keywordEach kws X.env))) := by rfl) :
    PE X (.Call (.Attribute o m apos) (e :: es) kws pos) (tMethKT X C m n ks.length sp gV ta t tk) := by
  refine ⟨fun pins s σ H Q I h => ?_⟩
  refine PySem.W.methodCall_KW (pl := pl) (thn (he.run pins s σ H _ I h) fun u s1 ⟨x, H1, I1, rx, a, dx, fs, ex, ea, l, q⟩ => ?_) ht
  subst ex
  obtain rfl : u = Value.ref a := rx
  refine getmeth_ok I1 ea c hm l ?_
  refine PySem.W.callWith_KW (first := [.ref a]) (h₀ := X.base) I.ok.mod.kin hm.kp hall (thn (ha.run pos pins s1 σ H1 _ I1 q) fun us s2 ⟨vs, H2, I2, r, q2⟩ => ?_) hpl hst
  refine thn (hkw.run pos pins s2 σ H2 _ I2 q2) fun ws s3 ⟨zs, H3, I3, rz, l1, l2, q3⟩ => ⟨I3.kIn, ?_⟩
  rw [hks]
  exact tel_runN (us := .ref a :: us) (vs := .ref a :: vs) F hr hb hfn I3 (.cons rfl r) rz (congrArg Nat.succ l1) l2 q3
end
end Inf

set_option Elab.async false
set_option linter.all false
set_option maxRecDepth 100000
set_option maxHeartbeats 4000000
namespace Inf
open PySem PySem.Spec PyProof.Rows L2 NdefX LamX
/-! ### sorted(numbers, key=lambda n: (-ranks[n], n)), ranks a name that the def has in a cell -/
structure KeyLamR (F : LF) (x y : Str) : Prop where
  sc : NScope [x, y] [x] [y] F.scope
  body : ∃ p1 p2 p3 p4 p5 k p6, F.body = .Tuple [.UnaryOp .USub (.Subscript (.Name y p1) (.Name x p2) p3) p4, .Name x p5] k p6
  bind : ∀ (pm ctv v : Value), bindArgs (PySem.W.kla_fn "<lambda>" F.qual F.params F.body F.scope F.cl pm (.ref F.c) ctv) ⟨[v], []⟩ = pure [(x, v)]
  ndx : (x == ("__debug__" : Str)) = false
  ndy : (y == ("__debug__" : Str)) = false
  ncy : (y == ("__classdict__" : Str)) = false
section
variable {P : Program} {w : World} {A : Around} {s : Shared}
theorem keyR_call {f c d : Addr} {F : LF} {x y : Str} {pm ctv : Value} {n r : Int} {tn : Tok} {vs : List (Key × Value)} (L : KeyLamR F x y) (hd : A.depth < recursionLimit) (lim : s.heap.NoLimit) (ho : s.heap.get? f = some (PySem.W.kla_obj "<lambda>" F.qual F.params F.body F.scope F.cl pm F.c ctv)) (hc : s.heap.CodeRec (.ref F.c) F.qual)
    (hcl : F.cl.lookup y = some c) (hcell : s.heap.IsCell c (some (.ref d))) (hds : (d == sysModules) = false) (hdk : s.heap.DictOf (mixKind P w) d vs) {rt : Tok} (hv : valueAt vs (.inl n) = some (.int r rt)) :
    wpAny (model P w) A (call (.ref f) [.int n tn]) (PySem.W.KeyPure (.tuple [.int (-r), .int n]) s) (fun _ _ => False) s := by
  refine wpAny_call ?_
  refine PySem.W.kla_callFunE hd ho rfl L.sc.co L.sc.gen rfl hc ?_
  rw [L.bind pm ctv]
  refine wpAny_pure (wpAny_newFunctionEnv L.sc.nocell (fun z hz => ?_) (fun h₁ hns hsb => ⟨lim.fresh _ hsb, ?_⟩) L.sc.kind)
  · rw [List.mem_singleton.mp hz]
    exact L.sc.par x List.mem_cons_self
  have kp : ∀ b o, s.heap.get? b = some o → h₁.get? b = some o := fun b o e => hsb.extBut b o (Nat.ne_of_lt (Heap.lt_size e)) (Heap.get?_push_of_some _ e)
  have hcell1 : h₁.IsCell c (some (.ref d)) := by
    obtain ⟨o, h1, h2⟩ := hcell
    exact ⟨o, kp _ _ h1, h2⟩
  have hdk1 : h₁.DictOf (mixKind P w) d vs := hdk.keep kp
  have hl : F.scope.names.lookup x = some .local := L.sc.par x List.mem_cons_self
  have hfr : F.scope.names.lookup y = some .free := L.sc.frk y List.mem_cons_self
  have hm : ([(x, Value.int n tn)] : List (Str × Value)).reverse.lookup x = some (.int n tn) := by
    show ([(x, Value.int n tn)] : List (Str × Value)).lookup x = _
    rw [List.lookup_cons, beq_self_eq_true]
  obtain ⟨p1, p2, p3, p4, p5, k, p6, hb⟩ := L.body
  refine PySem.W.kla_codeExpr ?_
  rw [hb]
  refine wpAny_Tuple_spliced ?_
  refine Calls.spliced_cons ?_
  refine wpAny_UnaryOp ?_
  refine Subscript_ (wpAny_Name (wpAny_loadName_free L.sc.kind hfr hcl hcell1 ?_ L.ncy) L.ndy)
  refine wpAny_Name (wpAny_loadName_local L.sc.kind hl hns hm ?_) L.ndx
  refine subscriptTail_builtinR (x := .int r rt) hdk1.typeIs PySem.F.slot_dict_getitem.lookup (wpAny_getItem_of (f := valueAt vs) (Q := fun u s' => u = .int r rt ∧ _) (kV_is (k := .inl n) ⟨tn, rfl⟩) hdk1.mapOf hv ⟨rfl, ?_⟩) rfl
  refine neg_int ?_
  refine Calls.spliced_cons ?_
  refine wpAny_Name (wpAny_loadName_local L.sc.kind hl hns hm ?_) L.ndx
  refine Calls.spliced_nil ⟨(show (2 : Nat) ≤ sizeLine by decide), ?_⟩
  refine ⟨_, _, rfl, fun b o e => Heap.get?_push_of_some _ (kp b o e), ?_⟩
  exact .tuple (Heap.get?_push_size _ rfl) rfl rfl (.cons (as := []) (.int _ _) (.cons (as := []) (.int _ _) .nil))
end
/-! ### a built-in called with keywords, by what the def's names hold -/
def CallRKs (X : Cx) (f : Value) (ks : List Str) (r : L2.St → List V → List V → Hp → VK → Prop) : Prop :=
  ∀ (pins : List (Addr × Obj)) (s : Shared) (σ : L2.St) (H : Hp) (xs zs : List V) (us ws : List Value) (Q : VK), Inv X pins σ H s → Vals xs us → Vals zs ws → r σ xs zs H Q → wpAny (model X.prog X.w) X.A (call f us (ks.zip ws)) (EP X pins σ Q) X.xe s
def tCKs (r : L2.St → List V → List V → Hp → VK → Prop) (t tk : TA) : TE := fun σ H Q => t σ H fun vs H1 => tk σ H1 fun zs H2 => r σ vs zs H2 Q
theorem pe_callBKs {X : Cx} {x : Str} {p pos : Pos} {e : Expr} {es : List Expr} {kws : List Keyword} {t tk : TA} {id : String} {ks : List Str} {r : L2.St → List V → List V → Hp → VK → Prop} (hc : CallRKs X (.builtin id) ks r) (hg : Gl X x) (hm : X.mg x = none) (hv : bootBuiltins x = some (.builtin id)) (ha : PA X (e :: es) t) (hk : PK X kws tk) (hn : x ≠ "__name__" := by decide) (hdb : (x == ("__debug__" : Str)) = false := by decide)
    (he : backTo pos (starEach (e :: es) X.env) = (false, eval e X.env) :: backTo pos (starEach es X.env) := by rfl) (hpl : (backTo pos (starEach (e :: es) X.env)).any (·.1) = false := by rfl)
    (hall : (backToKw pos (keywordEach kws X.env)).all (·.1.isSome) = true := by rfl) (hnone : (backToKw pos (keywordEach kws X.env)).any (·.1.isNone) = false := by rfl) (hks : (backToKw pos (keywordEach kws X.env)).filterMap (·.1) = ks := by rfl) :
    PE X (.Call (.Name x p) (e :: es) kws pos) (tCKs r t tk) := by
  refine ⟨fun pins s σ H Q I h => ?_⟩
  refine wpAny_Call_Name_kw (ld_blt I hg hm hv ?_ hn hdb)
  refine PyProof.Rows.callWith_kw (thn (ha.run pos pins s σ H _ I h) fun us s1 ⟨vs, H1, I1, r1, q1⟩ => thn (hk.run pos pins s1 σ H1 _ I1 q1) fun ws s2 ⟨zs, H2, I2, r2, q2⟩ => ?_) he hpl hall hnone
  rw [hks]
  exact hc pins s2 σ H2 vs zs us ws Q I2 r1 r2 q2
/-- the numbers by their ranks, the greatest first, then by themselves -/
def ordLe (rk : Int → Int) (n m : Int) : Bool := decide (-rk n < -rk m ∨ (-rk n = -rk m ∧ n ≤ m))
def rSortC (X : Cx) (i : Nat) (x y : Str) : L2.St → List V → List V → Hp → VK → Prop := fun σ vs zs H Q => ∃ (a f d : Addr) (F : LF) (ns : List Int) (rk : Int → Int) (kvs : List (Key × V)), vs = [.ref a] ∧ zs = [.ref f] ∧ SqL X.K H a (ns.map V.int) ∧ KeyLamR F x y ∧ F.cl = cloFrom X.env.cells F.scope.names [] ∧ H f = some (LamO f F) ∧ H F.c = some (CodeO F.c F.qual) ∧
  σ[i]? = some (some (.ref d)) ∧ H d = some (.dK kvs) ∧ (∀ n ∈ ns, valV kvs (.inl n) = some (.int (rk n))) ∧ ∀ p, H p = Option.none → Q (.ref p) (upd H p (.lst ((ns.mergeSort (ordLe rk)).map V.int)))
def IntIs (v : Value) (n : Int) : Prop := ∃ t, v = .int n t
theorem ints_each : ∀ {ns : List Int} {us : List Value}, Vals (ns.map V.int) us → PySem.W.EachIs IntIs us ns
  | [], _, .nil => .nil
  | n :: ns, _, .cons r t => .cons r (ints_each t)
theorem each_ints : ∀ {ns : List Int} {us : List Value}, PySem.W.EachIs IntIs us ns → Vals (ns.map V.int) us
  | [], _, .nil => .nil
  | n :: ns, _, .cons r t => .cons r (each_ints t)
theorem cr_sortC {X : Cx} {k i : Nat} {x y : Str} (hr : Room k X.A) (hN : X.N[i]? = some y) (hy : X.env.scope.names.lookup y = some .cell) : CallRKs X (.builtin "sorted") [Str.ofString "key"] (rSortC X i x y) := by
  intro pins s σ H vs zs us ws Q I r rz h
  obtain ⟨a, f, d, F, ns, rk, kvs, rfl, rfl, hs, L, hcl, hf, hcf, hσ, hd, hrk, q⟩ := h
  obtain ⟨its, rv, hl, hz⟩ := I.list hs
  obtain rfl := Vals.ref1 r
  obtain ⟨w1, rfl, e1⟩ := vals1 rz
  obtain rfl : w1 = Value.ref f := e1
  have e0 := I.env0
  have lim : s.heap.NoLimit := e0.mod.nolimit.keeps fun b o e => (e0.bs b o e).1
  obtain ⟨pm, ctv, ho⟩ := lamO_at I.hok hf
  have hc := codeO_at I.hok hcf
  obtain ⟨_, hds, kv, rel, dd⟩ := dk_of I.hok hd
  obtain ⟨c, hcc, hcell⟩ : ∃ c, X.env.cells.lookup y = some c ∧ s.heap.IsCell c (some (.ref d)) := by
    obtain ⟨m, hn, hlo⟩ := I.loc
    obtain ⟨u, ru, lk⟩ := hlo i y (.ref d) hN hσ (.inr (.inl hy))
    obtain rfl : u = Value.ref d := ru
    rcases lk with ⟨z, _⟩ | ⟨_, c', hc', hcell⟩
    · have z' : X.env.scope.names.lookup y = some .local := z
      rw [hy] at z'
      cases z'
    · exact ⟨c', hc', hcell⟩
  have hclo : F.cl.lookup y = some c := by
    rw [hcl]
    refine clo_has (fun z hz e => ?_) (PySem.mem_of_lookup (L.sc.frk y List.mem_cons_self)) hcc
    have := L.sc.free z hz e
    rw [List.mem_singleton.mp this]
    exact ⟨c, hcc⟩
  rw [List.length_map] at hz
  refine PySem.W.sorted_key_data (b := false) (R := IntIs) (fun n : Int => PyData.tuple [.int (-rk n), .int n]) hl.isList (ints_each rv) (PySem.W.AllAlike.of fun _ _ => by simp [PySem.W.alike, PySem.W.alikeAll]) (PySem.W.Sortable.tuples fun _ => ⟨_, _, rfl⟩) hz (fun n _ => ?_) (ksk_s1 _ _) (fun _ => ksk_l1 _ _) (fun _ => ksk_t1 _ _)
    (fun v n hR hm h tk kp => ?_) fun out c' h' tk kp _ hD hlo eo => ?_
  · have hd : (PyData.tuple [.int (-rk n), .int n]).depth = 1 := by simp [PyData.depth, PyData.depthAll]
    have := hr.un
    rw [hd]
    omega
  · obtain ⟨tn, rfl⟩ := hR
    obtain ⟨c2, oc, vs, t, g1, g2, g3, g4⟩ := hc
    obtain ⟨w', hw, rt, rfl⟩ := RelO.some_of (v := V.int (rk n)) (o := valueAt kv (.inl n)) (by rw [← hrk n hm]; exact rel.val (.inl n))
    refine keyR_call L (A := X.A.in1.in1) (s := { s with heap := h, toks := tk }) hr.depth (lim.keeps kp) (kp _ _ ho) ⟨c2, oc, vs, t, g1, kp _ _ g2, g3, g4⟩ hclo ?_ hds (dd.keep kp) hw
    obtain ⟨o, h1, h2⟩ := hcell
    exact ⟨o, kp _ _ h1, h2⟩
  · rw [PySem.W.dataLe_ii (β := Int) (fun n => -rk n) (fun n => n)] at eo
    have hlen : ((ns.mergeSort (ordLe rk)).map V.int).length ≤ sizeLine := by
      rw [List.length_map, List.length_mergeSort]
      exact hz
    exact ⟨.ref _, upd H (s.heap.objs.size + 1) (.lst ((ns.mergeSort (ordLe rk)).map V.int)), I.laid (t' := tk) kp (Nat.le_succ _) ⟨hlen, out, c', each_ints eo, hD⟩, rfl, q _ (I.hok.fresh (Nat.le_succ _))⟩
end Inf

set_option Elab.async false
set_option linter.all false
set_option maxRecDepth 100000
set_option maxHeartbeats 4000000
namespace Inf
open PySem PySem.Spec PyProof.Rows L2 NdefX LamX RT
/-! ### list(reversed(xs)) -/
section
variable {prog : Program} {w : World} {A : Around} {E : Value → Shared → Prop} {s : Shared}
theorem ext_rev {R : Result → Shared → Prop} {J ll D : Addr} {vals : Array Value} {c0 : Nat} (quiet : A.handled = none) (atJ : s.heap.IsRevIter J ll ((vals.size : Int) - 1)) (atL : s.heap.IsList ll vals) (apart : ll ≠ J) (DJ : D ≠ J) (DL : D ≠ ll) (room : vals.size ≤ sizeLine) (atD : s.heap.get? D = some { cls := .type "list", data := .seq #[] c0 })
    (fin : ∀ (g : Heap) (tk : Nat) (acc : Array Value) (c' : Nat), (∀ b o, b ≠ D → b ≠ J → s.heap.get? b = some o → g.get? b = some o) → g.get? D = some { cls := .type "list", dict := none, data := .seq acc c', slots := #[] } → ItemsOf (fun i v => vals[vals.size - 1 - i]? = some v) acc vals.size → R (.ok (.ret .none)) { s with heap := g, toks := tk }) :
    wpAny (model prog w) A.in1 (Builtin.List.listExtendWith (.ref D) (.ref J) .none)
      (fun fl u => match fl with | .done f => R (.ok f) u | .again k => k.quiet = true ∧ codeAny (model prog w) A k R u) (fun e u => R (.error e) u) s := by
  have W := (Walks.listRev (prog := prog) (w := w) (A := A.in1) quiet J ll apart vals).toS
  have ty : s.TypeIs (.ref J) "list_reverseiterator" := atJ.typeIs
  have far : D ∉ [J, ll] := by simp only [List.mem_cons, List.not_mem_nil, or_false, not_or]; exact ⟨DJ, DL⟩
  unfold Builtin.List.listExtendWith
  refine wpAny_bind (wpAny_typeOf ty ?_)
  rw [if_neg (by simp [Builtin.List.listSameRef, DJ])]
  refine wpAny_bind (wpAny_pyIter_revIter atJ ?_)
  refine wpAny_bind (wpAny_holding ?_)
  unfold Builtin.List.listLengthHint
  refine wpAny_bind (wpAny_specialOf ty nolen_lri ?_)
  show wpAny _ A.in1 (specialOf _ _ >>= _) _ _ s
  refine wpAny_bind (wpAny_specialOf ty hint_lri ?_)
  generalize nm : ("list_reverseiterator.__length_hint__" : String) = idh
  wp_delta
  rw [show splitId idh = some ("list_reverseiterator", "__length_hint__") from by subst nm; decide +kernel]
  subst nm
  refine wpAny_bind (wpAny_isInstance (b := true) ty (by rw [isSubtype_type]; kernel_rfl) (wpAny_pure ?_))
  rw [if_neg (by decide)]
  have z0 : ((vals.size : Nat) : Int) - 1 - ((0 : Nat) : Int) = (vals.size : Int) - 1 := by omega
  refine wpAny_pure ⟨plainId_quiet F.plain_extend_loop _, codeAny_extend_loopS W room _ far _ vals.size 0 _ _ _ rfl (Nat.zero_le _) ⟨Nat.zero_le _, by rw [z0]; exact atJ, atL⟩ atD (ItemsOf.nil _) fun u acc c' mv at' its => ?_⟩
  rw [Moved.eq_with mv]
  refine fin u.heap u.toks acc c' (fun b o n1 n2 e => mv.heap b o (fun hm => ?_) e) at' its
  rcases List.mem_cons.mp hm with e' | hm
  · exact n1 e'
  · exact n2 (List.mem_singleton.mp hm)
theorem init_rev {R : Result → Shared → Prop} {J ll D : Addr} {vals : Array Value} (quiet : A.handled = none) (atJ : s.heap.IsRevIter J ll ((vals.size : Int) - 1)) (atL : s.heap.IsList ll vals) (apart : ll ≠ J) (DJ : D ≠ J) (DL : D ≠ ll) (room : vals.size ≤ sizeLine) (atD : s.heap.get? D = some { cls := .type "list", data := .seq #[] })
    (fin : ∀ (g : Heap) (tk : Nat) (acc : Array Value) (c' : Nat), (∀ b o, b ≠ D → b ≠ J → s.heap.get? b = some o → g.get? b = some o) → g.get? D = some { cls := .type "list", dict := none, data := .seq acc c', slots := #[] } → ItemsOf (fun i v => vals[vals.size - 1 - i]? = some v) acc vals.size → R (.ok (.ret .none)) { s with heap := g, toks := tk }) :
    wpAny (model prog w) A.in1 (Builtin.«list.__init__» ⟨[.ref D, .ref J], []⟩)
      (fun fl u => match fl with | .done f => R (.ok f) u | .again k => k.quiet = true ∧ codeAny (model prog w) A k R u) (fun e u => R (.error e) u) s := by
  show wpAny _ A.in1 (Builtin.List.listItems (.ref D) >>= fun old => Builtin.List.listUpdate (.ref D) (fun _ => #[]) >>= fun _ => letGo old.toList.reverse >>= fun _ => Builtin.List.listExtendWith (.ref D) (.ref J) .none) _ _ s
  refine wpAny_bind ?_
  unfold Builtin.List.listItems
  refine wpAny_bind (wpAny_seqItems atD rfl (wpAny_pure ?_))
  refine wpAny_bind ?_
  show wpAny _ A.in1 (updateSeq D (fun _ => #[])) _ _ s
  refine wpAny_updateSeq atD rfl ?_
  have atD2 := Heap.get?_update_self (Obj.mapSeq (fun _ => (#[] : Array Value))) atD rfl
  have rest : ∀ b o, b ≠ D → s.heap.get? b = some o → (s.heap.update D (Obj.mapSeq (fun _ => (#[] : Array Value)))).get? b = some o := fun b o n e => (Heap.get?_update_other _ _ (Ne.symm n)).trans e
  refine wpAny_bind (wpAny_letGo ?_)
  obtain ⟨ol, l1, l2, l3⟩ := atL
  refine ext_rev (A := A) quiet (atJ.at fun o e => rest J o DJ.symm e) ⟨ol, rest ll ol DL.symm l1, l2, l3⟩ apart DJ DL room atD2 fun g tk acc c' k a i => ?_
  exact fin g tk acc c' (fun b o n1 n2 e => k b o n1 n2 (rest b o n1 e)) a i
theorem call_list_rev {Q : Value → Shared → Prop} {J ll : Addr} {vals : Array Value} (quiet : A.handled = none) (atJ : s.heap.IsRevIter J ll ((vals.size : Int) - 1)) (atL : s.heap.IsList ll vals) (apart : ll ≠ J) (room : vals.size ≤ sizeLine)
    (fin : ∀ (g : Heap) (tk : Nat) (acc : Array Value) (c' : Nat), (∀ b o, b ≠ J → s.heap.get? b = some o → g.get? b = some o) → g.get? s.heap.objs.size = some { cls := .type "list", dict := none, data := .seq acc c', slots := #[] } → ItemsOf (fun i v => vals[vals.size - 1 - i]? = some v) acc vals.size → Q (.ref s.heap.objs.size) { s with heap := g, toks := tk }) :
    wpAny (model prog w) A (call (.type "list") [.ref J]) Q E s := by
  obtain ⟨oj, j1, j2⟩ := id atJ
  obtain ⟨ol, l1, l2⟩ := id atL
  have DJ : s.heap.objs.size ≠ J := Nat.ne_of_gt (Heap.lt_size j1)
  have DL : s.heap.objs.size ≠ ll := Nat.ne_of_gt (Heap.lt_size l1)
  refine callType_codes (Q₁ := fun obj s₁ => obj = .ref s.heap.objs.size ∧ s₁ = { s with heap := s.heap.push { cls := .type "list", data := .seq #[] } }) F.called_list (F.typeCall_list_1 _) F.entry_list_init (code_list_new _ ⟨rfl, rfl⟩) fun obj s₁ h₁ => ?_
  obtain ⟨rfl, rfl⟩ := h₁
  have atD : (s.heap.push { cls := .type "list", data := .seq #[] }).get? s.heap.objs.size = some { cls := .type "list", data := .seq #[] } := Heap.get?_push_size _ rfl
  refine ⟨⟨_, atD, rfl⟩, F.args_list_init_2 _ _, init_rev (A := A.in1) quiet (atJ.at fun o e => Heap.get?_push_of_some _ e) (atL.push _) apart DJ DL room atD fun g tk acc c' k a i => ?_⟩
  exact ⟨rfl, fin g tk acc c' (fun b o n e => k b o (Nat.ne_of_lt (Heap.lt_size e)) n (Heap.get?_push_of_some _ e)) a i⟩
end
/-- a new list of what the list holds, from behind -/
def tLstRev (K : PySem.W.Frag) (te : TE) : TE := fun σ H Q => te σ H fun v H1 => ∃ (a : Addr) (xs : List V), v = .ref a ∧ SqL K H1 a xs ∧ ∀ q, H1 q = Option.none → Q (.ref q) (upd H1 q (.lst xs.reverse))
theorem pe_lstRev {X : Cx} {e : Expr} {te : TE} {p p2 pos pos2 : Pos} (calm : X.calm = true) (g1 : Gl X "list") (m1 : X.mg "list" = Option.none) (g2 : Gl X "reversed") (m2 : X.mg "reversed" = Option.none) (he : PE X e te)
    (st1 : starEach [e] X.env = (false, eval e X.env) :: starEach [] X.env := by rfl)
    (st2 : starEach [.Call (.Name "reversed" p2) [e] [] pos2] X.env = (false, eval (.Call (.Name "reversed" p2) [e] [] pos2) X.env) :: starEach [] X.env := by rfl) :
    PE X (.Call (.Name "list" p) [.Call (.Name "reversed" p2) [e] [] pos2] [] pos) (tLstRev X.K te) :=
  ⟨fun pins s σ H Q I h => by
  refine Call_ (ld_blt I g1 m1 boot_list (PyProof.Rows.callWith_type1 (args_cons (Call_ (ld_blt I g2 m2 PyProof.Rows.boot_reversed (PyProof.Rows.callWith_type1 (args_cons (thn (he.run pins s σ H _ I h) fun u s1 ⟨v, H1, I1, r1, a, xs, ev, hq, q⟩ => args_nil ?_) st1) st1 rfl))) st2) st2 rfl))
  subst ev
  obtain rfl : u = Value.ref a := r1
  obtain ⟨its, rv, pl, room⟩ := I1.list hq
  refine call_reversed_list pl.isList (args_nil ?_)
  have keep : ∀ b o, s1.heap.get? b = some o → (s1.heap.push (revObj a ((its.toArray.size : Int) - 1))).get? b = some o := fun b o e => Heap.get?_push_of_some _ e
  have hl := pl.isList
  obtain ⟨ol, hol, _⟩ := id hl
  have apart : a ≠ s1.heap.objs.size := Nat.ne_of_lt (Heap.lt_size hol)
  have roomN : its.toArray.size ≤ sizeLine := by rw [List.size_toArray, ← rv.length]; exact room
  refine call_list_rev (s := { s1 with heap := s1.heap.push (revObj a ((its.toArray.size : Int) - 1)) }) (I1.ok.hd calm) ⟨_, Heap.get?_push_size _ rfl, rfl, rfl⟩ (hl.push _) apart roomN fun g tk acc c' kept hat hits => ?_
  have le : s1.heap.objs.size ≤ (s1.heap.push (revObj a ((its.toArray.size : Int) - 1))).objs.size := by
    show s1.heap.objs.size ≤ (s1.heap.objs.push _).size
    rw [Array.size_push]
    exact Nat.le_succ _
  refine ⟨.ref (s1.heap.push (revObj a ((its.toArray.size : Int) - 1))).objs.size, upd H1 (s1.heap.push (revObj a ((its.toArray.size : Int) - 1))).objs.size (.lst xs.reverse), I1.laid (t' := tk) (fun b o e => kept b o (Nat.ne_of_lt (Heap.lt_size e)) (keep b o e)) le (show ObjOk X.prog X.w _ _ _ (.lst xs.reverse) from ⟨?_, acc.toList, c', vals_rev rv hits, ?_⟩), rfl, q _ (I1.hok.fresh le)⟩
  · rw [List.length_reverse]
    exact room
  · rw [Array.toArray_toList]
    exact hat⟩
end Inf

set_option Elab.async false
set_option linter.all false
set_option maxRecDepth 100000
set_option maxHeartbeats 4000000
namespace Inf
open PySem PySem.Spec PyProof.Rows L2 NdefX LamX
/-! ### sorted(numbers, key=lambda n: (0 - ranks[n], n)), ranks a list that the def has in a cell -/
structure KeyLamL (F : LF) (x y : Str) : Prop where
  sc : NScope [x, y] [x] [y] F.scope
  body : ∃ j p0 p1 p2 p3 p4 p5 k p6, F.body = .Tuple [.BinOp (.Constant (.int 0) j p0) .Sub (.Subscript (.Name y p1) (.Name x p2) p3) p4, .Name x p5] k p6
  bind : ∀ (pm ctv v : Value), bindArgs (PySem.W.kla_fn "<lambda>" F.qual F.params F.body F.scope F.cl pm (.ref F.c) ctv) ⟨[v], []⟩ = pure [(x, v)]
  ndx : (x == ("__debug__" : Str)) = false
  ndy : (y == ("__debug__" : Str)) = false
  ncy : (y == ("__classdict__" : Str)) = false
section
variable {P : Program} {w : World} {A : Around} {s : Shared}
theorem keyL_call {f c d : Addr} {F : LF} {x y : Str} {pm ctv : Value} {n : Nat} {r : Int} {tn : Tok} {its : Array Value} (L : KeyLamL F x y) (hd : A.depth < recursionLimit) (lim : s.heap.NoLimit) (ho : s.heap.get? f = some (PySem.W.kla_obj "<lambda>" F.qual F.params F.body F.scope F.cl pm F.c ctv)) (hc : s.heap.CodeRec (.ref F.c) F.qual)
    (hcl : F.cl.lookup y = some c) (hcell : s.heap.IsCell c (some (.ref d))) (hlst : s.heap.IsList d its) (hsz : (its.size : Int) < 9223372036854775808) {rt : Tok} (hv : its[n]? = some (.int r rt)) :
    wpAny (model P w) A (call (.ref f) [.int (n : Int) tn]) (PySem.W.KeyPure (.tuple [.int (-r), .int (n : Int)]) s) (fun _ _ => False) s := by
  refine wpAny_call ?_
  refine PySem.W.kla_callFunE hd ho rfl L.sc.co L.sc.gen rfl hc ?_
  rw [L.bind pm ctv]
  refine wpAny_pure (wpAny_newFunctionEnv L.sc.nocell (fun z hz => ?_) (fun h₁ hns hsb => ⟨lim.fresh _ hsb, ?_⟩) L.sc.kind)
  · rw [List.mem_singleton.mp hz]
    exact L.sc.par x List.mem_cons_self
  have kp : ∀ b o, s.heap.get? b = some o → h₁.get? b = some o := fun b o e => hsb.extBut b o (Nat.ne_of_lt (Heap.lt_size e)) (Heap.get?_push_of_some _ e)
  have hcell1 : h₁.IsCell c (some (.ref d)) := by
    obtain ⟨o, h1, h2⟩ := hcell
    exact ⟨o, kp _ _ h1, h2⟩
  have hl1 : h₁.IsList d its := by
    obtain ⟨o, h1, h2⟩ := hlst
    exact ⟨o, kp _ _ h1, h2⟩
  have hl : F.scope.names.lookup x = some .local := L.sc.par x List.mem_cons_self
  have hfr : F.scope.names.lookup y = some .free := L.sc.frk y List.mem_cons_self
  have hm : ([(x, Value.int (n : Int) tn)] : List (Str × Value)).reverse.lookup x = some (.int (n : Int) tn) := by
    show ([(x, Value.int (n : Int) tn)] : List (Str × Value)).lookup x = _
    rw [List.lookup_cons, beq_self_eq_true]
  obtain ⟨j, p0, p1, p2, p3, p4, p5, k, p6, hb⟩ := L.body
  refine PySem.W.kla_codeExpr ?_
  rw [hb]
  refine wpAny_Tuple_spliced ?_
  refine Calls.spliced_cons ?_
  refine wpAny_BinOp (wpAny_Constant_int ?_)
  refine Subscript_ (wpAny_Name (wpAny_loadName_free L.sc.kind hfr hcl hcell1 ?_ L.ncy) L.ndy)
  refine wpAny_Name (wpAny_loadName_local L.sc.kind hl hns hm ?_) L.ndx
  have hn : n < its.size := (Array.getElem?_eq_some_iff.mp hv).1
  refine item_listR (x := .int r rt) hl1 (Int.natCast_nonneg n) (by omega) (by rw [Int.toNat_natCast]; exact hv) ?_ rfl
  refine sub_int ?_
  rw [show (0 : Int) - r = -r by omega]
  refine Calls.spliced_cons ?_
  refine wpAny_Name (wpAny_loadName_local L.sc.kind hl hns hm ?_) L.ndx
  refine Calls.spliced_nil ⟨(show (2 : Nat) ≤ sizeLine by decide), ?_⟩
  refine ⟨_, _, rfl, fun b o e => Heap.get?_push_of_some _ (kp b o e), ?_⟩
  exact .tuple (Heap.get?_push_size _ rfl) rfl rfl (.cons (as := []) (.int _ _) (.cons (as := []) (.int _ _) .nil))
end
def rSortL (X : Cx) (i : Nat) (x y : Str) : L2.St → List V → List V → Hp → VK → Prop := fun σ vs zs H Q => ∃ (a f d : Addr) (F : LF) (ns : List Nat) (rk : Nat → Int) (xs : List V), vs = [.ref a] ∧ zs = [.ref f] ∧ SqL X.K H a (ns.map fun n : Nat => V.int (n : Int)) ∧ KeyLamL F x y ∧ F.cl = cloFrom X.env.cells F.scope.names [] ∧ H f = some (LamO f F) ∧ H F.c = some (CodeO F.c F.qual) ∧
  σ[i]? = some (some (.ref d)) ∧ SqL X.K H d xs ∧ (∀ n ∈ ns, xs[n]? = some (.int (rk n))) ∧ ∀ p, H p = Option.none → Q (.ref p) (upd H p (.lst (((ns.map fun n : Nat => (n : Int)).mergeSort (ordLe fun n => rk n.toNat)).map V.int)))
theorem cr_sortL {X : Cx} {k i : Nat} {x y : Str} (hr : Room k X.A) (hN : X.N[i]? = some y) (hy : X.env.scope.names.lookup y = some .cell) : CallRKs X (.builtin "sorted") [Str.ofString "key"] (rSortL X i x y) := by
  intro pins s σ H vs zs us ws Q I r rz h
  obtain ⟨a, f, d, F, ns, rk, xs, rfl, rfl, hs, L, hcl, hf, hcf, hσ, hd, hrk, q⟩ := h
  have hs : SqL X.K H a ((ns.map fun n : Nat => (n : Int)).map V.int) := by
    rw [List.map_map]
    exact hs
  obtain ⟨its, rv, hl, hz⟩ := I.list hs
  obtain rfl := Vals.ref1 r
  obtain ⟨w1, rfl, e1⟩ := vals1 rz
  obtain rfl : w1 = Value.ref f := e1
  have e0 := I.env0
  have lim : s.heap.NoLimit := e0.mod.nolimit.keeps fun b o e => (e0.bs b o e).1
  obtain ⟨pm, ctv, ho⟩ := lamO_at I.hok hf
  have hc := codeO_at I.hok hcf
  obtain ⟨jts, rj, hlj, hzj⟩ := I.list hd
  obtain ⟨c, hcc, hcell⟩ : ∃ c, X.env.cells.lookup y = some c ∧ s.heap.IsCell c (some (.ref d)) := by
    obtain ⟨m, hn, hlo⟩ := I.loc
    obtain ⟨u, ru, lk⟩ := hlo i y (.ref d) hN hσ (.inr (.inl hy))
    obtain rfl : u = Value.ref d := ru
    rcases lk with ⟨z, _⟩ | ⟨_, c', hc', hcell⟩
    · have z' : X.env.scope.names.lookup y = some .local := z
      rw [hy] at z'
      cases z'
    · exact ⟨c', hc', hcell⟩
  have hclo : F.cl.lookup y = some c := by
    rw [hcl]
    refine clo_has (fun z hz e => ?_) (PySem.mem_of_lookup (L.sc.frk y List.mem_cons_self)) hcc
    have := L.sc.free z hz e
    rw [List.mem_singleton.mp this]
    exact ⟨c, hcc⟩
  rw [List.length_map] at hz
  refine PySem.W.sorted_key_data (b := false) (R := IntIs) (fun n : Int => PyData.tuple [.int (-rk n.toNat), .int n]) hl.isList (ints_each rv) (PySem.W.AllAlike.of fun _ _ => by simp [PySem.W.alike, PySem.W.alikeAll]) (PySem.W.Sortable.tuples fun _ => ⟨_, _, rfl⟩) hz (fun n _ => ?_) (ksk_s1 _ _) (fun _ => ksk_l1 _ _) (fun _ => ksk_t1 _ _)
    (fun v n hR hm h tk kp => ?_) fun out c' h' tk kp _ hD hlo eo => ?_
  · have hd : (PyData.tuple [.int (-rk n.toNat), .int n]).depth = 1 := by simp [PyData.depth, PyData.depthAll]
    have := hr.un
    rw [hd]
    omega
  · obtain ⟨tn, rfl⟩ := hR
    obtain ⟨j, hj, rfl⟩ := List.mem_map.mp hm
    obtain ⟨c2, oc, vs, t, g1, g2, g3, g4⟩ := hc
    obtain ⟨w', hw, rt, rfl⟩ := rj.get (hrk j hj)
    have hls := hlj.isList
    rw [Int.toNat_natCast]
    refine keyL_call (d := d) L (A := X.A.in1.in1) (s := { s with heap := h, toks := tk }) (its := jts.toArray) (rt := rt) hr.depth (lim.keeps kp) (kp _ _ ho) ⟨c2, oc, vs, t, g1, kp _ _ g2, g3, g4⟩ hclo ?_ ?_ ?_ (by simpa using hw)
    · obtain ⟨o, h1, h2⟩ := hcell
      exact ⟨o, kp _ _ h1, h2⟩
    · obtain ⟨o, h1, h2⟩ := hls
      exact ⟨o, kp _ _ h1, h2⟩
    · have := line63
      rw [List.size_toArray, ← rj.length]
      omega
  · rw [PySem.W.dataLe_ii (β := Int) (fun n => -rk n.toNat) (fun n => n)] at eo
    have hlen : (((ns.map fun n : Nat => (n : Int)).mergeSort (ordLe fun n => rk n.toNat)).map V.int).length ≤ sizeLine := by
      rw [List.length_map, List.length_mergeSort]
      exact hz
    exact ⟨.ref _, upd H (s.heap.objs.size + 1) (.lst (((ns.map fun n : Nat => (n : Int)).mergeSort (ordLe fun n => rk n.toNat)).map V.int)), I.laid (t' := tk) kp (Nat.le_succ _) ⟨hlen, out, c', each_ints eo, hD⟩, rfl, q _ (I.hok.fresh (Nat.le_succ _))⟩
end Inf

set_option Elab.async false
set_option linter.all false
set_option maxRecDepth 100000
set_option maxHeartbeats 4000000
namespace Inf
open PySem PySem.Spec PyProof.Rows L2
/-! ### xs[:0:-1] -/
theorem rvt_range (n : Nat) : sliceRange (n : Int) 0 (-1) = ((List.range n).map (1 + ·)).reverse := by
  unfold sliceRange
  have h1 : ¬ ((-1 : Int) > 0) := by decide
  have e : ((List.range n).map (1 + ·)).reverse = (List.range n).map fun k => n - k := by
    apply List.ext_getElem
    · simp
    · intro i h1 h2
      rw [List.length_map, List.length_range] at h2
      simp only [List.getElem_reverse, List.getElem_map, List.getElem_range, List.length_map, List.length_range]
      omega
  rw [e]
  by_cases h : (n : Int) > 0
  · have e2 : ((n : Int) - 0 - -1 - 1) / (- -1) = (n : Int) := by
      rw [show (- -1 : Int) = 1 by decide, Int.ediv_one]
      omega
    simp only [h1, if_false, h, if_true, e2, Int.toNat_natCast]
    apply List.map_congr_left
    intro k hk
    have := List.mem_range.mp hk
    omega
  · have e2 : n = 0 := by omega
    subst e2
    simp
theorem rvt_pick (items : Array Value) : slicePick items none (some 0) (some (-1)) = (items.toList.drop 1).reverse.toArray := by
  unfold slicePick
  cases hn : items.size with
  | zero =>
    have e : items.toList = [] := List.length_eq_zero_iff.mp (by rw [Array.length_toList]; exact hn)
    rw [e]
    rfl
  | succ n =>
    have hb : sliceBounds none (some 0) (some (-1)) (n + 1) = ((n : Int), 0, -1) := by
      have h1 : ¬ ((-1 : Int) > 0) := by decide
      simp only [sliceBounds, Option.getD_some, h1, if_false]
      refine Prod.ext ?_ (Prod.ext ?_ rfl)
      · show ((n + 1 : Nat) : Int) - 1 = (n : Int)
        omega
      · show max (-1 : Int) (min (if (0 : Int) < 0 then 0 + ((n + 1 : Nat) : Int) else 0) (((n + 1 : Nat) : Int) - 1)) = 0
        rw [if_neg (by decide)]
        omega
    rw [hb]
    show ((sliceRange (n : Int) 0 (-1)).filterMap (items[·]?)).toArray = _
    rw [rvt_range, List.filterMap_reverse, pick_run]
    rw [List.take_of_length_le (by rw [List.length_drop, Array.length_toList]; omega)]
def tRevT (K : PySem.W.Frag) (te : TE) : TE := fun σ H Q => te σ H fun x H1 => ∃ a xs, x = .ref a ∧ SqL K H1 a xs ∧ ∀ p, H1 p = Option.none → Q (.ref p) (upd H1 p (.lst (xs.drop 1).reverse))
theorem pe_revT {X : Cx} {e : Expr} {te : TE} {k k0 : Nat} {p0 p1 p2 p3 pos : Pos} (he : PE X e te) : PE X (.Subscript e (.Slice Option.none (some (.Constant (.int 0) k0 p0)) (some (.UnaryOp .USub (.Constant (.int 1) k p1) p2)) p3) pos) (tRevT X.K te) := by
  refine ⟨fun pins s σ H Q I h => ?_⟩
  refine Subscript_ (thn (he.run pins s σ H _ I h) fun v s1 ⟨x, H1, I1, r1, q1⟩ => ?_)
  obtain ⟨a, xs, ex, hx, q⟩ := q1
  subst ex
  cases r1
  have hst : PO X (some (.UnaryOp .USub (.Constant (.int 1) k p1) p2)) (tPart (tUn (rU fun i => .int (-i)) (tC (.int 1)))) := po_some (pe_un un_neg pe_int)
  have hup : PO X (some (.Constant (.int 0) k0 p0)) (tPart (tC (.int 0))) := po_some pe_int
  refine wpAny_Slice (thn (po_none.run pins s1 σ H1 (fun o H2 => o = Option.none ∧ H2 = H1) I1 ⟨rfl, rfl⟩) fun vl s2 ⟨l, H2, I2, pl, el, e2⟩ => ?_)
  subst el e2
  refine thn (hup.run pins s2 σ H2 (fun o H3 => o = some 0 ∧ H3 = H2) I2 ⟨0, rfl, rfl, rfl⟩) fun vu s3 ⟨u, H3, I3, pu, eu, e3⟩ => ?_
  subst eu e3
  refine thn (hst.run pins s3 σ H3 (fun o H4 => o = some (-1) ∧ H4 = H3) I3 ⟨1, rfl, -1, rfl, rfl, rfl⟩) fun vs s4 ⟨o, H4, I4, ps, eo, e4⟩ => ?_
  subst eo e4
  have I5 : Inv X pins σ H4 { s4 with heap := s4.heap.push { cls := .type "slice", data := .fields #[vl, vu, vs] } } := I4.kept (t' := s4.toks) fun b ob q => Heap.get?_push_of_some _ q
  obtain ⟨its, r, ht, hz⟩ := I5.list hx
  have hlen := r.length
  show wpAny (model X.prog X.w) X.A (subscriptTail e (.Slice Option.none (some (.Constant (.int 0) k0 p0)) (some (.UnaryOp .USub (.Constant (.int 1) k p1) p2)) p3) (.ref a) (.ref s4.heap.objs.size)) (EP X pins σ Q) X.xe { s4 with heap := s4.heap.push { cls := .type "slice", data := .fields #[vl, vu, vs] } }
  refine tail_any (ops := [.ref a, .ref s4.heap.objs.size]) ht.isList.typeIs (PySem.slot_list_getitem.lookup) ?_ (by with_unfolding_all rfl)
  refine wpAny_getItem_list_slice ht.isList (Heap.IsSliceOf.new _ vl vu vs) pl pu ps (by decide) ?_ (by rw [List.size_toArray]; omega)
  rw [rvt_pick]
  refine ⟨.ref _, _, I5.laid (t' := s4.toks) (o := .lst (xs.drop 1).reverse) (fun b ob q => Heap.get?_push_of_some _ q) (Nat.le_refl _) ?_, rfl, q _ (I5.hok.fresh (Nat.le_refl _))⟩
  exact ⟨by rw [List.length_reverse, List.length_drop]; omega, _, 0, (r.drop 1).reverse, Heap.get?_push_size _ rfl⟩
end Inf

set_option Elab.async false
set_option linter.all false
set_option maxRecDepth 100000
set_option maxHeartbeats 4000000
namespace Inf
open PySem PySem.Spec PyProof.Rows L2
/-! ### xs[:] = ys, two lists -/
section
variable {prog : Program} {w : World} {A : Around} {E : Value → Shared → Prop} {s : Shared}
theorem setItem_all {l b sl : Addr} {items new : Array Value} {n n2 : Nat} {vl vu : Value} {Q : Unit → Shared → Prop}
    (e : s.heap.get? l = some { cls := .type "list", data := .seq items n }) (e2 : s.heap.get? b = some { cls := .type "list", data := .seq new n2 }) (hne : l ≠ b)
    (hs : s.heap.IsSliceOf sl vl vu .none) (pl : IsPart vl Option.none) (pu : IsPart vu Option.none)
    (hsz : items.size + new.size ≤ sizeLine) (h : Q () { s with heap := s.heap.update l (Obj.mapSeq fun xs => xs.extract 0 (Int.toNat 0) ++ new ++ xs.extract (max (0 : Int) (items.size : Int)).toNat xs.size) }) :
    wpAny (model prog w) A (setItem (.ref l) (.ref sl) (.ref b)) Q E s := by
  have hl : s.heap.IsList l items := PySem.IsL.isList e
  have hb : s.heap.IsList b new := PySem.IsL.isList e2
  obtain ⟨os, hos, hcs, hds⟩ := id hs
  have hTs : s.TypeIs (.ref sl) "slice" := ⟨os, hos, hcs⟩
  have hstep : ¬ ((rawPart Option.none == rawInt 0) = true) := Bool.false_ne_true
  have hsame : Builtin.List.listSameRef (.ref l) (.ref b) = false := by
    unfold Builtin.List.listSameRef
    exact beq_eq_false_iff_ne.mpr hne
  have hb0 : sliceIndices (rawPart Option.none) (rawPart Option.none) (rawPart Option.none) items.size = pure ((0 : Int), (items.size : Int), (1 : Int)) := sliceIndices_raw Option.none Option.none Option.none items.size (fun z => nomatch z)
  have hmx : (max (0 : Int) (items.size : Int)).toNat = items.size := by omega
  have hz0 : items.size ≤ sizeLine := by omega
  unfold setItem
  refine wpAny_holding (wpAny_bind (wpAny_sequenceKey hl.typeIs (by decide) (wpAny_bind (wpAny_callSpecial?_slot (name := Str.ofString "__setitem__") hl.typeIs slot_list_setitem (wpAny_call_entry slot_list_setitem hl.typeIs entry_list_setitem ?_ (args_list_setitem _ _ _))))))
  refine wpAny_bind (m := Builtin.List.listSubscript? (.ref sl)) ?_
  unfold Builtin.List.listSubscript? Builtin.List.listAllItems Builtin.List.listItems
  refine wpAny_bind (wpAny_specialOf hTs slice_no_index (wpAny_pure ?_))
  refine wpAny_bind (m := typeOf (.ref sl)) (wpAny_typeOf hTs ?_)
  rw [if_neg (by decide), listSliceParts_eq]
  refine wpAny_bind (wpAny_bind (wpAny_field hos hds (x := .none) rfl (wpAny_bind (wpAny_listPart .none ?_))))
  rw [if_neg hstep]
  refine wpAny_bind (wpAny_field hos hds (x := vl) rfl (wpAny_bind (wpAny_listPart pl (wpAny_bind (wpAny_field hos hds (x := vu) rfl (wpAny_bind (wpAny_listPart pu (wpAny_pure ?_))))))))
  simp only [hsame, Bool.false_eq_true, if_false]
  refine wpAny_bind (wpAny_bind (wpAny_typeOf hb.typeIs ?_))
  simp only [beq_self_eq_true, Bool.true_or, if_true]
  refine wpAny_bind (wpAny_seqItems e2 rfl (wpAny_pure (wpAny_bind (wpAny_bind (wpAny_seqItems e rfl (wpAny_pure ?_))))))
  refine wpAny_bind (wpAny_of_eq hb0 ?_)
  show wpAny _ _ (if ((1 : Int) == 1) = true then _ else _) _ _ s
  rw [if_pos (by decide)]
  refine wpAny_bind (wpAny_rule ?_)
  simp only [notLongL hsz, Bool.false_eq_true, if_false]
  have hfun : (fun xs : Array Value => xs.extract 0 (Int.toNat 0) ++ new ++ xs.extract (max (0 : Int) (items.size : Int)).toNat xs.size) items = new := by
    show items.extract 0 0 ++ new ++ items.extract (max (0 : Int) (items.size : Int)).toNat items.size = new
    rw [hmx]
    simp
  show wpAny _ _ (updateSeq l (fun xs => xs.extract 0 (Int.toNat 0) ++ new ++ xs.extract (max (0 : Int) (items.size : Int)).toNat xs.size) >>= _) _ _ s
  refine wpAny_bind (wpAny_updateSeq (hz := hz0) (_hz' := Nat.le_trans (Nat.le_of_eq (congrArg Array.size hfun)) (by omega)) e rfl (wpAny_bind (wpAny_letGo (wpAny_pure ⟨.none, rfl, wpAny_pure ?_⟩))))
  exact h
end
def sAll (to tv : TE) : TS := fun D σ H => tv σ H fun y H1 => to σ H1 fun x H2 => ∃ l b xs ys, x = .ref l ∧ y = .ref b ∧ H2 l = some (.lst xs) ∧ H2 b = some (.lst ys) ∧ l ≠ b ∧ xs.length + ys.length ≤ sizeLine ∧ D.nx σ (upd H2 l (.lst ys))
theorem ps_setAll {X : Cx} {o value : Expr} {to tv : TE} {p pos' pos : Pos} (ho : PE X o to) (hv : PE X value tv) (hs : swapsWith value (some (.Subscript o (.Slice Option.none Option.none Option.none p) pos')) pos.line X.env = pure false) :
    PS X (.Assign [.Subscript o (.Slice Option.none Option.none Option.none p) pos'] value pos) (sAll to tv) := by
  refine ⟨fun pins s σ H D I h => ?_⟩
  refine wpAny_Assign_Subscript (thn (hv.run pins s σ H _ I h) fun r s1 ⟨y, H1, I1, ry, q1⟩ => thn (ho.run pins s1 σ H1 _ I1 q1) fun u s2 ⟨x, H2, I2, rx, l, b, xs, ys, ex, ey, el, eb, hne, hz, q⟩ => ?_) hs
  subst ex ey
  obtain rfl : u = Value.ref l := rx
  obtain rfl : r = Value.ref b := ry
  refine wpAny_Slice (thn (po_none.run pins s2 σ H2 (fun o H3 => o = Option.none ∧ H3 = H2) I2 ⟨rfl, rfl⟩) fun vl s3 ⟨a1, H3, I3, pl, ea1, e3⟩ => ?_)
  subst ea1 e3
  refine thn (po_none.run pins s3 σ H3 (fun o H4 => o = Option.none ∧ H4 = H3) I3 ⟨rfl, rfl⟩) fun vu s4 ⟨a2, H4, I4, pu, ea2, e4⟩ => ?_
  subst ea2 e4
  refine thn (po_none.run pins s4 σ H4 (fun o H5 => o = Option.none ∧ H5 = H4) I4 ⟨rfl, rfl⟩) fun vs s5 ⟨a3, H5, I5, ps, ea3, e5⟩ => ?_
  subst ea3 e5
  cases ps
  have I6 : Inv X pins σ H5 { s5 with heap := s5.heap.push { cls := .type "slice", data := .fields #[vl, vu, .none] } } := I5.kept (t' := s5.toks) fun b ob q => Heap.get?_push_of_some _ q
  obtain ⟨z, its, n, r1, hl, e⟩ := I6.lstM el
  obtain ⟨z2, its2, n2, r2, hl2, e2⟩ := I6.lstM eb
  have l1 := r1.length
  have l2 := r2.length
  refine setItem_all e e2 hne (Heap.IsSliceOf.new _ vl vu .none) pl pu (by rw [List.size_toArray, List.size_toArray]; omega) ⟨σ, _, I6.lset (its' := its2) (t' := s5.toks) el e ?_ r2 (by omega), q⟩
  show its.toArray.extract 0 0 ++ its2.toArray ++ its.toArray.extract (max (0 : Int) (its.toArray.size : Int)).toNat its.toArray.size = its2.toArray
  rw [show (max (0 : Int) (its.toArray.size : Int)).toNat = its.toArray.size by omega]
  simp
end Inf

set_option Elab.async false
set_option linter.all false
set_option maxRecDepth 100000
set_option maxHeartbeats 4000000
namespace Inf
open PySem PySem.Spec PyProof.Rows L2 GenW
open Sem (wp)
/-! ### for, in a generator's body -/
section
variable {M : Model} {A : Around} {R : GenEnd} {Y : Protocol} {n : Nat} {s₀ : Shared} {c : Code} {fs : List Frame} {s : Shared} {env : Env}
  {K : Flow → Sem PySem.Fin} {Hx : Value → Sem PySem.Fin} {gd : Bool → Bool} {lv : List Value → List Value}
theorem seg_For {tg iter : Expr} {body orelse : List Stmt} {pos : Pos} (hs : ∀ x, foldedSetIterable iter env x = pure x)
    (h : wpAny M (A.over c fs) (eval iter env) (fun x s1 => wpAny M (A.over c fs) (pyIter x) (fun it s2 =>
      ∀ p, Seg M A R Y n s₀ (.forLoop tg it body orelse env) (M.den (.forLoop tg it body orelse env))
        (.ret (fun r => ((match r with | .ok f => (.pure f : Sem Flow) | .error e => .raise e).onRaise (cameBack env)).wrap K Hx gd lv) none (gd false) (lv []) c p [] :: fs) s2)
      (fun e s' => Seg M A R Y n s₀ c (Hx e) fs s') s1) (fun e s' => Seg M A R Y n s₀ c (Hx e) fs s') s) :
    Seg M A R Y n s₀ c ((exec (.For tg iter body orelse pos) env).wrap K Hx gd lv) fs s := by
  rw [exec_For]
  refine seg_at ?_
  show Seg M A R Y n s₀ c ((eval iter env >>= fun v => (foldedSetIterable iter env v >>= fun x => (standAt iter.pos >>= fun _ => (holding [x] (pyIter x) >>= fun it => runOwn (.forLoop tg it body orelse env) env)))).wrap K Hx gd lv) fs s
  rw [Sem.bind_eq_wrap', Sem.wrap_wrap]
  refine seg_wrap (wpAny_mono h (fun x s1 h1 => ?_) fun _ _ e => e)
  show Seg M A R Y n s₀ c ((foldedSetIterable iter env x >>= fun x => (standAt iter.pos >>= fun _ => (holding [x] (pyIter x) >>= fun it => runOwn (.forLoop tg it body orelse env) env))).wrap K Hx gd lv) fs s1
  rw [hs x]
  refine seg_at ?_
  show Seg M A R Y n s₀ c ((holding [x] (pyIter x) >>= fun it => runOwn (.forLoop tg it body orelse env) env).wrap K Hx gd lv) fs s1
  rw [Sem.bind_eq_wrap', Sem.wrap_wrap]
  refine seg_wrap (wpAny_holding (wpAny_mono h1 (fun it s2 h2 => ?_) fun _ _ e => e))
  exact seg_call h2
end
section
variable {prog : Program} {w : World} {A : Around} {R : GenEnd} {Y : Protocol} {n : Nat} {s₀ : Shared} {fs : List Frame} {s : Shared} {env : Env}
def eHand (env : Env) (e : Value) : Sem PySem.Fin := (do noteFrame e env; theTreesLotGoes e : Sem Unit).wrap (fun _ => .raise e) .raise id id
theorem seg_forLoop {tg : Expr} {it : Value} {body : List Stmt}
    (h : wpAny (model prog w) (A.over (.forLoop tg it body [] env) fs) (pyNext it) (fun r s1 => match r with
        | none => Seg (model prog w) A R Y n s₀ (.forLoop tg it body [] env) (.pure (.again (.block [] env))) fs s1
        | some v => wpAny (model prog w) (A.over (.forLoop tg it body [] env) fs) (letOwnedTupleGo tg it v) (fun _ s2 => wpAny (model prog w) (A.over (.forLoop tg it body [] env) fs) (assign tg env v) (fun _ s3 =>
            Seg (model prog w) A R Y n s₀ (.forLoop tg it body [] env) ((execs body env).wrap (fun f => match f with
              | .next | .cont => .pure (.again (.forLoop tg it body [] env))
              | .brk => .pure (.done .next)
              | .ret v => .pure (.done (.ret v))) (eHand env) id id) fs s3)
            (fun x s' => Seg (model prog w) A R Y n s₀ (.forLoop tg it body [] env) (eHand env x) fs s') s2)
            (fun x s' => Seg (model prog w) A R Y n s₀ (.forLoop tg it body [] env) (eHand env x) fs s') s1)
      (fun x s' => Seg (model prog w) A R Y n s₀ (.forLoop tg it body [] env) (eHand env x) fs s') s) :
    Seg (model prog w) A R Y n s₀ (.forLoop tg it body [] env) ((model prog w).den (.forLoop tg it body [] env)) fs s := by
  show Seg _ A R Y n s₀ _ ((forTurn tg it body [] env).onRaise (fun x => do noteFrame x env; theTreesLotGoes x)) fs s
  unfold forTurn
  rw [Sem.onRaise_eq_wrap]
  refine seg_at ?_
  have eH : (fun e => ((do noteFrame e env; theTreesLotGoes e : Sem Unit).bind fun _ => (Sem.raise e : Sem PySem.Fin))) = eHand env := by
    funext e
    exact Sem.bind_eq_wrap _ _
  rw [eH]
  show Seg (model prog w) A R Y n s₀ (Code.forLoop tg it body [] env) (((pyNext it).onRaise (fun _ => standAt { tg.pos with line := 0 }) >>= fun r => (match r with
      | none => again (Code.block [] env)
      | some v => (letOwnedTupleGo tg it v >>= fun _ => (assign tg env v >>= fun _ => (execs body env >>= fun f => (match f with
        | .next | .cont => again (Code.forLoop tg it body [] env)
        | .brk => pure (Fin.done Flow.next)
        | .ret v => pure (Fin.done (Flow.ret v)) : Sem PySem.Fin)))) : Sem PySem.Fin)).wrap Sem.pure (eHand env) id id) fs s
  rw [Sem.bind_eq_wrap', Sem.wrap_wrap, Sem.onRaise_eq_wrap, Sem.wrap_wrap]
  refine seg_wrap (wpAny_mono h (fun r s1 h1 => ?_) fun e s' h' => ?_)
  · cases r with
    | none => exact h1
    | some v =>
      show Seg (model prog w) A R Y n s₀ (Code.forLoop tg it body [] env) ((letOwnedTupleGo tg it v >>= fun _ => (assign tg env v >>= fun _ => (execs body env >>= fun f => (match f with
        | .next | .cont => again (Code.forLoop tg it body [] env)
        | .brk => pure (Fin.done Flow.next)
        | .ret v => pure (Fin.done (Flow.ret v)) : Sem PySem.Fin)))).wrap Sem.pure (eHand env) id id) fs s1
      rw [Sem.bind_eq_wrap', Sem.wrap_wrap]
      refine seg_wrap (wpAny_mono h1 (fun _ s2 h2 => ?_) fun _ _ e => e)
      rw [Sem.bind_eq_wrap', Sem.wrap_wrap]
      refine seg_wrap (wpAny_mono h2 (fun _ s3 h3 => ?_) fun _ _ e => e)
      rw [Sem.bind_eq_wrap', Sem.wrap_wrap]
      have e := Sem.wrap_congr (execs body env) (K := fun f => match f with
            | .next | .cont => (.pure (.again (.forLoop tg it body [] env)) : Sem PySem.Fin)
            | .brk => .pure (.done .next)
            | .ret v => .pure (.done (.ret v))) (K' := fun f => Sem.wrap Sem.pure (eHand env) id id (match f with
            | .next | .cont => again (.forLoop tg it body [] env)
            | .brk => pure (.done .next)
            | .ret v => pure (.done (.ret v)))) (H := eHand env) (H' := eHand env) id id (fun f => by cases f <;> rfl) (fun e => rfl)
      rw [e] at h3
      exact h3
  · exact seg_at h'
end
/-! ### the loop itself -/
def tGFor (wi : TI) (g : TG) (tb : TGn) : TGn := fun D ys σ H => wi σ H fun J H1 => ∃ W : Nat → Nat → List V → L2.St → Hp → Prop, (∃ m, W 0 m ys σ H1) ∧ ∀ i m ys σ H, W i m ys σ H →
  (J.stop i H ∧ D.nx ys σ H) ∨ (J.go i H ∧ ∃ N : List V → L2.St → Hp → Prop, (∀ ys' σ' H', N ys' σ' H' → ∃ m', m' < m ∧ W (i + 1) m' ys' σ' H') ∧ ∀ x H', J.yld i H x H' → g x σ H' fun σ2 H2 => tb { D with nx := N, ct := N, bk := D.nx } ys σ2 H2)
section
variable {X : Cx}
theorem gs_for {tg iter : Expr} {body : List Stmt} {wi : TI} {g : TG} {tb : TGn} {pos : Pos} (hp : PassesOwn (model X.prog X.w) X.A X.env X.xe) (hc : X.calm = true) (hi : PI X tg iter wi) (hg : PG X tg g) (hb : GSs X body tb)
    (hs : ∀ x, foldedSetIterable iter X.env x = pure x := by intro _; rfl) : GS X (.For tg iter body [] pos) (tGFor wi g tb) := by
  refine ⟨fun A S ip R n ys s₀ c fs K J gd lv s σ H D gc hn k hI ht => ?_⟩
  obtain ⟨acc, cc, r, I⟩ := hI
  refine seg_For hs ?_
  rw [gc.over]
  refine wpAny_mono (hi.run _ s σ H _ I ht) (fun v s1 h1 => wpAny_mono h1 (fun itv s2 h2 p => ?_) fun x s' hx => k.exc n s₀ x s' hx) fun x s' hx => k.exc n s₀ x s' hx
  obtain ⟨it, fp, tn, Jt, H2, e, I2, T, st2, f2, W, ⟨m0, w0⟩, turn⟩ := h2
  subst e
  have stat : ∀ {ac : Array Value} {ck : Nat} {H' : Hp}, (∀ b ∈ fp, H' b = none) → ∀ b ∈ fp, FpOk X ((S, lstObj ac ck) :: ip) H' b := fun hn b hb => by
    obtain ⟨_, f1, f2', f3, f4, f5⟩ := f2 b hb
    refine ⟨hn b hb, f1, f2', f3, f4, fun q hq => ?_⟩
    rcases List.mem_append.mp hq with hq | hq
    · exact f5 q (List.mem_append_left _ hq)
    · rcases List.mem_cons.mp hq with rfl | hq
      · exact f5 (S, lstObj acc cc) (List.mem_append_right _ (List.mem_cons_self ..))
      · exact f5 q (List.mem_append_right _ (List.mem_cons_of_mem _ hq))
  have fS : ∀ b ∈ fp, b ≠ S := fun b hb z => (f2 b hb).2.2.2.2.2 (S, lstObj acc cc) (List.mem_append_right _ (List.mem_cons_self ..)) z.symm
  have gl := fun (kk : Result → Sem PySem.Fin) => gc_loop (k := kk) (c' := .forLoop tg (.ref it) body [] X.env) (l := lv []) (kp := []) (p := p) gc rfl rfl
  have loop : ∀ (m n i : Nat) (ys : List V) (s₀ s : Shared) (acc : Array Value) (cc : Nat) (σ : L2.St) (H : Hp), n + ys.length = sizeLine → W i m ys σ H → Vals ys acc.toList → L2.Inv X ((S, lstObj acc cc) :: ip) σ H s → tn i s.heap → (∀ b ∈ fp, H b = none) →
      Seg (model X.prog X.w) A R (GY X S) n s₀ (.forLoop tg (.ref it) body [] X.env) ((model X.prog X.w).den (.forLoop tg (.ref it) body [] X.env))
        (.ret (fun r => ((match r with | .ok f => (.pure f : Sem Flow) | .error e => .raise e).onRaise (cameBack X.env)).wrap K J gd lv) none (gd false) (lv []) c p [] :: fs) s := by
    intro m
    induction m using Nat.strongRecOn with
    | ind m ih =>
      intro n i ys s₀ s3 acc cc σ3 H3 hn w3 r3 I3 st3 fr3
      have ee : ∀ (n : Nat) (s₀ : Shared) (x : Value) (s' : Shared), X.xe x s' → Seg (model X.prog X.w) A R (GY X S) n s₀ (.forLoop tg (.ref it) body [] X.env) (eHand X.env x)
          (.ret (fun r => ((match r with | .ok f => (.pure f : Sem Flow) | .error e => .raise e).onRaise (cameBack X.env)).wrap K J gd lv) none (gd false) (lv []) c p [] :: fs) s' := fun n s₀ x s' hx => by
        refine seg_wrap ?_
        rw [(gl _).over]
        refine wpAny_bind (wpAny_mono (hp x s' hx) (fun _ s'' hcb => wpAny_theTreesLotGoes ?_) fun y s'' hcb => ?_)
        · exact seg_leaf (.error x) (seg_cameBack gc k hcb)
        · exact seg_leaf (.error y) (seg_cameBack gc k hcb)
      refine seg_forLoop ?_
      rw [(gl _).over]
      rcases turn i m ys σ3 H3 w3 with ⟨stop, qn⟩ | ⟨go, N, hN, step⟩
      · refine wpAny_mono (T.done X rfl rfl rfl hc i _ s3 σ3 H3 _ I3 (stat fr3) st3 stop) (fun q s4 ⟨hq, I4⟩ => ?_) fun _ _ e => e
        subst hq
        refine seg_again rfl ?_
        exact seg_leaf (.ok .next) (k.ok n ys s₀ s4 .next hn ⟨σ3, H3, ⟨acc, cc, r3, I4⟩, qn⟩)
      · refine wpAny_mono (T.item X rfl rfl rfl hc i _ s3 σ3 H3 _ I3 (stat fr3) st3 go) (fun q s4 ⟨u, hq, h4⟩ => ?_) fun _ _ e => e
        subst hq
        refine wpAny_mono h4 (fun _ s5 ⟨x, H5, I5, r5, y5, st5, fr5⟩ => ?_) fun _ _ e => e
        have I5' : L2.Inv X ((S, lstObj acc cc) :: (ip ++ pinsAt fp s5.heap)) σ3 H5 s5 := I5.pinned (stat fr5) (T.obj _ _ st5)
        refine wpAny_mono (hg.run _ s5 σ3 H5 x u _ I5' r5 (step x H5 y5)) (fun _ s6 ⟨σ6, H6, I6, q6⟩ => ?_) fun x s' hx => ee n s₀ x s' hx
        have un : ∀ {acc : Array Value} {cc : Nat} {σ7 : L2.St} {H7 : Hp} {s7 : Shared}, L2.Inv X ((S, lstObj acc cc) :: (ip ++ pinsAt fp s5.heap)) σ7 H7 s7 → L2.Inv X ((S, lstObj acc cc) :: ip) σ7 H7 s7 := fun I7 => Inv.unpinned (pins := (S, lstObj _ _) :: ip) I7
        have again : ∀ {acc7 : Array Value} {cc7 n' : Nat} {ys' : List V} {s₀' : Shared} {σ7 : L2.St} {H7 : Hp} {s7 : Shared}, n' + ys'.length = sizeLine → Vals ys' acc7.toList → L2.Inv X ((S, lstObj acc7 cc7) :: (ip ++ pinsAt fp s5.heap)) σ7 H7 s7 → N ys' σ7 H7 →
            Seg (model X.prog X.w) A R (GY X S) n' s₀' (.forLoop tg (.ref it) body [] X.env) (.pure (.again (.forLoop tg (.ref it) body [] X.env)))
              (.ret (fun r => ((match r with | .ok f => (.pure f : Sem Flow) | .error e => .raise e).onRaise (cameBack X.env)).wrap K J gd lv) none (gd false) (lv []) c p [] :: fs) s7 := fun {acc7 cc7 n' ys' s₀' σ7 H7 s7} hn' r7 I7 n7 => by
          obtain ⟨m', hm, w7⟩ := hN ys' σ7 H7 n7
          refine seg_again rfl (ih m' hm n' (i + 1) ys' s₀' s7 acc7 cc7 σ7 H7 hn' w7 r7 (un I7) (T.keep _ _ _ st5 fun b hb o e => (I7.pin (b, o) (List.mem_append_right _ (List.mem_cons_of_mem _ (List.mem_append_right _ (mem_pinsAt hb e))))).1) fun b hb => ?_)
          obtain ⟨o, e, d⟩ := T.obj _ _ st5 b hb
          exact (I7.pin (b, o) (List.mem_append_right _ (List.mem_cons_of_mem _ (List.mem_append_right _ (mem_pinsAt hb e))))).2.1
        have gi : ∀ q ∈ ip ++ pinsAt fp s5.heap, q.1 ≠ S := fun q hq => by
          rcases List.mem_append.mp hq with hq | hq
          · exact gc.ip q hq
          · exact fS _ (of_pinsAt hq).1
        refine hb.run A S (ip ++ pinsAt fp s5.heap) R n ys s₀ _ _ _ _ id id s6 σ6 H6 { D with nx := N, ct := N, bk := D.nx } { gl _ with ip := gi } hn ⟨fun n' ys' s₀' s7 f hn' hs => ?_, fun n' s₀' x s7 hx => ee n' s₀' x s7 hx⟩ ⟨acc, cc, r3, I6⟩ q6
        cases f with
        | next =>
          obtain ⟨σ7, H7, ⟨acc7, cc7, r7, I7⟩, n7⟩ := hs
          exact again hn' r7 I7 n7
        | cont =>
          obtain ⟨σ7, H7, ⟨acc7, cc7, r7, I7⟩, n7⟩ := hs
          exact again hn' r7 I7 n7
        | brk =>
          obtain ⟨σ7, H7, ⟨acc7, cc7, r7, I7⟩, q7⟩ := hs
          exact seg_leaf (.ok .next) (k.ok n' ys' s₀' s7 .next hn' ⟨σ7, H7, ⟨acc7, cc7, r7, un I7⟩, q7⟩)
        | ret v =>
          obtain ⟨x7, σ7, H7, ⟨acc7, cc7, r7, I7⟩, rv, q7⟩ := hs
          exact seg_leaf (.ok (.ret v)) (k.ok n' ys' s₀' s7 (.ret v) hn' ⟨x7, σ7, H7, ⟨acc7, cc7, r7, un I7⟩, rv, q7⟩)
  exact loop m0 n 0 ys s₀ s2 acc cc σ H2 hn w0 r I2 st2 fun b hb => (f2 b hb).1
/-- a statement of a generator's body while the thing at d is locked -/
def tGLock (t : TGn) : TGn := fun D ys σ H => ∃ d u, H d = some u ∧ Mut (some u) ∧ ∀ od, t ⟨fun ys' σ' H' => H' d = some (.frz od u) ∧ D.nx ys' σ' (upd H' d u), fun ys' v H' => H' d = some (.frz od u) ∧ D.rt ys' v (upd H' d u), fun ys' σ' H' => H' d = some (.frz od u) ∧ D.bk ys' σ' (upd H' d u), fun ys' σ' H' => H' d = some (.frz od u) ∧ D.ct ys' σ' (upd H' d u)⟩ ys σ (upd H d (.frz od u))
theorem gs_lock {st : Stmt} {t : TGn} (h : GS X st t) : GS X st (tGLock t) := by
  refine ⟨fun A S ip R n ys s₀ c fs K J gd lv s σ H D gc hn k hI ht => ?_⟩
  obtain ⟨acc, cc, r, I⟩ := hI
  obtain ⟨d, u, hd, mu, hw⟩ := ht
  obtain ⟨od, I1⟩ := I.lock hd mu
  refine h.run A S ip R n ys s₀ c fs K J gd lv s σ _ _ gc hn ⟨fun n' ys' s₀' s' f hn' hs => k.ok n' ys' s₀' s' f hn' ?_, k.exc⟩ ⟨acc, cc, r, I1⟩ (hw od)
  cases f with
  | next => obtain ⟨σ', H', ⟨acc', cc', r', I2⟩, e, q⟩ := hs; exact ⟨σ', _, ⟨acc', cc', r', I2.unlock e (I.nofrz hd mu)⟩, q⟩
  | brk => obtain ⟨σ', H', ⟨acc', cc', r', I2⟩, e, q⟩ := hs; exact ⟨σ', _, ⟨acc', cc', r', I2.unlock e (I.nofrz hd mu)⟩, q⟩
  | cont => obtain ⟨σ', H', ⟨acc', cc', r', I2⟩, e, q⟩ := hs; exact ⟨σ', _, ⟨acc', cc', r', I2.unlock e (I.nofrz hd mu)⟩, q⟩
  | ret v => obtain ⟨x, σ', H', ⟨acc', cc', r', I2⟩, rv, e, q⟩ := hs; exact ⟨x, σ', _, ⟨acc', cc', r', I2.unlock e (I.nofrz hd mu)⟩, rv, q⟩
end
theorem gfor_it {J : It} {n : Nat} {G : Hp → Prop} {Y : Nat → Hp → V → Hp → Prop} (w : Walk J n G Y) {g : TG} {tb : TGn} {D : GEnds} {ys : List V} {σ : L2.St} {H : Hp} (Pv : Nat → List V → L2.St → Hp → Prop) (h0 : Pv 0 ys σ H) (hG : ∀ i ys σ H, i ≤ n → Pv i ys σ H → G H)
    (hs : ∀ i x ys σ H H', i < n → Pv i ys σ H → Y i H x H' → g x σ H' fun σ2 H2 => tb { D with nx := Pv (i + 1), ct := Pv (i + 1), bk := D.nx } ys σ2 H2) (hd : ∀ ys σ H, Pv n ys σ H → D.nx ys σ H) :
    ∃ W : Nat → Nat → List V → L2.St → Hp → Prop, (∃ m, W 0 m ys σ H) ∧ ∀ i m ys σ H, W i m ys σ H →
      (J.stop i H ∧ D.nx ys σ H) ∨ (J.go i H ∧ ∃ N : List V → L2.St → Hp → Prop, (∀ ys' σ' H', N ys' σ' H' → ∃ m', m' < m ∧ W (i + 1) m' ys' σ' H') ∧ ∀ x H', J.yld i H x H' → g x σ H' fun σ2 H2 => tb { D with nx := N, ct := N, bk := D.nx } ys σ2 H2) := by
  refine ⟨fun i m ys σ H => m = n - i ∧ i ≤ n ∧ Pv i ys σ H, ⟨n, by simp, Nat.zero_le _, h0⟩, ?_⟩
  rintro i m ys σ H ⟨rfl, hi, p⟩
  have q := hG i ys σ H hi p
  by_cases hlt : i < n
  · exact .inr ⟨w.goes i H hlt q, Pv (i + 1), fun ys' σ' H' p' => ⟨n - (i + 1), by omega, rfl, hlt, p'⟩, fun x H' y => hs i x ys σ H H' hlt p (w.yields i H x H' hlt q y)⟩
  · have e : i = n := by omega
    subst e
    exact .inl ⟨w.stops H q, hd ys σ H p⟩
end Inf

set_option Elab.async false
set_option linter.all false
set_option maxRecDepth 100000
set_option maxHeartbeats 4000000
namespace Inf
open PySem PySem.Spec PyProof.Rows L2 NdefX LamX
/-! ### min(xs) of a list of pairs of ints: the pair itself -/
def p2D (z : Int × Int) : PyData := .tuple [.int z.1, .int z.2]
def rMinT (K : PySem.W.Frag) : List V → Hp → VK → Prop := fun vs H Q => ∃ (a : Addr) (ps : List Addr) (x : Int × Int) (xs : List (Int × Int)), vs = [V.ref a] ∧ SqL K H a (ps.map V.ref) ∧ DpAll K H (ps.map V.ref) ((x :: xs).map p2D) ∧
  ∀ (i : Nat) (p : Addr), ps[i]? = some p → (x :: xs)[i]? = some (PySem.W.minOf x xs) → Q (.ref p) H
theorem dpAll_at {K : PySem.W.Frag} {H : Hp} : ∀ {vs : List V} {ds : List PyData}, DpAll K H vs ds → ∀ {i : Nat} {v : V}, vs[i]? = some v → ∃ d, ds[i]? = some d ∧ Dp K H v d
  | _, _, .nil, i, v, e => by cases i <;> cases e
  | _, _, .cons h t, 0, v, e => by
    cases e
    exact ⟨_, rfl, h⟩
  | _, _, .cons h t, i + 1, v, e => dpAll_at t (i := i) e
theorem cr_minT {X : Cx} (hc : X.calm = true) (hu : X.A.units + 65 < cLine) : CallR X (.builtin "min") (rMinT X.K) := by
  intro pins s σ H vs us Q I r h
  obtain ⟨a, ps, x, xs, rfl, hs, hd, q⟩ := h
  obtain ⟨its, rv, hl, _⟩ := I.list hs
  rw [Vals.ref1 r]
  obtain ⟨as, hr⟩ := Dp.readsAll I _ _ _ hd rv
  have H1 : PySem.W.HoldAll s.heap its.toArray.toList (x :: xs) := ⟨as, hr⟩
  have hdp : PySem.W.Datum.depth (Int × Int) ≤ 60 := by decide
  have hroom : X.A.units + 1 + PySem.W.Datum.depth (Int × Int) < cLine := by omega
  refine PySem.W.min_list_datum (I.ok.hd hc) hl.isList H1 hroom fun i v h' tk hi hv hk => ?_
  rw [List.getElem?_toArray] at hi
  have hlen := rv.length
  have hi2 : i < (ps.map V.ref).length := by
    rw [hlen]
    exact (List.getElem?_eq_some_iff.mp hi).1
  obtain ⟨p, hp⟩ : ∃ p, ps[i]? = some p := ⟨_, List.getElem?_eq_getElem (by rw [List.length_map] at hi2; exact hi2)⟩
  have hpm : (ps.map V.ref)[i]? = some (V.ref p) := by rw [List.getElem?_map, hp]; rfl
  obtain ⟨d, hdd, hDp⟩ := dpAll_at hd hpm
  rw [List.getElem?_map] at hdd
  obtain ⟨z, hz, rfl⟩ := Option.map_eq_some_iff.mp hdd
  obtain ⟨u, hu1, hrel⟩ := rv.get hpm
  obtain rfl : v = u := Option.some.inj (hi.symm.trans hu1)
  have hrel2 : v = Value.ref p := hrel
  subst hrel2
  obtain ⟨bs, r1⟩ := Dp.reads I _ _ _ hDp hrel
  obtain ⟨cs, r2⟩ := hv
  have e := ((PySem.Reads.unique (Reads.keeps hk r1) _ _ r2).1 : p2D z = _)
  have ez : z = PySem.W.minOf x xs := by
    have e : PyData.tuple [.int z.1, .int z.2] = PyData.tuple [.int (PySem.W.minOf x xs).1, .int (PySem.W.minOf x xs).2] := e
    injection e with e
    injection e with e1 e2
    injection e2 with e2 _
    injection e1 with e1
    injection e2 with e2
    exact Prod.ext e1 e2
  exact ⟨.ref p, H, I.kept hk, rfl, q i p hp (by rw [hz, ez])⟩
end Inf

set_option Elab.async false
set_option linter.all false
set_option maxRecDepth 100000
set_option maxHeartbeats 4000000
namespace Inf
open PySem PySem.Spec PyProof.Rows L2 NdefX LamX
/-! ### o.m(), where what leaves it depends on the locals -/
section
variable {X : Cx} {CX : CXT} {k : Nat} {f C : Addr} {fd : FuncData} {ps : List Str} {sp : Sp} {E : L2.St → XK} {m : Str} {apos pos : Pos} {o : Expr} {ta : TE}
def tMeth0S (C : Addr) (m : Str) (sp : Sp) (E : L2.St → XK) (ta : TE) : TE := fun σ H Q => ta σ H fun x H1 => ∃ a dx fs, x = .ref a ∧ H1 a = some (.ins C dx fs) ∧ fs.lookup m = none ∧ sp [x] H1 Q (E σ)
theorem pe_meth0S {pl : Sem Bool} (he : PE X o ta) (c : Cls X.K C) (hm : Meth X.K C m f) (F : FnOk X.prog X.w X.K X.mg X.base CX k f fd ps sp) (hr : Room k X.A) (hb : Binds X.K fd ps []) (hx : ∀ σ, PassesAt CX X σ (E σ))
    (ht : eval (.Call (.Attribute o m apos) [] [] pos) X.env = (do
      let ov ← eval o X.env
      standAt apos.atName
      let (f, first) ← holding [ov] (getMethod ov m pl)
      callWith pos f first (backTo pos (starEach [] X.env)) (backToKw pos (keywordEach [] X.env))) := by rfl) :
    PE X (.Call (.Attribute o m apos) [] [] pos) (tMeth0S C m sp E ta) := by
  refine ⟨fun pins s σ H Q I h => ?_⟩
  refine PySem.W.methodCall_KW (pl := pl) (thn (he.run pins s σ H _ I h) fun u s1 ⟨x, H1, I1, rx, a, dx, fs, ex, ea, l, q⟩ => ?_) ht
  subst ex
  obtain rfl : u = Value.ref a := rx
  refine getmeth_ok I1 ea c hm l ?_
  exact PySem.W.callWith_K0 (first := [.ref a]) I1.kIn hm.kp (run_fnS (us := [.ref a]) (vs := [.ref a]) F hr hb (hx σ) I1 (.cons rfl .nil) q)
end
end Inf

set_option Elab.async false
set_option linter.all false
set_option maxRecDepth 100000
set_option maxHeartbeats 4000000
namespace Inf
open PySem PySem.Spec PyProof.Rows L2 NdefX LamX
/-! ### a call of a def that shows data, while the def's cells are told -/
section
variable {X : Cx} {pins : List (Addr × Obj)} {σ : L2.St} {H : Hp} {s : Shared}
theorem tel_runG {k : Nat} {f : Addr} {fd : FuncData} {ps : List Str} {ds : List Value} {dvs : List V} {sp : Sp} {Q : VK} {us : List Value} {vs : List V} (F : FnOkG X.prog X.w X.K X.mg X.base CX0 k f fd ps sp) (hG : X.A.guards = some []) (hr : Room k X.A) (hb : Binds X.K fd ps ds) (hd : Vals dvs ds) (hfn : ∀ x, X.fn x = true)
    (I : Inv X pins σ H s) (r : Vals vs us) (h : ∀ cs HT, Tel X.env.cells X.env.scope.names X.N σ H cs HT → sp (vs ++ dvs) HT (fun v H1 => (∀ b, b ∈ cs → H1 b = HT b) ∧ Q v (cut cs H1)) E0) : wpAny (model X.prog X.w) X.A (call (.ref f) us) (EP X pins σ Q) X.xe s := by
  let cs := frCells X.env.cells
  let HT : Hp := fun b => if b ∈ cs then (match s.heap.get? b with | some o => some (.ext fun h => h.get? b = some o) | Option.none => Option.none) else H b
  have big : ∀ b, b ∈ cs → X.s_0.heap.objs.size ≤ b := fun b hb => by
    obtain ⟨x, e⟩ := mem_frCells hb
    exact I.ok.cab x b (hfn x) e
  have no : ∀ b, b ∈ cs → H b = Option.none := fun b hb => by
    obtain ⟨x, e⟩ := mem_frCells hb
    exact I.freeC x b e
  have inT : ∀ b, b ∈ cs → ∃ v o, s.heap.get? b = some o ∧ o.data = .cell v ∧ HT b = some (.ext fun h => h.get? b = some o) := fun b hb => by
    obtain ⟨x, e⟩ := mem_frCells hb
    obtain ⟨v, o, e1, e2⟩ := I.cell x b e
    refine ⟨v, o, e1, e2, ?_⟩
    show (if b ∈ cs then _ else _) = _
    rw [if_pos hb, e1]
  have outT : ∀ b, b ∉ cs → HT b = H b := fun b hb => if_neg hb
  have nonT : ∀ b, b ∉ cs → H b = Option.none → HT b = Option.none := fun b hb e => (outT b hb).trans e
  have T : Tel X.env.cells X.env.scope.names X.N σ H cs HT := by
    refine ⟨no, fun b hb => ?_, outT, I.ok.inj, fun y h => I.ok.has _ (.inl h), fun i y c v h1 h2 h3 h4 => ?_, fun b hb q hq => ?_, fun y c e => frCells_mem e⟩
    · obtain ⟨v, o, _, _, e⟩ := inT b hb
      exact ⟨_, e⟩
    · obtain ⟨v', o, e1, e2, e3⟩ := inT c (frCells_mem h3)
      obtain ⟨m, hn, hl⟩ := I.loc
      obtain ⟨u, ru, lk⟩ := hl i y v h1 h4 (.inr (.inl h2))
      refine ⟨_, e3, fun h hh => ⟨u, ru, o, hh, ?_⟩⟩
      rcases lk with ⟨z, _⟩ | ⟨_, c', hc', hcell⟩
      · have z' : X.env.scope.names.lookup y = some .local := z
        rw [h2] at z'
        cases z'
      · rw [h3] at hc'
        cases hc'
        obtain ⟨o', g1, g2⟩ := hcell
        rw [e1] at g1
        cases g1
        exact g2
    · obtain ⟨v, o, e1, e2, e3⟩ := inT b hb
      rw [e3] at hq
      have hq := HO.ext.inj (Option.some.inj hq)
      have hq := (congrFun hq s.heap).mp e1
      obtain ⟨oc, vs, t, g1, g2, _⟩ := hq
      rw [e1] at g1
      cases g1
      rw [e2] at g2
      cases g2
  have ncs : ∀ b, b < X.s_0.heap.objs.size → b ∉ cs := fun b l m => Nat.not_lt.mpr (big b m) l
  have e0 := I.env0
  have notfr : ∀ b, b ∈ frs X.stack → b ∉ cs := fun b hb m => by
    rcases List.mem_cons.mp (I.stkSub b hb) with e | hb'
    · obtain ⟨x, ex⟩ := mem_frCells m
      exact I.cne x b ex e
    · obtain ⟨_, o, ho, _⟩ := I.ok.funs.mem hb'
      exact ncs b (Heap.lt_size ho) m
  have nonext : ∀ {b : Addr} {o : HO}, H b = some o → b ∉ cs := fun e m => by
    rw [no _ m] at e
    cases e
  have e1 : Env0 X.prog X.w X.K X.mg X.base X.A X.stack s HT := by
    refine ⟨e0.frames, e0.mod, fun b o q => ⟨(e0.bs b o q).1, nonT b (ncs b (Nat.lt_of_lt_of_le (Heap.lt_size q) I.ok.bsz)) (e0.bs b o q).2⟩, e0.bsz, e0.funs, fun b hb => nonT b (notfr b hb) (e0.frf b hb), fun b o e => ?_, e0.bare⟩
    by_cases hb : b ∈ cs
    · obtain ⟨v, o', g1, g2, g3⟩ := inT b hb
      rw [g3] at e
      cases e
      exact ⟨g1, ⟨o', g1⟩, fun h1 h2 z k => k _ z⟩
    · rw [outT b hb] at e
      refine (e0.hok b o e).stay (fun c u _ q => q) (fun c q => ?_) fun c xs q => ?_
      · rw [outT c (nonext q)]
        exact q
      · rw [outT c (nonext q)]
        exact q
  have hq0 := h cs HT T
  have r2 : Vals (vs ++ dvs) (us ++ ds) := r.append hd
  have hl : (us ++ ds).length = ps.length := by rw [← r2.length]; exact F.len _ _ _ _ hq0
  refine wpAny_call (codeAny_mono (F.run X.A X.stack s HT ⟨us, []⟩ (us ++ ds) (vs ++ dvs) _ E0 hG hr e1 (hb s us I.kIn hl) r2 hq0) fun r s' hq => ?_)
  cases r with
  | error e => exact False.elim hq
  | ok fl =>
    cases fl with
    | next => exact False.elim hq
    | brk => exact False.elim hq
    | cont => exact False.elim hq
    | ret u =>
      obtain ⟨v, H1, os, bare, un, hok1, rv, kc, q⟩ := hq
      have notin : ∀ {b : Addr} {o : HO}, H1 b = some o → (∀ φ, o ≠ .ext φ) → b ∉ cs := fun {b o} e n m => by
        obtain ⟨v, o', _, _, g3⟩ := inT b m
        rw [kc b m, g3] at e
        exact n _ (Option.some.inj e).symm
      have keepC : ∀ b o, b ∈ cs → s.heap.get? b = some o → s'.heap.get? b = some o := fun b o m e => by
        obtain ⟨v, o', g1, _, g3⟩ := inT b m
        rw [g1] at e
        cases e
        have := hok1 b _ ((kc b m).trans g3)
        exact this.1
      refine I.after ⟨v, cut cs H1, os, bare, ⟨fun b o a n h1 h2 => ?_, fun b o a n h1 h2 => ?_, fun b o a n h2 => ?_, un.there, fun b xs e => ?_, fun b o u e => ?_, fun b ps e => ?_⟩, fun b o e => ?_, rv, q⟩
      · by_cases m : b ∈ cs
        · exact keepC b o m a
        · exact un.keep b o a (nonT b m n) h1 h2
      · exact un.slot b o a (nonT b (notfr b h1) n) h1 h2
      · by_cases m : b ∈ cs
        · exact cut_in m
        · rw [cut_out m]
          exact un.free b o a (nonT b m n) h2
      · have m := nonext e
        rw [cut_out m]
        exact un.tups b xs ((outT b m).trans e)
      · have m := nonext e
        rw [cut_out m]
        exact un.frzs b o u ((outT b m).trans e)
      · have m := nonext e
        rw [cut_out m]
        exact un.tbls b ps ((outT b m).trans e)
      · by_cases m : b ∈ cs
        · rw [cut_in m] at e
          cases e
        · rw [cut_out m] at e
          refine (hok1 b o e).stay (fun c u _ q => q) (fun c q => ?_) fun c xs q => ?_
          · rw [cut_out (notin q (fun φ z => nomatch z))]
            exact q
          · rw [cut_out (notin q (fun φ z => nomatch z))]
            exact q
end
theorem pe_callTG {X : Cx} {k : Nat} {f : Addr} {fd : FuncData} {ps : List Str} {ds : List Value} {dvs : List V} {sp : Sp} {x : Str} {p pos : Pos} {e : Expr} {es : List Expr} {t : TA} (hfn : ∀ x, X.fn x = true) (F : FnOkG X.prog X.w X.K X.mg X.base CX0 k f fd ps sp) (hG : X.A.guards = some []) (hr : Room k X.A) (hg : Gl X x) (hm : X.mg x = some (.ref f)) (hk : PySem.W.keepIn X.K (.ref f) = true) (hb : Binds X.K fd ps ds) (hd : Vals dvs ds)
    (ha : PA X (e :: es) t) (hdb : (x == ("__debug__" : Str)) = false := by decide) (he : starEach (e :: es) X.env = (false, eval e X.env) :: starEach es X.env := by rfl) (hpl : (backTo pos (starEach es X.env)).any (·.1) = false := by rfl) :
    PE X (.Call (.Name x p) (e :: es) [] pos) (tCallT X sp dvs t) := by
  refine ⟨fun pins s σ H Q I h => ?_⟩
  refine wpAny_Call_Name_kw (ld_glob I hg hm ?_ hdb)
  refine PySem.W.callWith_K (h₀ := X.base) I.ok.mod.kin hk (thn (ha.run pos pins s σ H _ I h) fun us s1 ⟨vs, H1, I1, r, q⟩ => ⟨I1.kIn, ?_⟩) he hpl
  exact tel_runG F hG hr hb hd hfn I1 r q
end Inf

set_option Elab.async false
set_option linter.all false
set_option maxRecDepth 100000
set_option maxHeartbeats 4000000
namespace Inf
open PySem PySem.Spec PyProof.Rows L2 NdefX LamX
/-! ### the total of a tuple of ints -/
def rSumT (K : PySem.W.Frag) : List V → Hp → VK → Prop := fun vs H Q => ∃ (a : Addr) (ns : List Int), vs = [V.ref a] ∧ SqT K H a (ns.map V.int) ∧ Q (.int ns.sum) H
theorem cr_sumT {X : Cx} (hc : X.calm = true) : CallR X (.builtin "sum") (rSumT X.K) := by
  intro pins s σ H vs us Q I r h
  obtain ⟨a, ns, rfl, hs, q⟩ := h
  obtain ⟨its, rv, hT, _⟩ := I.tuple hs
  rw [Vals.ref1 r]
  have hi := rv.ints
  obtain ⟨xs, e⟩ := hi.allInts.items
  have hn : numsOf (intItems xs).toList = ns := by rw [← e]; exact hi.numsOf
  rw [nums_intItems] at hn
  rw [e] at hT
  refine PySem.W.ktm_sumG (I.ok.hd hc) hT fun h' tk t' hk => ⟨.int _, H, I.kept hk, ⟨_, rfl⟩, ?_⟩
  rw [preSum_eq, List.take_of_length_le (by simp), hn]
  exact q
end Inf

set_option Elab.async false
set_option linter.all false
set_option maxRecDepth 100000
set_option maxHeartbeats 4000000
namespace Inf
open PySem PySem.Spec PyProof.Rows L2 NdefX LamX
/-! ### xs.remove(x), plain data -/
def rRemD (K : PySem.W.Frag) : V → List V → Hp → VK → Prop := fun x xs H Q => ∃ (l : Addr) (ys : List V) (v : V) (ds : List PyData) (d : PyData) (j : Nat), x = .ref l ∧ xs = [v] ∧ H l = some (.lst ys) ∧ DpAll K H ys ds ∧ Dp K H v d ∧ PyData.plainAll ds = true ∧ d.plain = true ∧ d.depth ≤ 60 ∧
  ds.findIdx? (fun y => PyData.eqv y d) = some j ∧ Q .non (upd H l (.lst (ys.eraseIdx j)))
theorem mt_removeD {X : Cx} (hu : X.A.units + 65 < cLine) : MtM X "list.remove" (rRemD X.K) := by
  intro pins s σ H x xs v us Q I rx rxs h
  obtain ⟨l, ys, y, ds, d, j, rfl, rfl, hH, hds, hd, h1, h2, h3, hj, q⟩ := h
  cases rx
  obtain ⟨u, rfl, ru⟩ := rxs.one
  obtain ⟨z, its, n, r, hl, e⟩ := I.lstM hH
  obtain ⟨as, rs⟩ := Dp.readsAll I _ _ _ hds r
  obtain ⟨bs, rd⟩ := Dp.reads I _ _ _ hd ru
  have hm : min (PyData.depthAll ds) d.depth ≤ 60 := Nat.le_trans (Nat.min_le_right _ _) h3
  refine PySem.SeqAt.remove_list_data (vs := its.toArray) ⟨_, e, rfl, n, rfl⟩ rs rd h1 h2 (by omega) hj (by rw [List.size_toArray]; omega) ?_
  have rr := r.eraseIdx j
  refine ⟨.non, _, I.lset (its' := its.eraseIdx j) (t' := s.toks) hH e ?_ rr ?_, rfl, q⟩
  · show its.toArray.eraseIdxIfInBounds j = (its.eraseIdx j).toArray
    rw [List.eraseIdxIfInBounds_toArray]
  · have := List.length_eraseIdx_le ys j
    omega
end Inf


set_option Elab.async false
set_option linter.all false
set_option maxRecDepth 100000
set_option maxHeartbeats 4000000
namespace Ob
open PySem PySem.Spec PyProof.Rows L2
/-! ### a def whose code object is named: it makes functions -/
structure FunT (K : PySem.W.Frag) (x qual : Str) (st : Stmt) (f : Addr) (fd : FuncData) (c : Addr) : Prop where
  ex : ∃ (oc : Value) (od : Option Addr) (kV doc pm : Value) (an : Option Addr) (ct : Value) (osl : Array (Option Value)),
    fd = PySem.W.fnOf x qual (defArgs st) (defBody st) (defScope st) .none kV doc pm an (.ref c) ct ∧ K.lookup f = some ⟨oc, od, .func fd, osl⟩ ∧ PySem.W.codeIn K (.ref c) qual = true
  kp : PySem.W.keepIn K (.ref f) = true
theorem FunT.ok {P : Program} {w : World} {K : PySem.W.Frag} {mg : Str → Option Value} {base : Heap} {x qual : Str} {st : Stmt} {f c : Addr} {fd : FuncData} {CX : CXT} {N ps : List Str} {k : Nat} {sp : Sp} (F : FunT K x qual st f fd c) (S : FnScope N ps (defScope st)) (len : ∀ vs H Q E, sp vs H Q E → vs.length = ps.length)
    (hbody : ∀ (A : Around) (outer : List Env) (s : Shared) (H : Hp) (vs : List V) (Q : VK) (E : XK), Room k (A.deeper (envOfC qual (defScope st) s.heap.objs.size f (.ref c))) → sp vs H Q E →
      ∃ t, PSs (cxOf CX P w K mg base N qual (defScope st) f (.ref c) A outer s H E) (defBody st) t ∧ t { nx := fun _ H' => Q .non H', rt := Q } (L2.start N vs) H) : FnOk P w K mg base CX (k + 1) f fd ps sp := by
  obtain ⟨oc, od, kV, doc, pm, an, ct, osl, rfl, lk, hcd⟩ := F.ex
  exact fn_of lk hcd S len fun A outer s H vs Q E hr hsp => hbody A outer s H vs Q E hr hsp
theorem FunT.okC {P : Program} {w : World} {K : PySem.W.Frag} {mg : Str → Option Value} {base : Heap} {x qual : Str} {st : Stmt} {f c : Addr} {fd : FuncData} {N ps : List Str} {k : Nat} {sp : Sp} (F : FunT K x qual st f fd c) (S : FnScope N ps (defScope st)) (len : ∀ vs H Q E, sp vs H Q E → vs.length = ps.length)
    (hbody : ∀ (A : Around) (outer : List Env) (s : Shared) (H : Hp) (vs : List V) (Q : VK) (E : XK), Room k (A.deeper (envOfC qual (defScope st) s.heap.objs.size f (.ref c))) → sp vs H Q E →
      ∃ t, Inf.PSsR (cxOf CX0 P w K mg base N qual (defScope st) f (.ref c) A outer s H E).nox (defBody st) t ∧
        t (fun σ v H' => ∀ H'', Inf.Fin (envOfC qual (defScope st) s.heap.objs.size f (.ref c)).cells (defScope st).names N σ H' H'' → Q v H'') (L2.start N vs) H) : FnOk P w K mg base CX0 (k + 1) f fd ps sp := by
  obtain ⟨oc, od, kV, doc, pm, an, ct, osl, rfl, lk, hcd⟩ := F.ex
  exact Inf.okC_of lk hcd S len hbody
theorem all_cons {α : Type} {P : α → Prop} {a : α} {l : List α} (h : P a) (t : ∀ x ∈ l, P x) : ∀ x ∈ a :: l, P x := fun x m => (List.mem_cons.mp m).elim (fun e => by rw [e]; exact h) (t x)

/-! ### the text -/
def topS (i : Nat) : Stmt := PySem.Challenge.pw_oncebuilt_k83_whole_ranked_components.main.body.getD i (.Pass ⟨0, 0, 0, 0⟩)
abbrev s_check_filled : Stmt := topS 8
abbrev n_check_filled : List Str := ["held"]
theorem sc_check_filled : FnScope n_check_filled ["held"] (defScope s_check_filled) := ⟨rfl, rfl, rfl, by decide +kernel, rfl, by decide +kernel, by decide +kernel⟩
abbrev s_without : Stmt := topS 9
abbrev n_without : List Str := ["held", "numbers", "member", "number"]
theorem sc_without : FnScope n_without ["held", "numbers"] (defScope s_without) := ⟨rfl, rfl, rfl, by decide +kernel, rfl, by decide +kernel, by decide +kernel⟩
abbrev s_Calls_init : Stmt := inClass (topS 11) 0
abbrev n_Calls_init : List Str := ["self"]
theorem sc_Calls_init : FnScope n_Calls_init ["self"] (defScope s_Calls_init) := ⟨rfl, rfl, rfl, by decide +kernel, rfl, by decide +kernel, by decide +kernel⟩
abbrev s_Calls_check : Stmt := inClass (topS 11) 1
abbrev n_Calls_check : List Str := ["self"]
theorem sc_Calls_check : FnScope n_Calls_check ["self"] (defScope s_Calls_check) := ⟨rfl, rfl, rfl, by decide +kernel, rfl, by decide +kernel, by decide +kernel⟩
abbrev s_Calls_run : Stmt := inClass (topS 11) 2
abbrev n_Calls_run : List Str := ["self", "entry", "action", "values", "result"]
theorem sc_Calls_run : FnScope n_Calls_run ["self", "entry", "action", "values"] (defScope s_Calls_run) := ⟨rfl, rfl, rfl, by decide +kernel, rfl, by decide +kernel, by decide +kernel⟩
abbrev s_Outer_init : Stmt := inClass (topS 13) 0
abbrev n_Outer_init : List Str := ["self", "push", "pop", "ask"]
theorem sc_Outer_init : FnScope n_Outer_init ["self", "push", "pop", "ask"] (defScope s_Outer_init) := ⟨rfl, rfl, rfl, by decide +kernel, rfl, by decide +kernel, by decide +kernel⟩
abbrev s_Outer_check : Stmt := inClass (topS 13) 1
abbrev n_Outer_check : List Str := ["self"]
theorem sc_Outer_check : FnScope n_Outer_check ["self"] (defScope s_Outer_check) := ⟨rfl, rfl, rfl, by decide +kernel, rfl, by decide +kernel, by decide +kernel⟩
abbrev s_Outer_answer : Stmt := inClass (topS 13) 2
abbrev n_Outer_answer : List Str := ["self", "question"]
theorem sc_Outer_answer : FnScope n_Outer_answer ["self", "question"] (defScope s_Outer_answer) := ⟨rfl, rfl, rfl, by decide +kernel, rfl, by decide +kernel, by decide +kernel⟩
abbrev s_Outer_change : Stmt := inClass (topS 13) 3
abbrev n_Outer_change : List Str := ["self", "entries", "held"]
theorem sc_Outer_change : FnScope n_Outer_change ["self", "entries", "held"] (defScope s_Outer_change) := ⟨rfl, rfl, rfl, by decide +kernel, rfl, by decide +kernel, by decide +kernel⟩
abbrev s_Outer_follow : Stmt := inClass (topS 13) 5
abbrev n_Outer_follow : List Str := ["self", "entries", "held", "failed", "action", "number"]
theorem sc_Outer_follow : FnScope n_Outer_follow ["self", "entries", "held"] (defScope s_Outer_follow) := ⟨rfl, rfl, rfl, by decide +kernel, rfl, by decide +kernel, by decide +kernel⟩
abbrev s_plan_pushes : Stmt := topS 14
abbrev n_plan_pushes : List Str := ["numbers", "number"]
theorem sc_plan_pushes : FnScope n_plan_pushes ["numbers"] (defScope s_plan_pushes) := ⟨rfl, rfl, rfl, by decide +kernel, rfl, by decide +kernel, by decide +kernel⟩
abbrev s_plan_pops : Stmt := topS 15
abbrev n_plan_pops : List Str := ["numbers", "number"]
theorem sc_plan_pops : FnScope n_plan_pops ["numbers"] (defScope s_plan_pops) := ⟨rfl, rfl, rfl, by decide +kernel, rfl, by decide +kernel, by decide +kernel⟩
abbrev s_changed_order : Stmt := topS 16
abbrev n_changed_order : List Str := ["order", "entries", "changed", "action", "number"]
theorem sc_changed_order : FnScope n_changed_order ["order", "entries"] (defScope s_changed_order) := ⟨rfl, rfl, rfl, by decide +kernel, rfl, by decide +kernel, by decide +kernel⟩
abbrev s_total_built : Stmt := topS 19
abbrev n_total_built : List Str := ["many", "total", "size"]
theorem sc_total_built : FnScope n_total_built ["many"] (defScope s_total_built) := ⟨rfl, rfl, rfl, by decide +kernel, rfl, by decide +kernel, by decide +kernel⟩
abbrev s_lowest_power : Stmt := topS 20
abbrev n_lowest_power : List Str := ["number"]
theorem sc_lowest_power : FnScope n_lowest_power ["number"] (defScope s_lowest_power) := ⟨rfl, rfl, rfl, by decide +kernel, rfl, by decide +kernel, by decide +kernel⟩
abbrev s_is_integer : Stmt := topS 21
abbrev n_is_integer : List Str := ["value"]
theorem sc_is_integer : FnScope n_is_integer ["value"] (defScope s_is_integer) := ⟨rfl, rfl, rfl, by decide +kernel, rfl, by decide +kernel, by decide +kernel⟩
abbrev s_check_integer : Stmt := topS 22
abbrev n_check_integer : List Str := ["value"]
theorem sc_check_integer : FnScope n_check_integer ["value"] (defScope s_check_integer) := ⟨rfl, rfl, rfl, by decide +kernel, rfl, by decide +kernel, by decide +kernel⟩
abbrev s_check_number : Stmt := topS 23
abbrev n_check_number : List Str := ["value"]
theorem sc_check_number : FnScope n_check_number ["value"] (defScope s_check_number) := ⟨rfl, rfl, rfl, by decide +kernel, rfl, by decide +kernel, by decide +kernel⟩
abbrev s_Ranked_init : Stmt := inClass (topS 25) 1
abbrev n_Ranked_init : List Str := ["self", "push", "pop", "ask"]
theorem sc_Ranked_init : FnScope n_Ranked_init ["self", "push", "pop", "ask"] (defScope s_Ranked_init) := ⟨rfl, rfl, rfl, by decide +kernel, rfl, by decide +kernel, by decide +kernel⟩
abbrev s_Ranked_add : Stmt := inClass (topS 25) 2
abbrev n_Ranked_add : List Str := ["self", "member", "rank", "number", "held"]
theorem sc_Ranked_add : FnScope n_Ranked_add ["self", "member", "rank"] (defScope s_Ranked_add) := ⟨rfl, rfl, rfl, by decide +kernel, rfl, by decide +kernel, by decide +kernel⟩
abbrev s_Ranked_first : Stmt := inClass (topS 25) 3
abbrev n_Ranked_first : List Str := ["self"]
theorem sc_Ranked_first : FnScope n_Ranked_first ["self"] (defScope s_Ranked_first) := ⟨rfl, rfl, rfl, by decide +kernel, rfl, by decide +kernel, by decide +kernel⟩
abbrev s_Ranked_remove_first : Stmt := inClass (topS 25) 4
abbrev n_Ranked_remove_first : List Str := ["self", "number"]
theorem sc_Ranked_remove_first : FnScope n_Ranked_remove_first ["self"] (defScope s_Ranked_remove_first) := ⟨rfl, rfl, rfl, by decide +kernel, rfl, by decide +kernel, by decide +kernel⟩
abbrev s_Ranked_query : Stmt := inClass (topS 25) 5
abbrev n_Ranked_query : List Str := ["self", "question"]
theorem sc_Ranked_query : FnScope n_Ranked_query ["self", "question"] (defScope s_Ranked_query) := ⟨rfl, rfl, rfl, by decide +kernel, rfl, by decide +kernel, by decide +kernel⟩
abbrev s_Ranked_stack : Stmt := inClass (topS 25) 9
abbrev n_Ranked_stack : List Str := ["self"]
theorem sc_Ranked_stack : FnScope n_Ranked_stack ["self"] (defScope s_Ranked_stack) := ⟨rfl, rfl, rfl, by decide +kernel, rfl, by decide +kernel, by decide +kernel⟩
abbrev s_Ranked_log : Stmt := inClass (topS 25) 12
abbrev n_Ranked_log : List Str := ["self"]
theorem sc_Ranked_log : FnScope n_Ranked_log ["self"] (defScope s_Ranked_log) := ⟨rfl, rfl, rfl, by decide +kernel, rfl, by decide +kernel, by decide +kernel⟩
abbrev s_precedence : Stmt := topS 26
abbrev n_precedence : List Str := ["ranked", "ranks"]
theorem sc_precedence : FnScope n_precedence ["ranked"] (defScope s_precedence) := ⟨rfl, rfl, rfl, by decide +kernel, rfl, by decide +kernel, by decide +kernel⟩
abbrev s_plan_removal : Stmt := topS 27
abbrev n_plan_removal : List Str := ["ranked", "needed", "order", "lowest", "popped", "others", "number"]
theorem sc_plan_removal : FnScope n_plan_removal ["ranked"] (defScope s_plan_removal) := ⟨rfl, rfl, rfl, by decide +kernel, rfl, by decide +kernel, by decide +kernel⟩
abbrev s_Unions_init : Stmt := inClass (topS 29) 0
abbrev n_Unions_init : List Str := ["self", "many"]
theorem sc_Unions_init : FnScope n_Unions_init ["self", "many"] (defScope s_Unions_init) := ⟨rfl, rfl, rfl, by decide +kernel, rfl, by decide +kernel, by decide +kernel⟩
abbrev s_Unions_push : Stmt := inClass (topS 29) 1
abbrev n_Unions_push : List Str := ["self", "pair", "upper", "lower"]
theorem sc_Unions_push : FnScope n_Unions_push ["self", "pair"] (defScope s_Unions_push) := ⟨rfl, rfl, rfl, by decide +kernel, rfl, by decide +kernel, by decide +kernel⟩
abbrev s_Unions_pop : Stmt := inClass (topS 29) 2
abbrev n_Unions_pop : List Str := ["self", "lower", "upper"]
theorem sc_Unions_pop : FnScope n_Unions_pop ["self"] (defScope s_Unions_pop) := ⟨rfl, rfl, rfl, by decide +kernel, rfl, by decide +kernel, by decide +kernel⟩
abbrev s_Unions_ask : Stmt := inClass (topS 29) 3
abbrev n_Unions_ask : List Str := ["self", "question"]
theorem sc_Unions_ask : FnScope n_Unions_ask ["self", "question"] (defScope s_Unions_ask) := ⟨rfl, rfl, rfl, by decide +kernel, rfl, by decide +kernel, by decide +kernel⟩
abbrev s_Unions_root_of : Stmt := inClass (topS 29) 4
abbrev n_Unions_root_of : List Str := ["self", "point", "root"]
theorem sc_Unions_root_of : FnScope n_Unions_root_of ["self", "point"] (defScope s_Unions_root_of) := ⟨rfl, rfl, rfl, by decide +kernel, rfl, by decide +kernel, by decide +kernel⟩
abbrev s_Unions_count_of : Stmt := inClass (topS 29) 5
abbrev n_Unions_count_of : List Str := ["self", "root"]
theorem sc_Unions_count_of : FnScope n_Unions_count_of ["self", "root"] (defScope s_Unions_count_of) := ⟨rfl, rfl, rfl, by decide +kernel, rfl, by decide +kernel, by decide +kernel⟩
abbrev s_l_bag : Stmt := topS 31
abbrev n_l_bag : List Str := ["_law_script", "_law_at", "_law_cell", "_law_great", "_law_primes"]
theorem sc_l_bag : FnScope n_l_bag ["_law_script", "_law_at"] (defScope s_l_bag) := ⟨rfl, rfl, rfl, by decide +kernel, rfl, by decide +kernel, by decide +kernel⟩
abbrev s_l_take : Stmt := topS 32
abbrev n_l_take : List Str := ["_law_bag_here", "_law_many", "_law_digit"]
theorem sc_l_take : FnScope n_l_take ["_law_bag_here", "_law_many"] (defScope s_l_take) := ⟨rfl, rfl, rfl, by decide +kernel, rfl, by decide +kernel, by decide +kernel⟩
abbrev s_l_component : Stmt := topS 33
abbrev n_l_component : List Str := ["_law_pairs", "_law_point", "_law_found", "_law_turn", "_law_one", "_law_other"]
theorem sc_l_component : FnScope n_l_component ["_law_pairs", "_law_point"] (defScope s_l_component) := ⟨rfl, rfl, rfl, by decide +kernel, rfl, by decide +kernel, by decide +kernel⟩
abbrev s_l_answer : Stmt := topS 34
abbrev n_l_answer : List Str := ["_law_pairs", "_law_wide", "_law_question", "_law_found", "_law_point"]
theorem sc_l_answer : FnScope n_l_answer ["_law_pairs", "_law_wide", "_law_question"] (defScope s_l_answer) := ⟨rfl, rfl, rfl, by decide +kernel, rfl, by decide +kernel, by decide +kernel⟩
abbrev s_l_bound_right : Stmt := topS 35
abbrev n_l_bound_right : List Str := ["_law_log", "_law_added", "_law_removed", "_law_present", "_law_pops", "_law_pushes", "_law_high", "_law_one"]
theorem sc_l_bound_right : FnScope n_l_bound_right ["_law_log", "_law_added", "_law_removed", "_law_present"] (defScope s_l_bound_right) := ⟨rfl, rfl, rfl, by decide +kernel, rfl, by decide +kernel, by decide +kernel⟩
abbrev s_l_right : Stmt := topS 36
abbrev n_l_right : List Str := ["_law_bag_here", "_law_ranked", "_law_held", "_law_wide", "_law_pairs", "_law_one", "_law_other", "_law_question", "_law_number", "_law_pair", "_law_weight"]
theorem sc_l_right : FnScope n_l_right ["_law_bag_here", "_law_ranked", "_law_held", "_law_wide"] (defScope s_l_right) := ⟨rfl, rfl, rfl, by decide +kernel, rfl, by decide +kernel, by decide +kernel⟩
abbrev s_law : Stmt := topS 37
abbrev n_law : List Str := ["_law_script", "_law_at", "_law_bag_here", "_law_wide", "_law_spread", "_law_road", "_law_unions", "_law_held", "_law_number", "_law_gone", "_law_ranked", "_law_turn", "_law_pair", "_law_weight", "_law_greatest", "_law_first", "_law_one"]
theorem sc_law : FnScope n_law ["_law_script"] (defScope s_law) := ⟨rfl, rfl, rfl, by decide +kernel, rfl, by decide +kernel, by decide +kernel⟩
structure Txt (K : PySem.W.Frag) (mg : Str → Option Value) where
  C_Calls : Addr
  gc_Calls : mg "Calls" = some (.ref C_Calls)
  C_Outer : Addr
  gc_Outer : mg "Outer" = some (.ref C_Outer)
  C_Ranked : Addr
  gc_Ranked : mg "Ranked" = some (.ref C_Ranked)
  C_Unions : Addr
  gc_Unions : mg "Unions" = some (.ref C_Unions)
  f_Calls_init : Addr
  d_Calls_init : FuncData
  -- 
  F_Calls_init : Fun K "__init__" "Calls.__init__" s_Calls_init f_Calls_init d_Calls_init
  b_Calls_init : Binds K d_Calls_init ["self"] []
  m_Calls_init : PySem.W.findIn K (.ref C_Calls) "__init__" = some (some (.ref f_Calls_init))
  t_Calls_init : PySem.W.isFn K (.ref f_Calls_init) = true
  y_Calls_init : PySem.W.typeIn K (.ref f_Calls_init) = some (.type "function")
  k_Calls_init : PySem.W.keepIn K (.ref f_Calls_init) = true
  f_Calls_check : Addr
  d_Calls_check : FuncData
  -- 
  F_Calls_check : Fun K "check" "Calls.check" s_Calls_check f_Calls_check d_Calls_check
  b_Calls_check : Binds K d_Calls_check ["self"] []
  m_Calls_check : PySem.W.findIn K (.ref C_Calls) "check" = some (some (.ref f_Calls_check))
  t_Calls_check : PySem.W.isFn K (.ref f_Calls_check) = true
  y_Calls_check : PySem.W.typeIn K (.ref f_Calls_check) = some (.type "function")
  k_Calls_check : PySem.W.keepIn K (.ref f_Calls_check) = true
  f_Calls_run : Addr
  d_Calls_run : FuncData
  -- 
  F_Calls_run : Fun K "run" "Calls.run" s_Calls_run f_Calls_run d_Calls_run
  m_Calls_run : PySem.W.findIn K (.ref C_Calls) "run" = some (some (.ref f_Calls_run))
  t_Calls_run : PySem.W.isFn K (.ref f_Calls_run) = true
  y_Calls_run : PySem.W.typeIn K (.ref f_Calls_run) = some (.type "function")
  k_Calls_run : PySem.W.keepIn K (.ref f_Calls_run) = true
  f_Outer_init : Addr
  d_Outer_init : FuncData
  -- 
  F_Outer_init : Fun K "__init__" "Outer.__init__" s_Outer_init f_Outer_init d_Outer_init
  b_Outer_init : Binds K d_Outer_init ["self", "push", "pop", "ask"] []
  m_Outer_init : PySem.W.findIn K (.ref C_Outer) "__init__" = some (some (.ref f_Outer_init))
  t_Outer_init : PySem.W.isFn K (.ref f_Outer_init) = true
  y_Outer_init : PySem.W.typeIn K (.ref f_Outer_init) = some (.type "function")
  k_Outer_init : PySem.W.keepIn K (.ref f_Outer_init) = true
  f_Outer_check : Addr
  d_Outer_check : FuncData
  -- 
  F_Outer_check : Fun K "check" "Outer.check" s_Outer_check f_Outer_check d_Outer_check
  b_Outer_check : Binds K d_Outer_check ["self"] []
  m_Outer_check : PySem.W.findIn K (.ref C_Outer) "check" = some (some (.ref f_Outer_check))
  t_Outer_check : PySem.W.isFn K (.ref f_Outer_check) = true
  y_Outer_check : PySem.W.typeIn K (.ref f_Outer_check) = some (.type "function")
  k_Outer_check : PySem.W.keepIn K (.ref f_Outer_check) = true
  f_Outer_answer : Addr
  d_Outer_answer : FuncData
  -- 
  F_Outer_answer : Fun K "answer" "Outer.answer" s_Outer_answer f_Outer_answer d_Outer_answer
  b_Outer_answer : Binds K d_Outer_answer ["self", "question"] []
  m_Outer_answer : PySem.W.findIn K (.ref C_Outer) "answer" = some (some (.ref f_Outer_answer))
  t_Outer_answer : PySem.W.isFn K (.ref f_Outer_answer) = true
  y_Outer_answer : PySem.W.typeIn K (.ref f_Outer_answer) = some (.type "function")
  k_Outer_answer : PySem.W.keepIn K (.ref f_Outer_answer) = true
  f_Outer_change : Addr
  d_Outer_change : FuncData
  -- 
  F_Outer_change : Fun K "change" "Outer.change" s_Outer_change f_Outer_change d_Outer_change
  b_Outer_change : Binds K d_Outer_change ["self", "entries", "held"] []
  m_Outer_change : PySem.W.findIn K (.ref C_Outer) "change" = some (some (.ref f_Outer_change))
  t_Outer_change : PySem.W.isFn K (.ref f_Outer_change) = true
  y_Outer_change : PySem.W.typeIn K (.ref f_Outer_change) = some (.type "function")
  k_Outer_change : PySem.W.keepIn K (.ref f_Outer_change) = true
  f_Outer_follow : Addr
  d_Outer_follow : FuncData
  -- 
  F_Outer_follow : Fun K "follow" "Outer.follow" s_Outer_follow f_Outer_follow d_Outer_follow
  b_Outer_follow : Binds K d_Outer_follow ["self", "entries", "held"] []
  m_Outer_follow : PySem.W.findIn K (.ref C_Outer) "follow" = some (some (.ref f_Outer_follow))
  t_Outer_follow : PySem.W.isFn K (.ref f_Outer_follow) = true
  y_Outer_follow : PySem.W.typeIn K (.ref f_Outer_follow) = some (.type "function")
  k_Outer_follow : PySem.W.keepIn K (.ref f_Outer_follow) = true
  f_Ranked_init : Addr
  d_Ranked_init : FuncData
  -- 
  F_Ranked_init : Fun K "__init__" "Ranked.__init__" s_Ranked_init f_Ranked_init d_Ranked_init
  b_Ranked_init : Binds K d_Ranked_init ["self", "push", "pop", "ask"] []
  m_Ranked_init : PySem.W.findIn K (.ref C_Ranked) "__init__" = some (some (.ref f_Ranked_init))
  t_Ranked_init : PySem.W.isFn K (.ref f_Ranked_init) = true
  y_Ranked_init : PySem.W.typeIn K (.ref f_Ranked_init) = some (.type "function")
  k_Ranked_init : PySem.W.keepIn K (.ref f_Ranked_init) = true
  f_Ranked_add : Addr
  d_Ranked_add : FuncData
  -- 
  F_Ranked_add : FunD K "add" "Ranked.add" (defArgs s_Ranked_add) (defBody s_Ranked_add) (defScope s_Ranked_add) [] [("rank", V.int 0)] f_Ranked_add d_Ranked_add
  m_Ranked_add : PySem.W.findIn K (.ref C_Ranked) "add" = some (some (.ref f_Ranked_add))
  t_Ranked_add : PySem.W.isFn K (.ref f_Ranked_add) = true
  y_Ranked_add : PySem.W.typeIn K (.ref f_Ranked_add) = some (.type "function")
  k_Ranked_add : PySem.W.keepIn K (.ref f_Ranked_add) = true
  f_Ranked_first : Addr
  d_Ranked_first : FuncData
  -- 
  F_Ranked_first : Fun K "first" "Ranked.first" s_Ranked_first f_Ranked_first d_Ranked_first
  b_Ranked_first : Binds K d_Ranked_first ["self"] []
  m_Ranked_first : PySem.W.findIn K (.ref C_Ranked) "first" = some (some (.ref f_Ranked_first))
  t_Ranked_first : PySem.W.isFn K (.ref f_Ranked_first) = true
  y_Ranked_first : PySem.W.typeIn K (.ref f_Ranked_first) = some (.type "function")
  k_Ranked_first : PySem.W.keepIn K (.ref f_Ranked_first) = true
  f_Ranked_remove_first : Addr
  d_Ranked_remove_first : FuncData
  -- 
  F_Ranked_remove_first : Fun K "remove_first" "Ranked.remove_first" s_Ranked_remove_first f_Ranked_remove_first d_Ranked_remove_first
  b_Ranked_remove_first : Binds K d_Ranked_remove_first ["self"] []
  m_Ranked_remove_first : PySem.W.findIn K (.ref C_Ranked) "remove_first" = some (some (.ref f_Ranked_remove_first))
  t_Ranked_remove_first : PySem.W.isFn K (.ref f_Ranked_remove_first) = true
  y_Ranked_remove_first : PySem.W.typeIn K (.ref f_Ranked_remove_first) = some (.type "function")
  k_Ranked_remove_first : PySem.W.keepIn K (.ref f_Ranked_remove_first) = true
  f_Ranked_query : Addr
  d_Ranked_query : FuncData
  -- 
  F_Ranked_query : Fun K "query" "Ranked.query" s_Ranked_query f_Ranked_query d_Ranked_query
  b_Ranked_query : Binds K d_Ranked_query ["self", "question"] []
  m_Ranked_query : PySem.W.findIn K (.ref C_Ranked) "query" = some (some (.ref f_Ranked_query))
  t_Ranked_query : PySem.W.isFn K (.ref f_Ranked_query) = true
  y_Ranked_query : PySem.W.typeIn K (.ref f_Ranked_query) = some (.type "function")
  k_Ranked_query : PySem.W.keepIn K (.ref f_Ranked_query) = true
  f_Ranked_stack : Addr
  d_Ranked_stack : FuncData
  -- 
  F_Ranked_stack : Fun K "stack" "Ranked.stack" s_Ranked_stack f_Ranked_stack d_Ranked_stack
  b_Ranked_stack : Binds K d_Ranked_stack ["self"] []
  m_Ranked_stack : PySem.W.findIn K (.ref C_Ranked) "stack" = some (some (.ref f_Ranked_stack))
  t_Ranked_stack : PySem.W.isFn K (.ref f_Ranked_stack) = true
  y_Ranked_stack : PySem.W.typeIn K (.ref f_Ranked_stack) = some (.type "function")
  k_Ranked_stack : PySem.W.keepIn K (.ref f_Ranked_stack) = true
  f_Ranked_log : Addr
  d_Ranked_log : FuncData
  -- 
  F_Ranked_log : Fun K "log" "Ranked.log" s_Ranked_log f_Ranked_log d_Ranked_log
  b_Ranked_log : Binds K d_Ranked_log ["self"] []
  m_Ranked_log : PySem.W.findIn K (.ref C_Ranked) "log" = some (some (.ref f_Ranked_log))
  t_Ranked_log : PySem.W.isFn K (.ref f_Ranked_log) = true
  y_Ranked_log : PySem.W.typeIn K (.ref f_Ranked_log) = some (.type "function")
  k_Ranked_log : PySem.W.keepIn K (.ref f_Ranked_log) = true
  f_Unions_init : Addr
  d_Unions_init : FuncData
  -- 
  F_Unions_init : Fun K "__init__" "Unions.__init__" s_Unions_init f_Unions_init d_Unions_init
  b_Unions_init : Binds K d_Unions_init ["self", "many"] []
  m_Unions_init : PySem.W.findIn K (.ref C_Unions) "__init__" = some (some (.ref f_Unions_init))
  t_Unions_init : PySem.W.isFn K (.ref f_Unions_init) = true
  y_Unions_init : PySem.W.typeIn K (.ref f_Unions_init) = some (.type "function")
  k_Unions_init : PySem.W.keepIn K (.ref f_Unions_init) = true
  f_Unions_push : Addr
  d_Unions_push : FuncData
  -- 
  F_Unions_push : Fun K "push" "Unions.push" s_Unions_push f_Unions_push d_Unions_push
  b_Unions_push : Binds K d_Unions_push ["self", "pair"] []
  m_Unions_push : PySem.W.findIn K (.ref C_Unions) "push" = some (some (.ref f_Unions_push))
  t_Unions_push : PySem.W.isFn K (.ref f_Unions_push) = true
  y_Unions_push : PySem.W.typeIn K (.ref f_Unions_push) = some (.type "function")
  k_Unions_push : PySem.W.keepIn K (.ref f_Unions_push) = true
  f_Unions_pop : Addr
  d_Unions_pop : FuncData
  -- 
  F_Unions_pop : Fun K "pop" "Unions.pop" s_Unions_pop f_Unions_pop d_Unions_pop
  b_Unions_pop : Binds K d_Unions_pop ["self"] []
  m_Unions_pop : PySem.W.findIn K (.ref C_Unions) "pop" = some (some (.ref f_Unions_pop))
  t_Unions_pop : PySem.W.isFn K (.ref f_Unions_pop) = true
  y_Unions_pop : PySem.W.typeIn K (.ref f_Unions_pop) = some (.type "function")
  k_Unions_pop : PySem.W.keepIn K (.ref f_Unions_pop) = true
  f_Unions_ask : Addr
  d_Unions_ask : FuncData
  -- 
  F_Unions_ask : Fun K "ask" "Unions.ask" s_Unions_ask f_Unions_ask d_Unions_ask
  b_Unions_ask : Binds K d_Unions_ask ["self", "question"] []
  m_Unions_ask : PySem.W.findIn K (.ref C_Unions) "ask" = some (some (.ref f_Unions_ask))
  t_Unions_ask : PySem.W.isFn K (.ref f_Unions_ask) = true
  y_Unions_ask : PySem.W.typeIn K (.ref f_Unions_ask) = some (.type "function")
  k_Unions_ask : PySem.W.keepIn K (.ref f_Unions_ask) = true
  f_Unions_root_of : Addr
  d_Unions_root_of : FuncData
  -- 
  F_Unions_root_of : Fun K "root_of" "Unions.root_of" s_Unions_root_of f_Unions_root_of d_Unions_root_of
  b_Unions_root_of : Binds K d_Unions_root_of ["self", "point"] []
  m_Unions_root_of : PySem.W.findIn K (.ref C_Unions) "root_of" = some (some (.ref f_Unions_root_of))
  t_Unions_root_of : PySem.W.isFn K (.ref f_Unions_root_of) = true
  y_Unions_root_of : PySem.W.typeIn K (.ref f_Unions_root_of) = some (.type "function")
  k_Unions_root_of : PySem.W.keepIn K (.ref f_Unions_root_of) = true
  f_Unions_count_of : Addr
  d_Unions_count_of : FuncData
  -- 
  F_Unions_count_of : Fun K "count_of" "Unions.count_of" s_Unions_count_of f_Unions_count_of d_Unions_count_of
  b_Unions_count_of : Binds K d_Unions_count_of ["self", "root"] []
  m_Unions_count_of : PySem.W.findIn K (.ref C_Unions) "count_of" = some (some (.ref f_Unions_count_of))
  t_Unions_count_of : PySem.W.isFn K (.ref f_Unions_count_of) = true
  y_Unions_count_of : PySem.W.typeIn K (.ref f_Unions_count_of) = some (.type "function")
  k_Unions_count_of : PySem.W.keepIn K (.ref f_Unions_count_of) = true
  f_check_filled : Addr
  d_check_filled : FuncData
  F_check_filled : Fun K "check_filled" "check_filled" s_check_filled f_check_filled d_check_filled
  b_check_filled : Binds K d_check_filled ["held"] []
  g_check_filled : mg "check_filled" = some (.ref f_check_filled)
  f_without : Addr
  d_without : FuncData
  F_without : Fun K "without" "without" s_without f_without d_without
  b_without : Binds K d_without ["held", "numbers"] []
  g_without : mg "without" = some (.ref f_without)
  f_plan_pushes : Addr
  d_plan_pushes : FuncData
  F_plan_pushes : Fun K "plan_pushes" "plan_pushes" s_plan_pushes f_plan_pushes d_plan_pushes
  b_plan_pushes : Binds K d_plan_pushes ["numbers"] []
  g_plan_pushes : mg "plan_pushes" = some (.ref f_plan_pushes)
  f_plan_pops : Addr
  d_plan_pops : FuncData
  F_plan_pops : Fun K "plan_pops" "plan_pops" s_plan_pops f_plan_pops d_plan_pops
  b_plan_pops : Binds K d_plan_pops ["numbers"] []
  g_plan_pops : mg "plan_pops" = some (.ref f_plan_pops)
  f_changed_order : Addr
  d_changed_order : FuncData
  F_changed_order : Fun K "changed_order" "changed_order" s_changed_order f_changed_order d_changed_order
  b_changed_order : Binds K d_changed_order ["order", "entries"] []
  g_changed_order : mg "changed_order" = some (.ref f_changed_order)
  f_total_built : Addr
  d_total_built : FuncData
  F_total_built : Fun K "total_built" "total_built" s_total_built f_total_built d_total_built
  b_total_built : Binds K d_total_built ["many"] []
  g_total_built : mg "total_built" = some (.ref f_total_built)
  f_lowest_power : Addr
  d_lowest_power : FuncData
  F_lowest_power : Fun K "lowest_power" "lowest_power" s_lowest_power f_lowest_power d_lowest_power
  b_lowest_power : Binds K d_lowest_power ["number"] []
  g_lowest_power : mg "lowest_power" = some (.ref f_lowest_power)
  f_is_integer : Addr
  d_is_integer : FuncData
  F_is_integer : Fun K "is_integer" "is_integer" s_is_integer f_is_integer d_is_integer
  b_is_integer : Binds K d_is_integer ["value"] []
  g_is_integer : mg "is_integer" = some (.ref f_is_integer)
  f_check_integer : Addr
  d_check_integer : FuncData
  F_check_integer : Fun K "check_integer" "check_integer" s_check_integer f_check_integer d_check_integer
  b_check_integer : Binds K d_check_integer ["value"] []
  g_check_integer : mg "check_integer" = some (.ref f_check_integer)
  f_check_number : Addr
  d_check_number : FuncData
  F_check_number : Fun K "check_number" "check_number" s_check_number f_check_number d_check_number
  b_check_number : Binds K d_check_number ["value"] []
  g_check_number : mg "check_number" = some (.ref f_check_number)
  f_precedence : Addr
  d_precedence : FuncData
  c_precedence : Addr
  p_precedence : Addr
  F_precedence : FunT K "precedence" "precedence" s_precedence f_precedence d_precedence c_precedence
  b_precedence : Binds K d_precedence ["ranked"] []
  g_precedence : mg "precedence" = some (.ref f_precedence)
  f_plan_removal : Addr
  d_plan_removal : FuncData
  F_plan_removal : Fun K "plan_removal" "plan_removal" s_plan_removal f_plan_removal d_plan_removal
  b_plan_removal : Binds K d_plan_removal ["ranked"] []
  g_plan_removal : mg "plan_removal" = some (.ref f_plan_removal)
  f_l_bag : Addr
  d_l_bag : FuncData
  F_l_bag : Fun K "_law_bag" "_law_bag" s_l_bag f_l_bag d_l_bag
  b_l_bag : Binds K d_l_bag ["_law_script", "_law_at"] []
  g_l_bag : mg "_law_bag" = some (.ref f_l_bag)
  f_l_take : Addr
  d_l_take : FuncData
  F_l_take : Fun K "_law_take" "_law_take" s_l_take f_l_take d_l_take
  b_l_take : Binds K d_l_take ["_law_bag_here", "_law_many"] []
  g_l_take : mg "_law_take" = some (.ref f_l_take)
  f_l_component : Addr
  d_l_component : FuncData
  F_l_component : Fun K "_law_component" "_law_component" s_l_component f_l_component d_l_component
  b_l_component : Binds K d_l_component ["_law_pairs", "_law_point"] []
  g_l_component : mg "_law_component" = some (.ref f_l_component)
  f_l_answer : Addr
  d_l_answer : FuncData
  F_l_answer : Fun K "_law_answer" "_law_answer" s_l_answer f_l_answer d_l_answer
  b_l_answer : Binds K d_l_answer ["_law_pairs", "_law_wide", "_law_question"] []
  g_l_answer : mg "_law_answer" = some (.ref f_l_answer)
  f_l_bound_right : Addr
  d_l_bound_right : FuncData
  F_l_bound_right : Fun K "_law_bound_right" "_law_bound_right" s_l_bound_right f_l_bound_right d_l_bound_right
  b_l_bound_right : Binds K d_l_bound_right ["_law_log", "_law_added", "_law_removed", "_law_present"] []
  g_l_bound_right : mg "_law_bound_right" = some (.ref f_l_bound_right)
  f_l_right : Addr
  d_l_right : FuncData
  F_l_right : Fun K "_law_right" "_law_right" s_l_right f_l_right d_l_right
  b_l_right : Binds K d_l_right ["_law_bag_here", "_law_ranked", "_law_held", "_law_wide"] []
  g_l_right : mg "_law_right" = some (.ref f_l_right)
  c_law : Addr
  p_law : Addr
  pne_precedence_law : p_precedence ≠ p_law
  z_abs : mg "abs" = none
  z_any : mg "any" = none
  z_bool : mg "bool" = none
  z_int : mg "int" = none
  z_isinstance : mg "isinstance" = none
  z_len : mg "len" = none
  z_list : mg "list" = none
  z_max : mg "max" = none
  z_min : mg "min" = none
  z_property : mg "property" = none
  z_range : mg "range" = none
  z_reversed : mg "reversed" = none
  z_sorted : mg "sorted" = none
  u_GREATEST : Value
  v_GREATEST : mg "GREATEST" = some u_GREATEST
  r_GREATEST : RelV (V.int (10 ^ (30 : Nat))) u_GREATEST
  cl_Calls : Cls K C_Calls
  mk_Calls : PySem.W.makesIn K C_Calls = true
  kp_Calls : PySem.W.keepIn K (.ref C_Calls) = true
  n_Calls_entries : NoAttr K C_Calls "entries"
  n_Calls_running : NoAttr K C_Calls "running"
  cl_Outer : Cls K C_Outer
  mk_Outer : PySem.W.makesIn K C_Outer = true
  kp_Outer : PySem.W.keepIn K (.ref C_Outer) = true
  n_Outer_calls : NoAttr K C_Outer "calls"
  n_Outer_push_call : NoAttr K C_Outer "push_call"
  n_Outer_pop_call : NoAttr K C_Outer "pop_call"
  n_Outer_ask_call : NoAttr K C_Outer "ask_call"
  n_Outer_order : NoAttr K C_Outer "order"
  n_Outer_broken : NoAttr K C_Outer "broken"
  cl_Ranked : Cls K C_Ranked
  mk_Ranked : PySem.W.makesIn K C_Ranked = true
  kp_Ranked : PySem.W.keepIn K (.ref C_Ranked) = true
  n_Ranked_outer : NoAttr K C_Ranked "outer"
  n_Ranked_given : NoAttr K C_Ranked "given"
  n_Ranked_held : NoAttr K C_Ranked "held"
  n_Ranked_ranks : NoAttr K C_Ranked "ranks"
  n_Ranked_removals : NoAttr K C_Ranked "removals"
  cl_Unions : Cls K C_Unions
  mk_Unions : PySem.W.makesIn K C_Unions = true
  kp_Unions : PySem.W.keepIn K (.ref C_Unions) = true
  n_Unions_groups : NoAttr K C_Unions "groups"
  n_Unions_parents : NoAttr K C_Unions "parents"
  n_Unions_counts : NoAttr K C_Unions "counts"
  n_Unions_moved : NoAttr K C_Unions "moved"

theorem log_lo {n : Nat} (h : n ≠ 0) : 2 ^ n.log2 ≤ n := Nat.log2_self_le h
theorem log_hi {n : Nat} : n < 2 ^ (n.log2 + 1) := Nat.lt_log2_self
theorem log_lt {n f : Nat} (h : n ≠ 0) (hf : n < 2 ^ f) : n.log2 < f := (Nat.log2_lt h).mpr hf
theorem rest_lt {n : Nat} (h : n ≠ 0) : n - 2 ^ n.log2 < 2 ^ n.log2 := by
  have a := log_hi (n := n)
  have b := log_lo h
  rw [Nat.pow_succ] at a
  omega
theorem rest_lt' {n f : Nat} (h : n ≠ 0) (hf : n < 2 ^ (f + 1)) : n - 2 ^ n.log2 < 2 ^ f := by
  have a := rest_lt h
  have b := log_lt h hf
  have c : 2 ^ n.log2 ≤ 2 ^ f := Nat.pow_le_pow_right (by decide) (by omega)
  omega
/-- the lowest power -/
def low (n : Nat) : Nat := if h : n = 0 then 1 else if n % 2 = 0 then 2 * low (n / 2) else 1
termination_by n
decreasing_by omega
theorem low_even {n : Nat} (h : n ≠ 0) (e : n % 2 = 0) : low n = 2 * low (n / 2) := by
  rw [low, dif_neg h, if_pos e]
theorem low_odd {n : Nat} (e : n % 2 = 1) : low n = 1 := by
  rw [low, dif_neg (by omega), if_neg (by omega)]
theorem low_is : ∀ (j n : Nat), n ≠ 0 → n % 2 ^ j = 0 → ¬ n % 2 ^ (j + 1) = 0 → low n = 2 ^ j
  | 0, n, h, _, e => by
    rw [Nat.zero_add, Nat.pow_one] at e
    exact low_odd (by omega)
  | j + 1, n, h, a, b => by
    have e2 : n % 2 = 0 := by
      rw [Nat.pow_succ] at a
      have := Nat.mod_mod_of_dvd n (show 2 ∣ 2 ^ j * 2 from ⟨2 ^ j, Nat.mul_comm _ _⟩)
      rw [a] at this
      omega
    obtain ⟨m, rfl⟩ : ∃ m, n = 2 * m := ⟨n / 2, by omega⟩
    have hm : m ≠ 0 := by omega
    rw [low_even h e2, Nat.mul_div_cancel_left _ (by decide), Nat.pow_succ, Nat.mul_comm]
    have a' : m % 2 ^ j = 0 := by
      rw [Nat.pow_succ, Nat.mul_comm (2 ^ j) 2, Nat.mul_mod_mul_left] at a
      omega
    have b' : ¬ m % 2 ^ (j + 1) = 0 := fun z => by
      rw [Nat.pow_succ, Nat.mul_comm (2 ^ (j + 1)) 2, Nat.mul_mod_mul_left, z] at b
      exact b rfl
    rw [low_is j m hm a' b']
theorem low_pow (j : Nat) : low (2 ^ j) = 2 ^ j := by
  refine low_is j _ (Nat.pos_iff_ne_zero.mp (Nat.two_pow_pos j)) (Nat.mod_self _) fun z => ?_
  rw [Nat.mod_eq_of_lt (Nat.pow_lt_pow_right (by decide) (by omega))] at z
  have := Nat.two_pow_pos j
  omega

theorem ifT {c : Bool} {A B : Prop} (hc : c = true) (h : A) : if c = true then A else B := by
  rw [if_pos hc]
  exact h
theorem ifF {c : Bool} {A B : Prop} (hc : c = false) (h : B) : if c = true then A else B := by
  rw [hc, if_neg Bool.false_ne_true]
  exact h
theorem dF {p : Prop} [Decidable p] (h : ¬ p) : decide p = false := decide_eq_false h
theorem dT {p : Prop} [Decidable p] (h : p) : decide p = true := decide_eq_true h
theorem bits_nat {n : Nat} (h : n ≠ 0) : (Builtin.Int.intBits (n : Int) : Nat) = n.log2 + 1 := by
  unfold Builtin.Int.intBits
  rw [if_neg (show ¬ ((n : Int) == 0) = true by simpa using (show (n : Int) ≠ 0 by omega))]
  rfl
theorem gp_eq {n : Nat} (h : n ≠ 0) : (1 : Int) * 2 ^ (((Builtin.Int.intBits (n : Int) : Nat) : Int) - 1).toNat = ((2 ^ n.log2 : Nat) : Int) := by
  rw [bits_nat h, show (((n.log2 + 1 : Nat) : Int) - 1).toNat = n.log2 by omega, Int.one_mul]
  exact (PySem.W.kbt_cast _).symm
theorem gp_ok {n : Nat} (h : n ≠ 0) (hn : n < 2 ^ 200) : CShl 1 (((Builtin.Int.intBits (n : Int) : Nat) : Int) - 1) := by
  have a := log_lt h hn
  rw [bits_nat h, show (((n.log2 + 1 : Nat) : Int) - 1) = (n.log2 : Int) by omega]
  exact shl_ok (n := 1) (by decide) (by omega)
theorem nat_cast_lt {a : Nat} {n : Nat} (h : n < 2 ^ a) : (n : Int).natAbs < 2 ^ a := h
theorem pow_nat (k : Nat) : (2 : Int) ^ k = ((2 ^ k : Nat) : Int) := (PySem.W.kbt_cast k).symm
theorem p10 : (10 : Int) ^ Int.toNat 30 = ((10 ^ 30 : Nat) : Int) := by decide +kernel
theorem le6 : 6 ≤ sizeLine := by decide
theorem p100 : (10 ^ 30 : Nat) < 2 ^ 100 := by decide +kernel
def intAt (σ : L2.St) (i : Nat) : Nat := match σ[i]? with
  | some (some (V.int r)) => r.toNat
  | _ => 0
theorem le2 : 2 ≤ sizeLine := by decide
theorem cdiv_nat (a b : Nat) : ((a : Int) / (b : Int)) = ((a / b : Nat) : Int) := rfl

/-! ### heaps -/
theorem same_put {H H1 : Hp} {p : Addr} {o : HO} (h : Same H H1) (n : H p = none) : Same H (upd H1 p o) := fun b u e => by
  rw [upd_ne (ne_of_none e n)]
  exact h b u e
theorem same_new {H : Hp} {p : Addr} {o : HO} (n : H p = none) : Same H (upd H p o) := same_put (Same.refl H) n
theorem same_no {H H1 : Hp} {p : Addr} (h : Same H H1) (n : H1 p = none) : H p = none := h.free n
/-- all but p is as it was -/
def But (p : Addr) (H H' : Hp) : Prop := ∀ b o, H b = some o → b ≠ p → H' b = some o
theorem but_refl (p : Addr) (H : Hp) : But p H H := fun _ _ h _ => h
theorem but_trans {p : Addr} {H H1 H2 : Hp} (a : But p H H1) (b : But p H1 H2) : But p H H2 := fun c o h n => b c o (a c o h n) n
theorem but_of_same {p : Addr} {H H1 : Hp} (a : Same H H1) : But p H H1 := fun c o h _ => a c o h
theorem but_upd (p : Addr) (H : Hp) (o : HO) : But p H (upd H p o) := fun b u e n => by
  rw [upd_ne n]
  exact e
theorem but_fresh {p : Addr} {H0 H H1 : Hp} (s : Same H0 H) (n : H0 p = none) (b : But p H H1) : Same H0 H1 := fun c o e => b c o (s c o e) (ne_of_none e n)
/-! ### a bag of digits -/
def Bag (H : Hp) (p : Addr) : Prop := ∃ g m c : Int, H p = some (.lst [.int g, .int m, .int c]) ∧ 0 ≤ g ∧ 0 ≤ m ∧ m < 2147483648
theorem fm0 {a b : Int} (h : 0 < b) : 0 ≤ a.fmod b := by
  rw [Int.fmod_eq_emod_of_nonneg a (by omega)]
  exact Int.emod_nonneg a (by omega)
theorem fm1 {a b : Int} (h : 0 < b) : a.fmod b < b := by
  rw [Int.fmod_eq_emod_of_nonneg a (by omega)]
  exact Int.emod_lt_of_pos a h
theorem nz1 : (2147483647 : Int) ≠ 0 := by decide
theorem nz2 : (2147483629 : Int) ≠ 0 := by decide
section
variable {P : Program} {w : World} {K : PySem.W.Frag} {mg : Str → Option Value} {base : Heap}
def spTake : Sp := fun vs H Q _ => ∃ (p : Addr) (n : Int), vs = [.ref p, .int n] ∧ Bag H p ∧ 0 < n ∧ n.natAbs < 2 ^ 200 ∧
  ∀ r H', 0 ≤ r → r < n → Bag H' p → But p H H' → Q (.int r) H'
theorem ok_take (T : Txt K mg) : FnOk P w K mg base CX0 1 T.f_l_take T.d_l_take ["_law_bag_here", "_law_many"] spTake := by
  refine T.F_l_take.ok sc_l_take (fun vs H Q E h => ?_) (fun cdv A outer s H vs Q E hr h => ?_)
  · obtain ⟨p, n, rfl, _⟩ := h
    rfl
  · obtain ⟨p, n, rfl, ⟨g, m, c, hb, g0, m0, m1⟩, n0, n1, q⟩ := h
    refine ⟨_, (pss_cons (ps_if (pt_cmpR op_gt (pe_ix (r := rIxL K) ix_list (pv 0) pe_int (fun _ _ => rfl)) pe_int (nomark _)) (pss_cons (ps_set (i := 2) sc_l_take.nd rfl (.inl rfl) (pe_op op_modN (pe_ix (r := rIxL K) ix_list (pv 0) pe_int (fun _ _ => rfl)) (pv 1)))
        (pss_cons (ps_asg (pe_op op_fdivW (pe_ix (r := rIxL K) ix_list (pv 0) pe_int (fun _ _ => rfl)) (pv 1)) (pg_sub (pv 0) pe_int set_list))
        (pss_one (ps_ret (pv 2))))) pss_nil)
      (pss_cons (ps_asg (pe_op op_add (pe_ix (r := rIxL K) ix_list (pv 0) pe_int (fun _ _ => rfl)) pe_int) (pg_sub (pv 0) pe_int set_list))
      (pss_cons (ps_asg (pe_op op_modN (pe_op op_add (pe_op op_add (pe_op op_mul (pe_ix (r := rIxL K) ix_list (pv 0) pe_int (fun _ _ => rfl)) pe_int) (pe_op op_mul pe_int (pe_ix (r := rIxL K) ix_list (pv 0) pe_int (fun _ _ => rfl)))) pe_int) pe_int) (pg_sub (pv 0) pe_int set_list))
      (pss_one (ps_ret (pe_op op_modN (pe_op op_modN (pe_op op_pow (pe_op op_fdivW (pe_ix (r := rIxL K) ix_list (pv 0) pe_int (fun _ _ => rfl)) pe_int) pe_int) pe_int) (pv 1))))))), ?_⟩
    have hB : SqL K H p [.int g, .int m, .int c] := .inl (.inl hb)
    refine ⟨_, rfl, p, _, 0, .int g, rfl, rfl, hB, atI_nat (j := 0) rfl, _, _, rfl, rfl, _, rfl, ite2 (fun e => ?_) (fun e => ?_)⟩
    · refine ⟨_, rfl, p, _, 0, .int g, rfl, rfl, hB, atI_nat (j := 0) rfl, _, rfl, _, _, rfl, rfl, (by omega), ?_⟩
      refine ⟨_, rfl, p, _, 0, .int g, rfl, rfl, hB, atI_nat (j := 0) rfl, _, rfl, _, _, rfl, rfl, wide_div n0 n1 (by decide) (by decide), ?_⟩
      refine ⟨_, rfl, p, _, _, 0, rfl, rfl, hb, rfl, ?_⟩
      refine ⟨_, rfl, ?_⟩
      exact q _ _ (fm0 n0) (fm1 n0) ⟨g / n, m, c, upd_same, Int.ediv_nonneg g0 (by omega), m0, m1⟩ (but_upd _ _ _)
    · refine ⟨_, rfl, p, _, 2, .int c, rfl, rfl, hB, atI_nat (j := 2) rfl, _, _, rfl, rfl, ?_⟩
      refine ⟨_, rfl, p, _, _, 2, rfl, rfl, hb, rfl, ?_⟩
      have h2 : upd H p (.lst [.int g, .int m, .int (c + 1)]) p = some (.lst [.int g, .int m, .int (c + 1)]) := upd_same
      have hB2 : SqL K (upd H p (.lst [.int g, .int m, .int (c + 1)])) p [.int g, .int m, .int (c + 1)] := .inl (.inl h2)
      refine ⟨_, rfl, p, _, 1, .int m, rfl, rfl, hB2, atI_nat (j := 1) rfl, _, _, rfl, rfl, .inr ⟨by decide, by decide⟩, _, rfl, p, _, 2, .int (c + 1), rfl, rfl, hB2, atI_nat (j := 2) rfl, _, _, rfl, rfl, .inl ⟨by decide, by decide⟩, _, _, rfl, rfl, _, _, rfl, rfl, _, _, rfl, rfl, nz1, ?_⟩
      refine ⟨_, rfl, p, _, _, 1, rfl, rfl, h2, rfl, ?_⟩
      have m0' := fm0 (a := m * 48271 + 6661 * (c + 1) + 17) (show (0 : Int) < 2147483647 by decide)
      have m1' := fm1 (a := m * 48271 + 6661 * (c + 1) + 17) (show (0 : Int) < 2147483647 by decide)
      refine ⟨_, rfl, p, _, 1, _, rfl, rfl, .inl (.inl upd_same), atI_nat (j := 1) rfl, _, _, rfl, rfl, ⟨by decide, by decide⟩, _, _, rfl, rfl, ⟨by decide, by decide, ?_⟩, _, _, rfl, rfl, nz2, _, rfl, _, _, rfl, rfl, (by omega), ?_⟩
      · omega
      exact q _ _ (fm0 n0) (fm1 n0) ⟨g, _, c + 1, upd_same, g0, m0', by omega⟩ (but_trans (but_upd _ _ _) (but_upd _ _ _))
theorem le3 : 3 ≤ sizeLine := by decide
theorem nz3 : (8 : Int) ≠ 0 := by decide
theorem primes_at (k : Nat) : ∃ v : Int, 0 < v ∧ v < 2147483648 ∧ atI [V.int 2147483629, V.int 2147483587, V.int 2147483579, V.int 2147483563, V.int 2147483549, V.int 2147483543, V.int 2147483497, V.int 2147483489] ((k : Int).fmod 8) = some (.int v) := by
  have e : (k : Int).fmod 8 = ((k % 8 : Nat) : Int) := by
    rw [Int.fmod_eq_emod_of_nonneg _ (by decide)]
    rfl
  have h : k % 8 < 8 := Nat.mod_lt _ (by decide)
  rw [e]
  generalize k % 8 = j at h
  match j, h with
  | 0, _ => exact ⟨_, by decide, by decide, atI_nat (j := 0) rfl⟩
  | 1, _ => exact ⟨_, by decide, by decide, atI_nat (j := 1) rfl⟩
  | 2, _ => exact ⟨_, by decide, by decide, atI_nat (j := 2) rfl⟩
  | 3, _ => exact ⟨_, by decide, by decide, atI_nat (j := 3) rfl⟩
  | 4, _ => exact ⟨_, by decide, by decide, atI_nat (j := 4) rfl⟩
  | 5, _ => exact ⟨_, by decide, by decide, atI_nat (j := 5) rfl⟩
  | 6, _ => exact ⟨_, by decide, by decide, atI_nat (j := 6) rfl⟩
  | 7, _ => exact ⟨_, by decide, by decide, atI_nat (j := 7) rfl⟩
  | n + 8, h => exact absurd h (by omega)
def spBag (K : PySem.W.Frag) : Sp := fun vs H Q _ => ∃ (a : Addr) (ns : List Int) (k : Nat), vs = [.ref a, .int (k : Int)] ∧ SqL K H a (ns.map V.int) ∧ k ≤ 1000 ∧
  ∀ p H', H p = none → Same H H' → Bag H' p → Q (.ref p) H'
theorem ok_bag (T : Txt K mg) : FnOk P w K mg base CX0 1 T.f_l_bag T.d_l_bag ["_law_script", "_law_at"] (spBag K) := by
  refine T.F_l_bag.ok sc_l_bag (fun vs H Q E h => ?_) (fun cdv A outer s H vs Q E hr h => ?_)
  · obtain ⟨a, ns, k, rfl, _⟩ := h
    rfl
  · obtain ⟨a, ns, k, rfl, hS, hk, q⟩ := h
    refine ⟨_, (pss_cons (ps_set (i := 2) sc_l_bag.nd rfl (.inl rfl) pe_int)
      (C8.pss_cut (ps_if (pt_cmpR op_lt (pv 1) (pe_callB call_len_seq (by rfl) T.z_len (by decide +kernel) (pa_cons (pv 0) pa_nil)) (nomark _)) (pss_one (ps_set (i := 2) sc_l_bag.nd rfl (.inl rfl) (pe_ix (r := rIxL K) ix_list (pv 0) (pv 1) (fun _ _ => rfl)))) pss_nil)
      (pss_cons (ps_set (i := 3) sc_l_bag.nd rfl (.inl rfl) pe_int)
      (C8.pss_cut (ps_if (pt_cmpR op_ge (pe_callB call_abs (by rfl) T.z_abs (by decide +kernel) (pa_cons (pv 2) pa_nil)) (pe_op op_pow pe_int pe_int) (nomark _)) (pss_one (ps_set (i := 3) sc_l_bag.nd rfl (.inl rfl) (pe_callB call_abs (by rfl) T.z_abs (by decide +kernel) (pa_cons (pv 2) pa_nil)))) pss_nil)
      (pss_cons (ps_set (i := 4) sc_l_bag.nd rfl (.inl rfl) (pe_lst (pa_cons pe_int (pa_cons pe_int (pa_cons pe_int (pa_cons pe_int (pa_cons pe_int (pa_cons pe_int (pa_cons pe_int (pa_cons pe_int pa_nil))))))))))
      (pss_one (ps_ret (pe_lst (pa_cons (pv 3) (pa_cons (pe_op op_modN (pe_op op_pow (pe_op op_add (pe_op op_add (pe_op op_modN (pv 2) pe_int) (pe_op op_mul pe_int (pv 1))) pe_int) pe_int) (pe_ix (r := rIxL K) ix_list (pv 4) (pe_op op_modN (pv 1) pe_int) (fun _ _ => rfl))) (pa_cons pe_int pa_nil))))))))))), ?_⟩
    refine ⟨fun σ' H' => H' = H ∧ ∃ c : Int, σ' = [some (.ref a), some (.int (k : Int)), some (.int c), none, none], ?_, fun σ' H' hM => ?_⟩
    · refine ⟨_, rfl, _, rfl, a, _, rfl, .inl hS, _, _, rfl, rfl, _, rfl, ite2 (fun e => ?_) (fun e => ?_)⟩
      · have e2 := of_decide_eq_true e
        have e3 : k < ns.length := by
          rw [List.length_map] at e2
          omega
        have e4 : (ns.map V.int)[k]? = some (.int ns[k]) := by
          rw [List.getElem?_map, List.getElem?_eq_getElem e3]
          rfl
        exact ⟨_, rfl, _, rfl, a, _, _, _, rfl, rfl, hS, atI_nat e4, rfl, _, rfl⟩
      · exact ⟨rfl, _, rfl⟩
    · obtain ⟨rfl, c, rfl⟩ := hM
      refine ⟨fun σ'' H'' => H'' = H' ∧ ∃ g : Int, σ'' = [some (.ref a), some (.int (k : Int)), some (.int c), some (.int g), none] ∧ 0 ≤ g, ?_, fun σ'' H'' hM => ?_⟩
      · refine ⟨_, rfl, _, rfl, _, _, rfl, rfl, ⟨by decide, by decide, by decide⟩, _, _, rfl, rfl, _, rfl, ite2 (fun e => ?_) (fun e => ?_)⟩
        · refine ⟨_, rfl, _, rfl, rfl, _, rfl, ?_⟩
          split <;> omega
        · exact ⟨rfl, _, rfl, by decide⟩
      · obtain ⟨rfl, g, rfl, g0⟩ := hM
        refine ⟨by decide, fun o no => ?_⟩
        obtain ⟨v, v0, v1, hv⟩ := primes_at k
        have h0 := fm0 (a := c) (show (0 : Int) < 2147483647 by decide)
        have h1 := fm1 (a := c) (show (0 : Int) < 2147483647 by decide)
        refine ⟨_, rfl, _, rfl, _, _, rfl, rfl, nz1, _, rfl, _, _, rfl, rfl, .inl ⟨by decide, by decide⟩, _, _, rfl, rfl, _, _, rfl, rfl, _, _, rfl, rfl, ⟨by decide, by decide, by omega⟩, _, rfl, _, rfl, _, _, rfl, rfl, nz3, o, _, _, _, rfl, rfl, .inl (.inl upd_same), hv, _, _, rfl, rfl, by omega, ?_⟩
        refine ⟨le3, fun p np => ?_⟩
        have np' : H'' p = none := (same_new no).free np
        exact q _ _ np' (same_put (same_new no) np') ⟨g, _, 0, upd_same, g0, fm0 v0, by have := fm1 (a := (c.fmod 2147483647 + 104717 * (k : Int) + 13) ^ Int.toNat 5) v0; omega⟩
end
theorem but_put {p q : Addr} {H H1 : Hp} {o : HO} (b : But p H H1) (n : H1 q = none) : But p H (upd H1 q o) := fun c u e nc => by
  have e1 := b c u e nc
  rw [upd_ne (ne_of_none e1 n)]
  exact e1
theorem bag_put {p q : Addr} {H : Hp} {o : HO} (b : Bag H p) (n : H q = none) : Bag (upd H q o) p := by
  obtain ⟨g, m, c, e, r⟩ := b
  exact ⟨g, m, c, by rw [upd_ne (ne_of_none e n)]; exact e, r⟩
theorem bag_same {p : Addr} {H H1 : Hp} (b : Bag H p) (s : Same H H1) : Bag H1 p := by
  obtain ⟨g, m, c, e, r⟩ := b
  exact ⟨g, m, c, s _ _ e, r⟩
theorem bag_ne {p q : Addr} {H : Hp} (b : Bag H p) (n : H q = none) : q ≠ p := by
  obtain ⟨g, m, c, e, r⟩ := b
  exact (ne_of_none e n).symm

/-- the sum of the lowest powers, by halves -/
def tot (n : Nat) : Nat := if h : n = 0 then 0 else (n - n / 2) + 2 * tot (n / 2)
termination_by n
decreasing_by omega
theorem tot_zero : tot 0 = 0 := by
  rw [tot]
  exact dif_pos rfl
theorem tot_pos {n : Nat} (h : n ≠ 0) : tot n = (n - n / 2) + 2 * tot (n / 2) := by
  rw [tot]
  exact dif_neg h
theorem tot_all (n : Nat) : tot n = (n - n / 2) + 2 * tot (n / 2) := by
  by_cases h : n = 0
  · subst h
    rw [tot_zero]
  · exact tot_pos h

end Ob

set_option Elab.async false
set_option linter.all false
set_option maxRecDepth 100000
set_option maxHeartbeats 1000000
namespace Ob
open PySem PySem.Spec PyProof.Rows L2
open LamX (Tabs TabB TabS ExtN)

/-- nothing stands there -/
structure Fr (H : Hp) (p : Addr) : Prop where
  h : H p = none
theorem neN {H : Hp} {a b : Addr} {o : HO} (h' : Fr H b) (h : H a = some o) : a ≠ b := ne_of_none h h'.h
theorem neN' {H : Hp} {a b : Addr} {o : HO} (h' : Fr H a) (h : H b = some o) : a ≠ b := (ne_of_none h h'.h).symm
theorem atNew {H : Hp} {a p : Addr} {o u : HO} (n : Fr H p) (h : H a = some o) : upd H p u a = some o := (upd_ne (ne_of_none h n.h)).trans h
theorem atNe {H : Hp} {a p : Addr} {o u : HO} (n : a ≠ p) (h : H a = some o) : upd H p u a = some o := (upd_ne n).trans h
theorem atSame {H H1 : Hp} {a : Addr} {o : HO} (s : Same H H1) (h : H a = some o) : H1 a = some o := s _ _ h
/-- all is kept but what stands in cs -/
structure Kp (cs : List Addr) (H H' : Hp) : Prop where
  at_ : ∀ b o, H b = some o → b ∉ cs → H' b = some o
theorem kp_refl (cs : List Addr) (H : Hp) : Kp cs H H := ⟨fun _ _ e _ => e⟩
theorem kp_trans {cs : List Addr} {H H1 H2 : Hp} (a : Kp cs H H1) (b : Kp cs H1 H2) : Kp cs H H2 := ⟨fun c o e n => b.at_ c o (a.at_ c o e n) n⟩
theorem kp_up {cs : List Addr} {H H1 : Hp} {a : Addr} {o : HO} (m : a ∈ cs) (h : Kp cs H H1) : Kp cs H (upd H1 a o) := ⟨fun b u e n => by
  rw [upd_ne (show b ≠ a from fun z => n (by rw [z]; exact m))]
  exact h.at_ b u e n⟩
theorem kp_new {cs : List Addr} {H H1 : Hp} {a : Addr} {o : HO} (m : Fr H1 a) (h : Kp cs H H1) : Kp cs H (upd H1 a o) := ⟨fun b u e n => by
  rw [upd_ne (ne_of_none (h.at_ b u e n) m.h)]
  exact h.at_ b u e n⟩
theorem kp_newF {cs : List Addr} {H H1 : Hp} {a : Addr} {o : HO} (m : Fr H a) (h : Kp cs H H1) : Kp cs H (upd H1 a o) := ⟨fun b u e n => by
  rw [upd_ne (ne_of_none e m.h)]
  exact h.at_ b u e n⟩
theorem kp_same {cs : List Addr} {H H1 : Hp} (s : Same H H1) : Kp cs H H1 := ⟨fun b o e _ => s b o e⟩
theorem kp_more {cs ds : List Addr} {H H1 : Hp} (h : Kp cs H H1) (m : ∀ a ∈ cs, a ∈ ds) : Kp ds H H1 := ⟨fun b o e n => h.at_ b o e fun z => n (m b z)⟩
/-- what is changed is new, as H sees it -/
theorem kp_fresh {cs ds : List Addr} {H H1 H2 : Hp} (a : Kp cs H H1) (b : Kp ds H1 H2) (n : ∀ x ∈ ds, x ∈ cs ∨ Fr H x) : Kp cs H H2 := ⟨fun x o e m => b.at_ x o (a.at_ x o e m) fun z => (n x z).elim m fun f => ne_of_none e f.h rfl⟩
theorem atKp {cs : List Addr} {H H1 : Hp} {a : Addr} {o : HO} (s : Kp cs H H1) (n : a ∉ cs) (h : H a = some o) : H1 a = some o := s.at_ _ _ h n
theorem not_nil {a : Addr} : a ∉ ([] : List Addr) := fun z => nomatch z
theorem not_cons {a b : Addr} {l : List Addr} (h : a ≠ b) (t : a ∉ l) : a ∉ b :: l := fun z => (List.mem_cons.mp z).elim h t
theorem not_app {a : Addr} {l m : List Addr} (h : a ∉ l) (t : a ∉ m) : a ∉ l ++ m := fun z => (List.mem_append.mp z).elim h t
theorem sqlOf {K : PySem.W.Frag} {H : Hp} {a : Addr} {xs : List V} (h : H a = some (.lst xs)) : SqL K H a xs := .inl (.inl h)
theorem sqtOf {K : PySem.W.Frag} {H : Hp} {a : Addr} {xs : List V} (h : H a = some (.tup xs)) : SqT K H a xs := .inl (.inl h)
theorem sqlSame {K : PySem.W.Frag} {H H1 : Hp} {a : Addr} {xs : List V} (s : Same H H1) (h : SqL K H a xs) : SqL K H1 a xs := s.seq h
theorem neO {H : Hp} {a b : Addr} {x y : HO} (ha : H a = some x) (hb : H b = some y) (n : x ≠ y) : a ≠ b := fun z => by
  rw [z, hb] at ha
  exact n (Option.some.inj ha).symm
theorem noneOf {H H1 : Hp} {p : Addr} (h : Fr H1 p) (k : ∀ o, H p = some o → ∃ u, H1 p = some u) : Fr H p := ⟨by
  cases e : H p with
  | none => rfl
  | some o =>
    obtain ⟨u, z⟩ := k o e
    rw [h.h] at z
    cases z⟩
theorem same_newF {H : Hp} {p : Addr} {o : HO} (n : Fr H p) : Same H (upd H p o) := same_new n.h
theorem same_putF {H H1 : Hp} {p : Addr} {o : HO} (n : Fr H1 p) (h : Same H H1) : Same H (upd H1 p o) := h.trans (same_new n.h)
theorem same_putG {H H1 : Hp} {p : Addr} {o : HO} (n : Fr H p) (h : Same H H1) : Same H (upd H1 p o) := same_put h n.h
theorem memA {a : Addr} {l : List Addr} : a ∈ a :: l := List.mem_cons_self ..
theorem memB {a b : Addr} {l : List Addr} (h : a ∈ l) : a ∈ b :: l := List.mem_cons_of_mem _ h
theorem memL {a : Addr} {l m : List Addr} (h : a ∈ l) : a ∈ l ++ m := List.mem_append.mpr (.inl h)
theorem memR {a : Addr} {l m : List Addr} (h : a ∈ m) : a ∈ l ++ m := List.mem_append.mpr (.inr h)
theorem kp_transR {cs : List Addr} {H H1 H2 : Hp} (b : Kp cs H1 H2) (a : Kp cs H H1) : Kp cs H H2 := kp_trans a b
theorem kp_sameR {cs : List Addr} {H H1 H2 : Hp} (b : Same H1 H2) (a : Kp cs H H1) : Kp cs H H2 := kp_trans a (kp_same b)
theorem kp_freshR {cs ds : List Addr} {H H1 H2 : Hp} (b : Kp ds H1 H2) (n : ∀ x ∈ ds, x ∈ cs ∨ Fr H x) (a : Kp cs H H1) : Kp cs H H2 := kp_fresh a b n
theorem same_transR {H H1 H2 : Hp} (b : Same H1 H2) (a : Same H H1) : Same H H2 := a.trans b
theorem subNil {P : Addr → Prop} : ∀ x ∈ ([] : List Addr), P x := fun _ h => nomatch h
theorem subCons {P : Addr → Prop} {a : Addr} {l : List Addr} (h : P a) (t : ∀ x ∈ l, P x) : ∀ x ∈ a :: l, P x := fun x m => (List.mem_cons.mp m).elim (fun e => by rw [e]; exact h) (t x)
theorem subApp {P : Addr → Prop} {l m : List Addr} (h : ∀ x ∈ l, P x) (t : ∀ x ∈ m, P x) : ∀ x ∈ l ++ m, P x := fun x e => (List.mem_append.mp e).elim (h x) (t x)
theorem sqtAll {K : PySem.W.Frag} {H : Hp} {a : Addr} {xs : List V} (h : ∀ H, SqT K H a xs) : SqT K H a xs := h H
theorem sqtSame {K : PySem.W.Frag} {H H1 : Hp} {a : Addr} {xs : List V} (s : Same H H1) (h : SqT K H a xs) : SqT K H1 a xs := by
  rcases h with (h | ⟨o, h⟩) | h
  · exact .inl (.inl (s _ _ h))
  · exact .inl (.inr ⟨o, s _ _ h⟩)
  · exact .inr h
theorem frUp {H : Hp} {a p : Addr} {o : HO} (n : p ≠ a) (h : Fr H p) : Fr (upd H a o) p := ⟨by rw [upd_ne n]; exact h.h⟩
theorem bag_putF {p q : Addr} {H : Hp} {o : HO} (n : Fr H q) (b : Bag H p) : Bag (upd H q o) p := bag_put b n.h
theorem bag_kpR {p : Addr} {cs : List Addr} {H H1 : Hp} (k : Kp cs H H1) (n : p ∉ cs) (h : Bag H p) : Bag H1 p := by
  obtain ⟨g, m, c, e, z⟩ := h
  exact ⟨g, m, c, k.at_ _ _ e n, z⟩

/-- a promise that a run does not open by itself -/
structure Bx (p : Prop) : Prop where
  h : p
def bx (sp : Sp) : Sp := fun vs H Q E => Bx (sp vs H Q E)
theorem fnBx {P : Program} {w : World} {K : PySem.W.Frag} {mg : Str → Option Value} {base : Heap} {CX : CXT} {k : Nat} {f : Addr} {fd : FuncData} {ps : List Str} {sp : Sp} (F : FnOk P w K mg base CX k f fd ps sp) : FnOk P w K mg base CX k f fd ps (bx sp) := F.imp fun _ _ _ _ h => h.h

end Ob

set_option Elab.async false
set_option linter.all false
set_option maxRecDepth 100000
set_option maxHeartbeats 1000000
namespace Ob
open PySem PySem.Spec PyProof.Rows L2
open LamX (Tabs TabB TabS ExtN)

set_option hygiene false in
local macro_rules
  | `(tactic| kp_flats) => `(tactic| first
    | assumption
    | exact upd_same
    | (apply atNew; assumption; kp_flats)
    | (apply atNe; (next => kbo_bools); kp_flats)
    | (apply atSame; assumption; kp_flats)
    | (apply atKp; assumption; (next => kaf_pre); kp_flats))
set_option hygiene false in
local macro_rules
  | `(tactic| kaf_pre) => `(tactic| first
    | assumption
    | exact not_nil
    | (apply not_cons; (next => kbo_bools); kaf_pre)
    | (apply not_app; (next => kaf_pre); kaf_pre))
set_option hygiene false in
local macro_rules
  | `(tactic| kbo_bools) => `(tactic| first
    | assumption
    | (apply Ne.symm; assumption)
    | (apply neN; assumption; kp_flats)
    | (apply neN'; assumption; kp_flats))
set_option hygiene false in
local macro_rules
  | `(tactic| o_reads) => `(tactic| first
    | with_reducible rfl
    | assumption
    | rfl
    | kp_flats
    | (show SqL _ _ _ _; first | assumption | (apply sqlOf; kp_flats) | (apply sqlSame; assumption; o_reads))
    | (show SqT _ _ _ _; first | assumption | (apply sqtOf; kp_flats) | (apply sqtAll; assumption) | (apply sqtSame; assumption; o_reads))
    | (show Cls _ _; first | exact T.cl_Calls | exact T.cl_Outer | exact T.cl_Ranked | exact T.cl_Unions)
    | (show NoAttr _ _ _; first | exact T.n_Calls_entries | exact T.n_Calls_running | exact T.n_Outer_calls | exact T.n_Outer_push_call | exact T.n_Outer_pop_call | exact T.n_Outer_ask_call | exact T.n_Outer_order | exact T.n_Outer_broken | exact T.n_Ranked_outer | exact T.n_Ranked_given | exact T.n_Ranked_held | exact T.n_Ranked_ranks | exact T.n_Ranked_removals | exact T.n_Unions_groups | exact T.n_Unions_parents | exact T.n_Unions_counts | exact T.n_Unions_moved)
    | (apply Or.inl; o_reads)
    | (apply Or.inr; o_reads)
    | (apply And.intro; (next => o_reads); o_reads)
    | (apply Exists.intro; o_reads)
    | exact Nat.le_of_ble_eq_true rfl
    | exact Nat.succ_ne_zero _
    | (show Fr _ _; kba_ints)
    | (show Same _ _; kd_subs)
    | (show Kp _ _ _; kxs_still)
    | (show (_ : Nat) ≤ _; simp only [List.length_append, List.length_map, List.length_cons, List.length_nil, List.length_take, List.length_drop, List.length_replicate, List.length_range, sizeLine_eq]; omega)
    | (show _ = none; apply Fr.h; kba_ints)
    | (show Bag _ _; first | assumption | (apply bag_putF; assumption; o_reads) | (apply bag_neF; (next => kbo_bools); o_reads) | (apply bag_kpR; assumption; (next => kaf_pre); o_reads))
    | omega
    | decide)
local macro_rules
  | `(tactic| o_readsAll) => `(tactic| repeat (first
    | (refine fun (pNew : Addr) (nNew : _ = none) => ?_; replace nNew := Fr.mk nNew)
    | (refine fun (xNew dNew : Addr) (nNew : _ = none) (mNew : _ = none) (eNew : dNew ≠ xNew) => ?_; replace nNew := Fr.mk nNew; replace mNew := Fr.mk mNew)
    | (apply And.intro; next => o_reads)
    | apply Exists.intro (α := V)
    | apply Exists.intro (α := Addr)
    | apply Exists.intro (α := Int)
    | apply Exists.intro (α := Bool)
    | apply Exists.intro (α := List V)
    | apply Exists.intro (α := List Nat)
    | apply Exists.intro (α := List (Str × V))
    | apply Exists.intro (α := List _)
    | apply Exists.intro (α := Str)
    | apply Exists.intro (α := HO)
    | apply Exists.intro (α := Sp)
    | apply Exists.intro (α := VK)))
set_option hygiene false in
local macro_rules
  | `(tactic| kba_ints) => `(tactic| first
    | assumption
    | (apply frUp; (first | assumption | (apply Ne.symm; assumption)); kba_ints)
    | (apply noneOf; assumption; intro oF eF; apply Exists.intro; kp_flats)
    | (apply frUp; (next => kbo_bools); kba_ints))
set_option hygiene false in
local macro_rules
  | `(tactic| kxs_still) => `(tactic| first
    | assumption
    | exact kp_refl _ _
    | (apply kp_newF; assumption; kxs_still)
    | (apply kp_new; assumption; kxs_still)
    | (apply kp_up; (next => o_fieldsN); kxs_still)
    | (apply kp_new; (next => kba_ints); kxs_still)
    | (apply kp_sameR; assumption; kxs_still)
    | (apply kp_transR; assumption; kxs_still)
    | (apply kp_freshR; assumption; (next => kaf_suf); kxs_still))
set_option hygiene false in
local macro_rules
  | `(tactic| kaf_suf) => `(tactic| first
    | assumption
    | exact subNil
    | (apply subCons; (first | (apply Or.inl; o_fieldsN) | (apply Or.inr; kba_ints)); kaf_suf)
    | (apply subApp; (next => kaf_suf); kaf_suf))
set_option hygiene false in
local macro_rules
  | `(tactic| o_fieldsN) => `(tactic| first
    | assumption
    | exact memA
    | (apply memB; o_fieldsN)
    | (apply memL; o_fieldsN)
    | (apply memR; o_fieldsN))
set_option hygiene false in
local macro_rules
  | `(tactic| kd_subs) => `(tactic| first
    | assumption
    | exact Same.refl _
    | (apply same_putF; assumption; kd_subs)
    | (apply same_putG; assumption; kd_subs)
    | (apply same_putF; (next => kba_ints); kd_subs)
    | (apply same_transR; assumption; kd_subs))

def Mu (H : Hp) (cs : List Addr) : Prop := ∀ a ∈ cs, ∃ o, H a = some o ∧ (∀ xs, o ≠ .tup xs) ∧ ∀ φ, o ≠ .ext φ
theorem Mu.tup {H : Hp} {cs : List Addr} {t : Addr} {xs : List V} (n : Mu H cs) (h : H t = some (.tup xs)) : t ∉ cs := fun m => by
  obtain ⟨o, e, k, _⟩ := n t m
  rw [h] at e
  exact k xs (Option.some.inj e).symm
theorem Mu.ext {H : Hp} {cs : List Addr} {t : Addr} {φ : Heap → Prop} (n : Mu H cs) (h : H t = some (.ext φ)) : t ∉ cs := fun m => by
  obtain ⟨o, e, _, k⟩ := n t m
  rw [h] at e
  exact k φ (Option.some.inj e).symm
theorem Mu.fr {H : Hp} {cs : List Addr} {a : Addr} (n : Mu H cs) (f : Fr H a) : a ∉ cs := fun m => by
  obtain ⟨o, e, _⟩ := n a m
  rw [f.h] at e
  cases e
theorem Mu.sub {H : Hp} {cs ds : List Addr} (n : Mu H cs) (s : ∀ a ∈ ds, a ∈ cs) : Mu H ds := fun a m => n a (s a m)
theorem mu_nil {H : Hp} : Mu H [] := fun _ m => nomatch m
theorem mu_cons {H : Hp} {a : Addr} {o : HO} {l : List Addr} (e : H a = some o) (k : ∀ xs, o ≠ .tup xs) (k2 : ∀ φ, o ≠ .ext φ) (t : Mu H l) : Mu H (a :: l) := fun x m => (List.mem_cons.mp m).elim (fun z => by rw [z]; exact ⟨o, e, k, k2⟩) (t x)
theorem mu_lst {H : Hp} {a : Addr} {xs : List V} {l : List Addr} (e : H a = some (.lst xs)) (t : Mu H l) : Mu H (a :: l) := mu_cons e (fun _ z => nomatch z) (fun _ z => nomatch z) t
theorem mu_ins {H : Hp} {a C dx : Addr} {fs : List (Str × V)} {l : List Addr} (e : H a = some (.ins C dx fs)) (t : Mu H l) : Mu H (a :: l) := mu_cons e (fun _ z => nomatch z) (fun _ z => nomatch z) t
theorem mu_app {H : Hp} {l m : List Addr} (a : Mu H l) (b : Mu H m) : Mu H (l ++ m) := fun x h => (List.mem_append.mp h).elim (a x) (b x)
/-- what does not change stays; what changes is told again -/
theorem Mu.kp {H H1 : Hp} {cs ds : List Addr} (n : Mu H cs) (k : Kp ds H H1) (m : Mu H1 ds) : Mu H1 cs := fun a ha => by
  by_cases e : a ∈ ds
  · exact m a e
  · obtain ⟨o, h1, h2⟩ := n a ha
    exact ⟨o, k.at_ _ _ h1 e, h2⟩
theorem Mu.same {H H1 : Hp} {cs : List Addr} (n : Mu H cs) (s : Same H H1) : Mu H1 cs := fun a m => (n a m).imp fun _ z => ⟨s _ _ z.1, z.2⟩
theorem kp_tup {cs : List Addr} {H H1 : Hp} (k : Kp cs H H1) (n : Mu H cs) {t : Addr} {xs : List V} (h : H t = some (.tup xs)) : H1 t = some (.tup xs) := k.at_ _ _ h (n.tup h)

set_option pp.maxSteps 900
/-! ### the entries of a walk -/
abbrev nV (k : Nat) : V := .int (k : Int)
def WEnt (H : Hp) (x : V) (e : Str × Nat) : Prop := ∃ p : Addr, x = .ref p ∧ H p = some (.tup [.str e.1, .int (e.2 : Int)])
theorem WEnt.kp {H H1 : Hp} {x : V} {e : Str × Nat} {cs : List Addr} (h : WEnt H x e) (k : Kp cs H H1) (m : Mu H cs) : WEnt H1 x e := by
  obtain ⟨p, h1, h2⟩ := h
  exact ⟨p, h1, kp_tup k m h2⟩
structure WLog (H : Hp) (xs : List V) (es : List (Str × Nat)) : Prop where
  len : xs.length = es.length
  at_ : ∀ (q : Nat) (x : V) (e : Str × Nat), xs[q]? = some x → es[q]? = some e → WEnt H x e
theorem WLog.kp {H H1 : Hp} {xs : List V} {es : List (Str × Nat)} {cs : List Addr} (h : WLog H xs es) (k : Kp cs H H1) (m : Mu H cs) : WLog H1 xs es := ⟨h.len, fun q x e a b => (h.at_ q x e a b).kp k m⟩
theorem WLog.nil {H : Hp} : WLog H [] [] := ⟨rfl, fun q x e z => by cases q <;> cases z⟩
theorem WLog.app {H : Hp} {xs ys : List V} {es fs : List (Str × Nat)} (h : WLog H xs es) (g : WLog H ys fs) : WLog H (xs ++ ys) (es ++ fs) := by
  refine ⟨by rw [List.length_append, List.length_append, h.len, g.len], fun q x e a b => ?_⟩
  by_cases c : q < xs.length
  · rw [List.getElem?_append_left c] at a
    rw [List.getElem?_append_left (by rw [← h.len]; exact c)] at b
    exact h.at_ q x e a b
  · rw [List.getElem?_append_right (by omega)] at a
    rw [List.getElem?_append_right (by rw [← h.len]; omega), ← h.len] at b
    exact g.at_ _ x e a b
theorem WLog.one {H : Hp} {x : V} {e : Str × Nat} (h : WEnt H x e) : WLog H [x] [e] := ⟨rfl, fun q y d a b => by
  match q, a, b with
  | 0, a, b =>
    cases a
    cases b
    exact h
  | q + 1, a, _ => cases q <;> cases a⟩
theorem wstep {H0 H1 : Hp} {D t : Addr} {ys : List V} {es : List (Str × Nat)} {e : Str × Nat} (fD : Fr H0 D) (s : Same H0 H1) (eD : H1 D = some (.lst ys)) (wl : WLog H1 ys es) (nt : H1 t = none) :
    upd H1 t (.tup [.str e.1, .int (e.2 : Int)]) D = some (.lst ys) ∧ Same H0 (upd (upd H1 t (.tup [.str e.1, .int (e.2 : Int)])) D (.lst (ys ++ [.ref t]))) ∧ ∃ zs, upd (upd H1 t (.tup [.str e.1, .int (e.2 : Int)])) D (.lst (ys ++ [.ref t])) D = some (.lst zs) ∧ WLog (upd (upd H1 t (.tup [.str e.1, .int (e.2 : Int)])) D (.lst (ys ++ [.ref t]))) zs (es ++ [e]) := by
  have ft := Fr.mk nt
  have st : Same H1 (upd H1 t (.tup [.str e.1, .int (e.2 : Int)])) := same_newF ft
  have eD2 := st _ _ eD
  have mD : Mu (upd H1 t (.tup [.str e.1, .int (e.2 : Int)])) [D] := mu_lst eD2 mu_nil
  have kD : Kp [D] (upd H1 t (.tup [.str e.1, .int (e.2 : Int)])) (upd (upd H1 t (.tup [.str e.1, .int (e.2 : Int)])) D (.lst (ys ++ [.ref t]))) := kp_up memA (kp_refl _ _)
  exact ⟨eD2, same_putG fD (s.trans st), _, upd_same, ((wl.kp (kp_same (cs := []) st) mu_nil).kp kD mD).app (WLog.one (WEnt.kp ⟨t, rfl, upd_same⟩ kD mD))⟩
theorem take_map {α β : Type} (f : α → β) {l : List α} {i : Nat} {x : α} (h : l[i]? = some x) : (l.take (i + 1)).map f = (l.take i).map f ++ [f x] := by
  rw [List.take_succ, h, List.map_append]
  rfl
section
variable {P : Program} {w : World} {K : PySem.W.Frag} {mg : Str → Option Value} {base : Heap}
def spPush : Sp := fun vs H Q _ => ∃ (a : Addr) (ns : List Nat), vs = [.ref a] ∧ H a = some (.lst (ns.map nV)) ∧ ns.length < 4000000 ∧ ∀ p xs H', Fr H p → Same H H' → H' p = some (.lst xs) → WLog H' xs (ns.map fun i => ("push", i)) → Q (.ref p) H'
theorem ok_push (T : Txt K mg) : FnOk P w K mg base CX0 1 T.f_plan_pushes T.d_plan_pushes ["numbers"] spPush := by
  refine T.F_plan_pushes.ok sc_plan_pushes (fun vs H Q E h => ?_) (fun cdv A outer s H vs Q E hr h => ?_)
  · obtain ⟨a, ns, rfl, _⟩ := h
    rfl
  · obtain ⟨a, ns, rfl, ha, hn, q⟩ := h
    refine ⟨_, (pss_one (ps_ret (pe_lc (own := [("number", 1)]) (g := gName 1) (tt := tYes) rfl sc_plan_pushes.nd (pi_list (pv 0)) (blkOk_by (N := n_plan_pushes) (sc := defScope s_plan_pushes) (by decide +kernel)) (fun _ _ _ _ _ => (pg_name (i := 1) sc_plan_pushes.nd rfl (.inl rfl))) (fun _ _ _ _ _ => pts_nil) (fun _ _ _ _ _ => (pe_tup (pa_cons pe_str (pa_cons (pv 1) pa_nil))))))), ?_⟩
    refine ⟨_, rfl, a, rfl, ⟨_, sqlOf ha⟩, fun D nD => ?_⟩
    have fD := Fr.mk nD
    refine lc_it (walk_list (K := K) (a := a) (xs := ns.map nV)) (fun i H' => Same H H' ∧ ∃ ys, H' D = some (.lst ys) ∧ WLog H' ys ((ns.take i).map fun i => (("push" : Str), i))) ⟨same_newF fD, [], upd_same, WLog.nil⟩ (fun i H' _ z => sqlOf (z.1 _ _ ha)) ?_ ?_
    · rintro i x H1 H2 hi ⟨s1, ys, eD, wl⟩ ⟨rfl, hx⟩
      have li := List.length_map (as := ns) nV
      obtain ⟨n, hn', rfl⟩ : ∃ n : Nat, ns[i]? = some n ∧ x = .int (n : Int) := by
        rw [List.getElem?_map] at hx
        obtain ⟨n, h1, h2⟩ := Option.map_eq_some_iff.mp hx
        exact ⟨n, h1, h2.symm⟩
      refine ⟨rfl, ?_⟩
      unfold tYes
      refine ifT rfl ?_
      refine ⟨_, rfl, le2, fun t nt => ?_⟩
      obtain ⟨z1, z2, z3⟩ := wstep (e := ("push", n)) fD s1 eD wl nt
      refine ⟨ys, z1, ?_, z2, ?_⟩
      · rw [wl.len, List.length_map, sizeLine_eq]
        have := List.length_take_le i ns
        omega
      · rw [take_map (fun i => (("push" : Str), i)) hn']
        exact z3
    · rintro H1 ⟨s1, ys, eD, wl⟩
      have hl : ns.length = ns.length := rfl
      rw [List.length_map, ← hl, List.take_length] at wl
      exact q _ _ _ fD s1 eD wl
def spPops : Sp := fun vs H Q _ => ∃ (a : Addr) (ns : List Nat), vs = [.ref a] ∧ H a = some (.lst (ns.map nV)) ∧ ns.length < 4000000 ∧ ∀ p xs H', Fr H p → Same H H' → H' p = some (.lst xs) → WLog H' xs (ns.reverse.map fun i => ("pop", i)) → Q (.ref p) H'
theorem ok_pops (T : Txt K mg) : FnOk P w K mg base CX0 1 T.f_plan_pops T.d_plan_pops ["numbers"] spPops := by
  refine T.F_plan_pops.ok sc_plan_pops (fun vs H Q E h => ?_) (fun cdv A outer s H vs Q E hr h => ?_)
  · obtain ⟨a, ns, rfl, _⟩ := h
    rfl
  · obtain ⟨a, ns, rfl, ha, hn, q⟩ := h
    refine ⟨_, (pss_one (ps_ret (pe_lc (own := [("number", 1)]) (g := gName 1) (tt := tYes) rfl sc_plan_pops.nd (RT.pi_revA (by rfl) T.z_reversed (pv 0)) (blkOk_by (N := n_plan_pops) (sc := defScope s_plan_pops) (by decide +kernel)) (fun _ _ _ _ _ => (pg_name (i := 1) sc_plan_pops.nd rfl (.inl rfl))) (fun _ _ _ _ _ => pts_nil) (fun _ _ _ _ _ => (pe_tup (pa_cons pe_str (pa_cons (pv 1) pa_nil))))))), ?_⟩
    refine ⟨_, rfl, a, _, rfl, .inl ⟨sqlOf ha, fun D nD => ?_⟩⟩
    have fD := Fr.mk nD
    refine lc_it (walk_rev (K := K) (a := a) (xs := ns.map nV)) (fun i H' => Same H H' ∧ ∃ ys, H' D = some (.lst ys) ∧ WLog H' ys ((ns.reverse.take i).map fun i => (("pop" : Str), i))) ⟨same_newF fD, [], upd_same, WLog.nil⟩ (fun i H' _ z => sqlOf (z.1 _ _ ha)) ?_ ?_
    · rintro i x H1 H2 hi ⟨s1, ys, eD, wl⟩ ⟨rfl, hx⟩
      have li := List.length_map (as := ns) nV
      obtain ⟨n, hn', rfl⟩ : ∃ n : Nat, ns.reverse[i]? = some n ∧ x = .int (n : Int) := by
        rw [List.getElem?_map] at hx
        obtain ⟨n, h1, h2⟩ := Option.map_eq_some_iff.mp hx
        rw [li] at h1 hi
        exact ⟨n, by rw [List.getElem?_reverse hi]; exact h1, h2.symm⟩
      refine ⟨rfl, ?_⟩
      unfold tYes
      refine ifT rfl ?_
      refine ⟨_, rfl, le2, fun t nt => ?_⟩
      obtain ⟨z1, z2, z3⟩ := wstep (e := ("pop", n)) fD s1 eD wl nt
      refine ⟨ys, z1, ?_, z2, ?_⟩
      · rw [wl.len, List.length_map, sizeLine_eq]
        have := List.length_take_le i ns.reverse
        rw [li] at hi
        omega
      · rw [take_map (fun i => (("pop" : Str), i)) hn']
        exact z3
    · rintro H1 ⟨s1, ys, eD, wl⟩
      have hl : ns.reverse.length = ns.length := List.length_reverse
      rw [List.length_map, ← hl, List.take_length] at wl
      exact q _ _ _ fD s1 eD wl
end
end Ob

set_option Elab.async false
set_option linter.all false
set_option maxRecDepth 100000
set_option maxHeartbeats 1000000
namespace Ob
open PySem PySem.Spec PyProof.Rows L2
open LamX (Tabs TabB TabS ExtN)

set_option hygiene false in
local macro_rules
  | `(tactic| kp_flats) => `(tactic| first
    | assumption
    | exact upd_same
    | (apply atNew; assumption; kp_flats)
    | (apply atNe; (next => kbo_bools); kp_flats)
    | (apply atSame; assumption; kp_flats)
    | (apply atKp; assumption; (next => kaf_pre); kp_flats))
set_option hygiene false in
local macro_rules
  | `(tactic| kaf_pre) => `(tactic| first
    | assumption
    | exact not_nil
    | (apply not_cons; (next => kbo_bools); kaf_pre)
    | (apply not_app; (next => kaf_pre); kaf_pre))
set_option hygiene false in
local macro_rules
  | `(tactic| kbo_bools) => `(tactic| first
    | assumption
    | (apply Ne.symm; assumption)
    | (apply neN; assumption; kp_flats)
    | (apply neN'; assumption; kp_flats))
set_option hygiene false in
local macro_rules
  | `(tactic| o_reads) => `(tactic| first
    | with_reducible rfl
    | assumption
    | rfl
    | kp_flats
    | (show SqL _ _ _ _; first | assumption | (apply sqlOf; kp_flats) | (apply sqlSame; assumption; o_reads))
    | (show SqT _ _ _ _; first | assumption | (apply sqtOf; kp_flats) | (apply sqtAll; assumption) | (apply sqtSame; assumption; o_reads))
    | (show Cls _ _; first | exact T.cl_Calls | exact T.cl_Outer | exact T.cl_Ranked | exact T.cl_Unions)
    | (show NoAttr _ _ _; first | exact T.n_Calls_entries | exact T.n_Calls_running | exact T.n_Outer_calls | exact T.n_Outer_push_call | exact T.n_Outer_pop_call | exact T.n_Outer_ask_call | exact T.n_Outer_order | exact T.n_Outer_broken | exact T.n_Ranked_outer | exact T.n_Ranked_given | exact T.n_Ranked_held | exact T.n_Ranked_ranks | exact T.n_Ranked_removals | exact T.n_Unions_groups | exact T.n_Unions_parents | exact T.n_Unions_counts | exact T.n_Unions_moved)
    | (apply Or.inl; o_reads)
    | (apply Or.inr; o_reads)
    | (apply And.intro; (next => o_reads); o_reads)
    | (apply Exists.intro; o_reads)
    | exact Nat.le_of_ble_eq_true rfl
    | exact Nat.succ_ne_zero _
    | (show Fr _ _; kba_ints)
    | (show Same _ _; kd_subs)
    | (show Kp _ _ _; kxs_still)
    | (show (_ : Nat) ≤ _; simp only [List.length_append, List.length_map, List.length_cons, List.length_nil, List.length_take, List.length_drop, List.length_replicate, List.length_range, sizeLine_eq]; omega)
    | (show _ = none; apply Fr.h; kba_ints)
    | (show Bag _ _; first | assumption | (apply bag_putF; assumption; o_reads) | (apply bag_neF; (next => kbo_bools); o_reads) | (apply bag_kpR; assumption; (next => kaf_pre); o_reads))
    | omega
    | decide)
local macro_rules
  | `(tactic| o_readsAll) => `(tactic| repeat (first
    | (refine fun (pNew : Addr) (nNew : _ = none) => ?_; replace nNew := Fr.mk nNew)
    | (refine fun (xNew dNew : Addr) (nNew : _ = none) (mNew : _ = none) (eNew : dNew ≠ xNew) => ?_; replace nNew := Fr.mk nNew; replace mNew := Fr.mk mNew)
    | (apply And.intro; next => o_reads)
    | apply Exists.intro (α := V)
    | apply Exists.intro (α := Addr)
    | apply Exists.intro (α := Int)
    | apply Exists.intro (α := Bool)
    | apply Exists.intro (α := List V)
    | apply Exists.intro (α := List Nat)
    | apply Exists.intro (α := List (Str × V))
    | apply Exists.intro (α := List _)
    | apply Exists.intro (α := Str)
    | apply Exists.intro (α := HO)
    | apply Exists.intro (α := Sp)
    | apply Exists.intro (α := VK)))
set_option hygiene false in
local macro_rules
  | `(tactic| kba_ints) => `(tactic| first
    | assumption
    | (apply frUp; (first | assumption | (apply Ne.symm; assumption)); kba_ints)
    | (apply noneOf; assumption; intro oF eF; apply Exists.intro; kp_flats)
    | (apply frUp; (next => kbo_bools); kba_ints))
set_option hygiene false in
local macro_rules
  | `(tactic| kxs_still) => `(tactic| first
    | assumption
    | exact kp_refl _ _
    | (apply kp_newF; assumption; kxs_still)
    | (apply kp_new; assumption; kxs_still)
    | (apply kp_up; (next => o_fieldsN); kxs_still)
    | (apply kp_new; (next => kba_ints); kxs_still)
    | (apply kp_sameR; assumption; kxs_still)
    | (apply kp_transR; assumption; kxs_still)
    | (apply kp_freshR; assumption; (next => kaf_suf); kxs_still))
set_option hygiene false in
local macro_rules
  | `(tactic| kaf_suf) => `(tactic| first
    | assumption
    | exact subNil
    | (apply subCons; (first | (apply Or.inl; o_fieldsN) | (apply Or.inr; kba_ints)); kaf_suf)
    | (apply subApp; (next => kaf_suf); kaf_suf))
set_option hygiene false in
local macro_rules
  | `(tactic| o_fieldsN) => `(tactic| first
    | assumption
    | exact memA
    | (apply memB; o_fieldsN)
    | (apply memL; o_fieldsN)
    | (apply memR; o_fieldsN))
set_option hygiene false in
local macro_rules
  | `(tactic| kd_subs) => `(tactic| first
    | assumption
    | exact Same.refl _
    | (apply same_putF; assumption; kd_subs)
    | (apply same_putG; assumption; kd_subs)
    | (apply same_putF; (next => kba_ints); kd_subs)
    | (apply same_transR; assumption; kd_subs))

set_option pp.maxSteps 900
/-! ### the lowest power by the and of both signs -/
theorem and_parts (a b : Nat) : a &&& b = 2 * (a / 2 &&& b / 2) + (a % 2 &&& b % 2) := by
  have h1 : (a &&& b) / 2 = a / 2 &&& b / 2 := Nat.and_div_two
  have h2 : (a &&& b) % 2 = a % 2 &&& b % 2 := by
    have := Nat.and_mod_two_pow (a := a) (b := b) (n := 1)
    simpa using this
  omega
theorem low_and : ∀ n : Nat, n ≠ 0 → n - (n &&& (n - 1)) = low n := by
  intro n
  induction n using Nat.strongRecOn with
  | ind n ih =>
    intro h
    by_cases e : n % 2 = 0
    · obtain ⟨m, rfl⟩ : ∃ m, n = 2 * m := ⟨n / 2, by omega⟩
      have hm : m ≠ 0 := by omega
      have i := ih m (by omega) hm
      rw [low_even h e, and_parts, show 2 * m / 2 = m by omega, show (2 * m - 1) / 2 = m - 1 by omega, show 2 * m % 2 = 0 by omega, Nat.zero_and, ← i]
      omega
    · rw [low_odd (by omega), and_parts, show (n - 1) / 2 = n / 2 by omega, show (n - 1) % 2 = 0 by omega, Nat.and_zero, Nat.and_self]
      omega
theorem low_bits {n : Nat} (h : n ≠ 0) : Builtin.bitAnd (n : Int) (-(n : Int)) = (low n : Int) := by
  have e1 : (Builtin.bitNot (-(n : Int))).toNat = n - 1 := by
    show (-(-(n : Int)) - 1).toNat = n - 1
    omega
  have e2 : n &&& (n - 1) ≤ n := Nat.and_le_left
  rw [bitAnd_pn (by omega) (by omega), e1, Int.toNat_natCast, ← low_and n h]
  omega
theorem low_spec : ∀ n : Nat, n ≠ 0 → ∃ e, low n = 2 ^ e ∧ n % 2 ^ e = 0 ∧ n % 2 ^ (e + 1) ≠ 0 := by
  intro n
  induction n using Nat.strongRecOn with
  | ind n ih =>
    intro h
    by_cases e : n % 2 = 0
    · obtain ⟨m, rfl⟩ : ∃ m, n = 2 * m := ⟨n / 2, by omega⟩
      have hm : m ≠ 0 := by omega
      obtain ⟨k, e1, e2, e3⟩ := ih m (by omega) hm
      refine ⟨k + 1, ?_, ?_, ?_⟩
      · rw [low_even h e, show 2 * m / 2 = m by omega, e1, Nat.pow_succ, Nat.mul_comm]
      · rw [Nat.pow_succ, Nat.mul_comm (2 ^ k) 2, Nat.mul_mod_mul_left, e2]
      · rw [Nat.pow_succ, Nat.mul_comm (2 ^ (k + 1)) 2, Nat.mul_mod_mul_left]
        omega
    · exact ⟨0, low_odd (by omega), Nat.mod_one _, by rw [Nat.zero_add, Nat.pow_one]; omega⟩
/-! ### pieces -/
def szP (a r : Nat) : Nat := if a = 0 then 2 ^ r.log2 else min (2 ^ r.log2) (low a)
def pcF : Nat → Nat → Nat → List (Nat × Nat)
  | 0, _, _ => []
  | f + 1, a, r => if r = 0 then [] else (a, szP a r) :: pcF f (a + szP a r) (r - szP a r)
def enough (k a r : Nat) : Prop := ∃ m, r < 2 ^ m ∧ (((a = 0 ∨ a % 2 ^ m = 0) ∧ m ≤ k) ∨ ∃ j, a ≠ 0 ∧ a % 2 ^ j = 0 ∧ j ≤ 100 ∧ (100 - j) + m + 1 ≤ k)
theorem mod_le {a i j : Nat} (h : a % 2 ^ j = 0) (l : i ≤ j) : a % 2 ^ i = 0 := by
  have d : 2 ^ i ∣ 2 ^ j := Nat.pow_dvd_pow 2 l
  exact Nat.mod_eq_zero_of_dvd (Nat.dvd_trans d (Nat.dvd_of_mod_eq_zero h))
theorem mod_add {a b i : Nat} (h : a % 2 ^ i = 0) (h2 : b % 2 ^ i = 0) : (a + b) % 2 ^ i = 0 := by
  rw [Nat.add_mod, h, h2]
  simp
theorem odd_up {a e : Nat} (h : a % 2 ^ e = 0) (h2 : a % 2 ^ (e + 1) ≠ 0) : (a + 2 ^ e) % 2 ^ (e + 1) = 0 := by
  obtain ⟨q, rfl⟩ := Nat.dvd_of_mod_eq_zero h
  have hp := Nat.two_pow_pos e
  rw [Nat.pow_succ, Nat.mul_mod_mul_left] at h2
  have h3 : q % 2 = 1 := by
    rcases Nat.mod_two_eq_zero_or_one q with z | z
    · rw [z] at h2
      exact absurd rfl h2
    · exact z
  rw [show 2 ^ e * q + 2 ^ e = 2 ^ e * (q + 1) by rw [Nat.mul_add, Nat.mul_one], Nat.pow_succ, Nat.mul_mod_mul_left, show (q + 1) % 2 = 0 by omega, Nat.mul_zero]
theorem szP_le {a r : Nat} (h : r ≠ 0) : szP a r ≤ r := by
  have l2 := log_lo h
  unfold szP
  split
  · exact l2
  · exact Nat.le_trans (Nat.min_le_left _ _) l2
theorem enough_step {k a r : Nat} (h : enough k a r) (hr : r ≠ 0) (hb : a + r ≤ 2 ^ 100) :
    ∃ k', k = k' + 1 ∧ enough k' (a + szP a r) (r - szP a r) ∧ szP a r ≤ r ∧ 0 < szP a r ∧ ∃ j, szP a r = 2 ^ j ∧ a % 2 ^ j = 0 := by
  obtain ⟨m, hm, hc⟩ := h
  have lo := log_lo hr
  have rl := rest_lt hr
  have ll := log_lt hr hm
  have hp := Nat.two_pow_pos r.log2
  rcases hc with ⟨hz, hk⟩ | ⟨j, ha, hj, hj1, hk⟩
  · have es : szP a r = 2 ^ r.log2 := by
      unfold szP
      by_cases z : a = 0
      · rw [if_pos z]
      · rw [if_neg z]
        obtain ⟨e, e1, e2, e3⟩ := low_spec a z
        rw [e1]
        rcases hz with hz | hz
        · exact absurd hz z
        · have : m ≤ e := by
            refine Nat.le_of_not_lt fun q => e3 (mod_le hz (by omega))
          exact Nat.min_eq_left (Nat.pow_le_pow_right (by decide) (by omega))
    have ad : a % 2 ^ r.log2 = 0 := by
      rcases hz with hz | hz
      · rw [hz]
        exact Nat.zero_mod _
      · exact mod_le hz (by omega)
    rw [es]
    exact ⟨k - 1, by omega, ⟨r.log2, rl, .inl ⟨.inr (mod_add ad (Nat.mod_self _)), by omega⟩⟩, lo, hp, _, rfl, ad⟩
  · obtain ⟨e, e1, e2, e3⟩ := low_spec a ha
    have hje : j ≤ e := Nat.le_of_not_lt fun q => e3 (mod_le hj (by omega))
    by_cases c : 2 ^ e ≤ 2 ^ r.log2
    · have es : szP a r = 2 ^ e := by
        unfold szP
        rw [if_neg ha, e1]
        exact Nat.min_eq_right c
      rw [es]
      have he : e < 100 := by
        have h1 : 2 ^ e < 2 ^ 100 := by omega
        exact (Nat.pow_lt_pow_iff_right (by decide)).mp h1
      have hpe := Nat.two_pow_pos e
      exact ⟨k - 1, by omega, ⟨m, by omega, .inr ⟨e + 1, by omega, odd_up e2 e3, by omega, by omega⟩⟩, by omega, hpe, _, rfl, e2⟩
    · have es : szP a r = 2 ^ r.log2 := by
        unfold szP
        rw [if_neg ha, e1]
        exact Nat.min_eq_left (by omega)
      have hle : r.log2 ≤ e := by
        refine Nat.le_of_not_lt fun q => c (Nat.pow_le_pow_right (by decide) (by omega))
      rw [es]
      exact ⟨k - 1, by omega, ⟨r.log2, rl, .inl ⟨.inr (mod_add (mod_le e2 hle) (Nat.mod_self _)), by omega⟩⟩, lo, hp, _, rfl, mod_le e2 hle⟩
theorem enough_all {a r : Nat} (h : a + r ≤ 10 ^ 30) : enough 201 a r := by
  have h1 : (10 ^ 30 : Nat) < 2 ^ 100 := by decide +kernel
  by_cases z : a = 0
  · exact ⟨100, by omega, .inl ⟨.inl z, by decide⟩⟩
  · exact ⟨100, by omega, .inr ⟨0, z, Nat.mod_one _, by decide, by decide⟩⟩
theorem pcF_zero (f a : Nat) : pcF f a 0 = [] := by
  cases f with
  | zero => rfl
  | succ f => exact if_pos rfl
theorem pcF_pos {f a r : Nat} (h : r ≠ 0) : pcF (f + 1) a r = (a, szP a r) :: pcF f (a + szP a r) (r - szP a r) := if_neg h
theorem pcF_len : ∀ (f a r : Nat), (pcF f a r).length ≤ f
  | 0, _, _ => Nat.le_refl _
  | f + 1, a, r => by
    by_cases h : r = 0
    · subst h
      rw [pcF_zero]
      exact Nat.zero_le _
    · rw [pcF_pos h, List.length_cons]
      have := pcF_len f (a + szP a r) (r - szP a r)
      omega
/-- a right list of pieces from a on, to b -/
def okP : Nat → List (Nat × Nat) → Nat → Prop
  | a, [], b => a = b
  | a, (x, s) :: t, b => x = a ∧ (∃ j, s = 2 ^ j ∧ a % 2 ^ j = 0) ∧ a + s ≤ b ∧ (∀ y s', t.head? = some (y, s') → ¬ (s' = s ∧ a % (2 * s) = 0)) ∧ okP (a + s) t b
/-- two neighbours never make one -/
theorem szP_next {a r : Nat} (hr : r ≠ 0) (h : r - szP a r ≠ 0) : ¬ (szP (a + szP a r) (r - szP a r) = szP a r ∧ a % (2 * szP a r) = 0) := by
  rintro ⟨e1, e2⟩
  have es : szP a r = 2 ^ r.log2 := by
    unfold szP
    by_cases z : a = 0
    · rw [if_pos z]
    · rw [if_neg z]
      obtain ⟨e, f1, f2, f3⟩ := low_spec a z
      rw [f1]
      refine Nat.min_eq_left (Nat.le_of_not_lt fun q => ?_)
      have f4 : szP a r = 2 ^ e := by
        unfold szP
        rw [if_neg z, f1]
        exact Nat.min_eq_right (Nat.le_of_lt q)
      rw [f4, show 2 * 2 ^ e = 2 ^ (e + 1) by rw [Nat.pow_succ, Nat.mul_comm]] at e2
      exact f3 e2
  have rl := rest_lt hr
  have le := szP_le (a := a + szP a r) h
  omega
theorem okP_all : ∀ (k a r : Nat), enough k a r → a + r ≤ 2 ^ 100 → okP a (pcF k a r) (a + r)
  | k, a, r, h, hb => by
    by_cases hr : r = 0
    · subst hr
      rw [pcF_zero]
      exact rfl
    · obtain ⟨k', rfl, h2, s1, s0, j, ej, aj⟩ := enough_step h hr hb
      rw [pcF_pos hr]
      refine ⟨rfl, ⟨j, ej, aj⟩, by omega, fun y s' e => ?_, ?_⟩
      · by_cases z : r - szP a r = 0
        · rw [z, pcF_zero] at e
          cases e
        · cases k' with
          | zero => cases e
          | succ k' =>
            rw [pcF_pos z] at e
            obtain ⟨rfl, rfl⟩ := Prod.mk.inj (Option.some.inj e)
            exact szP_next hr z
      · have := okP_all k' (a + szP a r) (r - szP a r) h2 (by omega)
        rw [show a + szP a r + (r - szP a r) = a + r by omega] at this
        exact this
end Ob

set_option Elab.async false
set_option linter.all false
set_option maxRecDepth 100000
set_option maxHeartbeats 1000000
namespace Ob
open PySem PySem.Spec PyProof.Rows L2
open LamX (Tabs TabB TabS ExtN)

set_option hygiene false in
local macro_rules
  | `(tactic| kp_flats) => `(tactic| first
    | assumption
    | exact upd_same
    | (apply atNew; assumption; kp_flats)
    | (apply atNe; (next => kbo_bools); kp_flats)
    | (apply atSame; assumption; kp_flats)
    | (apply atKp; assumption; (next => kaf_pre); kp_flats))
set_option hygiene false in
local macro_rules
  | `(tactic| kaf_pre) => `(tactic| first
    | assumption
    | exact not_nil
    | (apply not_cons; (next => kbo_bools); kaf_pre)
    | (apply not_app; (next => kaf_pre); kaf_pre))
set_option hygiene false in
local macro_rules
  | `(tactic| kbo_bools) => `(tactic| first
    | assumption
    | (apply Ne.symm; assumption)
    | (apply neN; assumption; kp_flats)
    | (apply neN'; assumption; kp_flats))
set_option hygiene false in
local macro_rules
  | `(tactic| o_reads) => `(tactic| first
    | with_reducible rfl
    | assumption
    | rfl
    | kp_flats
    | (show SqL _ _ _ _; first | assumption | (apply sqlOf; kp_flats) | (apply sqlSame; assumption; o_reads))
    | (show SqT _ _ _ _; first | assumption | (apply sqtOf; kp_flats) | (apply sqtAll; assumption) | (apply sqtSame; assumption; o_reads))
    | (show Cls _ _; first | exact T.cl_Calls | exact T.cl_Outer | exact T.cl_Ranked | exact T.cl_Unions)
    | (show NoAttr _ _ _; first | exact T.n_Calls_entries | exact T.n_Calls_running | exact T.n_Outer_calls | exact T.n_Outer_push_call | exact T.n_Outer_pop_call | exact T.n_Outer_ask_call | exact T.n_Outer_order | exact T.n_Outer_broken | exact T.n_Ranked_outer | exact T.n_Ranked_given | exact T.n_Ranked_held | exact T.n_Ranked_ranks | exact T.n_Ranked_removals | exact T.n_Unions_groups | exact T.n_Unions_parents | exact T.n_Unions_counts | exact T.n_Unions_moved)
    | (apply Or.inl; o_reads)
    | (apply Or.inr; o_reads)
    | (apply And.intro; (next => o_reads); o_reads)
    | (apply Exists.intro; o_reads)
    | exact Nat.le_of_ble_eq_true rfl
    | exact Nat.succ_ne_zero _
    | (show Fr _ _; kba_ints)
    | (show Same _ _; kd_subs)
    | (show Kp _ _ _; kxs_still)
    | (show (_ : Nat) ≤ _; simp only [List.length_append, List.length_map, List.length_cons, List.length_nil, List.length_take, List.length_drop, List.length_replicate, List.length_range, sizeLine_eq]; omega)
    | (show _ = none; apply Fr.h; kba_ints)
    | (show Bag _ _; first | assumption | (apply bag_putF; assumption; o_reads) | (apply bag_neF; (next => kbo_bools); o_reads) | (apply bag_kpR; assumption; (next => kaf_pre); o_reads))
    | omega
    | decide)
local macro_rules
  | `(tactic| o_readsAll) => `(tactic| repeat (first
    | (refine fun (pNew : Addr) (nNew : _ = none) => ?_; replace nNew := Fr.mk nNew)
    | (refine fun (xNew dNew : Addr) (nNew : _ = none) (mNew : _ = none) (eNew : dNew ≠ xNew) => ?_; replace nNew := Fr.mk nNew; replace mNew := Fr.mk mNew)
    | (apply And.intro; next => o_reads)
    | apply Exists.intro (α := V)
    | apply Exists.intro (α := Addr)
    | apply Exists.intro (α := Int)
    | apply Exists.intro (α := Bool)
    | apply Exists.intro (α := List V)
    | apply Exists.intro (α := List Nat)
    | apply Exists.intro (α := List (Str × V))
    | apply Exists.intro (α := List _)
    | apply Exists.intro (α := Str)
    | apply Exists.intro (α := HO)
    | apply Exists.intro (α := Sp)
    | apply Exists.intro (α := VK)))
set_option hygiene false in
local macro_rules
  | `(tactic| kba_ints) => `(tactic| first
    | assumption
    | (apply frUp; (first | assumption | (apply Ne.symm; assumption)); kba_ints)
    | (apply noneOf; assumption; intro oF eF; apply Exists.intro; kp_flats)
    | (apply frUp; (next => kbo_bools); kba_ints))
set_option hygiene false in
local macro_rules
  | `(tactic| kxs_still) => `(tactic| first
    | assumption
    | exact kp_refl _ _
    | (apply kp_newF; assumption; kxs_still)
    | (apply kp_new; assumption; kxs_still)
    | (apply kp_up; (next => o_fieldsN); kxs_still)
    | (apply kp_new; (next => kba_ints); kxs_still)
    | (apply kp_sameR; assumption; kxs_still)
    | (apply kp_transR; assumption; kxs_still)
    | (apply kp_freshR; assumption; (next => kaf_suf); kxs_still))
set_option hygiene false in
local macro_rules
  | `(tactic| kaf_suf) => `(tactic| first
    | assumption
    | exact subNil
    | (apply subCons; (first | (apply Or.inl; o_fieldsN) | (apply Or.inr; kba_ints)); kaf_suf)
    | (apply subApp; (next => kaf_suf); kaf_suf))
set_option hygiene false in
local macro_rules
  | `(tactic| o_fieldsN) => `(tactic| first
    | assumption
    | exact memA
    | (apply memB; o_fieldsN)
    | (apply memL; o_fieldsN)
    | (apply memR; o_fieldsN))
set_option hygiene false in
local macro_rules
  | `(tactic| kd_subs) => `(tactic| first
    | assumption
    | exact Same.refl _
    | (apply same_putF; assumption; kd_subs)
    | (apply same_putG; assumption; kd_subs)
    | (apply same_putF; (next => kba_ints); kd_subs)
    | (apply same_transR; assumption; kd_subs))

set_option pp.maxSteps 900
section
variable {P : Program} {w : World} {K : PySem.W.Frag} {mg : Str → Option Value} {base : Heap}
def spIsI : Sp := fun vs H Q _ => ∃ i : Int, vs = [.int i] ∧ Q (.bl true) H
theorem ok_isi (T : Txt K mg) : FnOk P w K mg base CX0 1 T.f_is_integer T.d_is_integer ["value"] spIsI := by
  refine T.F_is_integer.ok sc_is_integer (fun vs H Q E h => ?_) (fun cdv A outer s H vs Q E hr h => ?_)
  · obtain ⟨i, rfl, _⟩ := h
    rfl
  · obtain ⟨i, rfl, q⟩ := h
    refine ⟨_, (pss_one (ps_ret (pe_and (pe_callB call_isi (by rfl) T.z_isinstance (by decide +kernel) (pa_cons (pv 0) (pa_cons (pe_bltn (v := .ty "int") (by rfl) T.z_int (by decide +kernel) rfl) pa_nil))) (pe_one (pe_not (pe_callB call_isi (by rfl) T.z_isinstance (by decide +kernel) (pa_cons (pv 0) (pa_cons (pe_bltn (v := .ty "bool") (by rfl) T.z_bool (by decide +kernel) rfl) pa_nil)))))))), ?_⟩
    refine ⟨_, rfl, .int i, .ty "int", .type "int", .type "int", true, rfl, .ty _, .base (.int _), kit_ty (by decide +kernel), true, rfl, iteT ?_⟩
    exact ⟨_, rfl, .int i, .ty "bool", .type "int", .type "bool", false, rfl, .ty _, .base (.int _), kit_ty (by decide +kernel), false, rfl, q⟩
theorem ok_cki (T : Txt K mg) : FnOk P w K mg base CX0 2 T.f_check_integer T.d_check_integer ["value"] (fun vs H Q _ => ∃ i : Int, vs = [.int i] ∧ Q .non H) := by
  have G_is_integer := ok_isi (P := P) (w := w) (base := base) T
  refine T.F_check_integer.ok sc_check_integer (fun vs H Q E h => ?_) (fun cdv A outer s H vs Q E hr h => ?_)
  · obtain ⟨i, rfl, _⟩ := h
    rfl
  · obtain ⟨i, rfl, q⟩ := h
    refine ⟨_, (pss_one (ps_if (pt_not (pt_val (pe_call G_is_integer (hr.mono (by omega)) rfl T.g_is_integer T.F_is_integer.kp T.b_is_integer .nil pass0 (pa_cons (pv 0) pa_nil)))) pss_never pss_nil)), ?_⟩
    exact ⟨_, rfl, i, rfl, true, rfl, iteF q⟩
def spCheck : Sp := fun vs H Q _ => ∃ n : Nat, vs = [.int (n : Int)] ∧ n ≤ 10 ^ 30 ∧ Q .non H
theorem ok_check (T : Txt K mg) : FnOk P w K mg base CX0 3 T.f_check_number T.d_check_number ["value"] spCheck := by
  have G_check_integer := ok_cki (P := P) (w := w) (base := base) T
  refine T.F_check_number.ok sc_check_number (fun vs H Q E h => ?_) (fun cdv A outer s H vs Q E hr h => ?_)
  · obtain ⟨n, rfl, _⟩ := h
    rfl
  · obtain ⟨n, rfl, h0, q⟩ := h
    have rG := T.r_GREATEST
    refine ⟨_, (pss_cons (ps_expr (pe_call G_check_integer (hr.mono (by omega)) rfl T.g_check_integer T.F_check_integer.kp T.b_check_integer .nil pass0 (pa_cons (pv 0) pa_nil)))
      (pss_one (ps_if (PW.pt (pw_or (pt_cmpR op_lt (pv 0) pe_int (nomark _)) (pw_or1 (pt_cmpR op_gt (pv 0) (pe_glob rfl T.v_GREATEST T.r_GREATEST) (nomark _))))) pss_never pss_nil))), ?_⟩
    refine ⟨_, rfl, (n : Int), rfl, ?_⟩
    refine ⟨_, rfl, _, _, rfl, rfl, _, rfl, ?_⟩
    refine ifF (dF (by omega)) ?_
    refine ⟨_, rfl, _, _, rfl, rfl, _, rfl, ?_⟩
    have h1 : ¬ ((10 : Int) ^ 30 < (n : Int)) := by
      have : (10 : Int) ^ 30 = ((10 ^ 30 : Nat) : Int) := by decide +kernel
      rw [this]
      omega
    exact ifF (dF h1) q

def spLp : Sp := fun vs H Q _ => ∃ n : Nat, vs = [.int (n : Int)] ∧ n ≠ 0 ∧ Q (.int (low n : Int)) H
theorem ok_lp (T : Txt K mg) : FnOk P w K mg base CX0 3 T.f_lowest_power T.d_lowest_power ["number"] spLp := by
  refine T.F_lowest_power.ok sc_lowest_power (fun vs H Q E h => ?_) (fun cdv A outer s H vs Q E hr h => ?_)
  · obtain ⟨n, rfl, _⟩ := h
    rfl
  · obtain ⟨n, rfl, h0, q⟩ := h
    refine ⟨_, (pss_one (ps_ret (pe_op op_and (pv 0) (pe_un un_neg (pv 0))))), ?_⟩
    rw [← low_bits h0] at q
    exact ⟨_, rfl, _, rfl, _, rfl, _, _, rfl, rfl, q⟩
end
namespace Tt
theorem nat_cast_lt {a : Nat} {n : Nat} (h : n < 2 ^ a) : (n : Int).natAbs < 2 ^ a := h
section
variable {P : Program} {w : World} {K : PySem.W.Frag} {mg : Str → Option Value} {base : Heap}
theorem p100 : (10 ^ 30 : Nat) < 2 ^ 100 := by decide +kernel
def intAt (σ : L2.St) (i : Nat) : Nat := match σ[i]? with
  | some (some (V.int r)) => r.toNat
  | _ => 0
theorem le2 : 2 ≤ sizeLine := by decide
theorem cdiv_nat (a b : Nat) : ((a : Int) / (b : Int)) = ((a / b : Nat) : Int) := rfl
def spTotal : Sp := fun vs H Q _ => ∃ n : Nat, vs = [.int (n : Int)] ∧ n ≤ 10 ^ 30 ∧ Q (.int (tot n : Int)) H
theorem ok_total (T : Txt K mg) : FnOk P w K mg base CX0 4 T.f_total_built T.d_total_built ["many"] spTotal := by
  have G_check_number := ok_check (P := P) (w := w) (base := base) T
  refine T.F_total_built.ok sc_total_built (fun vs H Q E h => ?_) (fun cdv A outer s H vs Q E hr h => ?_)
  · obtain ⟨n, rfl, _⟩ := h
    rfl
  · obtain ⟨n, rfl, h0, q⟩ := h
    refine ⟨_, (pss_cons (ps_expr (pe_call G_check_number (hr.mono (by omega)) rfl T.g_check_number T.F_check_number.kp T.b_check_number .nil pass0 (pa_cons (pv 0) pa_nil)))
      (pss_cons (ps_set (i := 1) sc_total_built.nd rfl (.inl rfl) pe_int)
      (pss_cons (ps_set (i := 2) sc_total_built.nd rfl (.inl rfl) pe_int)
      (pss_cons (ps_while PassesOwn.never (pt_cmpR op_le (pv 2) (pv 0) (nomark _)) (pss_cons (ps_aug (i := 1) sc_total_built.nd rfl (.inl rfl) (pe_op op_mulX (pv 2) (pe_op op_sub (pe_op op_fdivW (pv 0) (pv 2)) (pe_op op_fdivW (pv 0) (pe_op op_mul pe_int (pv 2))))) ip_add)
        (pss_one (ps_aug (i := 2) sc_total_built.nd rfl (.inl rfl) pe_int iop_mul))))
      (pss_one (ps_ret (pv 1))))))), ?_⟩
    refine ⟨_, rfl, n, rfl, h0, ?_⟩
    have hn := Nat.lt_of_le_of_lt h0 p100
    refine while_by (fun σ H' => H' = H ∧ ∃ (t s : Nat), σ = [some (.int (n : Int)), some (.int (t : Int)), some (.int (s : Int))] ∧ 0 < s ∧ s ≤ 2 * n + 1 ∧ t + s * tot (n / s) = tot n)
      (fun σ _ => n + 1 - intAt σ 2) ⟨rfl, 0, 1, rfl, by decide, by omega, by rw [Nat.div_one]; omega⟩ ?_ ?_
    · rintro σ H' ⟨rfl, t, s, rfl, hs, hs2, he⟩
      refine ⟨_, rfl, _, rfl, _, _, rfl, rfl, _, rfl, ite2 (fun e => ?_) (fun e => ?_)⟩
      · have e1 := of_decide_eq_true e
        have e2 : s ≤ n := by omega
        have hs100 : s < 2 ^ 100 := Nat.lt_of_le_of_lt e2 hn
        refine ⟨_, rfl, _, rfl, _, rfl, _, rfl, _, _, rfl, rfl, wide_div (b := 100) (by omega) (nat_cast_lt hs100) (by decide) (by decide), ?_⟩
        refine ⟨_, rfl, _, rfl, _, _, rfl, rfl, .inl ⟨by decide, by decide⟩, _, _, rfl, rfl, wide_div (b := 101) (by omega) (nat_cast_lt (n := 2 * s) (by omega)) (by decide) (by decide), ?_⟩
        have d1 : n / (2 * s) = n / s / 2 := by rw [Nat.mul_comm, Nat.div_div_eq_div_mul]
        have d2 : n / s ≤ n := Nat.div_le_self _ _
        refine ⟨_, _, rfl, rfl, ?_⟩
        have e3 : ((n : Int) / (s : Int)) - ((n : Int) / (2 * (s : Int))) = ((n / s - n / s / 2 : Nat) : Int) := by
          have a2 : ((n : Int) / (2 * (s : Int))) = ((n / s / 2 : Nat) : Int) := by
            rw [show (2 * (s : Int)) = ((2 * s : Nat) : Int) by omega, ← d1]
            rfl
          rw [a2, cdiv_nat]
          generalize n / s = z
          omega
        refine ⟨_, _, rfl, rfl, mulx_ok (a := 100) (b := 100) (nat_cast_lt hs100) (by rw [e3]; exact nat_cast_lt (by omega)) (by decide), ?_⟩
        refine ⟨_, _, rfl, rfl, ?_⟩
        refine ⟨_, rfl, _, _, rfl, rfl, .inr ⟨by decide, by decide⟩, ?_⟩
        have e4 : ((t : Int) + (s : Int) * (((n : Int) / (s : Int)) - ((n : Int) / (2 * (s : Int))))) = ((t + s * (n / s - n / s / 2) : Nat) : Int) := by
          rw [e3, Int.natCast_add, Int.natCast_mul]
        refine ⟨⟨rfl, t + s * (n / s - n / s / 2), s * 2, ?_, by omega, by omega, ?_⟩, ?_⟩
        · rw [← e4]
          rfl
        · rw [← he, tot_all (n / s), ← Nat.div_div_eq_div_mul, Nat.mul_add, Nat.mul_assoc]
          omega
        · show n + 1 - ((s : Int) * 2).toNat < n + 1 - (s : Int).toNat
          omega
      · have e1 : ¬ s ≤ n := fun z => e (dT (by omega))
        rw [Nat.div_eq_of_lt (by omega), tot_zero] at he
        refine ⟨_, rfl, ?_⟩
        have : t = tot n := by omega
        subst this
        exact q
    · rintro σ H' Q1 Q2 m ⟨x, hx, y, hy, i, j, e1, e2, c, e3, q⟩
      exact ⟨x, hx, y, hy, i, j, e1, e2, c, e3, m _ _ q⟩
end
end Tt
end Ob

set_option Elab.async false
set_option linter.all false
set_option maxRecDepth 100000
set_option maxHeartbeats 1000000
namespace Ob
open PySem PySem.Spec PyProof.Rows L2
open LamX (Tabs TabB TabS ExtN)

set_option hygiene false in
local macro_rules
  | `(tactic| kp_flats) => `(tactic| first
    | assumption
    | exact upd_same
    | (apply atNew; assumption; kp_flats)
    | (apply atNe; (next => kbo_bools); kp_flats)
    | (apply atSame; assumption; kp_flats)
    | (apply atKp; assumption; (next => kaf_pre); kp_flats))
set_option hygiene false in
local macro_rules
  | `(tactic| kaf_pre) => `(tactic| first
    | assumption
    | exact not_nil
    | (apply not_cons; (next => kbo_bools); kaf_pre)
    | (apply not_app; (next => kaf_pre); kaf_pre))
set_option hygiene false in
local macro_rules
  | `(tactic| kbo_bools) => `(tactic| first
    | assumption
    | (apply Ne.symm; assumption)
    | (apply neN; assumption; kp_flats)
    | (apply neN'; assumption; kp_flats))
set_option hygiene false in
local macro_rules
  | `(tactic| o_reads) => `(tactic| first
    | with_reducible rfl
    | assumption
    | rfl
    | kp_flats
    | (show SqL _ _ _ _; first | assumption | (apply sqlOf; kp_flats) | (apply sqlSame; assumption; o_reads))
    | (show SqT _ _ _ _; first | assumption | (apply sqtOf; kp_flats) | (apply sqtAll; assumption) | (apply sqtSame; assumption; o_reads))
    | (show Cls _ _; first | exact T.cl_Calls | exact T.cl_Outer | exact T.cl_Ranked | exact T.cl_Unions)
    | (show NoAttr _ _ _; first | exact T.n_Calls_entries | exact T.n_Calls_running | exact T.n_Outer_calls | exact T.n_Outer_push_call | exact T.n_Outer_pop_call | exact T.n_Outer_ask_call | exact T.n_Outer_order | exact T.n_Outer_broken | exact T.n_Ranked_outer | exact T.n_Ranked_given | exact T.n_Ranked_held | exact T.n_Ranked_ranks | exact T.n_Ranked_removals | exact T.n_Unions_groups | exact T.n_Unions_parents | exact T.n_Unions_counts | exact T.n_Unions_moved)
    | (apply Or.inl; o_reads)
    | (apply Or.inr; o_reads)
    | (apply And.intro; (next => o_reads); o_reads)
    | (apply Exists.intro; o_reads)
    | exact Nat.le_of_ble_eq_true rfl
    | exact Nat.succ_ne_zero _
    | (show Fr _ _; kba_ints)
    | (show Same _ _; kd_subs)
    | (show Kp _ _ _; kxs_still)
    | (show (_ : Nat) ≤ _; simp only [List.length_append, List.length_map, List.length_cons, List.length_nil, List.length_take, List.length_drop, List.length_replicate, List.length_range, sizeLine_eq]; omega)
    | (show _ = none; apply Fr.h; kba_ints)
    | (show Bag _ _; first | assumption | (apply bag_putF; assumption; o_reads) | (apply bag_neF; (next => kbo_bools); o_reads) | (apply bag_kpR; assumption; (next => kaf_pre); o_reads))
    | omega
    | decide)
local macro_rules
  | `(tactic| o_readsAll) => `(tactic| repeat (first
    | (refine fun (pNew : Addr) (nNew : _ = none) => ?_; replace nNew := Fr.mk nNew)
    | (refine fun (xNew dNew : Addr) (nNew : _ = none) (mNew : _ = none) (eNew : dNew ≠ xNew) => ?_; replace nNew := Fr.mk nNew; replace mNew := Fr.mk mNew)
    | (apply And.intro; next => o_reads)
    | apply Exists.intro (α := V)
    | apply Exists.intro (α := Addr)
    | apply Exists.intro (α := Int)
    | apply Exists.intro (α := Bool)
    | apply Exists.intro (α := List V)
    | apply Exists.intro (α := List Nat)
    | apply Exists.intro (α := List (Str × V))
    | apply Exists.intro (α := List _)
    | apply Exists.intro (α := Str)
    | apply Exists.intro (α := HO)
    | apply Exists.intro (α := Sp)
    | apply Exists.intro (α := VK)))
set_option hygiene false in
local macro_rules
  | `(tactic| kba_ints) => `(tactic| first
    | assumption
    | (apply frUp; (first | assumption | (apply Ne.symm; assumption)); kba_ints)
    | (apply noneOf; assumption; intro oF eF; apply Exists.intro; kp_flats)
    | (apply frUp; (next => kbo_bools); kba_ints))
set_option hygiene false in
local macro_rules
  | `(tactic| kxs_still) => `(tactic| first
    | assumption
    | exact kp_refl _ _
    | (apply kp_newF; assumption; kxs_still)
    | (apply kp_new; assumption; kxs_still)
    | (apply kp_up; (next => o_fieldsN); kxs_still)
    | (apply kp_new; (next => kba_ints); kxs_still)
    | (apply kp_sameR; assumption; kxs_still)
    | (apply kp_transR; assumption; kxs_still)
    | (apply kp_freshR; assumption; (next => kaf_suf); kxs_still))
set_option hygiene false in
local macro_rules
  | `(tactic| kaf_suf) => `(tactic| first
    | assumption
    | exact subNil
    | (apply subCons; (first | (apply Or.inl; o_fieldsN) | (apply Or.inr; kba_ints)); kaf_suf)
    | (apply subApp; (next => kaf_suf); kaf_suf))
set_option hygiene false in
local macro_rules
  | `(tactic| o_fieldsN) => `(tactic| first
    | assumption
    | exact memA
    | (apply memB; o_fieldsN)
    | (apply memL; o_fieldsN)
    | (apply memR; o_fieldsN))
set_option hygiene false in
local macro_rules
  | `(tactic| kd_subs) => `(tactic| first
    | assumption
    | exact Same.refl _
    | (apply same_putF; assumption; kd_subs)
    | (apply same_putG; assumption; kd_subs)
    | (apply same_putF; (next => kba_ints); kd_subs)
    | (apply same_transR; assumption; kd_subs))

theorem kp_but {p : Addr} {H H1 : Hp} (b : But p H H1) : Kp [p] H H1 := ⟨fun c o e n => b c o e fun z => n (List.mem_singleton.mpr z)⟩
def spTakeK : Sp := fun vs H Q _ => ∃ (p : Addr) (m : Int), vs = [.ref p, .int m] ∧ Bag H p ∧ 0 < m ∧ m.natAbs < 2 ^ 200 ∧ ∀ r H', 0 ≤ r → r < m → Bag H' p → Kp [p] H H' → Q (.int r) H'
theorem ok_takeK {P : Program} {w : World} {K : PySem.W.Frag} {mg : Str → Option Value} {base : Heap} (T : Txt K mg) : FnOk P w K mg base CX0 1 T.f_l_take T.d_l_take ["_law_bag_here", "_law_many"] spTakeK := by
  have F := ok_take (P := P) (w := w) (base := base) T
  refine ⟨fun vs H Q E h => ?_, fun A outer s H args us vs Q E hr e0 hb r h => F.run A outer s H args us vs Q E hr e0 hb r ?_⟩
  · obtain ⟨p, m, rfl, _⟩ := h
    rfl
  · obtain ⟨p, m, e, h1, h2, h3, q⟩ := h
    exact ⟨p, m, e, h1, h2, h3, fun r H' a b c d => q r H' a b c (kp_but d)⟩
theorem bag_neF {p q : Addr} {H : Hp} {o : HO} (n : p ≠ q) (b : Bag H p) : Bag (upd H q o) p := by
  obtain ⟨g, m, c, e, z⟩ := b
  exact ⟨g, m, c, (upd_ne n).trans e, z⟩
theorem tabsN_kp {T : List NdefX.NTab} {cs : List Addr} {H H1 : Hp} (t : NdefX.TabsN T H) (k : Kp cs H H1) (n : ∀ a ∈ cs, ∃ o, H a = some o ∧ (∀ ps, o ≠ .tbl ps) ∧ ∀ φ, o ≠ .ext φ) : NdefX.TabsN T H1 := fun p hp => by
  obtain ⟨ps, h1, h2, h3⟩ := t p hp
  refine ⟨ps, k.at_ _ _ h1 (fun m => ?_), h2, fun pos cv hc => ?_⟩
  · obtain ⟨o, e, n1, _⟩ := n _ m
    rw [h1] at e
    exact n1 ps (Option.some.inj e).symm
  · obtain ⟨c, e1, e2⟩ := h3 pos cv hc
    refine ⟨c, e1, k.at_ _ _ e2 fun m => ?_⟩
    obtain ⟨o, e, _, n2⟩ := n _ m
    rw [e2] at e
    exact n2 _ (Option.some.inj e).symm

set_option pp.maxSteps 900
open NdefX (TabsN)
open Inf (LClo cut mend cellsOf)
theorem wPP : decide (V.str "push" = V.str "push") = true := by decide +kernel
theorem wOP : decide (V.str "pop" = V.str "push") = false := by decide +kernel
theorem wOO : decide (V.str "pop" = V.str "pop") = true := by decide +kernel
theorem wAP : decide (V.str "ask" = V.str "push") = false := by decide +kernel
theorem wAO : decide (V.str "ask" = V.str "pop") = false := by decide +kernel
theorem wPA : ("push" : Str) ≠ "ask" := by decide +kernel
theorem wOA : ("pop" : Str) ≠ "ask" := by decide +kernel
def stepS (S : List Nat) (e : Str × Nat) : List Nat := if e.1 = "push" then S ++ [e.2] else if e.1 = "pop" then S.dropLast else S
def runW (S : List Nat) (l : List (Str × Nat)) : List Nat := l.foldl stepS S
theorem wOP2 : ¬ ("pop" : Str) = "push" := by decide +kernel
theorem wAP2 : ¬ ("ask" : Str) = "push" := by decide +kernel
theorem wAO2 : ¬ ("ask" : Str) = "pop" := by decide +kernel
theorem run_app {S : List Nat} {a b : List (Str × Nat)} : runW S (a ++ b) = runW (runW S a) b := List.foldl_append ..
section
variable {P : Program} {w : World} {K : PySem.W.Frag} {mg : Str → Option Value} {base : Heap} {n : Nat}
/-- the callable f, called with xs in H: what it does brings Q -/
def Acx (P : Program) (w : World) (K : PySem.W.Frag) (mg : Str → Option Value) (base : Heap) (n : Nat) (f : V) (xs : List V) (H : Hp) (Q : VK) : Prop :=
  ∃ (a : Addr) (o : HO) (sp : Sp), f = .ref a ∧ H a = some o ∧ Inf.FnHO a o ∧ FnR P w K mg base CX0 n a sp ∧ sp xs H Q E0
end
theorem bag_lst {H : Hp} {p : Addr} (b : Bag H p) : ∃ xs, H p = some (.lst xs) := by
  obtain ⟨g, m, c, e, _⟩ := b
  exact ⟨_, e⟩
theorem bag_mu {H : Hp} {p : Addr} (b : Bag H p) : Mu H [p] := by
  obtain ⟨xs, e⟩ := bag_lst b
  exact mu_lst e mu_nil
theorem pSeq {t u : TS} {D : Ends} {σ : L2.St} {H : Hp} (h : t { D with nx := u D } σ H) : tSeq t u D σ H := h
theorem pAsg {te : TE} {g : TG} {D : Ends} {σ : L2.St} {H : Hp} (h : te σ H fun x H1 => g x σ H1 D.nx) : tAsg te g D σ H := h
theorem pOp {r : R2} {ta tb : TE} {σ : L2.St} {H : Hp} {Q : VK} (h : ta σ H fun x H1 => tb σ H1 fun y H2 => r x y H2 Q) : tOp r ta tb σ H Q := h
theorem pIf {c : L2.TT} {t u : TS} {D : Ends} {σ : L2.St} {H : Hp} (h : c σ H fun b H1 => if b = true then t D σ H1 else u D σ H1) : tIfS c t u D σ H := h
theorem pOr {t u : L2.TT} {σ : L2.St} {H : Hp} {Q : Bool → Hp → Prop} (h : t σ H fun c H1 => if c = true then Q true H1 else u σ H1 Q) : tOr t u σ H Q := h
theorem pAnd {t u : L2.TT} {σ : L2.St} {H : Hp} {Q : Bool → Hp → Prop} (h : t σ H fun c H1 => if c = true then u σ H1 Q else Q false H1) : tAnd t u σ H Q := h
theorem pTest {t : TE} {σ : L2.St} {H : Hp} {Q : Bool → Hp → Prop} (h : t σ H fun x H' => ∃ k, x = .bl k ∧ Q k H') : tTest t σ H Q := h
theorem pGN {i : Nat} {x : V} {σ : L2.St} {H : Hp} {N : L2.St → Hp → Prop} (h : N (σ.set i (some x)) H) : gName i x σ H N := h
theorem pNx {D : Ends} {σ : L2.St} {H : Hp} (h : D.nx σ H) : tNext D σ H := h
theorem pRev {K : PySem.W.Frag} {te : TE} {σ : L2.St} {H : Hp} {Q : VK} (h : te σ H fun x H1 => ∃ a xs, x = .ref a ∧ SqL K H1 a xs ∧ ∀ p, H1 p = none → Q (.ref p) (upd H1 p (.lst xs.reverse))) : tRevL K te σ H Q := h
/-- an if whose test says I -/
theorem if_by2 {c : L2.TT} {t u : TS} {D : Ends} {σ : L2.St} {H : Hp} (I : Bool → Hp → Prop) (h : ∀ Q : Bool → Hp → Prop, (∀ b H', I b H' → Q b H') → c σ H Q) (hT : ∀ H', I true H' → t D σ H') (hF : ∀ H', I false H' → u D σ H') : tIfS c t u D σ H :=
  h (fun b H' => if b = true then t D σ H' else u D σ H') fun b H' i => by
    cases b with
    | true => exact (if_pos rfl).mpr (hT H' i)
    | false => exact (if_neg (fun z => nomatch z)).mpr (hF H' i)
/-- a test that answers b where J b holds -/
def Ans (t : L2.TT) (σ : L2.St) (H : Hp) (J : Bool → Hp → Prop) : Prop := ∀ Q : Bool → Hp → Prop, (∀ b H', J b H' → Q b H') → t σ H Q
section
variable {t u : L2.TT} {σ : L2.St} {H : Hp} {J J1 : Bool → Hp → Prop}
theorem ans_or (a : Ans t σ H J1) (hT : ∀ H', J1 true H' → J true H') (hF : ∀ H', J1 false H' → Ans u σ H' J) : Ans (tOr t u) σ H J := fun Q q => a _ fun b H' j => by
  cases b with
  | true => exact (if_pos rfl).mpr (q _ _ (hT H' j))
  | false => exact (if_neg (fun z => nomatch z)).mpr (hF H' j Q q)
end
section
variable {t u : L2.TT} {σ : L2.St} {H : Hp} {J J1 : Bool → Hp → Prop}
theorem ans_and (a : Ans t σ H J1) (hF : ∀ H', J1 false H' → J false H') (hT : ∀ H', J1 true H' → Ans u σ H' J) : Ans (tAnd t u) σ H J := fun Q q => a _ fun b H' j => by
  cases b with
  | true => exact (if_pos rfl).mpr (hT H' j Q q)
  | false => exact (if_neg (fun z => nomatch z)).mpr (q _ _ (hF H' j))
end
section
variable {t u : L2.TT} {σ : L2.St} {H : Hp} {J J1 : Bool → Hp → Prop}
/-- a test that leaves the heap as it is, with the answer b -/
theorem ans_of {b : Bool} (h : ∀ Q : Bool → Hp → Prop, Q b H → t σ H Q) : Ans t σ H (fun c H' => c = b ∧ H' = H) := fun Q q => h Q (q _ _ ⟨rfl, rfl⟩)
end
def lamOf : Stmt → Nat → Expr
  | .Assign _ (.Call _ es _ _) _, i => es.getD i (.Constant .none 0 ⟨0, 0, 0, 0⟩)
  | .Assign _ (.Tuple es _ _) _, i => es.getD i (.Constant .none 0 ⟨0, 0, 0, 0⟩)
  | _, _ => .Constant .none 0 ⟨0, 0, 0, 0⟩
def lamF (q : Str) (cl : List (Str × Addr)) (c : Addr) : Expr → Inf.LF
  | .Lambda ps b sc _ => ⟨q, ps, b, sc, cl, c⟩
  | _ => ⟨q, { posonlyargs := [], args := [], vararg := none, kwonlyargs := [], kw_defaults := [], kwarg := none, defaults := [] }, .Constant .none 0 ⟨0, 0, 0, 0⟩, defScope s_law, cl, c⟩
theorem kp_ext {cs : List Addr} {H H1 : Hp} (k : Kp cs H H1) (n : Mu H cs) {t : Addr} {φ : Heap → Prop} (h : H t = some (.ext φ)) : H1 t = some (.ext φ) := k.at_ _ _ h (n.ext h)
theorem cellAt_kp {cs : List Addr} {H H1 : Hp} {c : Addr} {v : V} (h : Inf.CellAt H c v) (k : Kp cs H H1) (m : Mu H cs) : Inf.CellAt H1 c v := by
  obtain ⟨φ, e1, e2⟩ := h
  exact ⟨φ, kp_ext k m e1, e2⟩
theorem lclo_kp {cs : List Addr} {H H1 : Hp} {f : Addr} {F : Inf.LF} {fr : List Str} {ws : List V} (h : LClo H f F fr ws) (k : Kp cs H H1) (m : Mu H cs) : LClo H1 f F fr ws :=
  ⟨kp_ext k m h.fn, kp_ext k m h.code, h.len, h.dom, h.inj, fun i y e => by
    obtain ⟨c, v, a, b, d⟩ := h.at_ i y e
    exact ⟨c, v, a, b, cellAt_kp d k m⟩⟩
theorem mend_kp {cs ds : List Addr} {H H1 : Hp} (e : ∀ b ∈ cs, ∃ φ, H b = some (.ext φ)) (s : Kp ds (cut cs H) H1) (no : ∀ b ∈ cs, H1 b = none) : Kp ds H (mend cs H H1) := ⟨fun b o h n => by
  by_cases hb : b ∈ cs
  · rw [Inf.mend_in hb]
    exact h
  · rw [Inf.mend_out hb]
    exact s.at_ _ _ ((Inf.cut_out hb).trans h) n⟩
theorem tab_ne {T : List NdefX.NTab} {P : Addr} {nm : Nat → Nat → Str} {H : Hp} {a : Addr} {o : HO} (t : TabsN T H) (m : (P, nm) ∈ T) (e : H a = some o) (n : ∀ ps, o ≠ .tbl ps) : a ≠ P := fun z => by
  obtain ⟨ps, h, _⟩ := t _ m
  have h : H P = some (.tbl ps) := h
  rw [← z, e] at h
  exact n ps (Option.some.inj h)
theorem cv_tel {cells : List (Str × Addr)} {names : List (Str × NameKind)} {N : List Str} {σ : L2.St} {H HT H3 : Hp} {cT : List Addr} (t : Inf.Tel cells names N σ H cT HT) (k : ∀ b, b ∈ cT → H3 b = HT b) : ∀ b o, H3 b = some o → (∀ φ, o ≠ .ext φ) → Inf.cut cT H3 b = some o := fun b o e nx => by
  rw [Inf.cut_out fun m => ?_]
  · exact e
  · obtain ⟨φ, y⟩ := t.ext b m
    rw [k b m, y] at e
    exact nx φ (Option.some.inj e).symm
theorem tel_kp {cells : List (Str × Addr)} {names : List (Str × NameKind)} {N : List Str} {σ : L2.St} {H HT H3 : Hp} {cT ds : List Addr} (t : Inf.Tel cells names N σ H cT HT) (k : Kp ds HT H3) (m : Mu HT ds) : (∀ b, b ∈ cT → H3 b = HT b) ∧ Kp ds H (Inf.cut cT H3) :=
  ⟨fun b hb => by
    obtain ⟨φ, y⟩ := t.ext b hb
    rw [y]
    exact k.at_ _ _ y (m.ext y), ⟨fun b o e n => by
    rw [Inf.cut_out (fun z => by rw [t.no b z] at e; cases e)]
    exact k.at_ _ _ (t.same _ _ e) n⟩⟩
theorem flat_rep (x : V) : ∀ n : Nat, (List.replicate n [x]).flatten = List.replicate n x
  | 0 => rfl
  | n + 1 => by
    rw [List.replicate_succ, List.replicate_succ, List.flatten_cons, flat_rep x n]
    rfl
theorem seq_at {k n : Nat} (h : k < n) : seqIndex? (k : Int) n = some k := by
  unfold seqIndex?
  simp only [if_neg (show ¬ (k : Int) < 0 by omega)]
  rw [if_pos (by rw [Bool.and_eq_true]; exact ⟨decide_eq_true (by omega), decide_eq_true (by omega)⟩)]
  rfl
theorem fr_kp {cs : List Addr} {H H1 : Hp} {a : Addr} (k : Kp cs H H1) (m : Mu H1 cs) (f : Fr H1 a) : Fr H a := noneOf f fun o e => by
  by_cases c : a ∈ cs
  · obtain ⟨o, h, _⟩ := m a c
    exact ⟨o, h⟩
  · exact ⟨o, k.at_ _ _ e c⟩
theorem tabs_same {T : List NdefX.NTab} {H H1 : Hp} (t : TabsN T H) (s : Same H H1) : TabsN T H1 := tabsN_kp t (kp_same (cs := []) s) fun _ z => nomatch z
end Ob

set_option Elab.async false
set_option linter.all false
set_option maxRecDepth 100000
set_option maxHeartbeats 1000000
namespace Ob
open PySem PySem.Spec PyProof.Rows L2
open LamX (Tabs TabB TabS ExtN)

set_option hygiene false in
local macro_rules
  | `(tactic| kp_flats) => `(tactic| first
    | assumption
    | exact upd_same
    | (apply atNew; assumption; kp_flats)
    | (apply atNe; (next => kbo_bools); kp_flats)
    | (apply atSame; assumption; kp_flats)
    | (apply atKp; assumption; (next => kaf_pre); kp_flats))
set_option hygiene false in
local macro_rules
  | `(tactic| kaf_pre) => `(tactic| first
    | assumption
    | exact not_nil
    | (apply not_cons; (next => kbo_bools); kaf_pre)
    | (apply not_app; (next => kaf_pre); kaf_pre))
set_option hygiene false in
local macro_rules
  | `(tactic| kbo_bools) => `(tactic| first
    | assumption
    | (apply Ne.symm; assumption)
    | (apply neN; assumption; kp_flats)
    | (apply neN'; assumption; kp_flats))
set_option hygiene false in
local macro_rules
  | `(tactic| o_reads) => `(tactic| first
    | with_reducible rfl
    | assumption
    | rfl
    | kp_flats
    | (show SqL _ _ _ _; first | assumption | (apply sqlOf; kp_flats) | (apply sqlSame; assumption; o_reads))
    | (show SqT _ _ _ _; first | assumption | (apply sqtOf; kp_flats) | (apply sqtAll; assumption) | (apply sqtSame; assumption; o_reads))
    | (show Cls _ _; first | exact T.cl_Calls | exact T.cl_Outer | exact T.cl_Ranked | exact T.cl_Unions)
    | (show NoAttr _ _ _; first | exact T.n_Calls_entries | exact T.n_Calls_running | exact T.n_Outer_calls | exact T.n_Outer_push_call | exact T.n_Outer_pop_call | exact T.n_Outer_ask_call | exact T.n_Outer_order | exact T.n_Outer_broken | exact T.n_Ranked_outer | exact T.n_Ranked_given | exact T.n_Ranked_held | exact T.n_Ranked_ranks | exact T.n_Ranked_removals | exact T.n_Unions_groups | exact T.n_Unions_parents | exact T.n_Unions_counts | exact T.n_Unions_moved)
    | (apply Or.inl; o_reads)
    | (apply Or.inr; o_reads)
    | (apply And.intro; (next => o_reads); o_reads)
    | (apply Exists.intro; o_reads)
    | exact Nat.le_of_ble_eq_true rfl
    | exact Nat.succ_ne_zero _
    | (show Fr _ _; kba_ints)
    | (show Same _ _; kd_subs)
    | (show Kp _ _ _; kxs_still)
    | (show (_ : Nat) ≤ _; simp only [List.length_append, List.length_map, List.length_cons, List.length_nil, List.length_take, List.length_drop, List.length_replicate, List.length_range, sizeLine_eq]; omega)
    | (show _ = none; apply Fr.h; kba_ints)
    | (show Bag _ _; first | assumption | (apply bag_putF; assumption; o_reads) | (apply bag_neF; (next => kbo_bools); o_reads) | (apply bag_kpR; assumption; (next => kaf_pre); o_reads))
    | omega
    | decide)
local macro_rules
  | `(tactic| o_readsAll) => `(tactic| repeat (first
    | (refine fun (pNew : Addr) (nNew : _ = none) => ?_; replace nNew := Fr.mk nNew)
    | (refine fun (xNew dNew : Addr) (nNew : _ = none) (mNew : _ = none) (eNew : dNew ≠ xNew) => ?_; replace nNew := Fr.mk nNew; replace mNew := Fr.mk mNew)
    | (apply And.intro; next => o_reads)
    | apply Exists.intro (α := V)
    | apply Exists.intro (α := Addr)
    | apply Exists.intro (α := Int)
    | apply Exists.intro (α := Bool)
    | apply Exists.intro (α := List V)
    | apply Exists.intro (α := List Nat)
    | apply Exists.intro (α := List (Str × V))
    | apply Exists.intro (α := List _)
    | apply Exists.intro (α := Str)
    | apply Exists.intro (α := HO)
    | apply Exists.intro (α := Sp)
    | apply Exists.intro (α := VK)))
set_option hygiene false in
local macro_rules
  | `(tactic| kba_ints) => `(tactic| first
    | assumption
    | (apply frUp; (first | assumption | (apply Ne.symm; assumption)); kba_ints)
    | (apply noneOf; assumption; intro oF eF; apply Exists.intro; kp_flats)
    | (apply frUp; (next => kbo_bools); kba_ints))
set_option hygiene false in
local macro_rules
  | `(tactic| kxs_still) => `(tactic| first
    | assumption
    | exact kp_refl _ _
    | (apply kp_newF; assumption; kxs_still)
    | (apply kp_new; assumption; kxs_still)
    | (apply kp_up; (next => o_fieldsN); kxs_still)
    | (apply kp_new; (next => kba_ints); kxs_still)
    | (apply kp_sameR; assumption; kxs_still)
    | (apply kp_transR; assumption; kxs_still)
    | (apply kp_freshR; assumption; (next => kaf_suf); kxs_still))
set_option hygiene false in
local macro_rules
  | `(tactic| kaf_suf) => `(tactic| first
    | assumption
    | exact subNil
    | (apply subCons; (first | (apply Or.inl; o_fieldsN) | (apply Or.inr; kba_ints)); kaf_suf)
    | (apply subApp; (next => kaf_suf); kaf_suf))
set_option hygiene false in
local macro_rules
  | `(tactic| o_fieldsN) => `(tactic| first
    | assumption
    | exact memA
    | (apply memB; o_fieldsN)
    | (apply memL; o_fieldsN)
    | (apply memR; o_fieldsN))
set_option hygiene false in
local macro_rules
  | `(tactic| kd_subs) => `(tactic| first
    | assumption
    | exact Same.refl _
    | (apply same_putF; assumption; kd_subs)
    | (apply same_putG; assumption; kd_subs)
    | (apply same_putF; (next => kba_ints); kd_subs)
    | (apply same_transR; assumption; kd_subs))

/-! ### the calls of a collection -/
def CO (C dx l : Addr) (r : Bool) : HO := .ins C dx [("entries", .ref l), ("running", .bl r)]
section
variable {P : Program} {w : World} {K : PySem.W.Frag} {mg : Str → Option Value} {base : Heap} {n : Nat}
def spCI (C : Addr) : Sp := fun vs H Q _ => ∃ (a dx : Addr), vs = [.ref a] ∧ H a = some (.ins C dx []) ∧ ∀ l H', Fr H l → H' a = some (CO C dx l false) → H' l = some (.lst []) → Kp [a] H H' → Q .non H'
theorem ok_ci (T : Txt K mg) : FnOk P w K mg base CX0 1 T.f_Calls_init T.d_Calls_init ["self"] (spCI T.C_Calls) := by
  refine T.F_Calls_init.ok sc_Calls_init (fun vs H Q E h => ?_) (fun cdv A outer s H vs Q E hr h => ?_)
  · obtain ⟨a, dx, rfl, _⟩ := h
    rfl
  · obtain ⟨a, dx, rfl, ha, q⟩ := h
    refine ⟨_, (pss_cons (ps_fld (pv 0) (pe_lst pa_nil) rfl)
      (pss_one (ps_fld (pv 0) pe_bl rfl))), ?_⟩
    o_readsAll
    rename_i l nl
    exact q _ _ nl (by kp_flats) (by kp_flats) (by kxs_still)
def spChk (C : Addr) : Sp := fun vs H Q _ => ∃ (c dx l : Addr), vs = [.ref c] ∧ H c = some (CO C dx l false) ∧ Q .non H
theorem ok_chk (T : Txt K mg) : FnOk P w K mg base CX0 1 T.f_Calls_check T.d_Calls_check ["self"] (spChk T.C_Calls) := by
  refine T.F_Calls_check.ok sc_Calls_check (fun vs H Q E h => ?_) (fun cdv A outer s H vs Q E hr h => ?_)
  · obtain ⟨a, dx, l, rfl, _⟩ := h
    rfl
  · obtain ⟨c, dx, l, rfl, hc, q⟩ := h
    refine ⟨_, (pss_one (ps_if (pt_val (pe_fld (pv 0) rfl)) pss_never pss_nil)), ?_⟩
    o_readsAll
    exact iteF q
/-- the callable f, called with xs in H: what it does brings Q -/
def Act (P : Program) (w : World) (K : PySem.W.Frag) (mg : Str → Option Value) (base : Heap) (n : Nat) (f : V) (xs : List V) (H : Hp) (Q : VK) : Prop :=
  ∃ (a : Addr) (o : HO) (sp : Sp) (Q0 : VK), f = .ref a ∧ H a = some o ∧ Inf.FnHO a o ∧ FnR P w K mg base CX0 n a sp ∧ sp xs H Q0 E0 ∧ ∀ v H', Q0 v H' → Q v H'
theorem Act.imp {f : V} {xs : List V} {H : Hp} {Q Q' : VK} (h : Act P w K mg base n f xs H Q) (i : ∀ v H', Q v H' → Q' v H') : Act P w K mg base n f xs H Q' := by
  obtain ⟨a, o, sp, Q0, h1, h2, h3, h4, h5, h6⟩ := h
  exact ⟨a, o, sp, Q0, h1, h2, h3, h4, h5, fun v H' z => i _ _ (h6 _ _ z)⟩
theorem fnR_q {k : Nat} {f : Addr} {sp : Sp} (F : FnR P w K mg base CX0 k f sp) : FnR P w K mg base CX0 k f (fun vs H Q E => ∃ Q0 : VK, sp vs H Q0 E ∧ ∀ v H', Q0 v H' → Q v H') := fun A outer s H us vs Q E hr e0 r h => by
  obtain ⟨Q0, h0, hi⟩ := h
  refine codeAny_mono (F A outer s H us vs Q0 E hr e0 r h0) fun res s' hq => ?_
  match res, hq with
  | .error e, z => exact z
  | .ok .next, z => exact z
  | .ok .brk, z => exact z
  | .ok .cont, z => exact z
  | .ok (.ret u), z =>
    obtain ⟨v, H', h1, h2, h3, h4, h5, h6⟩ := z
    exact ⟨v, H', h1, h2, h3, h4, h5, hi _ _ h6⟩
/-- run(entry, action, *values) -/
def spRun (P : Program) (w : World) (K : PySem.W.Frag) (mg : Str → Option Value) (base : Heap) (C : Addr) (n : Nat) : Sp := fun vs H Q E => ∃ (c dx l : Addr) (en f : V) (xs : List V), vs = [.ref c, en, f] ++ xs ∧ xs.length ≤ sizeLine ∧ H c = some (CO C dx l false) ∧
  ∀ H1, Kp [c] H H1 → H1 c = some (CO C dx l true) → Act P w K mg base n f xs H1 (fun v H2 => H2 c = some (CO C dx l true) ∧ ∃ es, H2 l = some (.lst es) ∧ es.length < sizeLine ∧
    ∀ H3, Kp [c, l] H2 H3 → H3 c = some (CO C dx l false) → H3 l = some (.lst (es ++ [en])) → Q v H3)
theorem ok_run (T : Txt K mg) : FnR P w K mg base CX0 (n + 1) T.f_Calls_run (spRun P w K mg base T.C_Calls n) := by
  obtain ⟨oc, od, kV, doc, pm, an, cdv, ct, osl, hfd, lk, hcd⟩ := T.F_Calls_run.ex
  rw [hfd] at lk
  have key := StX.fn_star (P := P) (w := w) (mg := mg) (base := base) (CX := CX0) (k := n) (ps := ["self", "entry", "action"]) (pv := "values") (sp := fun us H Q E => ∃ ws rest p H0, us = ws ++ [.ref p] ∧ ws.length = 3 ∧ H0 p = none ∧ H = upd H0 p (.tup rest) ∧ spRun P w K mg base T.C_Calls n (ws ++ rest) H0 Q E) lk hcd sc_Calls_run StX.cxUp_none (fun us rest hl => ?_) (fun A outer s H vs Q E hr h => ?_)
  · refine key.imp fun vs H Q E h => ?_
    have h' := h
    obtain ⟨c, dx, l, en, f, xs, rfl, lx, _⟩ := h
    exact ⟨[.ref c, en, f], xs, rfl, rfl, lx, fun p np => ⟨[.ref c, en, f], xs, p, H, rfl, rfl, np, rfl, h'⟩⟩
  · match us, hl, rest with
    | [a, b, c], _, [] => rfl
    | [a, b, c], _, r :: rs => rfl
  · obtain ⟨ws, rest, p, H0, rfl, hw, np, rfl, c, dx, l, en, f, xs, e1, lx, hc, q⟩ := h
    obtain ⟨rfl, rfl⟩ := List.append_inj e1 hw
    replace np := Fr.mk np
    refine ⟨_, (pss_cons (ps_fld (pv 0) pe_bl rfl)
      (pss_cons (Inf.ps_fin0 (pss_one (ps_set (i := 4) sc_Calls_run.nd rfl (.inl rfl) (Inf.pe_actG (i := 2) (CX := CX0) (k := n) (E := fun _ => E0) rfl (.inl rfl) hr (fun _ _ _ _ _ _ _ z => False.elim z) (pv 3)))) (pss_one (ps_fld (pv 0) pe_bl rfl)))
      (pss_cons (ps_expr (pe_bm PySem.F.plainAttrs_list PySem.F.slot_list_append PySem.F.type_list_append mt_append (pe_fld (pv 0) rfl) (pa_cons (pv 1) pa_nil)))
      (pss_one (ps_ret (pv 4)))))), ?_⟩
    obtain ⟨a, o, sp, Q0, rfl, h2, h3, h4, h5, h6⟩ := q (upd (upd H0 p (.tup rest)) c (CO T.C_Calls dx l true)) (by kxs_still) upd_same
    replace h4 := fnR_q h4
    o_readsAll
    intro v H2 hv
    obtain ⟨hc2, es, hl, hs, q2⟩ := h6 v H2 hv
    have hlc : l ≠ c := neO hl hc2 (fun z => nomatch z)
    o_readsAll
    exact q2 _ (by kxs_still) (by kp_flats) (by kp_flats)
end
end Ob

set_option Elab.async false
set_option linter.all false
set_option maxRecDepth 100000
set_option maxHeartbeats 1000000
namespace Ob
open PySem PySem.Spec PyProof.Rows L2
open LamX (Tabs TabB TabS ExtN)

set_option hygiene false in
local macro_rules
  | `(tactic| kp_flats) => `(tactic| first
    | assumption
    | exact upd_same
    | (apply atNew; assumption; kp_flats)
    | (apply atNe; (next => kbo_bools); kp_flats)
    | (apply atSame; assumption; kp_flats)
    | (apply atKp; assumption; (next => kaf_pre); kp_flats))
set_option hygiene false in
local macro_rules
  | `(tactic| kaf_pre) => `(tactic| first
    | assumption
    | exact not_nil
    | (apply not_cons; (next => kbo_bools); kaf_pre)
    | (apply not_app; (next => kaf_pre); kaf_pre))
set_option hygiene false in
local macro_rules
  | `(tactic| kbo_bools) => `(tactic| first
    | assumption
    | (apply Ne.symm; assumption)
    | (apply neN; assumption; kp_flats)
    | (apply neN'; assumption; kp_flats))
set_option hygiene false in
local macro_rules
  | `(tactic| o_reads) => `(tactic| first
    | with_reducible rfl
    | assumption
    | rfl
    | kp_flats
    | (show SqL _ _ _ _; first | assumption | (apply sqlOf; kp_flats) | (apply sqlSame; assumption; o_reads))
    | (show SqT _ _ _ _; first | assumption | (apply sqtOf; kp_flats) | (apply sqtAll; assumption) | (apply sqtSame; assumption; o_reads))
    | (show Cls _ _; first | exact T.cl_Calls | exact T.cl_Outer | exact T.cl_Ranked | exact T.cl_Unions)
    | (show NoAttr _ _ _; first | exact T.n_Calls_entries | exact T.n_Calls_running | exact T.n_Outer_calls | exact T.n_Outer_push_call | exact T.n_Outer_pop_call | exact T.n_Outer_ask_call | exact T.n_Outer_order | exact T.n_Outer_broken | exact T.n_Ranked_outer | exact T.n_Ranked_given | exact T.n_Ranked_held | exact T.n_Ranked_ranks | exact T.n_Ranked_removals | exact T.n_Unions_groups | exact T.n_Unions_parents | exact T.n_Unions_counts | exact T.n_Unions_moved)
    | (apply Or.inl; o_reads)
    | (apply Or.inr; o_reads)
    | (apply And.intro; (next => o_reads); o_reads)
    | (apply Exists.intro; o_reads)
    | exact Nat.le_of_ble_eq_true rfl
    | exact Nat.succ_ne_zero _
    | (show Fr _ _; kba_ints)
    | (show Same _ _; kd_subs)
    | (show Kp _ _ _; kxs_still)
    | (show (_ : Nat) ≤ _; simp only [List.length_append, List.length_map, List.length_cons, List.length_nil, List.length_take, List.length_drop, List.length_replicate, List.length_range, sizeLine_eq]; omega)
    | (show _ = none; apply Fr.h; kba_ints)
    | (show Bag _ _; first | assumption | (apply bag_putF; assumption; o_reads) | (apply bag_neF; (next => kbo_bools); o_reads) | (apply bag_kpR; assumption; (next => kaf_pre); o_reads))
    | omega
    | decide)
local macro_rules
  | `(tactic| o_readsAll) => `(tactic| repeat (first
    | (refine fun (pNew : Addr) (nNew : _ = none) => ?_; replace nNew := Fr.mk nNew)
    | (refine fun (xNew dNew : Addr) (nNew : _ = none) (mNew : _ = none) (eNew : dNew ≠ xNew) => ?_; replace nNew := Fr.mk nNew; replace mNew := Fr.mk mNew)
    | (apply And.intro; next => o_reads)
    | apply Exists.intro (α := V)
    | apply Exists.intro (α := Addr)
    | apply Exists.intro (α := Int)
    | apply Exists.intro (α := Bool)
    | apply Exists.intro (α := List V)
    | apply Exists.intro (α := List Nat)
    | apply Exists.intro (α := List (Str × V))
    | apply Exists.intro (α := List _)
    | apply Exists.intro (α := Str)
    | apply Exists.intro (α := HO)
    | apply Exists.intro (α := Sp)
    | apply Exists.intro (α := VK)))
set_option hygiene false in
local macro_rules
  | `(tactic| kba_ints) => `(tactic| first
    | assumption
    | (apply frUp; (first | assumption | (apply Ne.symm; assumption)); kba_ints)
    | (apply noneOf; assumption; intro oF eF; apply Exists.intro; kp_flats)
    | (apply frUp; (next => kbo_bools); kba_ints))
set_option hygiene false in
local macro_rules
  | `(tactic| kxs_still) => `(tactic| first
    | assumption
    | exact kp_refl _ _
    | (apply kp_newF; assumption; kxs_still)
    | (apply kp_new; assumption; kxs_still)
    | (apply kp_up; (next => o_fieldsN); kxs_still)
    | (apply kp_new; (next => kba_ints); kxs_still)
    | (apply kp_sameR; assumption; kxs_still)
    | (apply kp_transR; assumption; kxs_still)
    | (apply kp_freshR; assumption; (next => kaf_suf); kxs_still))
set_option hygiene false in
local macro_rules
  | `(tactic| kaf_suf) => `(tactic| first
    | assumption
    | exact subNil
    | (apply subCons; (first | (apply Or.inl; o_fieldsN) | (apply Or.inr; kba_ints)); kaf_suf)
    | (apply subApp; (next => kaf_suf); kaf_suf))
set_option hygiene false in
local macro_rules
  | `(tactic| o_fieldsN) => `(tactic| first
    | assumption
    | exact memA
    | (apply memB; o_fieldsN)
    | (apply memL; o_fieldsN)
    | (apply memR; o_fieldsN))
set_option hygiene false in
local macro_rules
  | `(tactic| kd_subs) => `(tactic| first
    | assumption
    | exact Same.refl _
    | (apply same_putF; assumption; kd_subs)
    | (apply same_putG; assumption; kd_subs)
    | (apply same_putF; (next => kba_ints); kd_subs)
    | (apply same_transR; assumption; kd_subs))

set_option pp.maxSteps 900
/-! ### an outer structure, and the calls on it -/
inductive Ca where
  | push (i : Nat) (v : V) | pop (i : Nat) | ask (v : V)
def Ca.ent : Ca → List V
  | .push i _ => [.str "push", .int (i : Int)]
  | .pop i => [.str "pop", .int (i : Int)]
  | .ask _ => [.str "ask"]
/-- the log of these calls -/
structure LogC (H : Hp) (xs : List V) (tr : List Ca) : Prop where
  len : xs.length = tr.length
  at_ : ∀ (q : Nat) (x : V) (e : Ca), xs[q]? = some x → tr[q]? = some e → ∃ p, x = .ref p ∧ H p = some (.tup e.ent)
theorem LogC.kp {H H1 : Hp} {xs : List V} {tr : List Ca} {cs : List Addr} (h : LogC H xs tr) (k : Kp cs H H1) (m : Mu H cs) : LogC H1 xs tr := ⟨h.len, fun q x e a b => by
  obtain ⟨p, h1, h2⟩ := h.at_ q x e a b
  exact ⟨p, h1, kp_tup k m h2⟩⟩
theorem LogC.nil {H : Hp} : LogC H [] [] := ⟨rfl, fun q x e z => by cases q <;> cases z⟩
theorem LogC.add {H : Hp} {xs : List V} {tr : List Ca} {t : Addr} {e : Ca} (h : LogC H xs tr) (ht : H t = some (.tup e.ent)) : LogC H (xs ++ [.ref t]) (tr ++ [e]) := by
  refine ⟨by rw [List.length_append, List.length_append, h.len]; rfl, fun i x y a b => ?_⟩
  have hl := h.len
  by_cases c : i < xs.length
  · rw [List.getElem?_append_left c] at a
    rw [List.getElem?_append_left (by omega)] at b
    exact h.at_ i x y a b
  · rw [List.getElem?_append_right (by omega)] at a
    rw [List.getElem?_append_right (by omega), ← hl] at b
    match i - xs.length, a, b with
    | 0, a, b =>
      cases a
      cases b
      exact ⟨t, rfl, ht⟩
    | r + 1, a, _ => cases r <;> cases a
/-- what stands behind these calls -/
def stC (S : List Nat) : List Ca → List Nat
  | [] => S
  | .push i _ :: l => stC (S ++ [i]) l
  | .pop _ :: l => stC S.dropLast l
  | .ask _ :: l => stC S l
theorem stC_app : ∀ {a b : List Ca} {S : List Nat}, stC S (a ++ b) = stC (stC S a) b
  | [], _, _ => rfl
  | .push _ _ :: a, b, S => stC_app (a := a)
  | .pop _ :: a, b, S => stC_app (a := a)
  | .ask _ :: a, b, S => stC_app (a := a)
/-- three callables: R by the calls that were made; PM what members are, PQ what questions are, An what a question brings -/
structure OS (P : Program) (w : World) (K : PySem.W.Frag) (mg : Str → Option Value) (base : Heap) (n : Nat) (uv : List Addr) (fp fo fa : V) (PM : Nat → V → Prop) (PQ : V → Prop) (R : List Ca → Hp → Prop) (An : List Ca → V → V → Hp → Prop) : Prop where
  rk : ∀ {tr : List Ca} {cs : List Addr} {H H1 : Hp}, R tr H → Kp cs H H1 → Mu H cs → (∀ a ∈ uv, a ∉ cs) → R tr H1
  ak : ∀ {tr : List Ca} {v u : V} {cs : List Addr} {H H1 : Hp}, An tr v u H → Kp cs H H1 → Mu H cs → (∀ r, u = .ref r → r ∉ cs) → An tr v u H1
  mu : ∀ {tr : List Ca} {H : Hp}, R tr H → Mu H uv
  push : ∀ {tr : List Ca} {i : Nat} {v : V} {H : Hp} {Q : VK}, PM i v → tr.length < 1000000 → R tr H → (∀ u H', Kp uv H H' → R (tr ++ [.push i v]) H' → Q u H') → Acx P w K mg base n fp [v] H Q
  pop : ∀ {tr : List Ca} {i : Nat} {S : List Nat} {H : Hp} {Q : VK}, stC [] tr = S ++ [i] → tr.length < 1000000 → R tr H → (∀ u H', Kp uv H H' → R (tr ++ [.pop i]) H' → Q u H') → Acx P w K mg base n fo [] H Q
  ask : ∀ {tr : List Ca} {v : V} {H : Hp} {Q : VK}, PQ v → tr.length < 1000000 → R tr H → (∀ u H', Kp uv H H' → R (tr ++ [.ask v]) H' → An tr v u H' → (∀ r, u = .ref r → H r = none) → Q u H') → Acx P w K mg base n fa [v] H Q
def OO (C dx c : Addr) (fp fo fa : V) (od : Addr) (b : Bool) : HO := .ins C dx [("calls", .ref c), ("push_call", fp), ("pop_call", fo), ("ask_call", fa), ("order", .ref od), ("broken", .bl b)]
/-- an Outer at o: its calls at c, its log at l, its stack at od; the calls tr were made -/
structure OutAt (C CC : Addr) (H : Hp) (o c l od : Addr) (fp fo fa : V) (uv : List Addr) (R : List Ca → Hp → Prop) (tr : List Ca) : Prop where
  ho : ∃ dx, H o = some (OO C dx c fp fo fa od false)
  hc : ∃ dx, H c = some (CO CC dx l false)
  hl : ∃ es, H l = some (.lst es) ∧ LogC H es tr
  hd : H od = some (.lst ((stC [] tr).map nV))
  r : R tr H
  nl : l ≠ od
  nc : o ≠ c
  nu : ∀ a ∈ uv, a ≠ o ∧ a ≠ c ∧ a ≠ l ∧ a ≠ od
theorem OutAt.kp {P : Program} {w : World} {K : PySem.W.Frag} {mg : Str → Option Value} {base : Heap} {n : Nat} {PM : Nat → V → Prop} {PQ : V → Prop} {An : List Ca → V → V → Hp → Prop} {C CC : Addr} {H H1 : Hp} {o c l od : Addr} {fp fo fa : V} {uv : List Addr} {R : List Ca → Hp → Prop} {tr : List Ca} {cs : List Addr} (A : OS P w K mg base n uv fp fo fa PM PQ R An) (h : OutAt C CC H o c l od fp fo fa uv R tr) (k : Kp cs H H1) (m : Mu H cs) (n1 : o ∉ cs) (n2 : c ∉ cs) (n3 : l ∉ cs) (n4 : od ∉ cs) (n5 : ∀ a ∈ uv, a ∉ cs) : OutAt C CC H1 o c l od fp fo fa uv R tr := by
  obtain ⟨⟨d1, e1⟩, ⟨d2, e2⟩, ⟨es, e3, e4⟩, e5, e6, e7, e8, e9⟩ := h
  exact ⟨⟨d1, k.at_ _ _ e1 n1⟩, ⟨d2, k.at_ _ _ e2 n2⟩, ⟨es, k.at_ _ _ e3 n3, e4.kp k m⟩, k.at_ _ _ e5 n4, A.rk e6 k m n5, e7, e8, e9⟩
section
variable {P : Program} {w : World} {K : PySem.W.Frag} {mg : Str → Option Value} {base : Heap} {n : Nat}
theorem act_of {f : V} {xs : List V} {H : Hp} {Q : VK} (h : Acx P w K mg base n f xs H Q) : Act P w K mg base n f xs H Q := by
  obtain ⟨a, o, sp, rfl, h1, h2, h3, h4⟩ := h
  exact ⟨a, o, sp, Q, rfl, h1, h2, h3, h4, fun _ _ z => z⟩
theorem k2_at {H H1 : Hp} {o c l : Addr} {x : HO} (s : Same H H1) (h : H o = some x) (_ : H c = none) (_ : Fr H1 l) : H1 o = some x := s _ _ h
def spOI (C CC : Addr) : Sp := fun vs H Q _ => ∃ (o dx : Addr) (fp fo fa : V), vs = [.ref o, fp, fo, fa] ∧ H o = some (.ins C dx []) ∧
  ∀ c l od H', Fr H c → Fr H l → Fr H od → Kp [o] H H' → l ≠ od → (∃ dx, H' o = some (OO C dx c fp fo fa od false)) → (∃ dx, H' c = some (CO CC dx l false)) → H' l = some (.lst []) → H' od = some (.lst []) → Q .non H'
theorem ok_oi (T : Txt K mg) : FnOk P w K mg base CX0 4 T.f_Outer_init T.d_Outer_init ["self", "push", "pop", "ask"] (spOI T.C_Outer T.C_Calls) := by
  have G_Calls_init := ok_ci (P := P) (w := w) (base := base) T
  refine T.F_Outer_init.ok sc_Outer_init (fun vs H Q E h => ?_) (fun cdv A outer s H vs Q E hr h => ?_)
  · obtain ⟨o, dx, fp, fo, fa, rfl, _⟩ := h
    rfl
  · obtain ⟨o, dx, fp, fo, fa, rfl, ho, q⟩ := h
    refine ⟨_, (pss_cons (ps_fld (pv 0) (pe_make0 ⟨T.mk_Calls, T.m_Calls_init, T.t_Calls_init, T.kp_Calls⟩ G_Calls_init (hr.mono (by omega)) rfl T.gc_Calls T.b_Calls_init .nil pass0) rfl)
      (pss_cons (ps_fld (pv 0) (pv 1) rfl)
      (pss_cons (ps_fld (pv 0) (pv 2) rfl)
      (pss_cons (ps_fld (pv 0) (pv 3) rfl)
      (pss_cons (ps_fld (pv 0) (pe_lst pa_nil) rfl)
      (pss_one (ps_fld (pv 0) pe_bl rfl))))))), ?_⟩
    intro c cdx nc ncdx nxc
    have fc := Fr.mk nc
    have fcd := Fr.mk ncdx
    have e1 : upd (upd H cdx (.own c)) c (.ins T.C_Calls cdx []) c = some (.ins T.C_Calls cdx []) := upd_same
    have s1 : Same H (upd (upd H cdx (.own c)) c (.ins T.C_Calls cdx [])) := same_putG fc (same_newF fcd)
    generalize upd (upd H cdx (.own c)) c (.ins T.C_Calls cdx []) = H1 at e1 s1 ⊢
    refine ⟨c, cdx, rfl, e1, fun l H2 fl ec el k2 => ⟨rfl, ?_⟩⟩
    have ho2 := k2.at_ _ _ (s1 _ _ ho) (not_cons (ne_of_none ho nc) not_nil)
    o_readsAll
    rename_i od nod
    have nco : o ≠ c := ne_of_none ho nc
    have nlo : o ≠ l := ne_of_none (k2_at s1 ho nc fl) fl.h
    have nlc : l ≠ c := neO el ec (fun z => nomatch z)
    have b2 : Kp [o] H H2 := kp_fresh (kp_same s1) k2 (subCons (.inr fc) subNil)
    have b6 := kp_up (o := .ins T.C_Outer dx (putF "ask_call" fa (putF "pop_call" fo (putF "push_call" fp (putF "calls" (.ref c) []))))) memA (kp_up (o := .ins T.C_Outer dx (putF "pop_call" fo (putF "push_call" fp (putF "calls" (.ref c) [])))) memA (kp_up (o := .ins T.C_Outer dx (putF "push_call" fp (putF "calls" (.ref c) []))) memA (kp_up (o := .ins T.C_Outer dx (putF "calls" (.ref c) [])) memA b2)))
    have m6 : Mu (upd (upd (upd (upd H2 o (.ins T.C_Outer dx (putF "calls" (.ref c) []))) o (.ins T.C_Outer dx (putF "push_call" fp (putF "calls" (.ref c) [])))) o (.ins T.C_Outer dx (putF "pop_call" fo (putF "push_call" fp (putF "calls" (.ref c) []))))) o (.ins T.C_Outer dx (putF "ask_call" fa (putF "pop_call" fo (putF "push_call" fp (putF "calls" (.ref c) [])))))) [o] := mu_ins upd_same mu_nil
    have fod : Fr H od := fr_kp b6 m6 nod
    have c6 : upd (upd (upd (upd H2 o (.ins T.C_Outer dx (putF "calls" (.ref c) []))) o (.ins T.C_Outer dx (putF "push_call" fp (putF "calls" (.ref c) [])))) o (.ins T.C_Outer dx (putF "pop_call" fo (putF "push_call" fp (putF "calls" (.ref c) []))))) o (.ins T.C_Outer dx (putF "ask_call" fa (putF "pop_call" fo (putF "push_call" fp (putF "calls" (.ref c) []))))) c = some (CO T.C_Calls cdx l false) := by
      rw [upd_ne nco.symm, upd_ne nco.symm, upd_ne nco.symm, upd_ne nco.symm]
      exact ec
    have l6 : upd (upd (upd (upd H2 o (.ins T.C_Outer dx (putF "calls" (.ref c) []))) o (.ins T.C_Outer dx (putF "push_call" fp (putF "calls" (.ref c) [])))) o (.ins T.C_Outer dx (putF "pop_call" fo (putF "push_call" fp (putF "calls" (.ref c) []))))) o (.ins T.C_Outer dx (putF "ask_call" fa (putF "pop_call" fo (putF "push_call" fp (putF "calls" (.ref c) []))))) l = some (.lst []) := by
      rw [upd_ne nlo.symm, upd_ne nlo.symm, upd_ne nlo.symm, upd_ne nlo.symm]
      exact el
    generalize upd (upd (upd (upd H2 o (.ins T.C_Outer dx (putF "calls" (.ref c) []))) o (.ins T.C_Outer dx (putF "push_call" fp (putF "calls" (.ref c) [])))) o (.ins T.C_Outer dx (putF "pop_call" fo (putF "push_call" fp (putF "calls" (.ref c) []))))) o (.ins T.C_Outer dx (putF "ask_call" fa (putF "pop_call" fo (putF "push_call" fp (putF "calls" (.ref c) []))))) = H6 at nod b6 m6 c6 l6 ⊢
    have noo : o ≠ od := ne_of_none ho fod.h
    refine q c l od _ fc (Fr.mk (s1.free fl.h)) fod (kp_up memA (kp_up memA (kp_new nod b6))) (ne_of_none l6 nod.h) ⟨dx, upd_same⟩ ⟨cdx, ?_⟩ ?_ ?_
    · rw [upd_ne nco.symm, upd_ne nco.symm]
      exact atNew nod c6
    · rw [upd_ne nlo.symm, upd_ne nlo.symm]
      exact atNew nod l6
    · rw [upd_ne noo.symm, upd_ne noo.symm]
      exact upd_same
def spOC (C CC : Addr) : Sp := fun vs H Q _ => ∃ (o c l od : Addr) (fp fo fa : V), vs = [.ref o] ∧ (∃ dx, H o = some (OO C dx c fp fo fa od false)) ∧ (∃ dx, H c = some (CO CC dx l false)) ∧ Q .non H
theorem ok_oc (T : Txt K mg) : FnOk P w K mg base CX0 2 T.f_Outer_check T.d_Outer_check ["self"] (spOC T.C_Outer T.C_Calls) := by
  have G_Calls_check := ok_chk (P := P) (w := w) (base := base) T
  refine T.F_Outer_check.ok sc_Outer_check (fun vs H Q E h => ?_) (fun cdv A outer s H vs Q E hr h => ?_)
  · obtain ⟨o, c, l, od, fp, fo, fa, rfl, _⟩ := h
    rfl
  · obtain ⟨o, c, l, od, fp, fo, fa, rfl, ⟨d1, ho⟩, ⟨d2, hc⟩, q⟩ := h
    refine ⟨_, (pss_cons (ps_expr (pe_meth0 (pe_fld (pv 0) rfl) T.cl_Calls ⟨T.m_Calls_check, T.t_Calls_check, T.k_Calls_check⟩ G_Calls_check (hr.mono (by omega)) T.b_Calls_check .nil pass0))
      (pss_one (ps_if (pt_truth (pe_fld (pv 0) rfl) (by intro _; rfl)) pss_never pss_nil))), ?_⟩
    unfold OO at ho
    o_readsAll
    exact iteF q
end
end Ob

set_option Elab.async false
set_option linter.all false
set_option maxRecDepth 100000
set_option maxHeartbeats 1000000
namespace Ob
open PySem PySem.Spec PyProof.Rows L2
open LamX (Tabs TabB TabS ExtN)

set_option hygiene false in
local macro_rules
  | `(tactic| kp_flats) => `(tactic| first
    | assumption
    | exact upd_same
    | (apply atNew; assumption; kp_flats)
    | (apply atNe; (next => kbo_bools); kp_flats)
    | (apply atSame; assumption; kp_flats)
    | (apply atKp; assumption; (next => kaf_pre); kp_flats))
set_option hygiene false in
local macro_rules
  | `(tactic| kaf_pre) => `(tactic| first
    | assumption
    | exact not_nil
    | (apply not_cons; (next => kbo_bools); kaf_pre)
    | (apply not_app; (next => kaf_pre); kaf_pre))
set_option hygiene false in
local macro_rules
  | `(tactic| kbo_bools) => `(tactic| first
    | assumption
    | (apply Ne.symm; assumption)
    | (apply neN; assumption; kp_flats)
    | (apply neN'; assumption; kp_flats))
set_option hygiene false in
local macro_rules
  | `(tactic| o_reads) => `(tactic| first
    | with_reducible rfl
    | assumption
    | rfl
    | kp_flats
    | (show SqL _ _ _ _; first | assumption | (apply sqlOf; kp_flats) | (apply sqlSame; assumption; o_reads))
    | (show SqT _ _ _ _; first | assumption | (apply sqtOf; kp_flats) | (apply sqtAll; assumption) | (apply sqtSame; assumption; o_reads))
    | (show Cls _ _; first | exact T.cl_Calls | exact T.cl_Outer | exact T.cl_Ranked | exact T.cl_Unions)
    | (show NoAttr _ _ _; first | exact T.n_Calls_entries | exact T.n_Calls_running | exact T.n_Outer_calls | exact T.n_Outer_push_call | exact T.n_Outer_pop_call | exact T.n_Outer_ask_call | exact T.n_Outer_order | exact T.n_Outer_broken | exact T.n_Ranked_outer | exact T.n_Ranked_given | exact T.n_Ranked_held | exact T.n_Ranked_ranks | exact T.n_Ranked_removals | exact T.n_Unions_groups | exact T.n_Unions_parents | exact T.n_Unions_counts | exact T.n_Unions_moved)
    | (apply Or.inl; o_reads)
    | (apply Or.inr; o_reads)
    | (apply And.intro; (next => o_reads); o_reads)
    | (apply Exists.intro; o_reads)
    | exact Nat.le_of_ble_eq_true rfl
    | exact Nat.succ_ne_zero _
    | (show Fr _ _; kba_ints)
    | (show Same _ _; kd_subs)
    | (show Kp _ _ _; kxs_still)
    | (show (_ : Nat) ≤ _; simp only [List.length_append, List.length_map, List.length_cons, List.length_nil, List.length_take, List.length_drop, List.length_replicate, List.length_range, sizeLine_eq]; omega)
    | (show _ = none; apply Fr.h; kba_ints)
    | (show Bag _ _; first | assumption | (apply bag_putF; assumption; o_reads) | (apply bag_neF; (next => kbo_bools); o_reads) | (apply bag_kpR; assumption; (next => kaf_pre); o_reads))
    | omega
    | decide)
local macro_rules
  | `(tactic| o_readsAll) => `(tactic| repeat (first
    | (refine fun (pNew : Addr) (nNew : _ = none) => ?_; replace nNew := Fr.mk nNew)
    | (refine fun (xNew dNew : Addr) (nNew : _ = none) (mNew : _ = none) (eNew : dNew ≠ xNew) => ?_; replace nNew := Fr.mk nNew; replace mNew := Fr.mk mNew)
    | (apply And.intro; next => o_reads)
    | apply Exists.intro (α := V)
    | apply Exists.intro (α := Addr)
    | apply Exists.intro (α := Int)
    | apply Exists.intro (α := Bool)
    | apply Exists.intro (α := List V)
    | apply Exists.intro (α := List Nat)
    | apply Exists.intro (α := List (Str × V))
    | apply Exists.intro (α := List _)
    | apply Exists.intro (α := Str)
    | apply Exists.intro (α := HO)
    | apply Exists.intro (α := Sp)
    | apply Exists.intro (α := VK)))
set_option hygiene false in
local macro_rules
  | `(tactic| kba_ints) => `(tactic| first
    | assumption
    | (apply frUp; (first | assumption | (apply Ne.symm; assumption)); kba_ints)
    | (apply noneOf; assumption; intro oF eF; apply Exists.intro; kp_flats)
    | (apply frUp; (next => kbo_bools); kba_ints))
set_option hygiene false in
local macro_rules
  | `(tactic| kxs_still) => `(tactic| first
    | assumption
    | exact kp_refl _ _
    | (apply kp_newF; assumption; kxs_still)
    | (apply kp_new; assumption; kxs_still)
    | (apply kp_up; (next => o_fieldsN); kxs_still)
    | (apply kp_new; (next => kba_ints); kxs_still)
    | (apply kp_sameR; assumption; kxs_still)
    | (apply kp_transR; assumption; kxs_still)
    | (apply kp_freshR; assumption; (next => kaf_suf); kxs_still))
set_option hygiene false in
local macro_rules
  | `(tactic| kaf_suf) => `(tactic| first
    | assumption
    | exact subNil
    | (apply subCons; (first | (apply Or.inl; o_fieldsN) | (apply Or.inr; kba_ints)); kaf_suf)
    | (apply subApp; (next => kaf_suf); kaf_suf))
set_option hygiene false in
local macro_rules
  | `(tactic| o_fieldsN) => `(tactic| first
    | assumption
    | exact memA
    | (apply memB; o_fieldsN)
    | (apply memL; o_fieldsN)
    | (apply memR; o_fieldsN))
set_option hygiene false in
local macro_rules
  | `(tactic| kd_subs) => `(tactic| first
    | assumption
    | exact Same.refl _
    | (apply same_putF; assumption; kd_subs)
    | (apply same_putG; assumption; kd_subs)
    | (apply same_putF; (next => kba_ints); kd_subs)
    | (apply same_transR; assumption; kd_subs))

set_option pp.maxSteps 900
/-! ### following a plan -/
/-- the calls of these entries, with these members -/
def caOf (mb : Nat → V) (e : Str × Nat) : Ca := if e.1 = "push" then .push e.2 (mb e.2) else .pop e.2
/-- each pop takes the last one -/
def PopsOk : List Nat → List (Str × Nat) → Prop
  | _, [] => True
  | S, e :: l => (if e.1 = "push" then True else e.1 = "pop" ∧ ∃ S', S = S' ++ [e.2]) ∧ PopsOk (stepS S e) l
theorem pops_app : ∀ {a b : List (Str × Nat)} {S : List Nat}, PopsOk S (a ++ b) ↔ PopsOk S a ∧ PopsOk (runW S a) b
  | [], b, S => ⟨fun h => ⟨True.intro, h⟩, fun h => h.2⟩
  | e :: a, b, S => by
    have ih := pops_app (a := a) (b := b) (S := stepS S e)
    exact ⟨fun h => ⟨⟨h.1, (ih.mp h.2).1⟩, (ih.mp h.2).2⟩, fun h => ⟨h.1.1, ih.mpr ⟨h.1.2, h.2⟩⟩⟩
theorem st_run {mb : Nat → V} : ∀ {l : List (Str × Nat)} {S : List Nat}, PopsOk S l → stC S (l.map (caOf mb)) = runW S l
  | [], S, _ => rfl
  | (wd, i) :: l, S, h => by
    obtain ⟨h1, h2⟩ := h
    show stC S (caOf mb (wd, i) :: l.map (caOf mb)) = runW (stepS S (wd, i)) l
    by_cases c : wd = "push"
    · subst c
      have e1 : caOf mb (("push" : Str), i) = .push i (mb i) := if_pos rfl
      have e2 : stepS S (("push" : Str), i) = S ++ [i] := if_pos rfl
      rw [e1, e2]
      rw [e2] at h2
      exact st_run h2
    · have h1 : wd = "pop" ∧ ∃ S', S = S' ++ [i] := by
        rw [if_neg c] at h1
        exact h1
      obtain ⟨rfl, _⟩ := h1
      have e1 : caOf mb (("pop" : Str), i) = .pop i := if_neg wOP2
      have e2 : stepS S (("pop" : Str), i) = S.dropLast := by
        show (if ("pop" : Str) = "push" then _ else if ("pop" : Str) = "pop" then _ else _) = _
        rw [if_neg wOP2, if_pos rfl]
      rw [e1, e2]
      rw [e2] at h2
      exact st_run h2
section
variable {P : Program} {w : World} {K : PySem.W.Frag} {mg : Str → Option Value} {base : Heap} {n : Nat}
def spFol (P : Program) (w : World) (K : PySem.W.Frag) (mg : Str → Option Value) (base : Heap) (C CC : Addr) (n : Nat) : Sp := fun vs H Q _ => ∃ (o c l od ea hd : Addr) (fp fo fa : V) (uv : List Addr) (PM : Nat → V → Prop) (PQ : V → Prop) (R : List Ca → Hp → Prop) (An : List Ca → V → V → Hp → Prop) (tr : List Ca) (ys : List V) (es : List (Str × Nat)) (kvs : List (Key × V)) (mb : Nat → V),
  vs = [.ref o, .ref ea, .ref hd] ∧ OS P w K mg base n uv fp fo fa PM PQ R An ∧ OutAt C CC H o c l od fp fo fa uv R tr ∧ H ea = some (.lst ys) ∧ WLog H ys es ∧ H hd = some (.dK kvs) ∧ (∀ e ∈ es, e.1 = "push" → valV kvs (.inl (e.2 : Int)) = some (mb e.2) ∧ PM e.2 (mb e.2)) ∧ PopsOk (stC [] tr) es ∧ tr.length + es.length < 1000000 ∧
  (∀ a ∈ [ea, hd], a ≠ o ∧ a ≠ c ∧ a ≠ l ∧ a ∉ uv) ∧
  ∀ H', Kp (o :: c :: l :: uv) H H' → (∃ dx, H' o = some (OO C dx c fp fo fa od false)) → (∃ dx, H' c = some (CO CC dx l false)) → (∃ xs, H' l = some (.lst xs) ∧ LogC H' xs (tr ++ es.map (caOf mb))) → R (tr ++ es.map (caOf mb)) H' → Q .non H'
theorem ok_fol (T : Txt K mg) : FnOk P w K mg base CX0 (n + 4) T.f_Outer_follow T.d_Outer_follow ["self", "entries", "held"] (spFol P w K mg base T.C_Outer T.C_Calls n) := by
  have G_Calls_run := ok_run (P := P) (w := w) (base := base) (n := n) T
  refine T.F_Outer_follow.ok sc_Outer_follow (fun vs H Q E h => ?_) (fun cdv A outer s H vs Q E hr h => ?_)
  · obtain ⟨o, c, l, od, ea, hd, fp, fo, fa, uv, PM, PQ, R, An, tr, ys, es, kvs, mb, rfl, _⟩ := h
    rfl
  · obtain ⟨o, c, l, od, ea, hd, fp, fo', fa, uv, PM, PQ, R, An, tr, ys, es, kvs, mb, rfl, OA, hO, hea, hw, hhd, hmb, hp, hlen, hne, q⟩ := h
    refine ⟨_, (pss_cons (ps_set (i := 3) sc_Outer_follow.nd rfl (.inl rfl) pe_bl)
      (pss_one (Inf.ps_fin0 (pss_cons (ps_for PassesOwn.never rfl (pi_list (pv 1)) (pg_tup (by rfl) (pgs_cons (pg_name (i := 4) sc_Outer_follow.nd rfl (.inl rfl)) (pgs_cons (pg_name (i := 5) sc_Outer_follow.nd rfl (.inl rfl)) pgs_nil))) (pss_one (ps_if (pt_cmpR op_eq (pv 4) pe_str (nomark _)) (pss_one (ps_expr (pe_methR (pe_fld (pv 0) rfl) T.cl_Calls ⟨T.m_Calls_run, T.t_Calls_run, T.k_Calls_run⟩ G_Calls_run (hr.mono (by omega)) pass0 (pa_cons (pe_tup (pa_cons (pv 4) (pa_cons (pv 5) pa_nil))) (pa_cons (pe_fld (pv 0) rfl) (pa_cons (pe_dget (hu_of hr) (pv 2) (pv 5) (fun _ _ => rfl)) pa_nil)))))) (pss_one (ps_expr (pe_methR (pe_fld (pv 0) rfl) T.cl_Calls ⟨T.m_Calls_run, T.t_Calls_run, T.k_Calls_run⟩ G_Calls_run (hr.mono (by omega)) pass0 (pa_cons (pe_tup (pa_cons (pv 4) (pa_cons (pv 5) pa_nil))) (pa_cons (pe_fld (pv 0) rfl) pa_nil))))))))
        (pss_one (ps_set (i := 3) sc_Outer_follow.nd rfl (.inl rfl) pe_bl))) (pss_one (ps_fld (pv 0) (pv 3) rfl))))), ?_⟩
    obtain ⟨⟨d1, ho⟩, ⟨d2, hc⟩, ⟨xs, hl, hlg⟩, hod, hR, nlod, noc, nu⟩ := hO
    have hwl := hw.len
    refine pGN ?_
    simp only [List.set_cons_succ, List.set_cons_zero]
    have nlo : l ≠ o := neO hl ho (fun z => nomatch z)
    have nlc : l ≠ c := neO hl hc (fun z => nomatch z)
    have uo : o ∉ uv := fun m => (nu o m).1 rfl
    have uc : c ∉ uv := fun m => (nu c m).2.1 rfl
    have ul : l ∉ uv := fun m => (nu l m).2.2.1 rfl
    have mU : Mu H (o :: c :: l :: uv) := mu_ins ho (mu_ins hc (mu_lst hl (OA.mu hR)))
    have nea : ea ∉ o :: c :: l :: uv := by
      obtain ⟨a1, a2, a3, a4⟩ := hne ea memA
      exact not_cons a1 (not_cons a2 (not_cons a3 a4))
    have nhd : hd ∉ o :: c :: l :: uv := by
      obtain ⟨a1, a2, a3, a4⟩ := hne hd (memB memA)
      exact not_cons a1 (not_cons a2 (not_cons a3 a4))
    refine ⟨_, rfl, ea, rfl, ⟨_, sqlOf hea⟩, ?_⟩
    refine for_it (walk_list (K := K) (a := ea) (xs := ys)) (fun k σ H' => ∃ y4 y5, σ = [some (.ref o), some (.ref ea), some (.ref hd), some (.bl true), y4, y5] ∧ Kp (o :: c :: l :: uv) H H' ∧ H' o = some (OO T.C_Outer d1 c fp fo' fa od false) ∧ H' c = some (CO T.C_Calls d2 l false) ∧ (∃ zs, H' l = some (.lst zs) ∧ LogC H' zs (tr ++ (es.take k).map (caOf mb))) ∧ R (tr ++ (es.take k).map (caOf mb)) H') ⟨_, _, rfl, kp_refl _ _, ho, hc, ⟨xs, hl, by rw [List.take_zero, List.map_nil, List.append_nil]; exact hlg⟩, by rw [List.take_zero, List.map_nil, List.append_nil]; exact hR⟩ (fun k σ H' _ ⟨_, _, _, z, _⟩ => sqlOf (z.at_ _ _ hea nea)) ?_ ?_
    · rintro k x σ H4' H4 hk ⟨y4, y5, rfl, k4, ho4, hc4, ⟨zs, hl4, hg4⟩, R4⟩ ⟨rfl, hx⟩
      have hke : k < es.length := by omega
      have hee : es[k]? = some (es[k]'hke) := List.getElem?_eq_getElem hke
      have hsp : es.take k ++ es[k]'hke :: es.drop (k + 1) = es := by
        rw [List.getElem_cons_drop, List.take_append_drop]
      have hmem : es[k]'hke ∈ es := List.getElem_mem hke
      have htk : es.take (k + 1) = es.take k ++ [es[k]'hke] := by
        rw [List.take_succ, hee]
        rfl
      rw [htk, List.map_append, ← List.append_assoc]
      generalize es[k]'hke = e at hee hsp hmem ⊢
      obtain ⟨p, rfl, hp4⟩ := (hw.kp k4 mU).at_ k x e hx hee
      obtain ⟨wd, i⟩ := e
      have hlt : (tr ++ (es.take k).map (caOf mb)).length < 1000000 := by
        rw [List.length_append, List.length_map, List.length_take]
        omega
      have hzl := hg4.len
      have hpk : PopsOk (stC [] (tr ++ (es.take k).map (caOf mb))) [(wd, i)] := by
        rw [← hsp] at hp
        have h1 := pops_app.mp hp
        rw [stC_app, st_run h1.1]
        exact ⟨h1.2.1, True.intro⟩
      -- what is the same for both calls
      have go : ∀ (ac : V) (as : List V) (ca : Ca) (Hn : Hp) (t : Addr) (Q' : VK), Same H4 Hn → Hn t = some (.tup ca.ent) → as.length ≤ 10 →
          (∀ (H6 : Hp) (Qn : VK), R (tr ++ (es.take k).map (caOf mb)) H6 → (∀ u H', Kp uv H6 H' → R ((tr ++ (es.take k).map (caOf mb)) ++ [ca]) H' → Qn u H') → Acx P w K mg base n ac as H6 Qn) →
          (∀ u H8, Kp (o :: c :: l :: uv) H H8 → H8 o = some (OO T.C_Outer d1 c fp fo' fa od false) → H8 c = some (CO T.C_Calls d2 l false) → (∃ zs, H8 l = some (.lst zs) ∧ LogC H8 zs ((tr ++ (es.take k).map (caOf mb)) ++ [ca])) → R ((tr ++ (es.take k).map (caOf mb)) ++ [ca]) H8 → Q' u H8) →
          spRun P w K mg base T.C_Calls n (.ref c :: .ref t :: ac :: as) Hn Q' E0 := by
        intro ac as ca Hn t Q' sn et la hact hq
        have R5 := OA.rk R4 (kp_same (cs := []) sn) mu_nil (fun _ _ => not_nil)
        have hc5 := sn _ _ hc4
        have hl5 := sn _ _ hl4
        have ho5 := sn _ _ ho4
        have g5 := hg4.kp (kp_same (cs := []) sn) mu_nil
        refine ⟨c, d2, l, .ref t, ac, as, rfl, by rw [sizeLine_eq]; omega, hc5, fun H6 k6 ec6 => act_of (hact H6 _ ?_ fun u H7 k7 R7 => ?_)⟩
        · exact OA.rk R5 k6 (mu_ins hc5 mu_nil) (fun a m => not_cons (nu a m).2.1 not_nil)
        · have m5 : Mu Hn [c] := mu_ins hc5 mu_nil
          have R6 := OA.rk R5 k6 m5 (fun a m => not_cons (nu a m).2.1 not_nil)
          have m6 := OA.mu R6
          have ec7 := k7.at_ _ _ ec6 uc
          have el7 := k7.at_ _ _ (k6.at_ _ _ hl5 (not_cons nlc not_nil)) ul
          have eo7 := k7.at_ _ _ (k6.at_ _ _ ho5 (not_cons noc not_nil)) uo
          have g7 := (g5.kp k6 m5).kp k7 m6
          have et7 := kp_tup k7 m6 (kp_tup k6 m5 et)
          refine ⟨ec7, zs, el7, by rw [hzl, sizeLine_eq]; omega, fun H8 k8 ec8 el8 => ?_⟩
          have m7 : Mu H7 [c, l] := mu_ins ec7 (mu_lst el7 mu_nil)
          have kk : Kp (o :: c :: l :: uv) H H8 := kp_trans k4 (kp_trans (kp_same sn) (kp_trans (kp_more k6 (subCons (memB memA) subNil)) (kp_trans (kp_more k7 fun a m => memB (memB (memB m))) (kp_more k8 (subCons (memB memA) (subCons (memB (memB memA)) subNil))))))
          exact hq u H8 kk (k8.at_ _ _ eo7 (not_cons noc (not_cons nlo.symm not_nil))) ec8 ⟨_, el8, (g7.kp k8 m7).add (kp_tup k8 m7 et7)⟩ (OA.rk R7 k8 m7 (fun a m => not_cons (nu a m).2.1 (not_cons (nu a m).2.2.1 not_nil)))
      refine ⟨p, _, rfl, sqtOf hp4, rfl, _, _, rfl, _, _, rfl, rfl, ?_⟩
      refine ⟨_, rfl, rfl, _, rfl, ?_⟩
      by_cases cw : wd = "push"
      · subst cw
        obtain ⟨hv, hPM⟩ := hmb _ hmem rfl
        refine ifT wPP ?_
        have ecn : caOf mb (("push" : Str), i) = .push i (mb i) := if_pos rfl
        refine ⟨_, rfl, o, _, d1, _, _, rfl, ho4, T.cl_Outer, T.n_Outer_calls, rfl, c, d2, _, rfl, hc4, rfl, _, rfl, _, rfl, le2, fun t nt => ?_⟩
        have st := same_newF (o := .tup [.str "push", .int (i : Int)]) (Fr.mk nt)
        have hg : DGet (upd H4 t (.tup [.str "push", .int (i : Int)])) hd (.int (i : Int)) (some (mb i)) := by
          rw [← hv]
          exact DGet.k (k := .inl (i : Int)) (st _ _ (k4.at_ _ _ hhd nhd))
        refine ⟨_, rfl, o, _, d1, _, _, rfl, st _ _ ho4, T.cl_Outer, T.n_Outer_push_call, rfl, _, rfl, _, rfl, hd, _, rfl, hg, ?_⟩
        refine go fp [mb i] (.push i (mb i)) _ t _ st upd_same (show 1 ≤ 10 by decide) (fun H6 Qn R6 hq => OA.push hPM hlt R6 hq) fun u H8 a1 a2 a3 a4 a5 => ?_
        exact ⟨_, _, rfl, a1, a2, a3, by rw [List.map_cons, List.map_nil, ecn]; exact a4, by rw [List.map_cons, List.map_nil, ecn]; exact a5⟩
      · have hpop : wd = "pop" ∧ ∃ S', stC [] (tr ++ (es.take k).map (caOf mb)) = S' ++ [i] := by
          have := hpk.1
          rw [if_neg cw] at this
          exact this
        obtain ⟨rfl, S', hS⟩ := hpop
        refine ifF wOP ?_
        have ecn : caOf mb (("pop" : Str), i) = .pop i := if_neg wOP2
        refine ⟨_, rfl, o, _, d1, _, _, rfl, ho4, T.cl_Outer, T.n_Outer_calls, rfl, c, d2, _, rfl, hc4, rfl, _, rfl, _, rfl, le2, fun t nt => ?_⟩
        have st := same_newF (o := .tup [.str "pop", .int (i : Int)]) (Fr.mk nt)
        refine ⟨_, rfl, o, _, d1, _, _, rfl, st _ _ ho4, T.cl_Outer, T.n_Outer_pop_call, rfl, ?_⟩
        refine go fo' [] (.pop i) _ t _ st upd_same (by decide) (fun H6 Qn R6 hq => OA.pop hS hlt R6 hq) fun u H8 a1 a2 a3 a4 a5 => ?_
        exact ⟨_, _, rfl, a1, a2, a3, by rw [List.map_cons, List.map_nil, ecn]; exact a4, by rw [List.map_cons, List.map_nil, ecn]; exact a5⟩
    · rintro σ H4 ⟨y4, y5, rfl, k4, ho4, hc4, ⟨zs, hl4, hg4⟩, R4⟩
      rw [List.take_of_length_le (by omega)] at hg4 R4
      dsimp only []
      refine pAsg (pGN ?_)
      simp only [List.set_cons_succ, List.set_cons_zero]
      refine ⟨_, rfl, _, rfl, o, _, d1, _, rfl, ho4, T.cl_Outer, T.n_Outer_broken, (show 6 < 1000 by decide), ?_⟩
      have ku : Kp [o] H4 (upd H4 o (OO T.C_Outer d1 c fp fo' fa od false)) := kp_up memA (kp_refl _ _)
      have m4 : Mu H4 [o] := mu_ins ho4 mu_nil
      exact q _ (kp_trans k4 (kp_more ku (subCons memA subNil))) ⟨d1, upd_same⟩ ⟨d2, ku.at_ _ _ hc4 (not_cons noc.symm not_nil)⟩ ⟨zs, ku.at_ _ _ hl4 (not_cons nlo not_nil), hg4.kp ku m4⟩ (OA.rk R4 ku m4 fun a m => not_cons (nu a m).1 not_nil)
end
end Ob

set_option Elab.async false
set_option linter.all false
set_option maxRecDepth 100000
set_option maxHeartbeats 1000000
namespace Ob
open PySem PySem.Spec PyProof.Rows L2
open LamX (Tabs TabB TabS ExtN)

set_option hygiene false in
local macro_rules
  | `(tactic| kp_flats) => `(tactic| first
    | assumption
    | exact upd_same
    | (apply atNew; assumption; kp_flats)
    | (apply atNe; (next => kbo_bools); kp_flats)
    | (apply atSame; assumption; kp_flats)
    | (apply atKp; assumption; (next => kaf_pre); kp_flats))
set_option hygiene false in
local macro_rules
  | `(tactic| kaf_pre) => `(tactic| first
    | assumption
    | exact not_nil
    | (apply not_cons; (next => kbo_bools); kaf_pre)
    | (apply not_app; (next => kaf_pre); kaf_pre))
set_option hygiene false in
local macro_rules
  | `(tactic| kbo_bools) => `(tactic| first
    | assumption
    | (apply Ne.symm; assumption)
    | (apply neN; assumption; kp_flats)
    | (apply neN'; assumption; kp_flats))
set_option hygiene false in
local macro_rules
  | `(tactic| o_reads) => `(tactic| first
    | with_reducible rfl
    | assumption
    | rfl
    | kp_flats
    | (show SqL _ _ _ _; first | assumption | (apply sqlOf; kp_flats) | (apply sqlSame; assumption; o_reads))
    | (show SqT _ _ _ _; first | assumption | (apply sqtOf; kp_flats) | (apply sqtAll; assumption) | (apply sqtSame; assumption; o_reads))
    | (show Cls _ _; first | exact T.cl_Calls | exact T.cl_Outer | exact T.cl_Ranked | exact T.cl_Unions)
    | (show NoAttr _ _ _; first | exact T.n_Calls_entries | exact T.n_Calls_running | exact T.n_Outer_calls | exact T.n_Outer_push_call | exact T.n_Outer_pop_call | exact T.n_Outer_ask_call | exact T.n_Outer_order | exact T.n_Outer_broken | exact T.n_Ranked_outer | exact T.n_Ranked_given | exact T.n_Ranked_held | exact T.n_Ranked_ranks | exact T.n_Ranked_removals | exact T.n_Unions_groups | exact T.n_Unions_parents | exact T.n_Unions_counts | exact T.n_Unions_moved)
    | (apply Or.inl; o_reads)
    | (apply Or.inr; o_reads)
    | (apply And.intro; (next => o_reads); o_reads)
    | (apply Exists.intro; o_reads)
    | exact Nat.le_of_ble_eq_true rfl
    | exact Nat.succ_ne_zero _
    | (show Fr _ _; kba_ints)
    | (show Same _ _; kd_subs)
    | (show Kp _ _ _; kxs_still)
    | (show (_ : Nat) ≤ _; simp only [List.length_append, List.length_map, List.length_cons, List.length_nil, List.length_take, List.length_drop, List.length_replicate, List.length_range, sizeLine_eq]; omega)
    | (show _ = none; apply Fr.h; kba_ints)
    | (show Bag _ _; first | assumption | (apply bag_putF; assumption; o_reads) | (apply bag_neF; (next => kbo_bools); o_reads) | (apply bag_kpR; assumption; (next => kaf_pre); o_reads))
    | omega
    | decide)
local macro_rules
  | `(tactic| o_readsAll) => `(tactic| repeat (first
    | (refine fun (pNew : Addr) (nNew : _ = none) => ?_; replace nNew := Fr.mk nNew)
    | (refine fun (xNew dNew : Addr) (nNew : _ = none) (mNew : _ = none) (eNew : dNew ≠ xNew) => ?_; replace nNew := Fr.mk nNew; replace mNew := Fr.mk mNew)
    | (apply And.intro; next => o_reads)
    | apply Exists.intro (α := V)
    | apply Exists.intro (α := Addr)
    | apply Exists.intro (α := Int)
    | apply Exists.intro (α := Bool)
    | apply Exists.intro (α := List V)
    | apply Exists.intro (α := List Nat)
    | apply Exists.intro (α := List (Str × V))
    | apply Exists.intro (α := List _)
    | apply Exists.intro (α := Str)
    | apply Exists.intro (α := HO)
    | apply Exists.intro (α := Sp)
    | apply Exists.intro (α := VK)))
set_option hygiene false in
local macro_rules
  | `(tactic| kba_ints) => `(tactic| first
    | assumption
    | (apply frUp; (first | assumption | (apply Ne.symm; assumption)); kba_ints)
    | (apply noneOf; assumption; intro oF eF; apply Exists.intro; kp_flats)
    | (apply frUp; (next => kbo_bools); kba_ints))
set_option hygiene false in
local macro_rules
  | `(tactic| kxs_still) => `(tactic| first
    | assumption
    | exact kp_refl _ _
    | (apply kp_newF; assumption; kxs_still)
    | (apply kp_new; assumption; kxs_still)
    | (apply kp_up; (next => o_fieldsN); kxs_still)
    | (apply kp_new; (next => kba_ints); kxs_still)
    | (apply kp_sameR; assumption; kxs_still)
    | (apply kp_transR; assumption; kxs_still)
    | (apply kp_freshR; assumption; (next => kaf_suf); kxs_still))
set_option hygiene false in
local macro_rules
  | `(tactic| kaf_suf) => `(tactic| first
    | assumption
    | exact subNil
    | (apply subCons; (first | (apply Or.inl; o_fieldsN) | (apply Or.inr; kba_ints)); kaf_suf)
    | (apply subApp; (next => kaf_suf); kaf_suf))
set_option hygiene false in
local macro_rules
  | `(tactic| o_fieldsN) => `(tactic| first
    | assumption
    | exact memA
    | (apply memB; o_fieldsN)
    | (apply memL; o_fieldsN)
    | (apply memR; o_fieldsN))
set_option hygiene false in
local macro_rules
  | `(tactic| kd_subs) => `(tactic| first
    | assumption
    | exact Same.refl _
    | (apply same_putF; assumption; kd_subs)
    | (apply same_putG; assumption; kd_subs)
    | (apply same_putF; (next => kba_ints); kd_subs)
    | (apply same_transR; assumption; kd_subs))

set_option pp.maxSteps 900
theorem run_lenA : ∀ {l : List (Str × Nat)} {S : List Nat}, (runW S l).length ≤ S.length + l.length
  | [], S => Nat.le_refl _
  | e :: l, S => by
    have h := run_lenA (l := l) (S := stepS S e)
    have h2 : (stepS S e).length ≤ S.length + 1 := by
      unfold stepS
      split
      · rw [List.length_append]
        exact Nat.le_refl _
      · split
        · rw [List.length_dropLast]
          omega
        · omega
    show (runW (stepS S e) l).length ≤ _
    rw [List.length_cons]
    omega
section
variable {P : Program} {w : World} {K : PySem.W.Frag} {mg : Str → Option Value} {base : Heap} {n : Nat}
/-- the stack behind these entries: a new list -/
def spChg : Sp := fun vs H Q _ => ∃ (a b : Addr) (S : List Nat) (ys : List V) (es : List (Str × Nat)), vs = [.ref a, .ref b] ∧ H a = some (.lst (S.map nV)) ∧ H b = some (.lst ys) ∧ WLog H ys es ∧ PopsOk S es ∧ S.length + es.length < 1000000 ∧ ∀ o H', Same H H' → Fr H o → H' o = some (.lst ((runW S es).map nV)) → Q (.ref o) H'
theorem ok_chg (T : Txt K mg) : FnOk P w K mg base CX0 1 T.f_changed_order T.d_changed_order ["order", "entries"] spChg := by
  refine T.F_changed_order.ok sc_changed_order (fun vs H Q E h => ?_) (fun cdv A outer s H vs Q E hr h => ?_)
  · obtain ⟨a, b, S, ys, es, rfl, _⟩ := h
    rfl
  · obtain ⟨a, b, S, ys, es, rfl, ha, hb, hw, hp, hlen, q⟩ := h
    refine ⟨_, (pss_cons (ps_set (i := 2) sc_changed_order.nd rfl (.inl rfl) (pe_callTy call_list_of (by rfl) T.z_list (by decide +kernel) (pa_cons (pv 0) pa_nil)))
      (pss_cons (ps_for PassesOwn.never rfl (pi_list (pv 1)) (pg_tup (by rfl) (pgs_cons (pg_name (i := 3) sc_changed_order.nd rfl (.inl rfl)) (pgs_cons (pg_name (i := 4) sc_changed_order.nd rfl (.inl rfl)) pgs_nil))) (pss_one (ps_if (pt_cmpR op_eq (pv 3) pe_str (nomark _)) (pss_one (ps_expr (pe_bm PySem.F.plainAttrs_list PySem.F.slot_list_append PySem.F.type_list_append mt_append (pv 2) (pa_cons (pv 4) pa_nil)))) (pss_one (ps_expr (pe_bm0 PySem.F.plainAttrs_list PySem.F.slot_list_pop PySem.F.type_list_pop mt_pop (pv 2)))))))
      (pss_one (ps_ret (pv 2))))), ?_⟩
    have hwl := hw.len
    refine ⟨_, rfl, a, _, rfl, .inl (sqlOf ha), fun o no => pGN ?_⟩
    have fo := Fr.mk no
    have s1 := same_newF (o := .lst (S.map nV)) fo
    have eo : upd H o (.lst (S.map nV)) o = some (.lst (S.map nV)) := upd_same
    generalize upd H o (.lst (S.map nV)) = H1 at s1 eo ⊢
    simp only [List.set_cons_succ, List.set_cons_zero]
    refine ⟨_, rfl, b, rfl, ⟨_, sqlOf (s1 _ _ hb)⟩, ?_⟩
    refine for_it (walk_list (K := K) (a := b) (xs := ys)) (fun k σ H' => ∃ y3 y4, σ = [some (.ref a), some (.ref b), some (.ref o), y3, y4] ∧ Same H H' ∧ H' o = some (.lst ((runW S (es.take k)).map nV))) ⟨_, _, rfl, s1, by rw [List.take_zero]; exact eo⟩ (fun k σ H' _ ⟨_, _, _, z, _⟩ => sqlOf (z _ _ hb)) ?_ ?_
    · rintro k x σ H4' H4 hk ⟨y4, y5, rfl, s4, ho4⟩ ⟨rfl, hx⟩
      have hke : k < es.length := by omega
      have hee : es[k]? = some (es[k]'hke) := List.getElem?_eq_getElem hke
      have hsp : es.take k ++ es[k]'hke :: es.drop (k + 1) = es := by
        rw [List.getElem_cons_drop, List.take_append_drop]
      have htk : es.take (k + 1) = es.take k ++ [es[k]'hke] := by
        rw [List.take_succ, hee]
        rfl
      rw [htk, run_app]
      generalize es[k]'hke = e at hee hsp ⊢
      obtain ⟨p, rfl, hp4⟩ := (hw.kp (cs := []) (kp_same s4) mu_nil).at_ k x e hx hee
      obtain ⟨wd, i⟩ := e
      have hpk : PopsOk (runW S (es.take k)) [(wd, i)] := by
        rw [← hsp] at hp
        exact ⟨(pops_app.mp hp).2.1, True.intro⟩
      have hrl := run_lenA (S := S) (l := es.take k)
      rw [List.length_take] at hrl
      generalize runW S (es.take k) = S4 at hpk hrl ho4 ⊢
      refine ⟨p, _, rfl, sqtOf hp4, rfl, _, _, rfl, _, _, rfl, rfl, ?_⟩
      refine ⟨_, rfl, rfl, _, rfl, ?_⟩
      by_cases cw : wd = "push"
      · subst cw
        refine ifT wPP ?_
        refine ⟨_, rfl, .inl ⟨rfl, _, sqlOf ho4⟩, _, rfl, o, _, _, rfl, rfl, ho4, by rw [List.length_map, sizeLine_eq]; omega, ?_⟩
        refine ⟨_, _, rfl, same_putG fo s4, ?_⟩
        have e2 : runW S4 [(("push" : Str), i)] = S4 ++ [i] := by
          show stepS S4 (("push" : Str), i) = _
          unfold stepS
          rw [if_pos rfl]
        rw [upd_same, e2, List.map_append]
        rfl
      · have hpop : wd = "pop" ∧ ∃ S', S4 = S' ++ [i] := by
          have := hpk.1
          rw [if_neg cw] at this
          exact this
        obtain ⟨rfl, S', rfl⟩ := hpop
        refine ifF wOP ?_
        have hlast : ((S' ++ [i]).map nV)[((S' ++ [i]).map nV).length - 1]? = some (nV i) := by
          rw [List.map_append, List.length_append]
          exact List.getElem?_concat_length ..
        refine ⟨_, rfl, .inl ⟨rfl, _, sqlOf ho4⟩, o, _, _, rfl, rfl, ho4, hlast, ?_⟩
        refine ⟨_, _, rfl, same_putG fo s4, ?_⟩
        have e2 : runW (S' ++ [i]) [(("pop" : Str), i)] = S' := by
          show stepS (S' ++ [i]) (("pop" : Str), i) = _
          unfold stepS
          rw [if_neg wOP2, if_pos rfl, List.dropLast_concat]
        rw [upd_same, e2, List.map_append, List.map_cons, List.map_nil, List.dropLast_concat]
    · rintro σ H4 ⟨y3, y4, rfl, s4, ho4⟩
      rw [List.take_of_length_le (by omega)] at ho4
      exact ⟨_, rfl, q o H4 s4 fo ho4⟩
def spAnsw (P : Program) (w : World) (K : PySem.W.Frag) (mg : Str → Option Value) (base : Heap) (C CC : Addr) (n : Nat) : Sp := fun vs H Q _ => ∃ (o c l od : Addr) (fp fo fa qv : V) (uv : List Addr) (PM : Nat → V → Prop) (PQ : V → Prop) (R : List Ca → Hp → Prop) (An : List Ca → V → V → Hp → Prop) (tr : List Ca),
  vs = [.ref o, qv] ∧ OS P w K mg base n uv fp fo fa PM PQ R An ∧ OutAt C CC H o c l od fp fo fa uv R tr ∧ PQ qv ∧ tr.length < 1000000 ∧
  ∀ u H', Kp (o :: c :: l :: uv) H H' → OutAt C CC H' o c l od fp fo fa uv R (tr ++ [.ask qv]) → An tr qv u H' → (∀ r, u = .ref r → H r = none) → Q u H'
theorem ok_answ (T : Txt K mg) : FnOk P w K mg base CX0 (n + 4) T.f_Outer_answer T.d_Outer_answer ["self", "question"] (spAnsw P w K mg base T.C_Outer T.C_Calls n) := by
  have G_Calls_run := ok_run (P := P) (w := w) (base := base) (n := n) T
  refine T.F_Outer_answer.ok sc_Outer_answer (fun vs H Q E h => ?_) (fun cdv A outer s H vs Q E hr h => ?_)
  · obtain ⟨o, c, l, od, fp, fo, fa, qv, uv, PM, PQ, R, An, tr, rfl, _⟩ := h
    rfl
  · obtain ⟨o, c, l, od, fp, fo, fa, qv, uv, PM, PQ, R, An, tr, rfl, OA, hO, hpq, hlen, q⟩ := h
    refine ⟨_, (pss_one (ps_ret (pe_methR (pe_fld (pv 0) rfl) T.cl_Calls ⟨T.m_Calls_run, T.t_Calls_run, T.k_Calls_run⟩ G_Calls_run (hr.mono (by omega)) pass0 (pa_cons (pe_tup (pa_cons pe_str pa_nil)) (pa_cons (pe_fld (pv 0) rfl) (pa_cons (pv 1) pa_nil)))))), ?_⟩
    obtain ⟨⟨d1, ho⟩, ⟨d2, hc⟩, ⟨xs, hl, hlg⟩, hod, hR, nlod, noc, nu⟩ := hO
    have nlo : l ≠ o := neO hl ho (fun z => nomatch z)
    have nlc : l ≠ c := neO hl hc (fun z => nomatch z)
    have ndo : od ≠ o := neO hod ho (fun z => nomatch z)
    have ndc : od ≠ c := neO hod hc (fun z => nomatch z)
    have uo : o ∉ uv := fun m => (nu o m).1 rfl
    have uc : c ∉ uv := fun m => (nu c m).2.1 rfl
    have ul : l ∉ uv := fun m => (nu l m).2.2.1 rfl
    have ud : od ∉ uv := fun m => (nu od m).2.2.2 rfl
    refine ⟨_, rfl, o, _, d1, _, _, rfl, ho, T.cl_Outer, T.n_Outer_calls, rfl, c, d2, _, rfl, hc, rfl, (by decide : 1 ≤ sizeLine), fun t nt => ?_⟩
    have st := same_newF (o := .tup [.str "ask"]) (Fr.mk nt)
    refine ⟨_, rfl, o, _, d1, _, _, rfl, st _ _ ho, T.cl_Outer, T.n_Outer_ask_call, rfl, _, rfl, ?_⟩
    have et : upd H t (.tup [.str "ask"]) t = some (.tup [.str "ask"]) := upd_same
    have R5 := OA.rk hR (kp_same (cs := []) st) mu_nil (fun _ _ => not_nil)
    have hc5 := st _ _ hc
    have m5 : Mu (upd H t (.tup [.str "ask"])) [c] := mu_ins hc5 mu_nil
    have g5 := hlg.kp (kp_same (cs := []) st) mu_nil
    refine ⟨c, d2, l, .ref t, fa, [qv], rfl, by rw [sizeLine_eq]; show 1 ≤ _; omega, hc5, fun H6 k6 ec6 => ?_⟩
    have R6 := OA.rk R5 k6 m5 (fun a m => not_cons (nu a m).2.1 not_nil)
    refine act_of (OA.ask hpq hlen R6 fun u H7 k7 R7 a7 f7 => ?_)
    have m6 := OA.mu R6
    have ec7 := k7.at_ _ _ ec6 uc
    have el7 := k7.at_ _ _ (k6.at_ _ _ (st _ _ hl) (not_cons nlc not_nil)) ul
    have eo7 := k7.at_ _ _ (k6.at_ _ _ (st _ _ ho) (not_cons noc not_nil)) uo
    have ed7 := k7.at_ _ _ (k6.at_ _ _ (st _ _ hod) (not_cons ndc not_nil)) ud
    have hxl := hlg.len
    refine ⟨ec7, xs, el7, by rw [hxl, sizeLine_eq]; omega, fun H8 k8 ec8 el8 => ?_⟩
    have m7 : Mu H7 [c, l] := mu_ins ec7 (mu_lst el7 mu_nil)
    have nu7 : ∀ a ∈ uv, a ∉ [c, l] := fun a m => not_cons (nu a m).2.1 (not_cons (nu a m).2.2.1 not_nil)
    refine q u H8 (kp_trans (kp_same st) (kp_trans (kp_more k6 (subCons (memB memA) subNil)) (kp_trans (kp_more k7 fun a m => memB (memB (memB m))) (kp_more k8 (subCons (memB memA) (subCons (memB (memB memA)) subNil)))))) ⟨⟨d1, k8.at_ _ _ eo7 (not_cons noc (not_cons nlo.symm not_nil))⟩, ⟨d2, ec8⟩, ⟨_, el8, (((g5.kp k6 m5).kp k7 m6).kp k8 m7).add (kp_tup k8 m7 (kp_tup k7 m6 (kp_tup k6 m5 et)))⟩, ?_, OA.rk R7 k8 m7 nu7, nlod, noc, nu⟩ (OA.ak a7 k8 m7 fun r e => (mu_ins ec6 (mu_lst (k6.at_ _ _ (st _ _ hl) (not_cons nlc not_nil)) mu_nil)).fr (Fr.mk (f7 r e))) fun r e => st.free (fr_kp k6 (mu_ins ec6 mu_nil) (Fr.mk (f7 r e))).h
    rw [stC_app]
    exact k8.at_ _ _ ed7 (not_cons ndc (not_cons nlod.symm not_nil))
/-- the calls of entries: followed, and the stack is that behind them -/
def spChange (P : Program) (w : World) (K : PySem.W.Frag) (mg : Str → Option Value) (base : Heap) (C CC : Addr) (n : Nat) : Sp := fun vs H Q _ => ∃ (o c l od ea hd : Addr) (fp fo fa : V) (uv : List Addr) (PM : Nat → V → Prop) (PQ : V → Prop) (R : List Ca → Hp → Prop) (An : List Ca → V → V → Hp → Prop) (tr : List Ca) (ys : List V) (es : List (Str × Nat)) (kvs : List (Key × V)) (mb : Nat → V),
  vs = [.ref o, .ref ea, .ref hd] ∧ OS P w K mg base n uv fp fo fa PM PQ R An ∧ OutAt C CC H o c l od fp fo fa uv R tr ∧ H ea = some (.lst ys) ∧ WLog H ys es ∧ H hd = some (.dK kvs) ∧ (∀ e ∈ es, e.1 = "push" → valV kvs (.inl (e.2 : Int)) = some (mb e.2) ∧ PM e.2 (mb e.2)) ∧ PopsOk (stC [] tr) es ∧ tr.length + es.length < 500000 ∧ (stC [] tr).length < 500000 ∧
  (∀ a ∈ [ea, hd], a ≠ o ∧ a ≠ c ∧ a ≠ l ∧ a ∉ uv) ∧
  ∀ od2 H', Kp (o :: c :: l :: uv) H H' → Fr H od2 → OutAt C CC H' o c l od2 fp fo fa uv R (tr ++ es.map (caOf mb)) → Q .non H'
theorem ok_change (T : Txt K mg) : FnOk P w K mg base CX0 (n + 6) T.f_Outer_change T.d_Outer_change ["self", "entries", "held"] (spChange P w K mg base T.C_Outer T.C_Calls n) := by
  have G_Outer_follow := ok_fol (P := P) (w := w) (base := base) (n := n) T
  have G_changed_order := ok_chg (P := P) (w := w) (base := base) T
  refine T.F_Outer_change.ok sc_Outer_change (fun vs H Q E h => ?_) (fun cdv A outer s H vs Q E hr h => ?_)
  · obtain ⟨o, c, l, od, ea, hd, fp, fo, fa, uv, PM, PQ, R, An, tr, ys, es, kvs, mb, rfl, _⟩ := h
    rfl
  · obtain ⟨o, c, l, od, ea, hd, fp, fo, fa, uv, PM, PQ, R, An, tr, ys, es, kvs, mb, rfl, OA, hO, hea, hw, hhd, hmb, hp, hlen, hlen2, hne, q⟩ := h
    refine ⟨_, (pss_cons (ps_expr (pe_meth (pv 0) T.cl_Outer ⟨T.m_Outer_follow, T.t_Outer_follow, T.k_Outer_follow⟩ G_Outer_follow (hr.mono (by omega)) T.b_Outer_follow .nil pass0 (pa_cons (pv 1) (pa_cons (pv 2) pa_nil))))
      (pss_one (ps_fld (pv 0) (pe_call G_changed_order (hr.mono (by omega)) rfl T.g_changed_order T.F_changed_order.kp T.b_changed_order .nil pass0 (pa_cons (pe_fld (pv 0) rfl) (pa_cons (pv 1) pa_nil))) rfl))), ?_⟩
    obtain ⟨⟨d1, ho⟩, ⟨d2, hc⟩, ⟨xs, hl, hlg⟩, hod, hR, nlod, noc, nu⟩ := id hO
    have nlo : l ≠ o := neO hl ho (fun z => nomatch z)
    have ndo : od ≠ o := neO hod ho (fun z => nomatch z)
    have ndc : od ≠ c := neO hod hc (fun z => nomatch z)
    have ud : od ∉ uv := fun m => (nu od m).2.2.2 rfl
    have mU : Mu H (o :: c :: l :: uv) := mu_ins ho (mu_ins hc (mu_lst hl (OA.mu hR)))
    refine ⟨_, rfl, o, d1, _, rfl, ho, rfl, _, rfl, _, rfl, o, c, l, od, ea, hd, fp, fo, fa, uv, PM, PQ, R, An, tr, ys, es, kvs, mb, rfl, OA, hO, hea, hw, hhd, hmb, hp, by omega, hne, fun H1 k1 ⟨d3, ho1⟩ hc1 ⟨zs, hl1, hg1⟩ R1 => ?_⟩
    have hod1 := k1.at_ _ _ hod (not_cons ndo (not_cons ndc (not_cons nlod.symm ud)))
    have nea : ea ∉ o :: c :: l :: uv := by
      obtain ⟨a1, a2, a3, a4⟩ := hne ea memA
      exact not_cons a1 (not_cons a2 (not_cons a3 a4))
    refine ⟨_, rfl, o, _, d3, _, _, rfl, ho1, T.cl_Outer, T.n_Outer_order, rfl, _, rfl, od, ea, stC [] tr, ys, es, rfl, hod1, k1.at_ _ _ hea nea, hw.kp k1 mU, hp, by omega, fun od2 H2 s2 fod2 e2 => ?_⟩
    have ho2 := s2 _ _ ho1
    obtain ⟨d4, hc1⟩ := hc1
    refine ⟨_, rfl, o, _, d3, _, rfl, ho2, T.cl_Outer, T.n_Outer_order, (show 6 < 1000 by decide), ?_⟩
    have ku : Kp [o] H2 (upd H2 o (OO T.C_Outer d3 c fp fo fa od2 false)) := kp_up memA (kp_refl _ _)
    have m2 : Mu H2 [o] := mu_ins ho2 mu_nil
    have n2o : od2 ≠ o := (ne_of_none ho1 fod2.h).symm
    have m1 : Mu H1 (o :: c :: l :: uv) := mu_ins ho1 (mu_ins hc1 (mu_lst hl1 (OA.mu R1)))
    have R2 := OA.rk (OA.rk R1 (kp_same (cs := []) s2) mu_nil (fun _ _ => not_nil)) ku m2 fun a m => not_cons (nu a m).1 not_nil
    refine q od2 _ (kp_trans k1 (kp_trans (kp_same s2) (kp_more ku (subCons memA subNil)))) (fr_kp k1 m1 fod2) ⟨⟨d3, upd_same⟩, ⟨d4, ku.at_ _ _ (s2 _ _ hc1) (not_cons noc.symm not_nil)⟩, ⟨zs, ku.at_ _ _ (s2 _ _ hl1) (not_cons nlo not_nil), (hg1.kp (cs := []) (kp_same s2) mu_nil).kp ku m2⟩, ?_, R2, ne_of_none hl1 fod2.h, noc, fun a m => ⟨(nu a m).1, (nu a m).2.1, (nu a m).2.2.1, fun z => ?_⟩⟩
    · rw [stC_app, st_run hp]
      exact ku.at_ _ _ e2 (not_cons n2o not_nil)
    · obtain ⟨x, hx, _⟩ := OA.mu R1 a m
      rw [z, fod2.h] at hx
      cases hx
end
end Ob

set_option Elab.async false
set_option linter.all false
set_option maxRecDepth 100000
set_option maxHeartbeats 1000000
namespace Ob
open PySem PySem.Spec PyProof.Rows L2
open LamX (Tabs TabB TabS ExtN)

set_option hygiene false in
local macro_rules
  | `(tactic| kp_flats) => `(tactic| first
    | assumption
    | exact upd_same
    | (apply atNew; assumption; kp_flats)
    | (apply atNe; (next => kbo_bools); kp_flats)
    | (apply atSame; assumption; kp_flats)
    | (apply atKp; assumption; (next => kaf_pre); kp_flats))
set_option hygiene false in
local macro_rules
  | `(tactic| kaf_pre) => `(tactic| first
    | assumption
    | exact not_nil
    | (apply not_cons; (next => kbo_bools); kaf_pre)
    | (apply not_app; (next => kaf_pre); kaf_pre))
set_option hygiene false in
local macro_rules
  | `(tactic| kbo_bools) => `(tactic| first
    | assumption
    | (apply Ne.symm; assumption)
    | (apply neN; assumption; kp_flats)
    | (apply neN'; assumption; kp_flats))
set_option hygiene false in
local macro_rules
  | `(tactic| o_reads) => `(tactic| first
    | with_reducible rfl
    | assumption
    | rfl
    | kp_flats
    | (show SqL _ _ _ _; first | assumption | (apply sqlOf; kp_flats) | (apply sqlSame; assumption; o_reads))
    | (show SqT _ _ _ _; first | assumption | (apply sqtOf; kp_flats) | (apply sqtAll; assumption) | (apply sqtSame; assumption; o_reads))
    | (show Cls _ _; first | exact T.cl_Calls | exact T.cl_Outer | exact T.cl_Ranked | exact T.cl_Unions)
    | (show NoAttr _ _ _; first | exact T.n_Calls_entries | exact T.n_Calls_running | exact T.n_Outer_calls | exact T.n_Outer_push_call | exact T.n_Outer_pop_call | exact T.n_Outer_ask_call | exact T.n_Outer_order | exact T.n_Outer_broken | exact T.n_Ranked_outer | exact T.n_Ranked_given | exact T.n_Ranked_held | exact T.n_Ranked_ranks | exact T.n_Ranked_removals | exact T.n_Unions_groups | exact T.n_Unions_parents | exact T.n_Unions_counts | exact T.n_Unions_moved)
    | (apply Or.inl; o_reads)
    | (apply Or.inr; o_reads)
    | (apply And.intro; (next => o_reads); o_reads)
    | (apply Exists.intro; o_reads)
    | exact Nat.le_of_ble_eq_true rfl
    | exact Nat.succ_ne_zero _
    | (show Fr _ _; kba_ints)
    | (show Same _ _; kd_subs)
    | (show Kp _ _ _; kxs_still)
    | (show (_ : Nat) ≤ _; simp only [List.length_append, List.length_map, List.length_cons, List.length_nil, List.length_take, List.length_drop, List.length_replicate, List.length_range, sizeLine_eq]; omega)
    | (show _ = none; apply Fr.h; kba_ints)
    | (show Bag _ _; first | assumption | (apply bag_putF; assumption; o_reads) | (apply bag_neF; (next => kbo_bools); o_reads) | (apply bag_kpR; assumption; (next => kaf_pre); o_reads))
    | omega
    | decide)
local macro_rules
  | `(tactic| o_readsAll) => `(tactic| repeat (first
    | (refine fun (pNew : Addr) (nNew : _ = none) => ?_; replace nNew := Fr.mk nNew)
    | (refine fun (xNew dNew : Addr) (nNew : _ = none) (mNew : _ = none) (eNew : dNew ≠ xNew) => ?_; replace nNew := Fr.mk nNew; replace mNew := Fr.mk mNew)
    | (apply And.intro; next => o_reads)
    | apply Exists.intro (α := V)
    | apply Exists.intro (α := Addr)
    | apply Exists.intro (α := Int)
    | apply Exists.intro (α := Bool)
    | apply Exists.intro (α := List V)
    | apply Exists.intro (α := List Nat)
    | apply Exists.intro (α := List (Str × V))
    | apply Exists.intro (α := List _)
    | apply Exists.intro (α := Str)
    | apply Exists.intro (α := HO)
    | apply Exists.intro (α := Sp)
    | apply Exists.intro (α := VK)))
set_option hygiene false in
local macro_rules
  | `(tactic| kba_ints) => `(tactic| first
    | assumption
    | (apply frUp; (first | assumption | (apply Ne.symm; assumption)); kba_ints)
    | (apply noneOf; assumption; intro oF eF; apply Exists.intro; kp_flats)
    | (apply frUp; (next => kbo_bools); kba_ints))
set_option hygiene false in
local macro_rules
  | `(tactic| kxs_still) => `(tactic| first
    | assumption
    | exact kp_refl _ _
    | (apply kp_newF; assumption; kxs_still)
    | (apply kp_new; assumption; kxs_still)
    | (apply kp_up; (next => o_fieldsN); kxs_still)
    | (apply kp_new; (next => kba_ints); kxs_still)
    | (apply kp_sameR; assumption; kxs_still)
    | (apply kp_transR; assumption; kxs_still)
    | (apply kp_freshR; assumption; (next => kaf_suf); kxs_still))
set_option hygiene false in
local macro_rules
  | `(tactic| kaf_suf) => `(tactic| first
    | assumption
    | exact subNil
    | (apply subCons; (first | (apply Or.inl; o_fieldsN) | (apply Or.inr; kba_ints)); kaf_suf)
    | (apply subApp; (next => kaf_suf); kaf_suf))
set_option hygiene false in
local macro_rules
  | `(tactic| o_fieldsN) => `(tactic| first
    | assumption
    | exact memA
    | (apply memB; o_fieldsN)
    | (apply memL; o_fieldsN)
    | (apply memR; o_fieldsN))
set_option hygiene false in
local macro_rules
  | `(tactic| kd_subs) => `(tactic| first
    | assumption
    | exact Same.refl _
    | (apply same_putF; assumption; kd_subs)
    | (apply same_putG; assumption; kd_subs)
    | (apply same_putF; (next => kba_ints); kd_subs)
    | (apply same_transR; assumption; kd_subs))

set_option pp.maxSteps 900
/-! ### dicts by the present numbers -/
def dM (M : List Nat) (f : Nat → V) : List (Key × V) := M.map fun i : Nat => (Sum.inl (i : Int), f i)
theorem dM_val {f : Nat → V} {i : Nat} : ∀ {M : List Nat}, i ∈ M → valV (dM M f) (.inl (i : Int)) = some (f i)
  | j :: M, h => by
    show valV ((Sum.inl (j : Int), f j) :: dM M f) _ = _
    by_cases c : j = i
    · subst c
      exact valV_pos rfl
    · rw [valV_neg (fun z => c (by injection z with z; omega))]
      exact dM_val ((List.mem_cons.mp h).resolve_left fun z => c z.symm)
theorem dM_none {f : Nat → V} {i : Nat} : ∀ {M : List Nat}, i ∉ M → valV (dM M f) (.inl (i : Int)) = none
  | [], _ => rfl
  | j :: M, h => by
    show valV ((Sum.inl (j : Int), f j) :: dM M f) _ = _
    rw [valV_neg (fun z => h (by injection z with z; rw [show i = j by omega]; exact List.mem_cons_self))]
    exact dM_none fun m => h (List.mem_cons_of_mem _ m)
theorem dM_congr {M : List Nat} {f g : Nat → V} (h : ∀ i ∈ M, f i = g i) : dM M f = dM M g := List.map_congr_left fun i m => by rw [h i m]
theorem dM_new {M : List Nat} {f : Nat → V} {i : Nat} {v : V} (h : i ∉ M) : putK (dM M f) (.inl (i : Int)) v = dM (M ++ [i]) (fun x => if x = i then v else f x) := by
  rw [putK_new v (dM_none h)]
  unfold dM
  rw [List.map_append]
  congr 1
  · refine List.map_congr_left fun j m => ?_
    show (_, f j) = (_, if j = i then v else f j)
    rw [if_neg (fun z => h (by rw [← z]; exact m))]
  · show [(_, v)] = [(_, if i = i then v else f i)]
    rw [if_pos rfl]
theorem dM_old {M : List Nat} {f : Nat → V} {i : Nat} {v : V} (h : i ∈ M) : putK (dM M f) (.inl (i : Int)) v = dM M (fun x => if x = i then v else f x) := by
  unfold putK
  rw [valV_any, dM_val h, if_pos (show (some (f i)).isSome = true from rfl)]
  unfold dM
  rw [List.map_map]
  refine List.map_congr_left fun j _ => ?_
  show (if (Sum.inl (j : Int) : Key) = .inl (i : Int) then ((Sum.inl (j : Int) : Key), v) else (Sum.inl (j : Int), f j)) = (Sum.inl (j : Int), if j = i then v else f j)
  by_cases c : j = i
  · rw [c, if_pos rfl, if_pos rfl]
  · rw [if_neg (fun z => c (by injection z with z; omega)), if_neg c]
theorem dM_drop {M : List Nat} {f : Nat → V} {i : Nat} : dropK (dM M f) (.inl (i : Int)) = dM (M.filter fun j => decide (j ≠ i)) f := by
  unfold dropK dM
  rw [List.filter_map]
  refine congrArg _ (List.filter_congr fun j _ => ?_)
  show decide ((Sum.inl (j : Int) : Key) ≠ .inl (i : Int)) = decide (j ≠ i)
  by_cases c : j = i
  · rw [c]
    simp
  · have c' : (Sum.inl (j : Int) : Key) ≠ .inl (i : Int) := fun z => c (by injection z with z; omega)
    simp [c, c']
def iV (f : Nat → Nat) (i : Nat) : V := .int ((f i : Nat) : Int)
theorem dM_len {M : List Nat} {f : Nat → V} : (dM M f).length = M.length := List.length_map ..
end Ob

set_option Elab.async false
set_option linter.all false
set_option maxRecDepth 100000
set_option maxHeartbeats 1000000
namespace Ob
open PySem PySem.Spec PyProof.Rows L2
open LamX (Tabs TabB TabS ExtN)

set_option hygiene false in
local macro_rules
  | `(tactic| kp_flats) => `(tactic| first
    | assumption
    | exact upd_same
    | (apply atNew; assumption; kp_flats)
    | (apply atNe; (next => kbo_bools); kp_flats)
    | (apply atSame; assumption; kp_flats)
    | (apply atKp; assumption; (next => kaf_pre); kp_flats))
set_option hygiene false in
local macro_rules
  | `(tactic| kaf_pre) => `(tactic| first
    | assumption
    | exact not_nil
    | (apply not_cons; (next => kbo_bools); kaf_pre)
    | (apply not_app; (next => kaf_pre); kaf_pre))
set_option hygiene false in
local macro_rules
  | `(tactic| kbo_bools) => `(tactic| first
    | assumption
    | (apply Ne.symm; assumption)
    | (apply neN; assumption; kp_flats)
    | (apply neN'; assumption; kp_flats))
set_option hygiene false in
local macro_rules
  | `(tactic| o_reads) => `(tactic| first
    | with_reducible rfl
    | assumption
    | rfl
    | kp_flats
    | (show SqL _ _ _ _; first | assumption | (apply sqlOf; kp_flats) | (apply sqlSame; assumption; o_reads))
    | (show SqT _ _ _ _; first | assumption | (apply sqtOf; kp_flats) | (apply sqtAll; assumption) | (apply sqtSame; assumption; o_reads))
    | (show Cls _ _; first | exact T.cl_Calls | exact T.cl_Outer | exact T.cl_Ranked | exact T.cl_Unions)
    | (show NoAttr _ _ _; first | exact T.n_Calls_entries | exact T.n_Calls_running | exact T.n_Outer_calls | exact T.n_Outer_push_call | exact T.n_Outer_pop_call | exact T.n_Outer_ask_call | exact T.n_Outer_order | exact T.n_Outer_broken | exact T.n_Ranked_outer | exact T.n_Ranked_given | exact T.n_Ranked_held | exact T.n_Ranked_ranks | exact T.n_Ranked_removals | exact T.n_Unions_groups | exact T.n_Unions_parents | exact T.n_Unions_counts | exact T.n_Unions_moved)
    | (apply Or.inl; o_reads)
    | (apply Or.inr; o_reads)
    | (apply And.intro; (next => o_reads); o_reads)
    | (apply Exists.intro; o_reads)
    | exact Nat.le_of_ble_eq_true rfl
    | exact Nat.succ_ne_zero _
    | (show Fr _ _; kba_ints)
    | (show Same _ _; kd_subs)
    | (show Kp _ _ _; kxs_still)
    | (show (_ : Nat) ≤ _; simp only [List.length_append, List.length_map, List.length_cons, List.length_nil, List.length_take, List.length_drop, List.length_replicate, List.length_range, sizeLine_eq]; omega)
    | (show _ = none; apply Fr.h; kba_ints)
    | (show Bag _ _; first | assumption | (apply bag_putF; assumption; o_reads) | (apply bag_neF; (next => kbo_bools); o_reads) | (apply bag_kpR; assumption; (next => kaf_pre); o_reads))
    | omega
    | decide)
local macro_rules
  | `(tactic| o_readsAll) => `(tactic| repeat (first
    | (refine fun (pNew : Addr) (nNew : _ = none) => ?_; replace nNew := Fr.mk nNew)
    | (refine fun (xNew dNew : Addr) (nNew : _ = none) (mNew : _ = none) (eNew : dNew ≠ xNew) => ?_; replace nNew := Fr.mk nNew; replace mNew := Fr.mk mNew)
    | (apply And.intro; next => o_reads)
    | apply Exists.intro (α := V)
    | apply Exists.intro (α := Addr)
    | apply Exists.intro (α := Int)
    | apply Exists.intro (α := Bool)
    | apply Exists.intro (α := List V)
    | apply Exists.intro (α := List Nat)
    | apply Exists.intro (α := List (Str × V))
    | apply Exists.intro (α := List _)
    | apply Exists.intro (α := Str)
    | apply Exists.intro (α := HO)
    | apply Exists.intro (α := Sp)
    | apply Exists.intro (α := VK)))
set_option hygiene false in
local macro_rules
  | `(tactic| kba_ints) => `(tactic| first
    | assumption
    | (apply frUp; (first | assumption | (apply Ne.symm; assumption)); kba_ints)
    | (apply noneOf; assumption; intro oF eF; apply Exists.intro; kp_flats)
    | (apply frUp; (next => kbo_bools); kba_ints))
set_option hygiene false in
local macro_rules
  | `(tactic| kxs_still) => `(tactic| first
    | assumption
    | exact kp_refl _ _
    | (apply kp_newF; assumption; kxs_still)
    | (apply kp_new; assumption; kxs_still)
    | (apply kp_up; (next => o_fieldsN); kxs_still)
    | (apply kp_new; (next => kba_ints); kxs_still)
    | (apply kp_sameR; assumption; kxs_still)
    | (apply kp_transR; assumption; kxs_still)
    | (apply kp_freshR; assumption; (next => kaf_suf); kxs_still))
set_option hygiene false in
local macro_rules
  | `(tactic| kaf_suf) => `(tactic| first
    | assumption
    | exact subNil
    | (apply subCons; (first | (apply Or.inl; o_fieldsN) | (apply Or.inr; kba_ints)); kaf_suf)
    | (apply subApp; (next => kaf_suf); kaf_suf))
set_option hygiene false in
local macro_rules
  | `(tactic| o_fieldsN) => `(tactic| first
    | assumption
    | exact memA
    | (apply memB; o_fieldsN)
    | (apply memL; o_fieldsN)
    | (apply memR; o_fieldsN))
set_option hygiene false in
local macro_rules
  | `(tactic| kd_subs) => `(tactic| first
    | assumption
    | exact Same.refl _
    | (apply same_putF; assumption; kd_subs)
    | (apply same_putG; assumption; kd_subs)
    | (apply same_putF; (next => kba_ints); kd_subs)
    | (apply same_transR; assumption; kd_subs))

set_option pp.maxSteps 900
/-- a dict made over another one's pairs -/
theorem dc_items {d : Addr} {o : Obj} {ks : List (Key × V)} {g : TG} {tt : L2.TT} {tk tv : TE} {vs : List Nat} {σ : L2.St} {H1 : Hp} {D : Addr} {Qd : Hp → Prop} (Pv : Nat → Hp → Prop) (h0 : Pv 0 (upd H1 D (.dK []))) (hl : ∀ i H, Pv i H → H d = some (.frz o (.dK ks)))
    (hs : ∀ i k v T H, ks[i]? = some (k, v) → Pv i H → H T = none → g (.ref T) (wipe σ vs) (upd H T (.tup [kV k, v])) fun σ2 H2 => wipe σ2 vs = wipe σ vs ∧ tt σ2 H2 fun b H3 =>
      if b = true then tk σ2 H3 fun y H4 => tv σ2 H4 fun z H5 => ∃ kvs k, y = kV k ∧ H5 D = some (.dK kvs) ∧ kvs.length < sizeLine ∧ Pv (i + 1) (upd H5 D (.dK (putK kvs k z))) else Pv (i + 1) H3) (hd : ∀ H, Pv ks.length H → Qd H) :
    ∃ W : Nat → Nat → Hp → Prop, (∃ m, W 0 m (upd H1 D (.dK []))) ∧ ∀ i m H, W i m H →
      ((Iti d o ks).stop i H ∧ Qd H) ∨ ((Iti d o ks).go i H ∧ ∃ Nx : Hp → Prop, (∀ H', Nx H' → ∃ m', m' < m ∧ W (i + 1) m' H') ∧ ∀ x H', (Iti d o ks).yld i H x H' → g x (wipe σ vs) H' fun σ2 H2 => wipe σ2 vs = wipe σ vs ∧ tt σ2 H2 fun b H3 =>
        if b = true then tk σ2 H3 fun y H4 => tv σ2 H4 fun z H5 => ∃ kvs k, y = kV k ∧ H5 D = some (.dK kvs) ∧ kvs.length < sizeLine ∧ Nx (upd H5 D (.dK (putK kvs k z))) else Nx H3) := by
  refine ⟨fun i m H => m = ks.length - i ∧ i ≤ ks.length ∧ Pv i H, ⟨ks.length, rfl, Nat.zero_le _, h0⟩, ?_⟩
  rintro i m H ⟨rfl, hi, p⟩
  by_cases hlt : i < ks.length
  · refine .inr ⟨⟨hl i H p, hlt⟩, Pv (i + 1), fun H' p' => ⟨ks.length - (i + 1), by omega, rfl, hlt, p'⟩, fun x H' y => ?_⟩
    obtain ⟨T, k, v, e1, e2, e3, e4⟩ := y
    subst e2
    subst e4
    exact hs i k v T H e1 p e3
  · have e : i = ks.length := by omega
    subst e
    exact .inl ⟨⟨hl _ H p, Nat.le_refl _⟩, hd H p⟩
theorem in_nat (x : Nat) : ∀ F : List Nat, inV (.int (x : Int)) (F.map fun k : Nat => V.int (k : Int)) = decide (x ∈ F)
  | [] => rfl
  | y :: F => by
    have i := in_nat x F
    unfold inV at i ⊢
    rw [List.map_cons, List.any_cons, i]
    have e : eqV (V.int (y : Int)) (V.int (x : Int)) = decide (y = x) := by
      show decide ((y : Int) = (x : Int)) = decide (y = x)
      by_cases z : y = x
      · rw [dT z, z, dT rfl]
      · rw [dF z, dF fun w => z (by omega)]
    rw [e]
    by_cases z : y = x
    · rw [dT z, dT (show x ∈ y :: F by rw [z]; exact List.mem_cons_self ..)]
      rfl
    · rw [dF z, Bool.false_or]
      by_cases m : x ∈ F
      · rw [dT m, dT (List.mem_cons_of_mem _ m)]
      · rw [dF m, dF fun w => (List.mem_cons.mp w).elim (fun q => z q.symm) m]
theorem flat_nats (F : List Nat) : (F.map fun k : Nat => V.int (k : Int)).all flatV = true := by
  rw [List.all_map]
  exact List.all_eq_true.mpr fun _ _ => rfl

theorem dM_at {M : List Nat} {f : Nat → V} {i : Nat} {k : Key} {v : V} (h : (dM M f)[i]? = some (k, v)) : ∃ j : Nat, M[i]? = some j ∧ k = .inl (j : Int) ∧ v = f j := by
  unfold dM at h
  rw [List.getElem?_map] at h
  obtain ⟨j, hj, e⟩ := Option.map_eq_some_iff.mp h
  injection e with e1 e2
  exact ⟨j, hj, e1.symm, e2.symm⟩
section
variable {P : Program} {w : World} {K : PySem.W.Frag} {mg : Str → Option Value} {base : Heap} {n : Nat}
def spWo : Sp := fun vs H Q _ => ∃ (a b : Addr) (M G : List Nat) (mb : Nat → V), vs = [.ref a, .ref b] ∧ H a = some (.dK (dM M mb)) ∧ H b = some (.lst (G.map nV)) ∧ M.Nodup ∧ M.length < 400000 ∧ ∀ r H', Same H H' → Fr H r → H' r = some (.dK (dM (M.filter fun i => decide (i ∉ G)) mb)) → Q (.ref r) H'
theorem ok_wo (T : Txt K mg) : FnOk P w K mg base CX0 1 T.f_without T.d_without ["held", "numbers"] spWo := by
  refine T.F_without.ok sc_without (fun vs H Q E h => ?_) (fun cdv A outer s H vs Q E hr h => ?_)
  · obtain ⟨a, b, M, G, mb, rfl, _⟩ := h
    rfl
  · obtain ⟨a, b, M, G, mb, rfl, h1, h2, hnd, hML, q⟩ := h
    refine ⟨_, (pss_one (ps_ret (pe_lock (pe_dc (own := [("number", 3), ("member", 2)]) (g := (gTup K 2 (gCons (gName 3) (gCons (gName 2) gNil))))  rfl sc_without.nd (pi_items (pv 0)) (blkOk_by (N := n_without) (sc := defScope s_without) (by decide +kernel)) (fun _ _ _ _ _ => (pg_tup (by rfl) (pgs_cons (pg_name (i := 3) sc_without.nd rfl (.inl rfl)) (pgs_cons (pg_name (i := 2) sc_without.nd rfl (.inl rfl)) pgs_nil)))) (fun _ _ _ _ _ => (pts_one (pt_cmpR (show OpR _ _ (rIn K true) from op_notIn_seq) (pv 3) (pv 1) (by rfl)))) (fun _ _ _ _ _ => (pv 3)) (fun _ _ _ _ _ => (pv 2)))))), ?_⟩
    refine ⟨a, _, h1, True.intro, fun od => ?_⟩
    generalize hF : upd H a (.frz od (.dK (dM M mb))) = F
    have ea : F a = some (.frz od (.dK (dM M mb))) := by
      rw [← hF]
      exact upd_same
    have en : ∀ b o, b ≠ a → H b = some o → F b = some o := fun b o nb e => by
      rw [← hF, upd_ne nb]
      exact e
    have nba : b ≠ a := fun z => by
      rw [z, h1] at h2
      cases h2
    have eb := en b _ nba h2
    refine ⟨_, rfl, a, od, _, rfl, ea, fun D nD => ?_⟩
    have fD := Fr.mk nD
    refine dc_items (fun i H' => Same F H' ∧ H' D = some (.dK (dM ((M.take i).filter fun i => decide (i ∉ G)) mb))) ⟨same_newF fD, upd_same⟩ (fun i H' h => h.1 _ _ ea) ?_ ?_
    · rintro i k v T2 H2 hk ⟨s2, e2⟩ nT
      have fT := Fr.mk nT
      obtain ⟨j, hj, rfl, rfl⟩ := dM_at hk
      have s3 : Same H2 (upd H2 T2 (.tup [kV (.inl (j : Int)), mb j])) := same_newF fT
      have li : i < M.length := (List.getElem?_eq_some_iff.mp hj).1
      have htk : M.take (i + 1) = M.take i ++ [j] := by
        rw [List.take_succ, hj]
        rfl
      have hjn : j ∉ M.take i := fun z => by
        have h3 : (M.take (i + 1)).Nodup := (List.take_sublist _ _).nodup hnd
        rw [htk] at h3
        exact (List.nodup_append.mp h3).2.2 j z j (List.mem_singleton.mpr rfl) rfl
      have v1 := in_nat j G
      rw [htk, List.filter_append]
      refine ⟨T2, _, rfl, sqtOf upd_same, rfl, _, _, rfl, _, _, rfl, rfl, rfl, ?_⟩
      refine ⟨_, rfl, _, rfl, b, _, rfl, .inl (sqlOf (s3 _ _ (s2 _ _ eb))), rfl, flat_nats G, _, rfl, ?_⟩
      by_cases c0 : j ∈ G
      · refine ifF ?_ ⟨s2.trans s3, ?_⟩
        · rw [if_pos rfl]
          show (!inV (V.int (j : Int)) (G.map fun k : Nat => V.int (k : Int))) = false
          rw [v1, dT c0]
          rfl
        · rw [s3 _ _ e2, List.filter_cons_of_neg (by simp [c0]), List.filter_nil, List.append_nil]
      · refine ifT ?_ ?_
        · rw [if_pos rfl]
          show (!inV (V.int (j : Int)) (G.map fun k : Nat => V.int (k : Int))) = true
          rw [v1, dF c0]
          rfl
        refine ⟨_, rfl, _, rfl, _, .inl (j : Int), rfl, s3 _ _ e2, ?_, ⟨?_, ?_⟩⟩
        · have h3 := List.length_filter_le (fun i => decide (i ∉ G)) (M.take i)
          rw [List.length_take] at h3
          show ((List.map _ _ : List (Key × V))).length < _
          rw [List.length_map, sizeLine_eq]
          omega
        · exact same_putG fD (s2.trans s3)
        · rw [upd_same, dM_new (fun z => hjn (List.mem_filter.mp z).1), List.filter_cons_of_pos (by simp [c0]), List.filter_nil]
          refine congrArg (fun x => some (HO.dK x)) (dM_congr fun x _ => ?_)
          show (if x = j then mb j else mb x) = mb x
          by_cases e : x = j
          · rw [if_pos e, e]
          · rw [if_neg e]
    · rintro H2 ⟨s2, e2⟩
      rw [show (dM M mb).length = M.length from List.length_map .., List.take_length] at e2
      refine ⟨s2 _ _ ea, ?_⟩
      refine q D _ (fun x o e => ?_) ?_ ?_
      · by_cases c : x = a
        · rw [c, upd_same, ← h1, ← c, e]
        · rw [upd_ne c]
          exact s2 _ _ (en x o c e)
      · exact Fr.mk (by
          have z := nD
          rw [← hF, upd_ne (Ne.symm (ne_of_none ea nD))] at z
          exact z)
      · rw [upd_ne (Ne.symm (ne_of_none ea nD))]
        exact e2
end
end Ob

set_option Elab.async false
set_option linter.all false
set_option maxRecDepth 100000
set_option maxHeartbeats 1000000
namespace Ob
open PySem PySem.Spec PyProof.Rows L2
open LamX (Tabs TabB TabS ExtN)

set_option hygiene false in
local macro_rules
  | `(tactic| kp_flats) => `(tactic| first
    | assumption
    | exact upd_same
    | (apply atNew; assumption; kp_flats)
    | (apply atNe; (next => kbo_bools); kp_flats)
    | (apply atSame; assumption; kp_flats)
    | (apply atKp; assumption; (next => kaf_pre); kp_flats))
set_option hygiene false in
local macro_rules
  | `(tactic| kaf_pre) => `(tactic| first
    | assumption
    | exact not_nil
    | (apply not_cons; (next => kbo_bools); kaf_pre)
    | (apply not_app; (next => kaf_pre); kaf_pre))
set_option hygiene false in
local macro_rules
  | `(tactic| kbo_bools) => `(tactic| first
    | assumption
    | (apply Ne.symm; assumption)
    | (apply neN; assumption; kp_flats)
    | (apply neN'; assumption; kp_flats))
set_option hygiene false in
local macro_rules
  | `(tactic| o_reads) => `(tactic| first
    | with_reducible rfl
    | assumption
    | rfl
    | kp_flats
    | (show SqL _ _ _ _; first | assumption | (apply sqlOf; kp_flats) | (apply sqlSame; assumption; o_reads))
    | (show SqT _ _ _ _; first | assumption | (apply sqtOf; kp_flats) | (apply sqtAll; assumption) | (apply sqtSame; assumption; o_reads))
    | (show Cls _ _; first | exact T.cl_Calls | exact T.cl_Outer | exact T.cl_Ranked | exact T.cl_Unions)
    | (show NoAttr _ _ _; first | exact T.n_Calls_entries | exact T.n_Calls_running | exact T.n_Outer_calls | exact T.n_Outer_push_call | exact T.n_Outer_pop_call | exact T.n_Outer_ask_call | exact T.n_Outer_order | exact T.n_Outer_broken | exact T.n_Ranked_outer | exact T.n_Ranked_given | exact T.n_Ranked_held | exact T.n_Ranked_ranks | exact T.n_Ranked_removals | exact T.n_Unions_groups | exact T.n_Unions_parents | exact T.n_Unions_counts | exact T.n_Unions_moved)
    | (apply Or.inl; o_reads)
    | (apply Or.inr; o_reads)
    | (apply And.intro; (next => o_reads); o_reads)
    | (apply Exists.intro; o_reads)
    | exact Nat.le_of_ble_eq_true rfl
    | exact Nat.succ_ne_zero _
    | (show Fr _ _; kba_ints)
    | (show Same _ _; kd_subs)
    | (show Kp _ _ _; kxs_still)
    | (show (_ : Nat) ≤ _; simp only [List.length_append, List.length_map, List.length_cons, List.length_nil, List.length_take, List.length_drop, List.length_replicate, List.length_range, sizeLine_eq]; omega)
    | (show _ = none; apply Fr.h; kba_ints)
    | (show Bag _ _; first | assumption | (apply bag_putF; assumption; o_reads) | (apply bag_neF; (next => kbo_bools); o_reads) | (apply bag_kpR; assumption; (next => kaf_pre); o_reads))
    | omega
    | decide)
local macro_rules
  | `(tactic| o_readsAll) => `(tactic| repeat (first
    | (refine fun (pNew : Addr) (nNew : _ = none) => ?_; replace nNew := Fr.mk nNew)
    | (refine fun (xNew dNew : Addr) (nNew : _ = none) (mNew : _ = none) (eNew : dNew ≠ xNew) => ?_; replace nNew := Fr.mk nNew; replace mNew := Fr.mk mNew)
    | (apply And.intro; next => o_reads)
    | apply Exists.intro (α := V)
    | apply Exists.intro (α := Addr)
    | apply Exists.intro (α := Int)
    | apply Exists.intro (α := Bool)
    | apply Exists.intro (α := List V)
    | apply Exists.intro (α := List Nat)
    | apply Exists.intro (α := List (Str × V))
    | apply Exists.intro (α := List _)
    | apply Exists.intro (α := Str)
    | apply Exists.intro (α := HO)
    | apply Exists.intro (α := Sp)
    | apply Exists.intro (α := VK)))
set_option hygiene false in
local macro_rules
  | `(tactic| kba_ints) => `(tactic| first
    | assumption
    | (apply frUp; (first | assumption | (apply Ne.symm; assumption)); kba_ints)
    | (apply noneOf; assumption; intro oF eF; apply Exists.intro; kp_flats)
    | (apply frUp; (next => kbo_bools); kba_ints))
set_option hygiene false in
local macro_rules
  | `(tactic| kxs_still) => `(tactic| first
    | assumption
    | exact kp_refl _ _
    | (apply kp_newF; assumption; kxs_still)
    | (apply kp_new; assumption; kxs_still)
    | (apply kp_up; (next => o_fieldsN); kxs_still)
    | (apply kp_new; (next => kba_ints); kxs_still)
    | (apply kp_sameR; assumption; kxs_still)
    | (apply kp_transR; assumption; kxs_still)
    | (apply kp_freshR; assumption; (next => kaf_suf); kxs_still))
set_option hygiene false in
local macro_rules
  | `(tactic| kaf_suf) => `(tactic| first
    | assumption
    | exact subNil
    | (apply subCons; (first | (apply Or.inl; o_fieldsN) | (apply Or.inr; kba_ints)); kaf_suf)
    | (apply subApp; (next => kaf_suf); kaf_suf))
set_option hygiene false in
local macro_rules
  | `(tactic| o_fieldsN) => `(tactic| first
    | assumption
    | exact memA
    | (apply memB; o_fieldsN)
    | (apply memL; o_fieldsN)
    | (apply memR; o_fieldsN))
set_option hygiene false in
local macro_rules
  | `(tactic| kd_subs) => `(tactic| first
    | assumption
    | exact Same.refl _
    | (apply same_putF; assumption; kd_subs)
    | (apply same_putG; assumption; kd_subs)
    | (apply same_putF; (next => kba_ints); kd_subs)
    | (apply same_transR; assumption; kd_subs))

set_option pp.maxSteps 900
/-! ### a Ranked -/
def RO (C dx o : Addr) (given : Nat) (hd rd : Addr) (rem : Nat) : HO := .ins C dx [("outer", .ref o), ("given", .int (given : Int)), ("held", .ref hd), ("ranks", .ref rd), ("removals", .int (rem : Int))]
def rV (rk : Nat → Int) (i : Nat) : V := .int (rk i)
structure RkAt (CT C CC : Addr) (H : Hp) (t o c l : Addr) (fp fo fa : V) (uv : List Addr) (PM : Nat → V → Prop) (R : List Ca → Hp → Prop) (tr : List Ca) (given : Nat) (M : List Nat) (mb : Nat → V) (rk : Nat → Int) (rem : Nat) : Prop where
  ht : ∃ dx hd rd, H t = some (RO CT dx o given hd rd rem) ∧ H hd = some (.dK (dM M mb)) ∧ H rd = some (.dK (dM M (rV rk))) ∧ hd ∉ t :: o :: c :: l :: uv ∧ rd ∉ t :: o :: c :: l :: uv
  out : ∃ od, OutAt C CC H o c l od fp fo fa uv R tr
  pm : (stC [] tr).Perm M
  srt : M.Pairwise (· < ·)
  gv : ∀ i ∈ M, i < given ∧ PM i (mb i)
  nt : t ≠ o ∧ t ≠ c
  nu : ∀ a ∈ uv, a ≠ t
theorem RkAt.nd {CT C CC : Addr} {H : Hp} {t o c l : Addr} {fp fo fa : V} {uv : List Addr} {PM : Nat → V → Prop} {R : List Ca → Hp → Prop} {tr : List Ca} {given : Nat} {M : List Nat} {mb : Nat → V} {rk : Nat → Int} {rem : Nat} (h : RkAt CT C CC H t o c l fp fo fa uv PM R tr given M mb rk rem) : M.Nodup := h.srt.imp fun {a b} z => Nat.ne_of_lt z
section
variable {P : Program} {w : World} {K : PySem.W.Frag} {mg : Str → Option Value} {base : Heap} {n : Nat}
theorem RkAt.kp {PM : Nat → V → Prop} {PQ : V → Prop} {An : List Ca → V → V → Hp → Prop} {CT C CC : Addr} {H H1 : Hp} {t o c l : Addr} {fp fo fa : V} {uv : List Addr} {R : List Ca → Hp → Prop} {tr : List Ca} {given : Nat} {M : List Nat} {mb : Nat → V} {rk : Nat → Int} {rem : Nat} {cs : List Addr} (A : OS P w K mg base n uv fp fo fa PM PQ R An) (h : RkAt CT C CC H t o c l fp fo fa uv PM R tr given M mb rk rem) (k : Kp cs H H1) (m : Mu H cs) (n1 : t ∉ cs) (n2 : o ∉ cs) (n3 : c ∉ cs) (n4 : l ∉ cs) (n5 : ∀ a ∈ uv, a ∉ cs) (nd : ∀ a ∈ cs, ∀ dx hd rd, H t = some (RO CT dx o given hd rd rem) → a ≠ hd ∧ a ≠ rd ∧ ∀ od, OutAt C CC H o c l od fp fo fa uv R tr → a ≠ od) : RkAt CT C CC H1 t o c l fp fo fa uv PM R tr given M mb rk rem := by
  obtain ⟨⟨dx, hd, rd, e1, e2, e3, e4, e5⟩, ⟨od, O⟩, h3, h4, h5, h6, h7⟩ := h
  exact ⟨⟨dx, hd, rd, k.at_ _ _ e1 n1, k.at_ _ _ e2 (fun z => (nd _ z _ _ _ e1).1 rfl), k.at_ _ _ e3 (fun z => (nd _ z _ _ _ e1).2.1 rfl), e4, e5⟩, ⟨od, O.kp A k m n2 n3 n4 (fun z => (nd _ z _ _ _ e1).2.2 od O rfl) n5⟩, h3, h4, h5, h6, h7⟩
def spRI (CT C CC : Addr) : Sp := fun vs H Q _ => ∃ (t dx : Addr) (fp fo fa : V), vs = [.ref t, fp, fo, fa] ∧ H t = some (.ins CT dx []) ∧
  ∀ o c l od hd rd H', Fr H o → Fr H c → Fr H l → Fr H od → Fr H hd → Fr H rd → Kp [t] H H' → l ≠ od → o ≠ c → H' t = some (RO CT dx o 0 hd rd 0) → (∃ dx, H' o = some (OO C dx c fp fo fa od false)) → (∃ dx, H' c = some (CO CC dx l false)) → H' l = some (.lst []) → H' od = some (.lst []) → H' hd = some (.dK []) → H' rd = some (.dK []) → Q .non H'
theorem ok_rki (T : Txt K mg) : FnOk P w K mg base CX0 8 T.f_Ranked_init T.d_Ranked_init ["self", "push", "pop", "ask"] (spRI T.C_Ranked T.C_Outer T.C_Calls) := by
  have G_Outer_init := ok_oi (P := P) (w := w) (base := base) T
  refine T.F_Ranked_init.ok sc_Ranked_init (fun vs H Q E h => ?_) (fun cdv A outer s H vs Q E hr h => ?_)
  · obtain ⟨o, dx, fp, fo, fa, rfl, _⟩ := h
    rfl
  · obtain ⟨t, dx, fp, fo, fa, rfl, ht, q⟩ := h
    refine ⟨_, (pss_cons (ps_fld (pv 0) (pe_make ⟨T.mk_Outer, T.m_Outer_init, T.t_Outer_init, T.kp_Outer⟩ G_Outer_init (hr.mono (by omega)) rfl T.gc_Outer T.b_Outer_init .nil pass0 (pa_cons (pv 1) (pa_cons (pv 2) (pa_cons (pv 3) pa_nil)))) rfl)
      (pss_cons (ps_fld (pv 0) pe_int rfl)
      (pss_cons (ps_fld (pv 0) pe_dnewK rfl)
      (pss_cons (ps_fld (pv 0) pe_dnewK rfl)
      (pss_one (ps_fld (pv 0) pe_int rfl)))))), ?_⟩
    refine ⟨_, rfl, _, rfl, _, rfl, ?_⟩
    intro o odx no nodx nxo
    have fo' := Fr.mk no
    have fox := Fr.mk nodx
    have e1 : upd (upd H odx (.own o)) o (.ins T.C_Outer odx []) o = some (.ins T.C_Outer odx []) := upd_same
    have s1 : Same H (upd (upd H odx (.own o)) o (.ins T.C_Outer odx [])) := same_putG fo' (same_newF fox)
    generalize upd (upd H odx (.own o)) o (.ins T.C_Outer odx []) = H1 at e1 s1 ⊢
    refine ⟨o, odx, fp, fo, fa, rfl, e1, fun c l od H2 fc fl fod k2 nlod eo ec el ed => ⟨rfl, ?_⟩⟩
    have ht2 := k2.at_ _ _ (s1 _ _ ht) (not_cons (ne_of_none ht no) not_nil)
    have nto : t ≠ o := ne_of_none ht no
    have ntc : t ≠ c := ne_of_none (s1 _ _ ht) fc.h
    have ntl : t ≠ l := ne_of_none (s1 _ _ ht) fl.h
    have ntd : t ≠ od := ne_of_none (s1 _ _ ht) fod.h
    have noc : o ≠ c := ne_of_none e1 fc.h
    have fc0 : Fr H c := Fr.mk (s1.free fc.h)
    have fl0 : Fr H l := Fr.mk (s1.free fl.h)
    have fd0 : Fr H od := Fr.mk (s1.free fod.h)
    have k02 : Kp [t] H H2 := kp_fresh (kp_same s1) k2 (subCons (.inr fo') subNil)
    obtain ⟨d3, eo⟩ := eo
    obtain ⟨d4, ec⟩ := ec
    refine ⟨_, rfl, t, _, dx, _, rfl, ht2, T.cl_Ranked, T.n_Ranked_outer, (show 0 < 1000 by decide), ?_⟩
    have u3 : upd H2 t (.ins T.C_Ranked dx (putF "outer" (.ref o) [])) t = some (.ins T.C_Ranked dx (putF "outer" (.ref o) [])) := upd_same
    have k3 : Kp [t] H (upd H2 t (.ins T.C_Ranked dx (putF "outer" (.ref o) []))) := kp_up memA k02
    replace eo := (kp_up (o := .ins T.C_Ranked dx (putF "outer" (.ref o) [])) memA (kp_refl [t] H2)).at_ _ _ eo (not_cons nto.symm not_nil)
    replace ec := (kp_up (o := .ins T.C_Ranked dx (putF "outer" (.ref o) [])) memA (kp_refl [t] H2)).at_ _ _ ec (not_cons ntc.symm not_nil)
    replace el := (kp_up (o := .ins T.C_Ranked dx (putF "outer" (.ref o) [])) memA (kp_refl [t] H2)).at_ _ _ el (not_cons ntl.symm not_nil)
    replace ed := (kp_up (o := .ins T.C_Ranked dx (putF "outer" (.ref o) [])) memA (kp_refl [t] H2)).at_ _ _ ed (not_cons ntd.symm not_nil)
    generalize upd H2 t (.ins T.C_Ranked dx (putF "outer" (.ref o) [])) = H3 at u3 k3 eo ec el ed ⊢
    refine ⟨_, rfl, t, _, dx, _, rfl, u3, T.cl_Ranked, T.n_Ranked_given, (show 1 < 1000 by decide), ?_⟩
    have u4 : upd H3 t (.ins T.C_Ranked dx (putF "given" (.int 0) (putF "outer" (.ref o) []))) t = some (.ins T.C_Ranked dx (putF "given" (.int 0) (putF "outer" (.ref o) []))) := upd_same
    have k4 : Kp [t] H (upd H3 t (.ins T.C_Ranked dx (putF "given" (.int 0) (putF "outer" (.ref o) [])))) := kp_up memA k3
    replace eo := (kp_up (o := .ins T.C_Ranked dx (putF "given" (.int 0) (putF "outer" (.ref o) []))) memA (kp_refl [t] H3)).at_ _ _ eo (not_cons nto.symm not_nil)
    replace ec := (kp_up (o := .ins T.C_Ranked dx (putF "given" (.int 0) (putF "outer" (.ref o) []))) memA (kp_refl [t] H3)).at_ _ _ ec (not_cons ntc.symm not_nil)
    replace el := (kp_up (o := .ins T.C_Ranked dx (putF "given" (.int 0) (putF "outer" (.ref o) []))) memA (kp_refl [t] H3)).at_ _ _ el (not_cons ntl.symm not_nil)
    replace ed := (kp_up (o := .ins T.C_Ranked dx (putF "given" (.int 0) (putF "outer" (.ref o) []))) memA (kp_refl [t] H3)).at_ _ _ ed (not_cons ntd.symm not_nil)
    generalize upd H3 t (.ins T.C_Ranked dx (putF "given" (.int 0) (putF "outer" (.ref o) []))) = H4 at u4 k4 eo ec el ed ⊢
    intro hd nhd
    have fhd := Fr.mk nhd
    have ghd : Fr H hd := fr_kp k4 (mu_ins u4 mu_nil) fhd
    have nthd : t ≠ hd := ne_of_none ht ghd.h
    have sn5 : Same H4 (upd H4 hd (.dK [])) := same_newF fhd
    have ehd : upd H4 hd (.dK []) hd = some (.dK []) := upd_same
    have kn5 : Kp [t] H (upd H4 hd (.dK [])) := kp_new fhd k4
    replace eo := sn5 _ _ eo
    replace ec := sn5 _ _ ec
    replace el := sn5 _ _ el
    replace ed := sn5 _ _ ed
    replace u4 := sn5 _ _ u4
    generalize upd H4 hd (.dK []) = N5 at sn5 kn5 u4 eo ec el ed ehd ⊢
    refine ⟨_, rfl, t, _, dx, _, rfl, u4, T.cl_Ranked, T.n_Ranked_held, (show 2 < 1000 by decide), ?_⟩
    have u5 : upd N5 t (.ins T.C_Ranked dx (putF "held" (.ref hd) (putF "given" (.int 0) (putF "outer" (.ref o) [])))) t = some (.ins T.C_Ranked dx (putF "held" (.ref hd) (putF "given" (.int 0) (putF "outer" (.ref o) [])))) := upd_same
    have k5 : Kp [t] H (upd N5 t (.ins T.C_Ranked dx (putF "held" (.ref hd) (putF "given" (.int 0) (putF "outer" (.ref o) []))))) := kp_up memA kn5
    replace eo := (kp_up (o := .ins T.C_Ranked dx (putF "held" (.ref hd) (putF "given" (.int 0) (putF "outer" (.ref o) [])))) memA (kp_refl [t] N5)).at_ _ _ eo (not_cons nto.symm not_nil)
    replace ec := (kp_up (o := .ins T.C_Ranked dx (putF "held" (.ref hd) (putF "given" (.int 0) (putF "outer" (.ref o) [])))) memA (kp_refl [t] N5)).at_ _ _ ec (not_cons ntc.symm not_nil)
    replace el := (kp_up (o := .ins T.C_Ranked dx (putF "held" (.ref hd) (putF "given" (.int 0) (putF "outer" (.ref o) [])))) memA (kp_refl [t] N5)).at_ _ _ el (not_cons ntl.symm not_nil)
    replace ed := (kp_up (o := .ins T.C_Ranked dx (putF "held" (.ref hd) (putF "given" (.int 0) (putF "outer" (.ref o) [])))) memA (kp_refl [t] N5)).at_ _ _ ed (not_cons ntd.symm not_nil)
    replace ehd := (kp_up (o := .ins T.C_Ranked dx (putF "held" (.ref hd) (putF "given" (.int 0) (putF "outer" (.ref o) [])))) memA (kp_refl [t] N5)).at_ _ _ ehd (not_cons nthd.symm not_nil)
    generalize upd N5 t (.ins T.C_Ranked dx (putF "held" (.ref hd) (putF "given" (.int 0) (putF "outer" (.ref o) [])))) = H5 at u5 k5 eo ec el ed ehd ⊢
    intro rd nrd
    have frd := Fr.mk nrd
    have grd : Fr H rd := fr_kp k5 (mu_ins u5 mu_nil) frd
    have ntrd : t ≠ rd := ne_of_none ht grd.h
    have sn6 : Same H5 (upd H5 rd (.dK [])) := same_newF frd
    have erd : upd H5 rd (.dK []) rd = some (.dK []) := upd_same
    have kn6 : Kp [t] H (upd H5 rd (.dK [])) := kp_new frd k5
    replace eo := sn6 _ _ eo
    replace ec := sn6 _ _ ec
    replace el := sn6 _ _ el
    replace ed := sn6 _ _ ed
    replace ehd := sn6 _ _ ehd
    replace u5 := sn6 _ _ u5
    generalize upd H5 rd (.dK []) = N6 at sn6 kn6 u5 eo ec el ed ehd erd ⊢
    refine ⟨_, rfl, t, _, dx, _, rfl, u5, T.cl_Ranked, T.n_Ranked_ranks, (show 3 < 1000 by decide), ?_⟩
    have u6 : upd N6 t (.ins T.C_Ranked dx (putF "ranks" (.ref rd) (putF "held" (.ref hd) (putF "given" (.int 0) (putF "outer" (.ref o) []))))) t = some (.ins T.C_Ranked dx (putF "ranks" (.ref rd) (putF "held" (.ref hd) (putF "given" (.int 0) (putF "outer" (.ref o) []))))) := upd_same
    have k6 : Kp [t] H (upd N6 t (.ins T.C_Ranked dx (putF "ranks" (.ref rd) (putF "held" (.ref hd) (putF "given" (.int 0) (putF "outer" (.ref o) [])))))) := kp_up memA kn6
    replace eo := (kp_up (o := .ins T.C_Ranked dx (putF "ranks" (.ref rd) (putF "held" (.ref hd) (putF "given" (.int 0) (putF "outer" (.ref o) []))))) memA (kp_refl [t] N6)).at_ _ _ eo (not_cons nto.symm not_nil)
    replace ec := (kp_up (o := .ins T.C_Ranked dx (putF "ranks" (.ref rd) (putF "held" (.ref hd) (putF "given" (.int 0) (putF "outer" (.ref o) []))))) memA (kp_refl [t] N6)).at_ _ _ ec (not_cons ntc.symm not_nil)
    replace el := (kp_up (o := .ins T.C_Ranked dx (putF "ranks" (.ref rd) (putF "held" (.ref hd) (putF "given" (.int 0) (putF "outer" (.ref o) []))))) memA (kp_refl [t] N6)).at_ _ _ el (not_cons ntl.symm not_nil)
    replace ed := (kp_up (o := .ins T.C_Ranked dx (putF "ranks" (.ref rd) (putF "held" (.ref hd) (putF "given" (.int 0) (putF "outer" (.ref o) []))))) memA (kp_refl [t] N6)).at_ _ _ ed (not_cons ntd.symm not_nil)
    replace ehd := (kp_up (o := .ins T.C_Ranked dx (putF "ranks" (.ref rd) (putF "held" (.ref hd) (putF "given" (.int 0) (putF "outer" (.ref o) []))))) memA (kp_refl [t] N6)).at_ _ _ ehd (not_cons nthd.symm not_nil)
    replace erd := (kp_up (o := .ins T.C_Ranked dx (putF "ranks" (.ref rd) (putF "held" (.ref hd) (putF "given" (.int 0) (putF "outer" (.ref o) []))))) memA (kp_refl [t] N6)).at_ _ _ erd (not_cons ntrd.symm not_nil)
    generalize upd N6 t (.ins T.C_Ranked dx (putF "ranks" (.ref rd) (putF "held" (.ref hd) (putF "given" (.int 0) (putF "outer" (.ref o) []))))) = H6 at u6 k6 eo ec el ed ehd erd ⊢
    refine ⟨_, rfl, t, _, dx, _, rfl, u6, T.cl_Ranked, T.n_Ranked_removals, (show 4 < 1000 by decide), ?_⟩
    have u7 : upd H6 t (.ins T.C_Ranked dx (putF "removals" (.int 0) (putF "ranks" (.ref rd) (putF "held" (.ref hd) (putF "given" (.int 0) (putF "outer" (.ref o) [])))))) t = some (.ins T.C_Ranked dx (putF "removals" (.int 0) (putF "ranks" (.ref rd) (putF "held" (.ref hd) (putF "given" (.int 0) (putF "outer" (.ref o) [])))))) := upd_same
    have k7 : Kp [t] H (upd H6 t (.ins T.C_Ranked dx (putF "removals" (.int 0) (putF "ranks" (.ref rd) (putF "held" (.ref hd) (putF "given" (.int 0) (putF "outer" (.ref o) []))))))) := kp_up memA k6
    replace eo := (kp_up (o := .ins T.C_Ranked dx (putF "removals" (.int 0) (putF "ranks" (.ref rd) (putF "held" (.ref hd) (putF "given" (.int 0) (putF "outer" (.ref o) [])))))) memA (kp_refl [t] H6)).at_ _ _ eo (not_cons nto.symm not_nil)
    replace ec := (kp_up (o := .ins T.C_Ranked dx (putF "removals" (.int 0) (putF "ranks" (.ref rd) (putF "held" (.ref hd) (putF "given" (.int 0) (putF "outer" (.ref o) [])))))) memA (kp_refl [t] H6)).at_ _ _ ec (not_cons ntc.symm not_nil)
    replace el := (kp_up (o := .ins T.C_Ranked dx (putF "removals" (.int 0) (putF "ranks" (.ref rd) (putF "held" (.ref hd) (putF "given" (.int 0) (putF "outer" (.ref o) [])))))) memA (kp_refl [t] H6)).at_ _ _ el (not_cons ntl.symm not_nil)
    replace ed := (kp_up (o := .ins T.C_Ranked dx (putF "removals" (.int 0) (putF "ranks" (.ref rd) (putF "held" (.ref hd) (putF "given" (.int 0) (putF "outer" (.ref o) [])))))) memA (kp_refl [t] H6)).at_ _ _ ed (not_cons ntd.symm not_nil)
    replace ehd := (kp_up (o := .ins T.C_Ranked dx (putF "removals" (.int 0) (putF "ranks" (.ref rd) (putF "held" (.ref hd) (putF "given" (.int 0) (putF "outer" (.ref o) [])))))) memA (kp_refl [t] H6)).at_ _ _ ehd (not_cons nthd.symm not_nil)
    replace erd := (kp_up (o := .ins T.C_Ranked dx (putF "removals" (.int 0) (putF "ranks" (.ref rd) (putF "held" (.ref hd) (putF "given" (.int 0) (putF "outer" (.ref o) [])))))) memA (kp_refl [t] H6)).at_ _ _ erd (not_cons ntrd.symm not_nil)
    generalize upd H6 t (.ins T.C_Ranked dx (putF "removals" (.int 0) (putF "ranks" (.ref rd) (putF "held" (.ref hd) (putF "given" (.int 0) (putF "outer" (.ref o) [])))))) = H7 at u7 k7 eo ec el ed ehd erd ⊢
    exact q o c l od hd rd _ fo' fc0 fl0 fd0 ghd grd k7 nlod noc u7 ⟨d3, eo⟩ ⟨d4, ec⟩ el ed ehd erd
end
end Ob

set_option Elab.async false
set_option linter.all false
set_option maxRecDepth 100000
set_option maxHeartbeats 1000000
namespace Ob
open PySem PySem.Spec PyProof.Rows L2
open LamX (Tabs TabB TabS ExtN)

set_option hygiene false in
local macro_rules
  | `(tactic| kp_flats) => `(tactic| first
    | assumption
    | exact upd_same
    | (apply atNew; assumption; kp_flats)
    | (apply atNe; (next => kbo_bools); kp_flats)
    | (apply atSame; assumption; kp_flats)
    | (apply atKp; assumption; (next => kaf_pre); kp_flats))
set_option hygiene false in
local macro_rules
  | `(tactic| kaf_pre) => `(tactic| first
    | assumption
    | exact not_nil
    | (apply not_cons; (next => kbo_bools); kaf_pre)
    | (apply not_app; (next => kaf_pre); kaf_pre))
set_option hygiene false in
local macro_rules
  | `(tactic| kbo_bools) => `(tactic| first
    | assumption
    | (apply Ne.symm; assumption)
    | (apply neN; assumption; kp_flats)
    | (apply neN'; assumption; kp_flats))
set_option hygiene false in
local macro_rules
  | `(tactic| o_reads) => `(tactic| first
    | with_reducible rfl
    | assumption
    | rfl
    | kp_flats
    | (show SqL _ _ _ _; first | assumption | (apply sqlOf; kp_flats) | (apply sqlSame; assumption; o_reads))
    | (show SqT _ _ _ _; first | assumption | (apply sqtOf; kp_flats) | (apply sqtAll; assumption) | (apply sqtSame; assumption; o_reads))
    | (show Cls _ _; first | exact T.cl_Calls | exact T.cl_Outer | exact T.cl_Ranked | exact T.cl_Unions)
    | (show NoAttr _ _ _; first | exact T.n_Calls_entries | exact T.n_Calls_running | exact T.n_Outer_calls | exact T.n_Outer_push_call | exact T.n_Outer_pop_call | exact T.n_Outer_ask_call | exact T.n_Outer_order | exact T.n_Outer_broken | exact T.n_Ranked_outer | exact T.n_Ranked_given | exact T.n_Ranked_held | exact T.n_Ranked_ranks | exact T.n_Ranked_removals | exact T.n_Unions_groups | exact T.n_Unions_parents | exact T.n_Unions_counts | exact T.n_Unions_moved)
    | (apply Or.inl; o_reads)
    | (apply Or.inr; o_reads)
    | (apply And.intro; (next => o_reads); o_reads)
    | (apply Exists.intro; o_reads)
    | exact Nat.le_of_ble_eq_true rfl
    | exact Nat.succ_ne_zero _
    | (show Fr _ _; kba_ints)
    | (show Same _ _; kd_subs)
    | (show Kp _ _ _; kxs_still)
    | (show (_ : Nat) ≤ _; simp only [List.length_append, List.length_map, List.length_cons, List.length_nil, List.length_take, List.length_drop, List.length_replicate, List.length_range, sizeLine_eq]; omega)
    | (show _ = none; apply Fr.h; kba_ints)
    | (show Bag _ _; first | assumption | (apply bag_putF; assumption; o_reads) | (apply bag_neF; (next => kbo_bools); o_reads) | (apply bag_kpR; assumption; (next => kaf_pre); o_reads))
    | omega
    | decide)
local macro_rules
  | `(tactic| o_readsAll) => `(tactic| repeat (first
    | (refine fun (pNew : Addr) (nNew : _ = none) => ?_; replace nNew := Fr.mk nNew)
    | (refine fun (xNew dNew : Addr) (nNew : _ = none) (mNew : _ = none) (eNew : dNew ≠ xNew) => ?_; replace nNew := Fr.mk nNew; replace mNew := Fr.mk mNew)
    | (apply And.intro; next => o_reads)
    | apply Exists.intro (α := V)
    | apply Exists.intro (α := Addr)
    | apply Exists.intro (α := Int)
    | apply Exists.intro (α := Bool)
    | apply Exists.intro (α := List V)
    | apply Exists.intro (α := List Nat)
    | apply Exists.intro (α := List (Str × V))
    | apply Exists.intro (α := List _)
    | apply Exists.intro (α := Str)
    | apply Exists.intro (α := HO)
    | apply Exists.intro (α := Sp)
    | apply Exists.intro (α := VK)))
set_option hygiene false in
local macro_rules
  | `(tactic| kba_ints) => `(tactic| first
    | assumption
    | (apply frUp; (first | assumption | (apply Ne.symm; assumption)); kba_ints)
    | (apply noneOf; assumption; intro oF eF; apply Exists.intro; kp_flats)
    | (apply frUp; (next => kbo_bools); kba_ints))
set_option hygiene false in
local macro_rules
  | `(tactic| kxs_still) => `(tactic| first
    | assumption
    | exact kp_refl _ _
    | (apply kp_newF; assumption; kxs_still)
    | (apply kp_new; assumption; kxs_still)
    | (apply kp_up; (next => o_fieldsN); kxs_still)
    | (apply kp_new; (next => kba_ints); kxs_still)
    | (apply kp_sameR; assumption; kxs_still)
    | (apply kp_transR; assumption; kxs_still)
    | (apply kp_freshR; assumption; (next => kaf_suf); kxs_still))
set_option hygiene false in
local macro_rules
  | `(tactic| kaf_suf) => `(tactic| first
    | assumption
    | exact subNil
    | (apply subCons; (first | (apply Or.inl; o_fieldsN) | (apply Or.inr; kba_ints)); kaf_suf)
    | (apply subApp; (next => kaf_suf); kaf_suf))
set_option hygiene false in
local macro_rules
  | `(tactic| o_fieldsN) => `(tactic| first
    | assumption
    | exact memA
    | (apply memB; o_fieldsN)
    | (apply memL; o_fieldsN)
    | (apply memR; o_fieldsN))
set_option hygiene false in
local macro_rules
  | `(tactic| kd_subs) => `(tactic| first
    | assumption
    | exact Same.refl _
    | (apply same_putF; assumption; kd_subs)
    | (apply same_putG; assumption; kd_subs)
    | (apply same_putF; (next => kba_ints); kd_subs)
    | (apply same_transR; assumption; kd_subs))

set_option pp.maxSteps 900
open NdefX (TabsN)
def nm_precedence : Nat → Nat → Str := fun l _ => if l = 190 then ("precedence" : Str) ++ ".<locals>." ++ "<lambda>" else ("precedence" : Str) ++ ".<locals>." ++ "<lambda>"
def nm_law : Nat → Nat → Str := fun l _ => if l = 294 then ("law" : Str) ++ ".<locals>." ++ "<lambda>" else ("law" : Str) ++ ".<locals>." ++ "<lambda>"
def TT {K : PySem.W.Frag} {mg : Str → Option Value} (T : Txt K mg) : List NdefX.NTab := [(T.p_precedence, nm_precedence), (T.p_law, nm_law)]
theorem hm_precedence {K : PySem.W.Frag} {mg : Str → Option Value} (T : Txt K mg) : (T.p_precedence, nm_precedence) ∈ TT T := List.mem_cons_self ..
theorem hu_precedence {K : PySem.W.Frag} {mg : Str → Option Value} (T : Txt K mg) : ∀ p ∈ TT T, p.1 = T.p_precedence → p.2 = nm_precedence := fun p m e => by
  rcases List.mem_cons.mp m with rfl | m
  · exact rfl
  rcases List.mem_cons.mp m with rfl | m
  · exact absurd e.symm T.pne_precedence_law
  · cases m
theorem hm_law {K : PySem.W.Frag} {mg : Str → Option Value} (T : Txt K mg) : (T.p_law, nm_law) ∈ TT T := List.mem_cons_of_mem _ (List.mem_cons_self ..)
theorem hu_law {K : PySem.W.Frag} {mg : Str → Option Value} (T : Txt K mg) : ∀ p ∈ TT T, p.1 = T.p_law → p.2 = nm_law := fun p m e => by
  rcases List.mem_cons.mp m with rfl | m
  · exact absurd e T.pne_precedence_law
  rcases List.mem_cons.mp m with rfl | m
  · exact rfl
  · cases m
def kwOf : Stmt → Nat → Expr
  | .Return (some (.Call _ _ kws _)) _, i => (kws.map Keyword.value).getD i (.Constant .none 0 ⟨0, 0, 0, 0⟩)
  | _, _ => .Constant .none 0 ⟨0, 0, 0, 0⟩
def qKey : Str := ("precedence" : Str) ++ ".<locals>." ++ "<lambda>"
def LK (cl : List (Str × Addr)) (c : Addr) : Inf.LF := lamF qKey cl c (kwOf ((defBody s_precedence).getD 1 (.Pass ⟨0, 0, 0, 0⟩)) 0)
theorem scKey : NdefX.NScope ["number", "ranks"] ["number"] ["ranks"] (LK [] 0).scope := NdefX.nscope_by (by decide +kernel)
theorem key_lam (cl : List (Str × Addr)) (c : Addr) : Inf.KeyLamR (LK cl c) "number" "ranks" :=
  ⟨scKey, ⟨_, _, _, _, _, _, _, rfl⟩, fun pm ctv v => rfl, by decide, by decide, by decide⟩
/-- the numbers, each one before those that it precedes -/
def precN (rk : Nat → Int) (M : List Nat) : List Nat := ((M.map fun i : Nat => (i : Int)).mergeSort (Inf.ordLe fun x => rk x.toNat)).map Int.toNat
theorem prec_perm {rk : Nat → Int} {M : List Nat} : (precN rk M).Perm M := by
  refine ((List.mergeSort_perm _ _).map Int.toNat).trans (List.Perm.of_eq ?_)
  rw [List.map_map]
  exact (List.map_congr_left fun i _ => Int.toNat_natCast i).trans (List.map_id _)
theorem prec_int {rk : Nat → Int} {M : List Nat} : ((M.map fun i : Nat => (i : Int)).mergeSort (Inf.ordLe fun x => rk x.toNat)).map V.int = (precN rk M).map nV := by
  unfold precN
  rw [List.map_map]
  refine List.map_congr_left fun x hx => ?_
  obtain ⟨i, _, rfl⟩ := List.mem_map.mp ((List.mergeSort_perm _ _).mem_iff.mp hx)
  show V.int (i : Int) = V.int (((i : Int).toNat : Nat) : Int)
  rw [Int.toNat_natCast]
theorem ordLe_trans (f : Int → Int) (a b c : Int) (h1 : Inf.ordLe f a b = true) (h2 : Inf.ordLe f b c = true) : Inf.ordLe f a c = true := by
  have h1 := of_decide_eq_true h1
  have h2 := of_decide_eq_true h2
  exact decide_eq_true (by omega)
theorem ordLe_total (f : Int → Int) (a b : Int) : (Inf.ordLe f a b || Inf.ordLe f b a) = true := by
  rw [Bool.or_eq_true]
  by_cases h : -f a < -f b ∨ (-f a = -f b ∧ a ≤ b)
  · exact .inl (decide_eq_true h)
  · exact .inr (decide_eq_true (by omega))
theorem prec_pw {rk : Nat → Int} {M : List Nat} : (precN rk M).Pairwise fun a b => rk b < rk a ∨ (rk a = rk b ∧ a ≤ b) := by
  refine List.pairwise_map.mpr (List.Pairwise.imp_of_mem (fun {x y} mx my h => ?_) (List.pairwise_mergeSort (le := Inf.ordLe fun x => rk x.toNat) (ordLe_trans _) (ordLe_total _) (M.map fun i : Nat => (i : Int))))
  obtain ⟨i, _, rfl⟩ := List.mem_map.mp ((List.mergeSort_perm _ _).mem_iff.mp mx)
  obtain ⟨j, _, rfl⟩ := List.mem_map.mp ((List.mergeSort_perm _ _).mem_iff.mp my)
  have h := of_decide_eq_true h
  simp only [Int.toNat_natCast] at h ⊢
  omega
section
variable {P : Program} {w : World} {K : PySem.W.Frag} {mg : Str → Option Value} {base : Heap} {n : Nat}
def spPrec (T : Txt K mg) : Sp := fun vs H Q _ => ∃ (t dx o hd rd : Addr) (given rem : Nat) (M : List Nat) (rk : Nat → Int), vs = [.ref t] ∧ H t = some (RO T.C_Ranked dx o given hd rd rem) ∧ H rd = some (.dK (dM M (rV rk))) ∧ M.length < 400000 ∧ TabsN (TT T) H ∧
  ∀ r H', Kp [T.p_precedence] H H' → TabsN (TT T) H' → Fr H r → H' r = some (.lst ((precN rk M).map nV)) → Q (.ref r) H'
theorem ok_prec (T : Txt K mg) (TB : LamX.TabB base mg T.c_precedence T.p_precedence) : FnOk P w K mg base CX0 8 T.f_precedence T.d_precedence ["ranked"] (spPrec T) := by
  refine T.F_precedence.okC sc_precedence (fun vs H Q E h => ?_) (fun A outer s H vs Q E hr h => ?_)
  · obtain ⟨t, dx, o, hd, rd, given, rem, M, rk, rfl, _⟩ := h
    rfl
  · obtain ⟨t, dx, o, hd, rd, given, rem, M, rk, rfl, ht, hrd, hML, t0, q⟩ := h
    refine ⟨_, (Inf.psr_cons (ps_set (i := 1) sc_precedence.nd rfl (.inr rfl) (pe_fld (pv 0) rfl))
      (Inf.psr_ret (Inf.pe_callBKs (Inf.cr_sortC (i := 1) (x := "number") (y := "ranks") hr rfl rfl) (by rfl) T.z_sorted (by decide +kernel) (pa_cons (pe_callTy (call_list_dK rfl) (by rfl) T.z_list (by decide +kernel) (pa_cons (pv 1) pa_nil)) pa_nil) (pk_cons (Inf.pe_lamP (T := TT T) (nm := nm_precedence) (c := T.c_precedence) (P := T.p_precedence) TB rfl (hm_precedence T) rfl (hu_precedence T) rfl (NdefX.ndef_free (sc := defScope s_precedence) (fr := ["ranks"]) (by decide +kernel))) pk_nil)))), ?_⟩
    refine ⟨_, rfl, t, _, dx, _, _, rfl, ht, T.cl_Ranked, T.n_Ranked_ranks, rfl, pGN ?_⟩
    simp only [List.set_cons_succ, List.set_cons_zero]
    refine ⟨_, rfl, rd, _, rfl, hrd, fun a na => ?_⟩
    have fa := Fr.mk na
    have s1 := same_newF (o := .lst ((dM M (rV rk)).map fun kv => kV kv.1)) fa
    have ea : upd H a (.lst ((dM M (rV rk)).map fun kv => kV kv.1)) a = some (.lst ((dM M (rV rk)).map fun kv => kV kv.1)) := upd_same
    generalize upd H a (.lst ((dM M (rV rk)).map fun kv => kV kv.1)) = H1 at s1 ea ⊢
    have t1 := tabs_same t0 s1
    refine ⟨t1, fun fk ck H6 k6 n6 tb6 nf6 hf6 hc6 => ?_⟩
    obtain ⟨cl, ecl, hf6⟩ : ∃ cl, cl = _ ∧ H6 fk = some (Inf.LamO fk (LK cl ck)) := ⟨_, rfl, hf6⟩
    have hc6 : H6 ck = some (LamX.CodeO ck qKey) := hc6
    have k6 : Kp [T.p_precedence] H1 H6 := ⟨fun b o e n => k6 b o e fun z => n (by rw [z]; exact memA)⟩
    have ea6 := k6.at_ _ _ ea (not_cons (tab_ne t1 (hm_precedence T) ea (fun _ z => nomatch z)) not_nil)
    have hrd6 := k6.at_ _ _ (s1 _ _ hrd) (not_cons (tab_ne t1 (hm_precedence T) (s1 _ _ hrd) (fun _ z => nomatch z)) not_nil)
    have eint : ((dM M (rV rk)).map fun kv => kV kv.1) = (M.map fun i : Nat => (i : Int)).map V.int := by
      unfold dM
      rw [List.map_map, List.map_map]
      rfl
    rw [eint] at ea6
    refine ⟨a, fk, rd, LK cl ck, (M.map fun i : Nat => (i : Int)), (fun x => rk x.toNat), _, rfl, rfl, sqlOf ea6, key_lam cl ck, ecl, hf6, hc6, rfl, hrd6, fun x hx => ?_, fun r nr => ?_⟩
    · obtain ⟨i, hi, rfl⟩ := List.mem_map.mp hx
      rw [dM_val hi]
      rfl
    · rw [prec_int]
      have fr := Fr.mk nr
      have sr := same_newF (o := .lst ((precN rk M).map nV)) fr
      refine fun H7 X7 => ?_
      refine q r _ (kp_trans (kp_same s1) (kp_trans k6 (kp_trans (kp_same sr) (kp_same X7.same)))) (tabs_same (tabs_same tb6 sr) X7.same) (Fr.mk (s1.free (n6 _ nr))) (X7.same _ _ upd_same)
end
end Ob

set_option Elab.async false
set_option linter.all false
set_option maxRecDepth 100000
set_option maxHeartbeats 1000000
namespace Ob
open PySem PySem.Spec PyProof.Rows L2
open LamX (Tabs TabB TabS ExtN)

set_option hygiene false in
local macro_rules
  | `(tactic| kp_flats) => `(tactic| first
    | assumption
    | exact upd_same
    | (apply atNew; assumption; kp_flats)
    | (apply atNe; (next => kbo_bools); kp_flats)
    | (apply atSame; assumption; kp_flats)
    | (apply atKp; assumption; (next => kaf_pre); kp_flats))
set_option hygiene false in
local macro_rules
  | `(tactic| kaf_pre) => `(tactic| first
    | assumption
    | exact not_nil
    | (apply not_cons; (next => kbo_bools); kaf_pre)
    | (apply not_app; (next => kaf_pre); kaf_pre))
set_option hygiene false in
local macro_rules
  | `(tactic| kbo_bools) => `(tactic| first
    | assumption
    | (apply Ne.symm; assumption)
    | (apply neN; assumption; kp_flats)
    | (apply neN'; assumption; kp_flats))
set_option hygiene false in
local macro_rules
  | `(tactic| o_reads) => `(tactic| first
    | with_reducible rfl
    | assumption
    | rfl
    | kp_flats
    | (show SqL _ _ _ _; first | assumption | (apply sqlOf; kp_flats) | (apply sqlSame; assumption; o_reads))
    | (show SqT _ _ _ _; first | assumption | (apply sqtOf; kp_flats) | (apply sqtAll; assumption) | (apply sqtSame; assumption; o_reads))
    | (show Cls _ _; first | exact T.cl_Calls | exact T.cl_Outer | exact T.cl_Ranked | exact T.cl_Unions)
    | (show NoAttr _ _ _; first | exact T.n_Calls_entries | exact T.n_Calls_running | exact T.n_Outer_calls | exact T.n_Outer_push_call | exact T.n_Outer_pop_call | exact T.n_Outer_ask_call | exact T.n_Outer_order | exact T.n_Outer_broken | exact T.n_Ranked_outer | exact T.n_Ranked_given | exact T.n_Ranked_held | exact T.n_Ranked_ranks | exact T.n_Ranked_removals | exact T.n_Unions_groups | exact T.n_Unions_parents | exact T.n_Unions_counts | exact T.n_Unions_moved)
    | (apply Or.inl; o_reads)
    | (apply Or.inr; o_reads)
    | (apply And.intro; (next => o_reads); o_reads)
    | (apply Exists.intro; o_reads)
    | exact Nat.le_of_ble_eq_true rfl
    | exact Nat.succ_ne_zero _
    | (show Fr _ _; kba_ints)
    | (show Same _ _; kd_subs)
    | (show Kp _ _ _; kxs_still)
    | (show (_ : Nat) ≤ _; simp only [List.length_append, List.length_map, List.length_cons, List.length_nil, List.length_take, List.length_drop, List.length_replicate, List.length_range, sizeLine_eq]; omega)
    | (show _ = none; apply Fr.h; kba_ints)
    | (show Bag _ _; first | assumption | (apply bag_putF; assumption; o_reads) | (apply bag_neF; (next => kbo_bools); o_reads) | (apply bag_kpR; assumption; (next => kaf_pre); o_reads))
    | omega
    | decide)
local macro_rules
  | `(tactic| o_readsAll) => `(tactic| repeat (first
    | (refine fun (pNew : Addr) (nNew : _ = none) => ?_; replace nNew := Fr.mk nNew)
    | (refine fun (xNew dNew : Addr) (nNew : _ = none) (mNew : _ = none) (eNew : dNew ≠ xNew) => ?_; replace nNew := Fr.mk nNew; replace mNew := Fr.mk mNew)
    | (apply And.intro; next => o_reads)
    | apply Exists.intro (α := V)
    | apply Exists.intro (α := Addr)
    | apply Exists.intro (α := Int)
    | apply Exists.intro (α := Bool)
    | apply Exists.intro (α := List V)
    | apply Exists.intro (α := List Nat)
    | apply Exists.intro (α := List (Str × V))
    | apply Exists.intro (α := List _)
    | apply Exists.intro (α := Str)
    | apply Exists.intro (α := HO)
    | apply Exists.intro (α := Sp)
    | apply Exists.intro (α := VK)))
set_option hygiene false in
local macro_rules
  | `(tactic| kba_ints) => `(tactic| first
    | assumption
    | (apply frUp; (first | assumption | (apply Ne.symm; assumption)); kba_ints)
    | (apply noneOf; assumption; intro oF eF; apply Exists.intro; kp_flats)
    | (apply frUp; (next => kbo_bools); kba_ints))
set_option hygiene false in
local macro_rules
  | `(tactic| kxs_still) => `(tactic| first
    | assumption
    | exact kp_refl _ _
    | (apply kp_newF; assumption; kxs_still)
    | (apply kp_new; assumption; kxs_still)
    | (apply kp_up; (next => o_fieldsN); kxs_still)
    | (apply kp_new; (next => kba_ints); kxs_still)
    | (apply kp_sameR; assumption; kxs_still)
    | (apply kp_transR; assumption; kxs_still)
    | (apply kp_freshR; assumption; (next => kaf_suf); kxs_still))
set_option hygiene false in
local macro_rules
  | `(tactic| kaf_suf) => `(tactic| first
    | assumption
    | exact subNil
    | (apply subCons; (first | (apply Or.inl; o_fieldsN) | (apply Or.inr; kba_ints)); kaf_suf)
    | (apply subApp; (next => kaf_suf); kaf_suf))
set_option hygiene false in
local macro_rules
  | `(tactic| o_fieldsN) => `(tactic| first
    | assumption
    | exact memA
    | (apply memB; o_fieldsN)
    | (apply memL; o_fieldsN)
    | (apply memR; o_fieldsN))
set_option hygiene false in
local macro_rules
  | `(tactic| kd_subs) => `(tactic| first
    | assumption
    | exact Same.refl _
    | (apply same_putF; assumption; kd_subs)
    | (apply same_putG; assumption; kd_subs)
    | (apply same_putF; (next => kba_ints); kd_subs)
    | (apply same_transR; assumption; kd_subs))

set_option pp.maxSteps 900
open NdefX (TabsN)
section
/-- the calls of a tick: those that end are popped, the new pieces pushed -/
def tickW (E B : List Nat) : List (Str × Nat) := (E.reverse.map fun i => (("pop" : Str), i)) ++ B.map fun i => (("push" : Str), i)
theorem pops_revA : ∀ {R S : List Nat}, PopsOk (S ++ R.reverse) (R.map fun i => (("pop" : Str), i)) ∧ runW (S ++ R.reverse) (R.map fun i => (("pop" : Str), i)) = S
  | [], S => ⟨True.intro, List.append_nil S⟩
  | i :: R, S => by
    have ih := pops_revA (R := R) (S := S)
    have e : S ++ (i :: R).reverse = (S ++ R.reverse) ++ [i] := by rw [List.reverse_cons, List.append_assoc]
    have hs : stepS ((S ++ R.reverse) ++ [i]) (("pop" : Str), i) = S ++ R.reverse := by
      unfold stepS
      rw [if_neg wOP2, if_pos rfl, List.dropLast_concat]
    rw [e]
    refine ⟨⟨?_, ?_⟩, ?_⟩
    · rw [if_neg wOP2]
      exact ⟨rfl, S ++ R.reverse, rfl⟩
    · rw [hs]
      exact ih.1
    · show runW (stepS _ _) _ = _
      rw [hs]
      exact ih.2
theorem pops_rev {E S : List Nat} : PopsOk (S ++ E) (E.reverse.map fun i => (("pop" : Str), i)) ∧ runW (S ++ E) (E.reverse.map fun i => (("pop" : Str), i)) = S := by
  have := pops_revA (R := E.reverse) (S := S)
  rw [List.reverse_reverse] at this
  exact this
theorem push_ok : ∀ {B S : List Nat}, PopsOk S (B.map fun i => (("push" : Str), i)) ∧ runW S (B.map fun i => (("push" : Str), i)) = S ++ B
  | [], S => ⟨True.intro, (List.append_nil S).symm⟩
  | i :: B, S => by
    have hs : stepS S (("push" : Str), i) = S ++ [i] := by
      unfold stepS
      rw [if_pos rfl]
    have ih := push_ok (B := B) (S := S ++ [i])
    refine ⟨⟨?_, ?_⟩, ?_⟩
    · rw [if_pos rfl]
      exact True.intro
    · rw [hs]
      exact ih.1
    · show runW (stepS _ _) _ = _
      rw [hs, ih.2, List.append_assoc]
      rfl
theorem tick_ok {E B S : List Nat} : PopsOk (S ++ E) (tickW E B) ∧ runW (S ++ E) (tickW E B) = S ++ B := by
  obtain ⟨h1, h2⟩ := pops_rev (E := E) (S := S)
  obtain ⟨g1, g2⟩ := push_ok (B := B) (S := S)
  unfold tickW
  refine ⟨pops_app.mpr ⟨h1, by rw [h2]; exact g1⟩, by rw [run_app, h2, g2]⟩
end
theorem tick_len {E B : List Nat} : (tickW E B).length = E.length + B.length := by
  unfold tickW
  rw [List.length_append, List.length_map, List.length_map, List.length_reverse]
theorem low_pos {n : Nat} (h : n ≠ 0) : 0 < low n := by
  obtain ⟨e, h1, _⟩ := low_spec n h
  rw [h1]
  exact Nat.two_pow_pos e
/-! ### where a number stands -/
def ixN (x : Nat) : List Nat → Nat
  | [] => 0
  | y :: l => if y = x then 0 else ixN x l + 1
theorem ixN_at {x : Nat} : ∀ {S : List Nat}, x ∈ S → S[ixN x S]? = some x
  | y :: l, h => by
    unfold ixN
    by_cases c : y = x
    · rw [if_pos c, c]
      rfl
    · rw [if_neg c]
      exact ixN_at ((List.mem_cons.mp h).resolve_left fun z => c z.symm)
theorem ixN_no {x : Nat} : ∀ {S : List Nat} {m y : Nat}, m < ixN x S → S[m]? = some y → y ≠ x
  | [], m, y, h, _ => absurd h (Nat.not_lt_zero _)
  | z :: l, m, y, h, e => by
    unfold ixN at h
    by_cases c : z = x
    · rw [if_pos c] at h
      exact absurd h (Nat.not_lt_zero _)
    · rw [if_neg c] at h
      match m, e with
      | 0, e =>
        cases e
        exact c
      | m + 1, e => exact ixN_no (S := l) (Nat.lt_of_succ_lt_succ h) e
theorem ixN_le {x : Nat} {S : List Nat} {m : Nat} (h : S[m]? = some x) : ixN x S ≤ m := Nat.le_of_not_lt fun z => ixN_no z h rfl
theorem drop_while {p : Nat → Bool} : ∀ {S : List Nat} {m : Nat}, (∀ (j y : Nat), j < m → S[j]? = some y → p y = true) → (∀ y, S[m]? = some y → p y = false) → S.dropWhile p = S.drop m
  | [], m, _, _ => by rw [List.drop_nil]; rfl
  | z :: l, 0, _, h2 => by
    have h := h2 z rfl
    rw [List.dropWhile_cons, h]
    rfl
  | z :: l, m + 1, h1, h2 => by
    have h := h1 0 z (Nat.succ_pos _) rfl
    rw [List.dropWhile_cons, if_pos h, List.drop_succ_cons]
    exact drop_while (fun j y hj e => h1 (j + 1) y (Nat.succ_lt_succ hj) e) (fun y e => h2 y e)
/-! ### the plan of a removal -/
def needN (rk : Nat → Int) (rem : Nat) (M : List Nat) : List Nat := (precN rk M).take (low (rem + 1))
/-- what is popped -/
def popN (N S : List Nat) : List Nat := S.dropWhile fun i => decide (i ∉ N)
def lowN (N S : List Nat) : List Nat := S.takeWhile fun i => decide (i ∉ N)
theorem pop_split {N S : List Nat} : S = lowN N S ++ popN N S := List.takeWhile_append_dropWhile.symm
/-- what is pushed again -/
def backN (N S : List Nat) : List Nat := ((popN N S).filter fun i => decide (i ∉ N)) ++ (N.drop 1).reverse
def planR (rk : Nat → Int) (rem : Nat) (M S : List Nat) : List (Str × Nat) := tickW (popN (needN rk rem M) S) (backN (needN rk rem M) S)
theorem need_sub {rk : Nat → Int} {rem : Nat} {M : List Nat} : ∀ i ∈ needN rk rem M, i ∈ M := fun i h => prec_perm.mem_iff.mp (List.mem_of_mem_take h)
theorem need_nd {rk : Nat → Int} {rem : Nat} {M : List Nat} (h : M.Nodup) : (needN rk rem M).Nodup := (List.take_sublist _ _).nodup (prec_perm.nodup_iff.mpr h)
theorem need_cons {rk : Nat → Int} {rem : Nat} {M : List Nat} (h : M ≠ []) : ∃ x N, needN rk rem M = x :: N ∧ (precN rk M).head? = some x := by
  unfold needN
  have hp := low_pos (n := rem + 1) (by omega)
  cases e : precN rk M with
  | nil =>
    have := (prec_perm (rk := rk) (M := M)).length_eq
    rw [e] at this
    exact absurd (List.length_eq_zero_iff.mp this.symm) h
  | cons x N =>
    obtain ⟨k, hk⟩ : ∃ k, low (rem + 1) = k + 1 := ⟨low (rem + 1) - 1, by omega⟩
    rw [hk]
    exact ⟨x, N.take k, rfl, rfl⟩
theorem in_pop {N : List Nat} : ∀ {S : List Nat} {i : Nat}, i ∈ N → i ∈ S → i ∈ popN N S
  | z :: l, i, h, hs => by
    unfold popN
    rw [List.dropWhile_cons]
    split
    · next c =>
      refine in_pop h ((List.mem_cons.mp hs).resolve_left fun e => ?_)
      rw [← e] at c
      exact of_decide_eq_true c h
    · exact hs
theorem pop_sub {N S : List Nat} : ∀ i ∈ popN N S, i ∈ S := fun i h => (List.dropWhile_sublist _).subset h
/-- what is popped are the needed ones and others -/
theorem pop_perm {N S : List Nat} (hS : S.Nodup) (hN : N.Nodup) (h : ∀ i ∈ N, i ∈ S) : (popN N S).Perm (N ++ (popN N S).filter fun i => decide (i ∉ N)) := by
  have nd : (popN N S).Nodup := (List.dropWhile_sublist _).nodup hS
  refine (List.perm_ext_iff_of_nodup nd (List.nodup_append.mpr ⟨hN, nd.filter _, fun a ha b hb e => ?_⟩)).mpr fun i => ?_
  · have := of_decide_eq_true (List.mem_filter.mp hb).2
    exact this (e ▸ ha)
  · rw [List.mem_append, List.mem_filter]
    by_cases c : i ∈ N
    · exact ⟨fun _ => .inl c, fun _ => in_pop c (h i c)⟩
    · exact ⟨fun z => .inr ⟨z, decide_eq_true c⟩, fun z => z.elim (fun y => absurd y c) fun y => y.1⟩
theorem plan_len {rk : Nat → Int} {rem : Nat} {M S : List Nat} (hM : M.Nodup) (pm : S.Perm M) (ne : M ≠ []) : (planR rk rem M S).length + 1 = 2 * (popN (needN rk rem M) S).length ∧ (popN (needN rk rem M) S).length ≤ M.length := by
  have h1 := (pop_perm (pm.nodup_iff.mpr hM) (need_nd (rk := rk) (rem := rem) hM) fun i z => pm.mem_iff.mpr (need_sub i z)).length_eq
  obtain ⟨x, N, e, _⟩ := need_cons (rk := rk) (rem := rem) ne
  unfold planR backN
  rw [tick_len, List.length_append, List.length_reverse]
  rw [List.length_append] at h1
  refine ⟨?_, ?_⟩
  · rw [e] at h1 ⊢
    rw [List.drop_succ_cons, List.drop_zero]
    rw [List.length_cons] at h1
    omega
  · rw [← pm.length_eq]
    exact (List.dropWhile_sublist _).length_le
theorem filt_ne {L : List Nat} {y : Nat} (h : y ∉ L) : (L.filter fun i => decide (i ≠ y)) = L := List.filter_eq_self.mpr fun i hi => decide_eq_true fun z => h (z ▸ hi)
/-- the stack behind a removal -/
theorem plan_run {rk : Nat → Int} {rem : Nat} {M S : List Nat} (hM : M.Nodup) (pm : S.Perm M) (ne : M ≠ []) : PopsOk S (planR rk rem M S) ∧ runW S (planR rk rem M S) = lowN (needN rk rem M) S ++ backN (needN rk rem M) S ∧
    ∀ x, (precN rk M).head? = some x → (runW S (planR rk rem M S)).Perm (M.filter fun i => decide (i ≠ x)) := by
  have hp := tick_ok (E := popN (needN rk rem M) S) (B := backN (needN rk rem M) S) (S := lowN (needN rk rem M) S)
  rw [← pop_split] at hp
  refine ⟨hp.1, hp.2, fun x hx => ?_⟩
  have hp2 : runW S (planR rk rem M S) = _ := hp.2
  rw [hp2]
  obtain ⟨y, N, e, hy⟩ := need_cons (rk := rk) (rem := rem) ne
  have hxy : y = x := Option.some.inj (hy.symm.trans hx)
  subst hxy
  have hS := pm.nodup_iff.mpr hM
  have h1 := pop_perm hS (need_nd (rk := rk) (rem := rem) hM) fun i z => pm.mem_iff.mpr (need_sub i z)
  unfold backN
  generalize hN : needN rk rem M = NN at *
  subst e
  rw [List.drop_succ_cons, List.drop_zero]
  have h2 : (y :: (lowN (y :: N) S ++ ((popN (y :: N) S).filter (fun i => decide (i ∉ y :: N)) ++ N.reverse))).Perm M := by
    refine List.Perm.trans ?_ ((List.Perm.of_eq (pop_split (N := y :: N) (S := S)).symm).trans pm)
    have h3 : (lowN (y :: N) S ++ popN (y :: N) S).Perm (lowN (y :: N) S ++ (y :: N ++ (popN (y :: N) S).filter fun i => decide (i ∉ y :: N))) := h1.append_left _
    refine List.Perm.trans ?_ h3.symm
    refine List.Perm.trans ?_ (List.perm_middle (a := y)).symm
    refine List.Perm.cons _ (List.Perm.append_left _ ?_)
    exact List.perm_append_comm.trans ((List.reverse_perm _).append_right _)
  have h4 := h2.filter fun i => decide (i ≠ y)
  rw [List.filter_cons_of_neg (by simp)] at h4
  have h5 := (h2.nodup_iff.mpr hM)
  rw [List.nodup_cons] at h5
  rw [filt_ne h5.1] at h4
  exact h4
theorem back_sub {rk : Nat → Int} {rem : Nat} {M S : List Nat} (pm : S.Perm M) : ∀ i ∈ backN (needN rk rem M) S, i ∈ M := fun i h => by
  rcases List.mem_append.mp h with h | h
  · exact pm.mem_iff.mp (pop_sub i (List.mem_filter.mp h).1)
  · exact need_sub i (List.mem_of_mem_drop (List.mem_reverse.mp h))
theorem plan_mem {rk : Nat → Int} {rem : Nat} {M S : List Nat} (pm : S.Perm M) : ∀ e ∈ planR rk rem M S, e.1 = "push" → e.2 ∈ M := fun e h w => by
  rcases List.mem_append.mp h with h | h
  · obtain ⟨i, _, rfl⟩ := List.mem_map.mp h
    exact absurd w wOP2
  · obtain ⟨i, mi, rfl⟩ := List.mem_map.mp h
    exact back_sub pm _ mi
end Ob

set_option Elab.async false
set_option linter.all false
set_option maxRecDepth 100000
set_option maxHeartbeats 1000000
namespace Ob
open PySem PySem.Spec PyProof.Rows L2
open LamX (Tabs TabB TabS ExtN)

set_option hygiene false in
local macro_rules
  | `(tactic| kp_flats) => `(tactic| first
    | assumption
    | exact upd_same
    | (apply atNew; assumption; kp_flats)
    | (apply atNe; (next => kbo_bools); kp_flats)
    | (apply atSame; assumption; kp_flats)
    | (apply atKp; assumption; (next => kaf_pre); kp_flats))
set_option hygiene false in
local macro_rules
  | `(tactic| kaf_pre) => `(tactic| first
    | assumption
    | exact not_nil
    | (apply not_cons; (next => kbo_bools); kaf_pre)
    | (apply not_app; (next => kaf_pre); kaf_pre))
set_option hygiene false in
local macro_rules
  | `(tactic| kbo_bools) => `(tactic| first
    | assumption
    | (apply Ne.symm; assumption)
    | (apply neN; assumption; kp_flats)
    | (apply neN'; assumption; kp_flats))
set_option hygiene false in
local macro_rules
  | `(tactic| o_reads) => `(tactic| first
    | with_reducible rfl
    | assumption
    | rfl
    | kp_flats
    | (show SqL _ _ _ _; first | assumption | (apply sqlOf; kp_flats) | (apply sqlSame; assumption; o_reads))
    | (show SqT _ _ _ _; first | assumption | (apply sqtOf; kp_flats) | (apply sqtAll; assumption) | (apply sqtSame; assumption; o_reads))
    | (show Cls _ _; first | exact T.cl_Calls | exact T.cl_Outer | exact T.cl_Ranked | exact T.cl_Unions)
    | (show NoAttr _ _ _; first | exact T.n_Calls_entries | exact T.n_Calls_running | exact T.n_Outer_calls | exact T.n_Outer_push_call | exact T.n_Outer_pop_call | exact T.n_Outer_ask_call | exact T.n_Outer_order | exact T.n_Outer_broken | exact T.n_Ranked_outer | exact T.n_Ranked_given | exact T.n_Ranked_held | exact T.n_Ranked_ranks | exact T.n_Ranked_removals | exact T.n_Unions_groups | exact T.n_Unions_parents | exact T.n_Unions_counts | exact T.n_Unions_moved)
    | (apply Or.inl; o_reads)
    | (apply Or.inr; o_reads)
    | (apply And.intro; (next => o_reads); o_reads)
    | (apply Exists.intro; o_reads)
    | exact Nat.le_of_ble_eq_true rfl
    | exact Nat.succ_ne_zero _
    | (show Fr _ _; kba_ints)
    | (show Same _ _; kd_subs)
    | (show Kp _ _ _; kxs_still)
    | (show (_ : Nat) ≤ _; simp only [List.length_append, List.length_map, List.length_cons, List.length_nil, List.length_take, List.length_drop, List.length_replicate, List.length_range, sizeLine_eq]; omega)
    | (show _ = none; apply Fr.h; kba_ints)
    | (show Bag _ _; first | assumption | (apply bag_putF; assumption; o_reads) | (apply bag_neF; (next => kbo_bools); o_reads) | (apply bag_kpR; assumption; (next => kaf_pre); o_reads))
    | omega
    | decide)
local macro_rules
  | `(tactic| o_readsAll) => `(tactic| repeat (first
    | (refine fun (pNew : Addr) (nNew : _ = none) => ?_; replace nNew := Fr.mk nNew)
    | (refine fun (xNew dNew : Addr) (nNew : _ = none) (mNew : _ = none) (eNew : dNew ≠ xNew) => ?_; replace nNew := Fr.mk nNew; replace mNew := Fr.mk mNew)
    | (apply And.intro; next => o_reads)
    | apply Exists.intro (α := V)
    | apply Exists.intro (α := Addr)
    | apply Exists.intro (α := Int)
    | apply Exists.intro (α := Bool)
    | apply Exists.intro (α := List V)
    | apply Exists.intro (α := List Nat)
    | apply Exists.intro (α := List (Str × V))
    | apply Exists.intro (α := List _)
    | apply Exists.intro (α := Str)
    | apply Exists.intro (α := HO)
    | apply Exists.intro (α := Sp)
    | apply Exists.intro (α := VK)))
set_option hygiene false in
local macro_rules
  | `(tactic| kba_ints) => `(tactic| first
    | assumption
    | (apply frUp; (first | assumption | (apply Ne.symm; assumption)); kba_ints)
    | (apply noneOf; assumption; intro oF eF; apply Exists.intro; kp_flats)
    | (apply frUp; (next => kbo_bools); kba_ints))
set_option hygiene false in
local macro_rules
  | `(tactic| kxs_still) => `(tactic| first
    | assumption
    | exact kp_refl _ _
    | (apply kp_newF; assumption; kxs_still)
    | (apply kp_new; assumption; kxs_still)
    | (apply kp_up; (next => o_fieldsN); kxs_still)
    | (apply kp_new; (next => kba_ints); kxs_still)
    | (apply kp_sameR; assumption; kxs_still)
    | (apply kp_transR; assumption; kxs_still)
    | (apply kp_freshR; assumption; (next => kaf_suf); kxs_still))
set_option hygiene false in
local macro_rules
  | `(tactic| kaf_suf) => `(tactic| first
    | assumption
    | exact subNil
    | (apply subCons; (first | (apply Or.inl; o_fieldsN) | (apply Or.inr; kba_ints)); kaf_suf)
    | (apply subApp; (next => kaf_suf); kaf_suf))
set_option hygiene false in
local macro_rules
  | `(tactic| o_fieldsN) => `(tactic| first
    | assumption
    | exact memA
    | (apply memB; o_fieldsN)
    | (apply memL; o_fieldsN)
    | (apply memR; o_fieldsN))
set_option hygiene false in
local macro_rules
  | `(tactic| kd_subs) => `(tactic| first
    | assumption
    | exact Same.refl _
    | (apply same_putF; assumption; kd_subs)
    | (apply same_putG; assumption; kd_subs)
    | (apply same_putF; (next => kba_ints); kd_subs)
    | (apply same_transR; assumption; kd_subs))

set_option pp.maxSteps 900
open NdefX (TabsN)
theorem cut_take {l : List Nat} {k : Nat} : cutV (l.map nV) none (some (k : Int)) = (l.take k).map nV := by
  unfold cutV
  rw [List.length_map, HT.sIx_none, HT.sIx_nat, List.drop_zero, Nat.sub_zero, List.map_take]
  by_cases c : k ≤ l.length
  · rw [Nat.min_eq_left c]
  · rw [Nat.min_eq_right (by omega), List.take_of_length_le (by rw [List.length_map]; omega), List.take_of_length_le (by rw [List.length_map]; omega)]
theorem cut_drop {l : List Nat} {k : Nat} (h : k ≤ l.length) : cutV (l.map nV) (some (k : Int)) none = (l.drop k).map nV := by
  unfold cutV
  rw [List.length_map, HT.sIx_none, HT.sIx_nat, Nat.min_eq_left h, List.map_drop]
  exact List.take_of_length_le (by rw [List.length_drop, List.length_map]; exact Nat.le_refl _)
section
variable {P : Program} {w : World} {K : PySem.W.Frag} {mg : Str → Option Value} {base : Heap} {n : Nat}
def spPlr (T : Txt K mg) : Sp := fun vs H Q _ => ∃ (t dx o d1 c hd rd od : Addr) (fp fo fa : V) (given rem : Nat) (M S : List Nat) (rk : Nat → Int), vs = [.ref t] ∧ H t = some (RO T.C_Ranked dx o given hd rd rem) ∧ H o = some (OO T.C_Outer d1 c fp fo fa od false) ∧ H od = some (.lst (S.map nV)) ∧ H rd = some (.dK (dM M (rV rk))) ∧ M.Nodup ∧ S.Perm M ∧ M ≠ [] ∧ M.length < 400000 ∧ TabsN (TT T) H ∧
  ∀ r xs H', Kp [T.p_precedence] H H' → TabsN (TT T) H' → Fr H r → H' r = some (.lst xs) → WLog H' xs (planR rk rem M S) → Q (.ref r) H'
theorem ok_plr (T : Txt K mg) (TB : LamX.TabB base mg T.c_precedence T.p_precedence) : FnOk P w K mg base CX0 10 T.f_plan_removal T.d_plan_removal ["ranked"] (spPlr T) := by
  have G_precedence := ok_prec (P := P) (w := w) T TB
  have G_lowest_power := ok_lp (P := P) (w := w) (base := base) T
  have G_plan_pops := ok_pops (P := P) (w := w) (base := base) T
  have G_plan_pushes := ok_push (P := P) (w := w) (base := base) T
  refine T.F_plan_removal.ok sc_plan_removal (fun vs H Q E h => ?_) (fun cdv A outer s H vs Q E hr h => ?_)
  · obtain ⟨t, dx, o, d1, c, hd, rd, od, fp, fo, fa, given, rem, M, S, rk, rfl, _⟩ := h
    rfl
  · obtain ⟨t, dx, o, d1, c, hd, rd, od, fp, fo, fa, given, rem, M, S, rk, rfl, ht, ho, hod, hrd, hMn, hpm, hne, hML, t0, q⟩ := h
    refine ⟨_, (pss_cons (ps_set (i := 1) sc_plan_removal.nd rfl (.inr rfl) (pe_slice sl_list (pe_call G_precedence (hr.mono (by omega)) rfl T.g_precedence T.F_precedence.kp T.b_precedence .nil pass0 (pa_cons (pv 0) pa_nil)) po_none (po_some (pe_call G_lowest_power (hr.mono (by omega)) rfl T.g_lowest_power T.F_lowest_power.kp T.b_lowest_power .nil pass0 (pa_cons (pe_op op_add (pe_fld (pv 0) rfl) pe_int) pa_nil)))))
      (pss_cons (ps_set (i := 2) sc_plan_removal.nd rfl (.inr rfl) (pe_fld (pe_fld (pv 0) rfl) rfl))
      (pss_cons (ps_set (i := 3) sc_plan_removal.nd rfl (.inl rfl) (pe_callB (cr_min rfl) (by rfl) T.z_min (by decide +kernel) (pa_cons (pe_lc (own := [("number", 6)]) (g := gName 6) (tt := tYes) rfl sc_plan_removal.nd (pi_list (pv 1)) (blkOk_by (N := n_plan_removal) (sc := defScope s_plan_removal) (by decide +kernel)) (fun _ _ _ _ _ => (pg_name (i := 6) sc_plan_removal.nd rfl (.inl rfl))) (fun _ _ _ _ _ => pts_nil) (fun _ _ _ _ _ => (show PE _ _ (tBM K "list" (rIndex K) (tVar 2) (tCons (tVar 6) tNil)) from pe_bm PySem.F.plainAttrs_list PySem.F.slot_list_index PySem.F.type_list_index mt_index (pv 2) (pa_cons (pv 6) pa_nil)))) pa_nil)))
      (pss_cons (ps_set (i := 4) sc_plan_removal.nd rfl (.inl rfl) (pe_slice sl_list (pv 2) (po_some (pv 3)) po_none))
      (pss_cons (ps_setLc (i := 5) (own := [("number", 6)]) (g := gName 6)  rfl sc_plan_removal.nd rfl rfl (sw_true rfl rfl rfl (by decide +kernel)) (pi_list (pv 4)) (blkOk_by (N := n_plan_removal) (sc := defScope s_plan_removal) (by decide +kernel)) (fun _ _ _ _ _ => (pg_name (i := 6) sc_plan_removal.nd rfl (.inl rfl))) (fun _ _ _ _ _ => (pts_one (pt_cmpR (show OpR _ _ (rIn K true) from op_notIn_seq) (pv 6) (pv 1) (by rfl)))) (fun _ _ _ _ _ => (pv 6)))
      (pss_one (ps_ret (pe_op op_cat (pe_op op_cat (pe_call G_plan_pops (hr.mono (by omega)) rfl T.g_plan_pops T.F_plan_pops.kp T.b_plan_pops .nil pass0 (pa_cons (pv 4) pa_nil)) (pe_call G_plan_pushes (hr.mono (by omega)) rfl T.g_plan_pushes T.F_plan_pushes.kp T.b_plan_pushes .nil pass0 (pa_cons (pv 5) pa_nil))) (pe_call G_plan_pushes (hr.mono (by omega)) rfl T.g_plan_pushes T.F_plan_pushes.kp T.b_plan_pushes .nil pass0 (pa_cons (Inf.pe_lstRev rfl (by rfl) T.z_list (by rfl) T.z_reversed (pe_slice sl_list (pv 1) (po_some pe_int) po_none)) pa_nil)))))))))), ?_⟩
    have lS := hpm.length_eq
    refine ⟨_, rfl, t, dx, o, hd, rd, given, rem, M, rk, rfl, ht, hrd, hML, t0, fun r1 H1 k1 t1 fr1 e1 => ?_⟩
    have up1 : ∀ {a : Addr} {x : HO}, H a = some x → (∀ ps, x ≠ .tbl ps) → H1 a = some x := fun e n => k1.at_ _ _ e (not_cons (tab_ne t0 (hm_precedence T) e n) not_nil)
    have m1 : Mu H [T.p_precedence] := by
      obtain ⟨ps, h, _⟩ := t0 _ (hm_precedence T)
      exact mu_cons h (fun _ z => nomatch z) (fun _ z => nomatch z) mu_nil
    have ht1 := up1 ht (fun _ z => nomatch z)
    have ho1 := up1 ho (fun _ z => nomatch z)
    have hod1 := up1 hod (fun _ z => nomatch z)
    refine ⟨_, rfl, t, _, dx, _, _, rfl, ht1, T.cl_Ranked, T.n_Ranked_removals, rfl, _, _, rfl, rfl, rem + 1, rfl, by omega, _, rfl, r1, _, rfl, sqlOf e1, fun nd nnd => pGN ?_⟩
    simp only [List.set_cons_succ, List.set_cons_zero]
    rw [cut_take]
    show tSeq _ _ _ _ (upd H1 nd (.lst ((needN rk rem M).map nV)))
    have hNd := need_nd (rk := rk) (rem := rem) hMn
    have hNS : ∀ i ∈ needN rk rem M, i ∈ S := fun i z => hpm.mem_iff.mpr (need_sub i z)
    obtain ⟨x0, N0, eN, _⟩ := need_cons (rk := rk) (rem := rem) hne
    have hNl : (needN rk rem M).length ≤ M.length := by
      have := (prec_perm (rk := rk) (M := M)).length_eq
      unfold needN
      rw [List.length_take]
      omega
    have hpl := plan_len (rk := rk) (rem := rem) hMn hpm hne
    unfold planR backN at q
    generalize hN : needN rk rem M = N at hNd hNS eN hNl q hpl ⊢
    have s2 := same_newF (o := .lst (N.map nV)) (Fr.mk nnd)
    have end_ : upd H1 nd (.lst (N.map nV)) nd = some (.lst (N.map nV)) := upd_same
    generalize upd H1 nd (.lst (N.map nV)) = H2 at s2 end_ ⊢
    refine ⟨_, rfl, t, _, dx, _, _, rfl, s2 _ _ ht1, T.cl_Ranked, T.n_Ranked_outer, rfl, o, _, d1, _, _, rfl, s2 _ _ ho1, T.cl_Outer, T.n_Outer_order, rfl, pGN ?_⟩
    simp only [List.set_cons_succ, List.set_cons_zero]
    have hod2 := s2 _ _ hod1
    -- the lowest place of a needed one
    refine ⟨_, rfl, nd, rfl, ⟨_, sqlOf end_⟩, fun D nD => ?_⟩
    have fD := Fr.mk nD
    refine lc_it (walk_list (K := K) (a := nd) (xs := N.map nV)) (fun i H' => Same H2 H' ∧ H' D = some (.lst ((N.take i).map fun x => V.int ((ixN x S : Nat) : Int)))) ⟨same_newF fD, upd_same⟩ (fun i H' _ z => sqlOf (z.1 _ _ end_)) ?_ ?_
    · rintro i x H3' H3 hi ⟨s3, eD⟩ ⟨rfl, hx⟩
      obtain ⟨k, hk, rfl⟩ : ∃ k : Nat, N[i]? = some k ∧ x = .int (k : Int) := by
        rw [List.getElem?_map] at hx
        obtain ⟨k, h1, h2⟩ := Option.map_eq_some_iff.mp hx
        exact ⟨k, h1, h2.symm⟩
      have hkS : k ∈ S := hNS k (List.mem_of_getElem? hk)
      refine ⟨rfl, ?_⟩
      unfold tYes
      refine ifT rfl ?_
      refine ⟨_, rfl, .inl ⟨rfl, _, sqlOf (s3 _ _ hod2)⟩, _, rfl, od, S.map nV, .int (k : Int), ixN k S, .int (k : Int), rfl, rfl, sqlOf (s3 _ _ hod2), rfl, flat_nats S, ?_, ?_, ?_, ?_⟩
      · rw [List.getElem?_map, ixN_at hkS]
        rfl
      · show decide ((k : Int) = (k : Int)) = true
        exact dT rfl
      · intro m z' hm hz
        rw [List.getElem?_map] at hz
        obtain ⟨y, h1, rfl⟩ := Option.map_eq_some_iff.mp hz
        have := ixN_no hm h1
        show decide ((y : Int) = (k : Int)) = false
        exact dF fun z => this (by omega)
      · refine ⟨_, eD, ?_, same_putG fD s3, ?_⟩
        · rw [List.length_map, List.length_take, sizeLine_eq]
          omega
        · rw [upd_same, take_map (fun x => V.int ((ixN x S : Nat) : Int)) hk]
    · rintro H3 ⟨s3, eD⟩
      rw [List.length_map, List.take_length] at eD
      have eD2 : H3 D = some (.lst ((N.map fun x => ((ixN x S : Nat) : Int)).map V.int)) := by
        rw [List.map_map]
        exact eD
      refine ⟨D, (N.map fun x => ((ixN x S : Nat) : Int)), rfl, sqlOf eD2, by rw [List.length_map, eN]; exact Nat.succ_pos _, fun mi hm1 hm2 => pGN ?_⟩
      simp only [List.set_cons_succ, List.set_cons_zero]
      obtain ⟨k, hkN, rfl⟩ := List.mem_map.mp hm1
      have hkat := ixN_at (hNS k hkN)
      have hkl : ixN k S ≤ S.length := Nat.le_of_lt (List.getElem?_eq_some_iff.mp hkat).1
      have hdw : popN N S = S.drop (ixN k S) := by
        refine drop_while (fun j y hj e => decide_eq_true fun my => ?_) fun y e => decide_eq_false fun z => ?_
        · have h1 := hm2 _ (List.mem_map.mpr ⟨y, my, rfl⟩)
          have h2 := ixN_le e
          omega
        · rw [hkat] at e
          cases e
          exact z hkN
      have hod3 := s3 _ _ hod2
      refine ⟨_, rfl, _, rfl, _, rfl, od, _, rfl, sqlOf hod3, fun pd npd => pGN ?_⟩
      simp only [List.set_cons_succ, List.set_cons_zero]
      rw [cut_drop hkl, ← hdw]
      have s4 := same_newF (o := .lst ((popN N S).map nV)) (Fr.mk npd)
      have epd : upd H3 pd (.lst ((popN N S).map nV)) pd = some (.lst ((popN N S).map nV)) := upd_same
      generalize upd H3 pd (.lst ((popN N S).map nV)) = H4 at s4 epd ⊢
      have end4 := s4 _ _ (s3 _ _ end_)
      have hpl2 : (popN N S).length < 400000 := by omega
      refine ⟨_, rfl, pd, rfl, ⟨_, sqlOf epd⟩, fun D2 nD2 => ?_⟩
      have fD2 := Fr.mk nD2
      refine lc_it (walk_list (K := K) (a := pd) (xs := (popN N S).map nV)) (fun i H' => Same H4 H' ∧ H' D2 = some (.lst ((((popN N S).take i).filter fun x => decide (x ∉ N)).map nV))) ⟨same_newF fD2, upd_same⟩ (fun i H' _ z => sqlOf (z.1 _ _ epd)) ?_ ?_
      · rintro i x H5' H5 hi ⟨s5, eD2⟩ ⟨rfl, hx⟩
        obtain ⟨k, hk, rfl⟩ : ∃ k : Nat, (popN N S)[i]? = some k ∧ x = .int (k : Int) := by
          rw [List.getElem?_map] at hx
          obtain ⟨k, h1, h2⟩ := Option.map_eq_some_iff.mp hx
          exact ⟨k, h1, h2.symm⟩
        have htk : (popN N S).take (i + 1) = (popN N S).take i ++ [k] := by
          rw [List.take_succ, hk]
          rfl
        have v1 := in_nat k N
        rw [htk, List.filter_append]
        refine ⟨rfl, ?_⟩
        refine ⟨_, rfl, _, rfl, nd, _, rfl, .inl (sqlOf (s5 _ _ end4)), rfl, flat_nats N, _, rfl, ?_⟩
        by_cases c0 : k ∈ N
        · refine ifF ?_ ⟨s5, ?_⟩
          · rw [if_pos rfl]
            show (!inV (V.int (k : Int)) (N.map fun k : Nat => V.int (k : Int))) = false
            rw [v1, dT c0]
            rfl
          · rw [eD2, List.filter_cons_of_neg (by simp [c0]), List.filter_nil, List.append_nil]
        · refine ifT ?_ ?_
          · rw [if_pos rfl]
            show (!inV (V.int (k : Int)) (N.map fun k : Nat => V.int (k : Int))) = true
            rw [v1, dF c0]
            rfl
          refine ⟨_, rfl, _, eD2, ?_, same_putG fD2 s5, ?_⟩
          · have h3 := List.length_filter_le (fun x => decide (x ∉ N)) ((popN N S).take i)
            rw [List.length_take] at h3
            rw [List.length_map, sizeLine_eq]
            omega
          · rw [upd_same, List.filter_cons_of_pos (by simp [c0]), List.filter_nil, List.map_append]
            rfl
      · rintro H5 ⟨s5, eD5⟩
        rw [List.length_map, List.take_length] at eD5
        refine pGN ?_
        simp only [List.set_cons_succ, List.set_cons_zero]
        have hfl := List.length_filter_le (fun x => decide (x ∉ N)) (popN N S)
        refine ⟨_, rfl, pd, popN N S, rfl, s5 _ _ epd, by omega, fun a1 ys1 H6 f1 s6 g1 w1 => ⟨_, rfl, D2, (popN N S).filter (fun x => decide (x ∉ N)), rfl, s6 _ _ eD5, by omega, fun a2 ys2 H7 f2 s7 g2 w2 => ?_⟩⟩
        have w1l := w1.len
        have w2l := w2.len
        rw [List.length_map, List.length_reverse] at w1l
        rw [List.length_map] at w2l
        refine ⟨a1, a2, ys1, ys2, rfl, rfl, s7 _ _ g1, g2, by rw [sizeLine_eq]; omega, fun a3 na3 => ?_⟩
        have s8 := same_newF (o := .lst (ys1 ++ ys2)) (Fr.mk na3)
        have e3 : upd H7 a3 (.lst (ys1 ++ ys2)) a3 = some (.lst (ys1 ++ ys2)) := upd_same
        have w3 := ((w1.kp (cs := []) (kp_same (s7.trans s8)) mu_nil).app (w2.kp (cs := []) (kp_same s8) mu_nil))
        generalize upd H7 a3 (.lst (ys1 ++ ys2)) = H8 at s8 e3 w3 ⊢
        have end8 := s8 _ _ (s7 _ _ (s6 _ _ (s5 _ _ end4)))
        refine ⟨_, rfl, _, rfl, nd, _, rfl, sqlOf end8, fun a4 na4 => ?_⟩
        rw [show (1 : Int) = ((1 : Nat) : Int) from rfl, cut_drop (by rw [eN]; exact Nat.succ_le_succ (Nat.zero_le _))]
        have s9 := same_newF (o := .lst ((N.drop 1).map nV)) (Fr.mk na4)
        have e4 : upd H8 a4 (.lst ((N.drop 1).map nV)) a4 = some (.lst ((N.drop 1).map nV)) := upd_same
        generalize upd H8 a4 (.lst ((N.drop 1).map nV)) = H9 at s9 e4 ⊢
        refine ⟨a4, _, rfl, sqlOf e4, fun a5 na5 => ?_⟩
        rw [← List.map_reverse]
        have s10 := same_newF (o := .lst ((N.drop 1).reverse.map nV)) (Fr.mk na5)
        have e5 : upd H9 a5 (.lst ((N.drop 1).reverse.map nV)) a5 = some (.lst ((N.drop 1).reverse.map nV)) := upd_same
        generalize upd H9 a5 (.lst ((N.drop 1).reverse.map nV)) = H10 at s10 e5 ⊢
        have hdl : (N.drop 1).reverse.length ≤ N.length := by
          rw [List.length_reverse, List.length_drop]
          omega
        refine ⟨a5, (N.drop 1).reverse, rfl, e5, by omega, fun a6 ys6 H11 f6 s11 g6 w6 => ?_⟩
        have w6l := w6.len
        rw [List.length_map] at w6l
        have s811 := s9.trans (s10.trans s11)
        refine ⟨a3, a6, ys1 ++ ys2, ys6, rfl, rfl, s811 _ _ e3, g6, by rw [List.length_append, sizeLine_eq]; omega, fun a7 na7 => ?_⟩
        have s12 := same_newF (o := .lst ((ys1 ++ ys2) ++ ys6)) (Fr.mk na7)
        have sAll := s2.trans (s3.trans (s4.trans (s5.trans (s6.trans (s7.trans (s8.trans (s811.trans s12)))))))
        refine q a7 _ _ (kp_trans k1 (kp_same sAll)) (tabs_same t1 sAll) ?_ upd_same ?_
        · refine fr_kp k1 ?_ (Fr.mk (s2.free (s3.free (s4.free (s5.free (s6.free (s7.free (s8.free (s811.free na7)))))))))
          obtain ⟨ps, h, _⟩ := t1 _ (hm_precedence T)
          exact mu_cons h (fun _ z => nomatch z) (fun _ z => nomatch z) mu_nil
        · have wA := (w3.kp (cs := []) (kp_same (s811.trans s12)) mu_nil).app (w6.kp (cs := []) (kp_same s12) mu_nil)
          unfold tickW
          rw [List.map_append, ← List.append_assoc (List.map _ _)]
          exact wA
end
end Ob

set_option Elab.async false
set_option linter.all false
set_option maxRecDepth 100000
set_option maxHeartbeats 1000000
namespace Ob
open PySem PySem.Spec PyProof.Rows L2
open LamX (Tabs TabB TabS ExtN)

set_option hygiene false in
local macro_rules
  | `(tactic| kp_flats) => `(tactic| first
    | assumption
    | exact upd_same
    | (apply atNew; assumption; kp_flats)
    | (apply atNe; (next => kbo_bools); kp_flats)
    | (apply atSame; assumption; kp_flats)
    | (apply atKp; assumption; (next => kaf_pre); kp_flats))
set_option hygiene false in
local macro_rules
  | `(tactic| kaf_pre) => `(tactic| first
    | assumption
    | exact not_nil
    | (apply not_cons; (next => kbo_bools); kaf_pre)
    | (apply not_app; (next => kaf_pre); kaf_pre))
set_option hygiene false in
local macro_rules
  | `(tactic| kbo_bools) => `(tactic| first
    | assumption
    | (apply Ne.symm; assumption)
    | (apply neN; assumption; kp_flats)
    | (apply neN'; assumption; kp_flats))
set_option hygiene false in
local macro_rules
  | `(tactic| o_reads) => `(tactic| first
    | with_reducible rfl
    | assumption
    | rfl
    | kp_flats
    | (show SqL _ _ _ _; first | assumption | (apply sqlOf; kp_flats) | (apply sqlSame; assumption; o_reads))
    | (show SqT _ _ _ _; first | assumption | (apply sqtOf; kp_flats) | (apply sqtAll; assumption) | (apply sqtSame; assumption; o_reads))
    | (show Cls _ _; first | exact T.cl_Calls | exact T.cl_Outer | exact T.cl_Ranked | exact T.cl_Unions)
    | (show NoAttr _ _ _; first | exact T.n_Calls_entries | exact T.n_Calls_running | exact T.n_Outer_calls | exact T.n_Outer_push_call | exact T.n_Outer_pop_call | exact T.n_Outer_ask_call | exact T.n_Outer_order | exact T.n_Outer_broken | exact T.n_Ranked_outer | exact T.n_Ranked_given | exact T.n_Ranked_held | exact T.n_Ranked_ranks | exact T.n_Ranked_removals | exact T.n_Unions_groups | exact T.n_Unions_parents | exact T.n_Unions_counts | exact T.n_Unions_moved)
    | (apply Or.inl; o_reads)
    | (apply Or.inr; o_reads)
    | (apply And.intro; (next => o_reads); o_reads)
    | (apply Exists.intro; o_reads)
    | exact Nat.le_of_ble_eq_true rfl
    | exact Nat.succ_ne_zero _
    | (show Fr _ _; kba_ints)
    | (show Same _ _; kd_subs)
    | (show Kp _ _ _; kxs_still)
    | (show (_ : Nat) ≤ _; simp only [List.length_append, List.length_map, List.length_cons, List.length_nil, List.length_take, List.length_drop, List.length_replicate, List.length_range, sizeLine_eq]; omega)
    | (show _ = none; apply Fr.h; kba_ints)
    | (show Bag _ _; first | assumption | (apply bag_putF; assumption; o_reads) | (apply bag_neF; (next => kbo_bools); o_reads) | (apply bag_kpR; assumption; (next => kaf_pre); o_reads))
    | omega
    | decide)
local macro_rules
  | `(tactic| o_readsAll) => `(tactic| repeat (first
    | (refine fun (pNew : Addr) (nNew : _ = none) => ?_; replace nNew := Fr.mk nNew)
    | (refine fun (xNew dNew : Addr) (nNew : _ = none) (mNew : _ = none) (eNew : dNew ≠ xNew) => ?_; replace nNew := Fr.mk nNew; replace mNew := Fr.mk mNew)
    | (apply And.intro; next => o_reads)
    | apply Exists.intro (α := V)
    | apply Exists.intro (α := Addr)
    | apply Exists.intro (α := Int)
    | apply Exists.intro (α := Bool)
    | apply Exists.intro (α := List V)
    | apply Exists.intro (α := List Nat)
    | apply Exists.intro (α := List (Str × V))
    | apply Exists.intro (α := List _)
    | apply Exists.intro (α := Str)
    | apply Exists.intro (α := HO)
    | apply Exists.intro (α := Sp)
    | apply Exists.intro (α := VK)))
set_option hygiene false in
local macro_rules
  | `(tactic| kba_ints) => `(tactic| first
    | assumption
    | (apply frUp; (first | assumption | (apply Ne.symm; assumption)); kba_ints)
    | (apply noneOf; assumption; intro oF eF; apply Exists.intro; kp_flats)
    | (apply frUp; (next => kbo_bools); kba_ints))
set_option hygiene false in
local macro_rules
  | `(tactic| kxs_still) => `(tactic| first
    | assumption
    | exact kp_refl _ _
    | (apply kp_newF; assumption; kxs_still)
    | (apply kp_new; assumption; kxs_still)
    | (apply kp_up; (next => o_fieldsN); kxs_still)
    | (apply kp_new; (next => kba_ints); kxs_still)
    | (apply kp_sameR; assumption; kxs_still)
    | (apply kp_transR; assumption; kxs_still)
    | (apply kp_freshR; assumption; (next => kaf_suf); kxs_still))
set_option hygiene false in
local macro_rules
  | `(tactic| kaf_suf) => `(tactic| first
    | assumption
    | exact subNil
    | (apply subCons; (first | (apply Or.inl; o_fieldsN) | (apply Or.inr; kba_ints)); kaf_suf)
    | (apply subApp; (next => kaf_suf); kaf_suf))
set_option hygiene false in
local macro_rules
  | `(tactic| o_fieldsN) => `(tactic| first
    | assumption
    | exact memA
    | (apply memB; o_fieldsN)
    | (apply memL; o_fieldsN)
    | (apply memR; o_fieldsN))
set_option hygiene false in
local macro_rules
  | `(tactic| kd_subs) => `(tactic| first
    | assumption
    | exact Same.refl _
    | (apply same_putF; assumption; kd_subs)
    | (apply same_putG; assumption; kd_subs)
    | (apply same_putF; (next => kba_ints); kd_subs)
    | (apply same_transR; assumption; kd_subs))

set_option pp.maxSteps 900
open NdefX (TabsN)
theorem star_heap {H : Hp} {p b : Addr} {kvs kvs2 kvs3 : List (Key × V)} (np : H p = none) (nb : upd (upd H p (.dK [])) p (.dK kvs) b = none) : Same H (upd (upd (upd (upd (upd H p (.dK [])) p (.dK kvs)) b (.dK [])) b (.dK kvs3)) p (.dK kvs2)) := fun x o e => by
  have n1 := ne_of_none e np
  have e2 : upd (upd H p (.dK [])) p (.dK kvs) x = some o := by
    rw [upd_ne n1, upd_ne n1]
    exact e
  have n2 := ne_of_none e2 nb
  rw [upd_ne n1, upd_ne n2, upd_ne n2]
  exact e2
section
variable {P : Program} {w : World} {K : PySem.W.Frag} {mg : Str → Option Value} {base : Heap} {n : Nat}
def spRAdd (P : Program) (w : World) (K : PySem.W.Frag) (mg : Str → Option Value) (base : Heap) (CT C CC : Addr) (n : Nat) : Sp := fun vs H Q _ => ∃ (t o c l : Addr) (fp fo fa m : V) (r : Int) (uv : List Addr) (PM : Nat → V → Prop) (PQ : V → Prop) (R : List Ca → Hp → Prop) (An : List Ca → V → V → Hp → Prop) (tr : List Ca) (given rem : Nat) (M : List Nat) (mb : Nat → V) (rk : Nat → Int),
  vs = [.ref t, m, .int r] ∧ OS P w K mg base n uv fp fo fa PM PQ R An ∧ RkAt CT C CC H t o c l fp fo fa uv PM R tr given M mb rk rem ∧ PM given m ∧ tr.length < 400000 ∧ M.length < 400000 ∧
  ∀ H', Kp (t :: o :: c :: l :: uv) H H' → RkAt CT C CC H' t o c l fp fo fa uv PM R (tr ++ [.push given m]) (given + 1) (M ++ [given]) (fun x => if x = given then m else mb x) (fun x => if x = given then r else rk x) rem → Q (.int (given : Int)) H'
theorem ok_radd (T : Txt K mg) : FnOk P w K mg base CX0 (n + 12) T.f_Ranked_add T.d_Ranked_add ["self", "member", "rank"] (spRAdd P w K mg base T.C_Ranked T.C_Outer T.C_Calls n) := by
  have G_Outer_check := ok_oc (P := P) (w := w) (base := base) T
  have G_check_integer := ok_cki (P := P) (w := w) (base := base) T
  have G_Outer_change := ok_change (P := P) (w := w) (base := base) (n := n) T
  refine T.F_Ranked_add.ok sc_Ranked_add (fun vs H Q E h => ?_) (fun cdv A outer s H vs Q E hr h => ?_)
  · obtain ⟨t, o, c, l, fp, fo, fa, m, r, uv, PM, PQ, R, An, tr, given, rem, M, mb, rk, rfl, _⟩ := h
    rfl
  · obtain ⟨t, o, c, l, fp, fo, fa, m, r, uv, PM, PQ, R, An, tr, given, rem, M, mb, rk, rfl, OA, hT, hPM, htl, hML, q⟩ := h
    refine ⟨_, (pss_cons (ps_expr (pe_meth0 (pe_fld (pv 0) rfl) T.cl_Outer ⟨T.m_Outer_check, T.t_Outer_check, T.k_Outer_check⟩ G_Outer_check (hr.mono (by omega)) T.b_Outer_check .nil pass0))
      (pss_cons (ps_expr (pe_call G_check_integer (hr.mono (by omega)) rfl T.g_check_integer T.F_check_integer.kp T.b_check_integer .nil pass0 (pa_cons (pv 2) pa_nil)))
      (pss_cons (ps_set (i := 3) sc_Ranked_add.nd rfl (.inl rfl) (pe_fld (pv 0) rfl))
      (pss_cons (ps_set (i := 4) sc_Ranked_add.nd rfl (.inl rfl) (Inf.pe_dstar (pe_fld (pv 0) rfl) (pv 3) (pv 1)))
      (pss_cons (ps_expr (pe_meth (pe_fld (pv 0) rfl) T.cl_Outer ⟨T.m_Outer_change, T.t_Outer_change, T.k_Outer_change⟩ G_Outer_change (hr.mono (by omega)) T.b_Outer_change .nil pass0 (pa_cons (pe_lst (pa_cons (pe_tup (pa_cons pe_str (pa_cons (pv 3) pa_nil))) pa_nil)) (pa_cons (pv 4) pa_nil))))
      (pss_cons (ps_fld (pv 0) (pv 4) rfl)
      (pss_cons (ps_fld (pv 0) (Inf.pe_dstar (pe_fld (pv 0) rfl) (pv 3) (pe_callTy call_int1 (by rfl) T.z_int (by decide +kernel) (pa_cons (pv 2) pa_nil))) rfl)
      (pss_cons (ps_fld (pv 0) (pe_op op_add (pv 3) pe_int) rfl)
      (pss_one (ps_ret (pv 3))))))))))), ?_⟩
    obtain ⟨⟨dx, hd, rd, ht, hhd, hrd, nhd, nrd⟩, ⟨od, hO⟩, hpm, hsrt, hgv, ⟨nto, ntc⟩, nuv⟩ := id hT
    obtain ⟨⟨d1, ho⟩, ⟨d2, hc⟩, ⟨xs, hl, hlg⟩, hod, hR, nlod, noc, nu⟩ := id hO
    refine ⟨_, rfl, t, _, dx, _, _, rfl, ht, T.cl_Ranked, T.n_Ranked_outer, rfl, o, d1, _, rfl, ho, rfl, o, c, l, od, fp, fo, fa, rfl, ⟨d1, ho⟩, ⟨d2, hc⟩, ?_⟩
    refine ⟨_, rfl, r, rfl, ?_⟩
    refine ⟨_, rfl, t, _, dx, _, _, rfl, ht, T.cl_Ranked, T.n_Ranked_given, rfl, pGN ?_⟩
    simp only [List.set_cons_succ, List.set_cons_zero]
    intro p np
    have fp' := Fr.mk np
    have npt : t ≠ p := ne_of_none ht np
    have nph : hd ≠ p := ne_of_none hhd np
    refine ⟨_, rfl, t, _, dx, _, .ref hd, rfl, atNe npt ht, T.cl_Ranked, T.n_Ranked_held, rfl, hd, _, rfl, nph, upd_same, .inl (atNe nph hhd), by rw [dM_len, sizeLine_eq]; omega, fun b2 nb2 => ⟨_, rfl, _, rfl, .inl (given : Int), m, rfl, ?_⟩⟩
    have npb : p ≠ b2 := ne_of_none (H := upd (upd H p (.dK [])) p (.dK (dM M mb))) upd_same nb2
    refine ⟨npb, atNe npb upd_same, upd_same, ?_⟩
    have hgn : given ∉ M := fun z => Nat.lt_irrefl _ (hgv given z).1
    rw [dM_new hgn]
    have s1 : Same H (upd (upd (upd (upd (upd H p (.dK [])) p (.dK (dM M mb))) b2 (.dK [])) b2 (.dK [(Sum.inl (given : Int), m)])) p (.dK (dM (M ++ [given]) fun x => if x = given then m else mb x))) := star_heap np nb2
    have ep : upd (upd (upd (upd (upd H p (.dK [])) p (.dK (dM M mb))) b2 (.dK [])) b2 (.dK [(Sum.inl (given : Int), m)])) p (.dK (dM (M ++ [given]) fun x => if x = given then m else mb x)) p = some (.dK (dM (M ++ [given]) fun x => if x = given then m else mb x)) := upd_same
    generalize upd (upd (upd (upd (upd H p (.dK [])) p (.dK (dM M mb))) b2 (.dK [])) b2 (.dK [(Sum.inl (given : Int), m)])) p (.dK (dM (M ++ [given]) fun x => if x = given then m else mb x)) = H2 at s1 ep ⊢
    refine pGN ?_
    simp only [List.set_cons_succ, List.set_cons_zero]
    refine ⟨_, rfl, t, _, dx, _, _, rfl, s1 _ _ ht, T.cl_Ranked, T.n_Ranked_outer, rfl, o, d1, _, rfl, s1 _ _ ho, rfl, _, rfl, le2, fun ta nta => ⟨(by decide : 1 ≤ sizeLine), fun la nla => ⟨_, rfl, ?_⟩⟩⟩
    have s2 := same_newF (o := .tup [.str "push", .int (given : Int)]) (Fr.mk nta)
    have s3 := same_newF (o := .lst [.ref ta]) (Fr.mk nla)
    have eta : upd (upd H2 ta (.tup [.str "push", .int (given : Int)])) la (.lst [.ref ta]) ta = some (.tup [.str "push", .int (given : Int)]) := atNew (Fr.mk nla) upd_same
    have ela : upd (upd H2 ta (.tup [.str "push", .int (given : Int)])) la (.lst [.ref ta]) la = some (.lst [.ref ta]) := upd_same
    have s5 := s1.trans (s2.trans s3)
    have ep5 := (s2.trans s3) _ _ ep
    have fla : Fr H la := Fr.mk (s1.free (s2.free nla))
    generalize upd (upd H2 ta (.tup [.str "push", .int (given : Int)])) la (.lst [.ref ta]) = H5 at s2 s3 eta ela s5 ep5 ⊢
    have O5 := hO.kp OA (kp_same (cs := []) s5) mu_nil not_nil not_nil not_nil not_nil (fun _ _ => not_nil)
    have hw : WLog H5 [.ref ta] [(("push" : Str), given)] := ⟨rfl, fun q x e a b => by
      match q, a, b with
      | 0, a, b =>
        cases a
        cases b
        exact ⟨ta, rfl, eta⟩
      | q + 1, a, _ => cases q <;> cases a⟩
    have lS : (stC [] tr).length = M.length := hpm.length_eq
    have mu0 := OA.mu hR
    have neF : ∀ {a : Addr}, Fr H a → a ≠ o ∧ a ≠ c ∧ a ≠ l ∧ a ∉ uv := fun f => ⟨(ne_of_none ho f.h).symm, (ne_of_none hc f.h).symm, (ne_of_none hl f.h).symm, mu0.fr f⟩
    refine ⟨o, c, l, od, la, p, fp, fo, fa, uv, PM, PQ, R, An, tr, [.ref ta], [(("push" : Str), given)], dM (M ++ [given]) (fun x => if x = given then m else mb x), (fun x => if x = given then m else mb x), rfl, OA, O5, ela, hw, ep5, fun e he _ => ?_, ⟨by rw [if_pos rfl]; exact True.intro, True.intro⟩, by show tr.length + 1 < _; omega, by omega, fun a ha => ?_, fun od2 H6 k6 fod2 O6 => ?_⟩
    · rw [List.mem_singleton.mp he]
      refine ⟨dM_val (List.mem_append.mpr (.inr (List.mem_singleton.mpr rfl))), ?_⟩
      show PM given (if given = given then m else mb given)
      rw [if_pos rfl]
      exact hPM
    · rcases List.mem_cons.mp ha with rfl | ha
      · exact neF fla
      · rw [List.mem_singleton.mp ha]
        exact neF fp'
    have hca : List.map (caOf fun x => if x = given then m else mb x) [(("push" : Str), given)] = [.push given m] := by
      show [caOf _ (("push" : Str), given)] = _
      unfold caOf
      rw [if_pos rfl]
      show [Ca.push given (if given = given then m else mb given)] = _
      rw [if_pos rfl]
    rw [hca] at O6
    have ntl : t ≠ l := neO ht hl (fun z => nomatch z)
    have ut : t ∉ uv := fun z => nuv t z rfl
    have tU : t ∉ o :: c :: l :: uv := not_cons nto (not_cons ntc (not_cons ntl ut))
    have ht6 := k6.at_ _ _ (s5 _ _ ht) tU
    have frU : ∀ {a : Addr}, Fr H a → a ∉ o :: c :: l :: uv := fun f => by
      obtain ⟨a1, a2, a3, a4⟩ := neF f
      exact not_cons a1 (not_cons a2 (not_cons a3 a4))
    have npU := frU fp'
    have ep6 := k6.at_ _ _ ep5 npU
    have hrdU : rd ∉ o :: c :: l :: uv := fun z => nrd (memB z)
    have hrd6 := k6.at_ _ _ (s5 _ _ hrd) hrdU
    have ntrd : t ≠ rd := fun z => nrd (by rw [z]; exact memA)
    -- the members
    refine ⟨_, rfl, _, rfl, t, _, dx, _, rfl, ht6, T.cl_Ranked, T.n_Ranked_held, (show 5 < 1000 by decide), ?_⟩
    show tSeq _ _ _ _ (upd H6 t (RO T.C_Ranked dx o given p rd rem))
    have ht7 : upd H6 t (RO T.C_Ranked dx o given p rd rem) t = some (RO T.C_Ranked dx o given p rd rem) := upd_same
    have k7 : Kp [t] H6 (upd H6 t (RO T.C_Ranked dx o given p rd rem)) := kp_up memA (kp_refl _ _)
    have ep7 := k7.at_ _ _ ep6 (not_cons npt.symm not_nil)
    have hrd7 := k7.at_ _ _ hrd6 (not_cons ntrd.symm not_nil)
    generalize upd H6 t (RO T.C_Ranked dx o given p rd rem) = H7 at ht7 k7 ep7 hrd7 ⊢
    -- the ranks
    intro p2 np2
    have npt2 : t ≠ p2 := ne_of_none ht7 np2
    have nph2 : rd ≠ p2 := ne_of_none hrd7 np2
    refine ⟨_, rfl, t, _, dx, _, .ref rd, rfl, atNe npt2 ht7, T.cl_Ranked, T.n_Ranked_ranks, rfl, rd, _, rfl, nph2, upd_same, .inl (atNe nph2 hrd7), by rw [dM_len, sizeLine_eq]; omega, fun b3 nb3 => ⟨_, rfl, _, rfl, .inl ⟨r, rfl, .inl (given : Int), .int r, rfl, ?_⟩⟩⟩
    have npb3 : p2 ≠ b3 := ne_of_none (H := upd (upd H7 p2 (.dK [])) p2 (.dK (dM M (rV rk)))) upd_same nb3
    refine ⟨npb3, atNe npb3 upd_same, upd_same, ?_⟩
    rw [dM_new hgn]
    have s8 : Same H7 (upd (upd (upd (upd (upd H7 p2 (.dK [])) p2 (.dK (dM M (rV rk)))) b3 (.dK [])) b3 (.dK [(Sum.inl (given : Int), .int r)])) p2 (.dK (dM (M ++ [given]) fun x => if x = given then .int r else rV rk x))) := star_heap np2 nb3
    have ep8 : upd (upd (upd (upd (upd H7 p2 (.dK [])) p2 (.dK (dM M (rV rk)))) b3 (.dK [])) b3 (.dK [(Sum.inl (given : Int), .int r)])) p2 (.dK (dM (M ++ [given]) fun x => if x = given then .int r else rV rk x)) p2 = some (.dK (dM (M ++ [given]) fun x => if x = given then .int r else rV rk x)) := upd_same
    generalize upd (upd (upd (upd (upd H7 p2 (.dK [])) p2 (.dK (dM M (rV rk)))) b3 (.dK [])) b3 (.dK [(Sum.inl (given : Int), .int r)])) p2 (.dK (dM (M ++ [given]) fun x => if x = given then .int r else rV rk x)) = H8 at s8 ep8 ⊢
    refine ⟨_, rfl, t, _, dx, _, rfl, s8 _ _ ht7, T.cl_Ranked, T.n_Ranked_ranks, (show 5 < 1000 by decide), ?_⟩
    show tSeq _ _ _ _ (upd H8 t (RO T.C_Ranked dx o given p p2 rem))
    have ht9 : upd H8 t (RO T.C_Ranked dx o given p p2 rem) t = some (RO T.C_Ranked dx o given p p2 rem) := upd_same
    have k9 : Kp [t] H6 (upd H8 t (RO T.C_Ranked dx o given p p2 rem)) := kp_up memA (kp_trans k7 (kp_same s8))
    have ep9 : upd H8 t (RO T.C_Ranked dx o given p p2 rem) p2 = _ := (upd_ne npt2.symm).trans ep8
    generalize upd H8 t (RO T.C_Ranked dx o given p p2 rem) = H9 at ht9 k9 ep9 ⊢
    refine ⟨_, rfl, _, _, rfl, rfl, _, rfl, t, _, dx, _, rfl, ht9, T.cl_Ranked, T.n_Ranked_given, (show 5 < 1000 by decide), ?_⟩
    refine ⟨_, rfl, ?_⟩
    show Q (.int (given : Int)) (upd H9 t (RO T.C_Ranked dx o (given + 1) p p2 rem))
    have k10 : Kp [t] H6 (upd H9 t (RO T.C_Ranked dx o (given + 1) p p2 rem)) := kp_up memA k9
    have m6 : Mu H6 [t] := mu_ins ht6 mu_nil
    have k07 : Kp (t :: o :: c :: l :: uv) H H7 := kp_trans (kp_same s5) (kp_trans (kp_more k6 fun a m => memB m) (kp_more k7 (subCons memA subNil)))
    have kU : Kp (t :: o :: c :: l :: uv) H (upd H9 t (RO T.C_Ranked dx o (given + 1) p p2 rem)) := kp_trans (kp_same s5) (kp_trans (kp_more k6 fun a m => memB m) (kp_more k10 (subCons memA subNil)))
    obtain ⟨⟨d3, ho6⟩, ⟨d4, hc6⟩, ⟨zs6, hl6, _⟩, _, hR6, _⟩ := id O6
    have O10 := O6.kp OA k10 m6 (not_cons nto.symm not_nil) (not_cons ntc.symm not_nil) (not_cons ntl.symm not_nil) (not_cons (fun z => ne_of_none (s5 _ _ ht) fod2.h (by rw [z])) not_nil) (fun a m => not_cons (nuv a m) not_nil)
    have fp2 : Fr H p2 := fr_kp k07 (mu_ins ht7 (mu_ins (k7.at_ _ _ ho6 (not_cons nto.symm not_nil)) (mu_ins (k7.at_ _ _ hc6 (not_cons ntc.symm not_nil)) (mu_lst (k7.at_ _ _ hl6 (not_cons ntl.symm not_nil)) (OA.mu (OA.rk hR6 k7 m6 fun a m => not_cons (nuv a m) not_nil)))))) (Fr.mk np2)
    have hst : stC [] (tr ++ [.push given m]) = stC [] tr ++ [given] := by
      rw [stC_app]
      rfl
    refine q _ kU ⟨⟨dx, p, p2, upd_same, k10.at_ _ _ ep6 (not_cons npt.symm not_nil), ?_, not_cons npt.symm npU, not_cons npt2.symm (frU fp2)⟩, ⟨od2, O10⟩, ?_, ?_, fun i mi => ?_, ⟨nto, ntc⟩, nuv⟩
    · rw [upd_ne npt2.symm, ep9]
      refine congrArg (fun x => some (HO.dK x)) (dM_congr fun i _ => ?_)
      show (if i = given then V.int r else V.int (rk i)) = V.int (if i = given then r else rk i)
      split <;> rfl
    · rw [hst]
      exact hpm.append_right _
    · refine List.pairwise_append.mpr ⟨hsrt, List.pairwise_singleton _ _, fun a ha b hb => ?_⟩
      rw [List.mem_singleton.mp hb]
      exact (hgv a ha).1
    · rcases List.mem_append.mp mi with mi | mi
      · have h1 := hgv i mi
        have ne : i ≠ given := Nat.ne_of_lt h1.1
        refine ⟨Nat.lt_succ_of_lt h1.1, ?_⟩
        show PM i (if i = given then m else mb i)
        rw [if_neg ne]
        exact h1.2
      · rw [List.mem_singleton.mp mi]
        refine ⟨Nat.lt_succ_self _, ?_⟩
        show PM given (if given = given then m else mb given)
        rw [if_pos rfl]
        exact hPM
end
end Ob

set_option Elab.async false
set_option linter.all false
set_option maxRecDepth 100000
set_option maxHeartbeats 1000000
namespace Ob
open PySem PySem.Spec PyProof.Rows L2
open LamX (Tabs TabB TabS ExtN)

set_option hygiene false in
local macro_rules
  | `(tactic| kp_flats) => `(tactic| first
    | assumption
    | exact upd_same
    | (apply atNew; assumption; kp_flats)
    | (apply atNe; (next => kbo_bools); kp_flats)
    | (apply atSame; assumption; kp_flats)
    | (apply atKp; assumption; (next => kaf_pre); kp_flats))
set_option hygiene false in
local macro_rules
  | `(tactic| kaf_pre) => `(tactic| first
    | assumption
    | exact not_nil
    | (apply not_cons; (next => kbo_bools); kaf_pre)
    | (apply not_app; (next => kaf_pre); kaf_pre))
set_option hygiene false in
local macro_rules
  | `(tactic| kbo_bools) => `(tactic| first
    | assumption
    | (apply Ne.symm; assumption)
    | (apply neN; assumption; kp_flats)
    | (apply neN'; assumption; kp_flats))
set_option hygiene false in
local macro_rules
  | `(tactic| o_reads) => `(tactic| first
    | with_reducible rfl
    | assumption
    | rfl
    | kp_flats
    | (show SqL _ _ _ _; first | assumption | (apply sqlOf; kp_flats) | (apply sqlSame; assumption; o_reads))
    | (show SqT _ _ _ _; first | assumption | (apply sqtOf; kp_flats) | (apply sqtAll; assumption) | (apply sqtSame; assumption; o_reads))
    | (show Cls _ _; first | exact T.cl_Calls | exact T.cl_Outer | exact T.cl_Ranked | exact T.cl_Unions)
    | (show NoAttr _ _ _; first | exact T.n_Calls_entries | exact T.n_Calls_running | exact T.n_Outer_calls | exact T.n_Outer_push_call | exact T.n_Outer_pop_call | exact T.n_Outer_ask_call | exact T.n_Outer_order | exact T.n_Outer_broken | exact T.n_Ranked_outer | exact T.n_Ranked_given | exact T.n_Ranked_held | exact T.n_Ranked_ranks | exact T.n_Ranked_removals | exact T.n_Unions_groups | exact T.n_Unions_parents | exact T.n_Unions_counts | exact T.n_Unions_moved)
    | (apply Or.inl; o_reads)
    | (apply Or.inr; o_reads)
    | (apply And.intro; (next => o_reads); o_reads)
    | (apply Exists.intro; o_reads)
    | exact Nat.le_of_ble_eq_true rfl
    | exact Nat.succ_ne_zero _
    | (show Fr _ _; kba_ints)
    | (show Same _ _; kd_subs)
    | (show Kp _ _ _; kxs_still)
    | (show (_ : Nat) ≤ _; simp only [List.length_append, List.length_map, List.length_cons, List.length_nil, List.length_take, List.length_drop, List.length_replicate, List.length_range, sizeLine_eq]; omega)
    | (show _ = none; apply Fr.h; kba_ints)
    | (show Bag _ _; first | assumption | (apply bag_putF; assumption; o_reads) | (apply bag_neF; (next => kbo_bools); o_reads) | (apply bag_kpR; assumption; (next => kaf_pre); o_reads))
    | omega
    | decide)
local macro_rules
  | `(tactic| o_readsAll) => `(tactic| repeat (first
    | (refine fun (pNew : Addr) (nNew : _ = none) => ?_; replace nNew := Fr.mk nNew)
    | (refine fun (xNew dNew : Addr) (nNew : _ = none) (mNew : _ = none) (eNew : dNew ≠ xNew) => ?_; replace nNew := Fr.mk nNew; replace mNew := Fr.mk mNew)
    | (apply And.intro; next => o_reads)
    | apply Exists.intro (α := V)
    | apply Exists.intro (α := Addr)
    | apply Exists.intro (α := Int)
    | apply Exists.intro (α := Bool)
    | apply Exists.intro (α := List V)
    | apply Exists.intro (α := List Nat)
    | apply Exists.intro (α := List (Str × V))
    | apply Exists.intro (α := List _)
    | apply Exists.intro (α := Str)
    | apply Exists.intro (α := HO)
    | apply Exists.intro (α := Sp)
    | apply Exists.intro (α := VK)))
set_option hygiene false in
local macro_rules
  | `(tactic| kba_ints) => `(tactic| first
    | assumption
    | (apply frUp; (first | assumption | (apply Ne.symm; assumption)); kba_ints)
    | (apply noneOf; assumption; intro oF eF; apply Exists.intro; kp_flats)
    | (apply frUp; (next => kbo_bools); kba_ints))
set_option hygiene false in
local macro_rules
  | `(tactic| kxs_still) => `(tactic| first
    | assumption
    | exact kp_refl _ _
    | (apply kp_newF; assumption; kxs_still)
    | (apply kp_new; assumption; kxs_still)
    | (apply kp_up; (next => o_fieldsN); kxs_still)
    | (apply kp_new; (next => kba_ints); kxs_still)
    | (apply kp_sameR; assumption; kxs_still)
    | (apply kp_transR; assumption; kxs_still)
    | (apply kp_freshR; assumption; (next => kaf_suf); kxs_still))
set_option hygiene false in
local macro_rules
  | `(tactic| kaf_suf) => `(tactic| first
    | assumption
    | exact subNil
    | (apply subCons; (first | (apply Or.inl; o_fieldsN) | (apply Or.inr; kba_ints)); kaf_suf)
    | (apply subApp; (next => kaf_suf); kaf_suf))
set_option hygiene false in
local macro_rules
  | `(tactic| o_fieldsN) => `(tactic| first
    | assumption
    | exact memA
    | (apply memB; o_fieldsN)
    | (apply memL; o_fieldsN)
    | (apply memR; o_fieldsN))
set_option hygiene false in
local macro_rules
  | `(tactic| kd_subs) => `(tactic| first
    | assumption
    | exact Same.refl _
    | (apply same_putF; assumption; kd_subs)
    | (apply same_putG; assumption; kd_subs)
    | (apply same_putF; (next => kba_ints); kd_subs)
    | (apply same_transR; assumption; kd_subs))

/-! ### len(o), o of an own class with its own __len__ -/
theorem call_lenO {X : Cx} {k : Nat} {C f : Addr} {sp : Sp} (F : FnR X.prog X.w X.K X.mg X.base CX0 k f sp) (hr : Room (k + 1) X.A) (hs : PySem.W.findIn X.K (.ref C) "__len__" = some (some (.ref f))) (hf : PySem.W.typeIn X.K (.ref f) = some (.type "function")) :
    CallR X (.builtin "len") (fun xs H Q => ∃ (a dx : Addr) (fs : List (Str × V)), xs = [.ref a] ∧ H a = some (.ins C dx fs) ∧ sp [.ref a] H (fun v H' => ∃ m : Nat, v = .int (m : Int) ∧ m < 2 ^ 62 ∧ Q (.int (m : Int)) H') E0) := by
  intro pins s σ H xs us Q I r h
  obtain ⟨a, dx, fs, rfl, ha, h⟩ := h
  obtain ⟨u, rfl, ru⟩ := vals1 r
  obtain rfl : u = Value.ref a := ru
  obtain ⟨ox, od, J, _⟩ := StX.insC_at I (.inr ⟨dx, fs, ha⟩)
  refine PySem.Calls.call_function_entry kind_len plain_len entry_len (args_len1 _) ?_
  unfold Builtin.«len»
  refine wpAny_bind (m := oneArg "len" _) (wpAny_pure ?_)
  refine wpAny_bind (m := callSpecial? (.ref a) (Str.ofString "__len__")) (PySem.W.special_fn I.kIn J hs hf ?_)
  refine wpAny_call (codeAny_mono (F X.A.in1 X.stack s H _ _ _ E0 hr.in1 I.env0.in1 r h) fun res s' hq => ?_)
  match res, hq with
  | .error e, z => exact z.elim
  | .ok .next, z => exact z.elim
  | .ok .brk, z => exact z.elim
  | .ok .cont, z => exact z.elim
  | .ok (.ret v), z =>
    obtain ⟨y, H1, I1, ry, m, rfl, hm, q⟩ := I.after z
    obtain ⟨t, rfl⟩ := ry
    refine wpAny_bind (wpAny_holding (wpAny_pure ?_))
    refine wpAny_bind (wpAny_letGo ?_)
    show wpAny _ _ (if (m : Int) < 0 then _ else _) _ _ _
    rw [if_neg (by omega)]
    show wpAny _ _ (if (m : Int) ≥ 2 ^ 63 then _ else _) _ _ _
    rw [if_neg (by omega)]
    exact wpAny_bind (wpAny_mkInt (wpAny_pure ⟨_, rfl, ⟨.int (m : Int), H1, I1.tok _, ⟨_, rfl⟩, q⟩⟩))

set_option pp.maxSteps 900
open NdefX (TabsN)
theorem tabsN_kpU {T : List NdefX.NTab} {cs : List Addr} {H H1 : Hp} (t : TabsN T H) (k : Kp cs H H1) (m : Mu H cs) (n : ∀ p ∈ T, p.1 ∉ cs) : TabsN T H1 := fun p hp => by
  obtain ⟨ps, h1, h2, h3⟩ := t p hp
  refine ⟨ps, k.at_ _ _ h1 (n p hp), h2, fun pos cv hc => ?_⟩
  obtain ⟨c, e1, e2⟩ := h3 pos cv hc
  exact ⟨c, e1, k.at_ _ _ e2 (m.ext e2)⟩
theorem prec_head {rk : Nat → Int} {M : List Nat} (h : M ≠ []) : ∃ x N, precN rk M = x :: N ∧ x ∈ M := by
  cases e : precN rk M with
  | nil =>
    have := (prec_perm (rk := rk) (M := M)).length_eq
    rw [e] at this
    exact absurd (List.length_eq_zero_iff.mp this.symm) h
  | cons x N =>
    refine ⟨x, N, rfl, (prec_perm (rk := rk) (M := M)).mem_iff.mp ?_⟩
    rw [e]
    exact List.mem_cons_self
section
variable {P : Program} {w : World} {K : PySem.W.Frag} {mg : Str → Option Value} {base : Heap} {n : Nat}
theorem ok_fil (T : Txt K mg) : FnOk P w K mg base CX0 1 T.f_check_filled T.d_check_filled ["held"] (fun vs H Q _ => ∃ (hd : Addr) (M : List Nat) (mb : Nat → V), vs = [.ref hd] ∧ H hd = some (.dK (dM M mb)) ∧ M ≠ [] ∧ Q .non H) := by
  refine T.F_check_filled.ok sc_check_filled (fun vs H Q E h => ?_) (fun cdv A outer s H vs Q E hr h => ?_)
  · obtain ⟨hd, M, mb, rfl, _⟩ := h
    rfl
  · obtain ⟨hd, M, mb, rfl, h1, hne, q⟩ := h
    refine ⟨_, (pss_one (ps_if (pt_cmpR op_eq (pe_callB call_lenD (by rfl) T.z_len (by decide +kernel) (pa_cons (pv 0) pa_nil)) pe_int (nomark _)) pss_never pss_nil)), ?_⟩
    refine ⟨_, rfl, hd, _, rfl, h1, rfl, _, rfl, ifF (decide_eq_false fun z => hne ?_) q⟩
    have z := V.int.inj z
    rw [dM_len] at z
    exact List.length_eq_zero_iff.mp (by omega)
def spRFst (T : Txt K mg) : Sp := fun vs H Q _ => ∃ (t o c l : Addr) (fp fo fa : V) (uv : List Addr) (PM : Nat → V → Prop) (R : List Ca → Hp → Prop) (tr : List Ca) (given rem : Nat) (M : List Nat) (mb : Nat → V) (rk : Nat → Int), vs = [.ref t] ∧ RkAt T.C_Ranked T.C_Outer T.C_Calls H t o c l fp fo fa uv PM R tr given M mb rk rem ∧ M ≠ [] ∧ M.length < 400000 ∧ TabsN (TT T) H ∧
  ∀ (x : Nat) (N : List Nat) (H' : Hp), precN rk M = x :: N → Kp [T.p_precedence] H H' → TabsN (TT T) H' → Q (.int (x : Int)) H'
theorem ok_rfst (T : Txt K mg) (TB : LamX.TabB base mg T.c_precedence T.p_precedence) : FnOk P w K mg base CX0 10 T.f_Ranked_first T.d_Ranked_first ["self"] (spRFst T) := by
  have G_Outer_check := ok_oc (P := P) (w := w) (base := base) T
  have G_check_filled := ok_fil (P := P) (w := w) (base := base) T
  have G_precedence := ok_prec (P := P) (w := w) T TB
  refine T.F_Ranked_first.ok sc_Ranked_first (fun vs H Q E h => ?_) (fun cdv A outer s H vs Q E hr h => ?_)
  · obtain ⟨t, o, c, l, fp, fo, fa, uv, PM, R, tr, given, rem, M, mb, rk, rfl, _⟩ := h
    rfl
  · obtain ⟨t, o, c, l, fp, fo, fa, uv, PM, R, tr, given, rem, M, mb, rk, rfl, hT, hne, hML, t0, q⟩ := h
    refine ⟨_, (pss_cons (ps_expr (pe_meth0 (pe_fld (pv 0) rfl) T.cl_Outer ⟨T.m_Outer_check, T.t_Outer_check, T.k_Outer_check⟩ G_Outer_check (hr.mono (by omega)) T.b_Outer_check .nil pass0))
      (pss_cons (ps_expr (pe_call G_check_filled (hr.mono (by omega)) rfl T.g_check_filled T.F_check_filled.kp T.b_check_filled .nil pass0 (pa_cons (pe_fld (pv 0) rfl) pa_nil)))
      (pss_one (ps_ret (pe_ix (r := rIxL K) ix_list (pe_call G_precedence (hr.mono (by omega)) rfl T.g_precedence T.F_precedence.kp T.b_precedence .nil pass0 (pa_cons (pv 0) pa_nil)) pe_int (fun _ _ => rfl)))))), ?_⟩
    obtain ⟨⟨dx, hd, rd, ht, hhd, hrd, nhd, nrd⟩, ⟨od, hO⟩, _⟩ := id hT
    obtain ⟨⟨d1, ho⟩, ⟨d2, hc⟩, _⟩ := id hO
    refine ⟨_, rfl, t, _, dx, _, _, rfl, ht, T.cl_Ranked, T.n_Ranked_outer, rfl, o, d1, _, rfl, ho, rfl, o, c, l, od, fp, fo, fa, rfl, ⟨d1, ho⟩, ⟨d2, hc⟩, ?_⟩
    refine ⟨_, rfl, t, _, dx, _, _, rfl, ht, T.cl_Ranked, T.n_Ranked_held, rfl, hd, M, mb, rfl, hhd, hne, ?_⟩
    refine ⟨_, rfl, t, dx, o, hd, rd, given, rem, M, rk, rfl, ht, hrd, hML, t0, fun r1 H1 k1 t1 fr1 e1 => ?_⟩
    obtain ⟨x, N, ep, _⟩ := prec_head (rk := rk) hne
    rw [ep] at e1
    exact ⟨r1, _, 0, .int (x : Int), rfl, rfl, sqlOf e1, atI_nat (j := 0) rfl, q x N H1 ep k1 t1⟩
def spRStk (T : Txt K mg) : Sp := fun vs H Q _ => ∃ (t o c l : Addr) (fp fo fa : V) (uv : List Addr) (PM : Nat → V → Prop) (R : List Ca → Hp → Prop) (tr : List Ca) (given rem : Nat) (M : List Nat) (mb : Nat → V) (rk : Nat → Int), vs = [.ref t] ∧ RkAt T.C_Ranked T.C_Outer T.C_Calls H t o c l fp fo fa uv PM R tr given M mb rk rem ∧
  ∀ r, H r = none → Q (.ref r) (upd H r (.lst ((stC [] tr).map nV)))
theorem ok_rstk (T : Txt K mg) : FnOk P w K mg base CX0 4 T.f_Ranked_stack T.d_Ranked_stack ["self"] (spRStk T) := by
  have G_Calls_check := ok_chk (P := P) (w := w) (base := base) T
  refine T.F_Ranked_stack.ok sc_Ranked_stack (fun vs H Q E h => ?_) (fun cdv A outer s H vs Q E hr h => ?_)
  · obtain ⟨t, o, c, l, fp, fo, fa, uv, PM, R, tr, given, rem, M, mb, rk, rfl, _⟩ := h
    rfl
  · obtain ⟨t, o, c, l, fp, fo, fa, uv, PM, R, tr, given, rem, M, mb, rk, rfl, hT, q⟩ := h
    refine ⟨_, (pss_cons (ps_expr (pe_meth0 (pe_fld (pe_fld (pv 0) rfl) rfl) T.cl_Calls ⟨T.m_Calls_check, T.t_Calls_check, T.k_Calls_check⟩ G_Calls_check (hr.mono (by omega)) T.b_Calls_check .nil pass0))
      (pss_one (ps_ret (pe_callTy call_list_of (by rfl) T.z_list (by decide +kernel) (pa_cons (pe_fld (pe_fld (pv 0) rfl) rfl) pa_nil))))), ?_⟩
    obtain ⟨⟨dx, hd, rd, ht, hhd, hrd, nhd, nrd⟩, ⟨od, hO⟩, _⟩ := id hT
    obtain ⟨⟨d1, ho⟩, ⟨d2, hc⟩, _, hod, _⟩ := id hO
    refine ⟨_, rfl, t, _, dx, _, _, rfl, ht, T.cl_Ranked, T.n_Ranked_outer, rfl, o, _, d1, _, _, rfl, ho, T.cl_Outer, T.n_Outer_calls, rfl, c, d2, _, rfl, hc, rfl, c, d2, l, rfl, hc, ?_⟩
    exact ⟨_, rfl, t, _, dx, _, _, rfl, ht, T.cl_Ranked, T.n_Ranked_outer, rfl, o, _, d1, _, _, rfl, ho, T.cl_Outer, T.n_Outer_order, rfl, od, _, rfl, .inl (sqlOf hod), q⟩
def spRLog (T : Txt K mg) : Sp := fun vs H Q _ => ∃ (t o c l : Addr) (fp fo fa : V) (uv : List Addr) (PM : Nat → V → Prop) (R : List Ca → Hp → Prop) (tr : List Ca) (given rem : Nat) (M : List Nat) (mb : Nat → V) (rk : Nat → Int), vs = [.ref t] ∧ RkAt T.C_Ranked T.C_Outer T.C_Calls H t o c l fp fo fa uv PM R tr given M mb rk rem ∧
  ∀ r es H', Same H H' → Fr H r → H' r = some (.lst es) → LogC H' es tr → Q (.ref r) H'
theorem ok_rlog (T : Txt K mg) : FnOk P w K mg base CX0 1 T.f_Ranked_log T.d_Ranked_log ["self"] (spRLog T) := by
  refine T.F_Ranked_log.ok sc_Ranked_log (fun vs H Q E h => ?_) (fun cdv A outer s H vs Q E hr h => ?_)
  · obtain ⟨t, o, c, l, fp, fo, fa, uv, PM, R, tr, given, rem, M, mb, rk, rfl, _⟩ := h
    rfl
  · obtain ⟨t, o, c, l, fp, fo, fa, uv, PM, R, tr, given, rem, M, mb, rk, rfl, hT, q⟩ := h
    refine ⟨_, (pss_one (ps_ret (pe_callTy call_list_of (by rfl) T.z_list (by decide +kernel) (pa_cons (pe_fld (pe_fld (pe_fld (pv 0) rfl) rfl) rfl) pa_nil)))), ?_⟩
    obtain ⟨⟨dx, hd, rd, ht, hhd, hrd, nhd, nrd⟩, ⟨od, hO⟩, _⟩ := id hT
    obtain ⟨⟨d1, ho⟩, ⟨d2, hc⟩, ⟨es, hl, hlg⟩, _⟩ := id hO
    refine ⟨_, rfl, t, _, dx, _, _, rfl, ht, T.cl_Ranked, T.n_Ranked_outer, rfl, o, _, d1, _, _, rfl, ho, T.cl_Outer, T.n_Outer_calls, rfl, c, _, d2, _, _, rfl, hc, T.cl_Calls, T.n_Calls_entries, rfl, l, _, rfl, .inl (sqlOf hl), fun r nr => ?_⟩
    have s1 := same_newF (o := .lst es) (Fr.mk nr)
    exact q r es _ s1 (Fr.mk nr) upd_same (hlg.kp (cs := []) (kp_same s1) mu_nil)
end
end Ob

set_option Elab.async false
set_option linter.all false
set_option maxRecDepth 100000
set_option maxHeartbeats 1000000
namespace Ob
open PySem PySem.Spec PyProof.Rows L2
open LamX (Tabs TabB TabS ExtN)

set_option hygiene false in
local macro_rules
  | `(tactic| kp_flats) => `(tactic| first
    | assumption
    | exact upd_same
    | (apply atNew; assumption; kp_flats)
    | (apply atNe; (next => kbo_bools); kp_flats)
    | (apply atSame; assumption; kp_flats)
    | (apply atKp; assumption; (next => kaf_pre); kp_flats))
set_option hygiene false in
local macro_rules
  | `(tactic| kaf_pre) => `(tactic| first
    | assumption
    | exact not_nil
    | (apply not_cons; (next => kbo_bools); kaf_pre)
    | (apply not_app; (next => kaf_pre); kaf_pre))
set_option hygiene false in
local macro_rules
  | `(tactic| kbo_bools) => `(tactic| first
    | assumption
    | (apply Ne.symm; assumption)
    | (apply neN; assumption; kp_flats)
    | (apply neN'; assumption; kp_flats))
set_option hygiene false in
local macro_rules
  | `(tactic| o_reads) => `(tactic| first
    | with_reducible rfl
    | assumption
    | rfl
    | kp_flats
    | (show SqL _ _ _ _; first | assumption | (apply sqlOf; kp_flats) | (apply sqlSame; assumption; o_reads))
    | (show SqT _ _ _ _; first | assumption | (apply sqtOf; kp_flats) | (apply sqtAll; assumption) | (apply sqtSame; assumption; o_reads))
    | (show Cls _ _; first | exact T.cl_Calls | exact T.cl_Outer | exact T.cl_Ranked | exact T.cl_Unions)
    | (show NoAttr _ _ _; first | exact T.n_Calls_entries | exact T.n_Calls_running | exact T.n_Outer_calls | exact T.n_Outer_push_call | exact T.n_Outer_pop_call | exact T.n_Outer_ask_call | exact T.n_Outer_order | exact T.n_Outer_broken | exact T.n_Ranked_outer | exact T.n_Ranked_given | exact T.n_Ranked_held | exact T.n_Ranked_ranks | exact T.n_Ranked_removals | exact T.n_Unions_groups | exact T.n_Unions_parents | exact T.n_Unions_counts | exact T.n_Unions_moved)
    | (apply Or.inl; o_reads)
    | (apply Or.inr; o_reads)
    | (apply And.intro; (next => o_reads); o_reads)
    | (apply Exists.intro; o_reads)
    | exact Nat.le_of_ble_eq_true rfl
    | exact Nat.succ_ne_zero _
    | (show Fr _ _; kba_ints)
    | (show Same _ _; kd_subs)
    | (show Kp _ _ _; kxs_still)
    | (show (_ : Nat) ≤ _; simp only [List.length_append, List.length_map, List.length_cons, List.length_nil, List.length_take, List.length_drop, List.length_replicate, List.length_range, sizeLine_eq]; omega)
    | (show _ = none; apply Fr.h; kba_ints)
    | (show Bag _ _; first | assumption | (apply bag_putF; assumption; o_reads) | (apply bag_neF; (next => kbo_bools); o_reads) | (apply bag_kpR; assumption; (next => kaf_pre); o_reads))
    | omega
    | decide)
local macro_rules
  | `(tactic| o_readsAll) => `(tactic| repeat (first
    | (refine fun (pNew : Addr) (nNew : _ = none) => ?_; replace nNew := Fr.mk nNew)
    | (refine fun (xNew dNew : Addr) (nNew : _ = none) (mNew : _ = none) (eNew : dNew ≠ xNew) => ?_; replace nNew := Fr.mk nNew; replace mNew := Fr.mk mNew)
    | (apply And.intro; next => o_reads)
    | apply Exists.intro (α := V)
    | apply Exists.intro (α := Addr)
    | apply Exists.intro (α := Int)
    | apply Exists.intro (α := Bool)
    | apply Exists.intro (α := List V)
    | apply Exists.intro (α := List Nat)
    | apply Exists.intro (α := List (Str × V))
    | apply Exists.intro (α := List _)
    | apply Exists.intro (α := Str)
    | apply Exists.intro (α := HO)
    | apply Exists.intro (α := Sp)
    | apply Exists.intro (α := VK)))
set_option hygiene false in
local macro_rules
  | `(tactic| kba_ints) => `(tactic| first
    | assumption
    | (apply frUp; (first | assumption | (apply Ne.symm; assumption)); kba_ints)
    | (apply noneOf; assumption; intro oF eF; apply Exists.intro; kp_flats)
    | (apply frUp; (next => kbo_bools); kba_ints))
set_option hygiene false in
local macro_rules
  | `(tactic| kxs_still) => `(tactic| first
    | assumption
    | exact kp_refl _ _
    | (apply kp_newF; assumption; kxs_still)
    | (apply kp_new; assumption; kxs_still)
    | (apply kp_up; (next => o_fieldsN); kxs_still)
    | (apply kp_new; (next => kba_ints); kxs_still)
    | (apply kp_sameR; assumption; kxs_still)
    | (apply kp_transR; assumption; kxs_still)
    | (apply kp_freshR; assumption; (next => kaf_suf); kxs_still))
set_option hygiene false in
local macro_rules
  | `(tactic| kaf_suf) => `(tactic| first
    | assumption
    | exact subNil
    | (apply subCons; (first | (apply Or.inl; o_fieldsN) | (apply Or.inr; kba_ints)); kaf_suf)
    | (apply subApp; (next => kaf_suf); kaf_suf))
set_option hygiene false in
local macro_rules
  | `(tactic| o_fieldsN) => `(tactic| first
    | assumption
    | exact memA
    | (apply memB; o_fieldsN)
    | (apply memL; o_fieldsN)
    | (apply memR; o_fieldsN))
set_option hygiene false in
local macro_rules
  | `(tactic| kd_subs) => `(tactic| first
    | assumption
    | exact Same.refl _
    | (apply same_putF; assumption; kd_subs)
    | (apply same_putG; assumption; kd_subs)
    | (apply same_putF; (next => kba_ints); kd_subs)
    | (apply same_transR; assumption; kd_subs))

set_option pp.maxSteps 900
open NdefX (TabsN)
theorem filt_one {M : List Nat} {x : Nat} : (M.filter fun i => decide (i ∉ [x])) = M.filter fun i => decide (i ≠ x) := List.filter_congr fun i _ => by simp
section
variable {P : Program} {w : World} {K : PySem.W.Frag} {mg : Str → Option Value} {base : Heap} {n : Nat}
def remN (rem : Nat) (M : List Nat) : Nat := if M = [] then 0 else rem + 1
def spRRem (P : Program) (w : World) (K : PySem.W.Frag) (mg : Str → Option Value) (base : Heap) (T : Txt K mg) (n : Nat) : Sp := fun vs H Q _ => ∃ (t o c l : Addr) (fp fo fa : V) (uv : List Addr) (PM : Nat → V → Prop) (PQ : V → Prop) (R : List Ca → Hp → Prop) (An : List Ca → V → V → Hp → Prop) (tr : List Ca) (given rem : Nat) (M : List Nat) (mb : Nat → V) (rk : Nat → Int),
  vs = [.ref t] ∧ OS P w K mg base n uv fp fo fa PM PQ R An ∧ RkAt T.C_Ranked T.C_Outer T.C_Calls H t o c l fp fo fa uv PM R tr given M mb rk rem ∧ M ≠ [] ∧ TabsN (TT T) H ∧ (∀ p ∈ TT T, p.1 ∉ uv) ∧ tr.length + 2 * M.length < 400000 ∧
  ∀ (x : Nat) (N : List Nat) (H' : Hp), precN rk M = x :: N → Kp (T.p_precedence :: t :: o :: c :: l :: uv) H H' → TabsN (TT T) H' → RkAt T.C_Ranked T.C_Outer T.C_Calls H' t o c l fp fo fa uv PM R (tr ++ (planR rk rem M (stC [] tr)).map (caOf mb)) given (M.filter fun i => decide (i ≠ x)) mb rk (remN rem (M.filter fun i => decide (i ≠ x))) → Q (.int (x : Int)) H'
theorem ok_rrem (T : Txt K mg) (TB : LamX.TabB base mg T.c_precedence T.p_precedence) : FnOk P w K mg base CX0 (n + 14) T.f_Ranked_remove_first T.d_Ranked_remove_first ["self"] (spRRem P w K mg base T n) := by
  have G_Outer_check := ok_oc (P := P) (w := w) (base := base) T
  have G_check_filled := ok_fil (P := P) (w := w) (base := base) T
  have G_precedence := ok_prec (P := P) (w := w) T TB
  have G_plan_removal := ok_plr (P := P) (w := w) T TB
  have G_Outer_change := ok_change (P := P) (w := w) (base := base) (n := n) T
  have G_without := ok_wo (P := P) (w := w) (base := base) T
  refine T.F_Ranked_remove_first.ok sc_Ranked_remove_first (fun vs H Q E h => ?_) (fun cdv A outer s H vs Q E hr h => ?_)
  · obtain ⟨t, o, c, l, fp, fo, fa, uv, PM, PQ, R, An, tr, given, rem, M, mb, rk, rfl, _⟩ := h
    rfl
  · obtain ⟨t, o, c, l, fp, fo, fa, uv, PM, PQ, R, An, tr, given, rem, M, mb, rk, rfl, OA, hT, hne, t0, npt, htl, q⟩ := h
    refine ⟨_, (pss_cons (ps_expr (pe_meth0 (pe_fld (pv 0) rfl) T.cl_Outer ⟨T.m_Outer_check, T.t_Outer_check, T.k_Outer_check⟩ G_Outer_check (hr.mono (by omega)) T.b_Outer_check .nil pass0))
      (pss_cons (ps_expr (pe_call G_check_filled (hr.mono (by omega)) rfl T.g_check_filled T.F_check_filled.kp T.b_check_filled .nil pass0 (pa_cons (pe_fld (pv 0) rfl) pa_nil)))
      (pss_cons (ps_set (i := 1) sc_Ranked_remove_first.nd rfl (.inl rfl) (pe_ix (r := rIxL K) ix_list (pe_call G_precedence (hr.mono (by omega)) rfl T.g_precedence T.F_precedence.kp T.b_precedence .nil pass0 (pa_cons (pv 0) pa_nil)) pe_int (fun _ _ => rfl)))
      (pss_cons (ps_expr (pe_meth (pe_fld (pv 0) rfl) T.cl_Outer ⟨T.m_Outer_change, T.t_Outer_change, T.k_Outer_change⟩ G_Outer_change (hr.mono (by omega)) T.b_Outer_change .nil pass0 (pa_cons (pe_call G_plan_removal (hr.mono (by omega)) rfl T.g_plan_removal T.F_plan_removal.kp T.b_plan_removal .nil pass0 (pa_cons (pv 0) pa_nil)) (pa_cons (pe_fld (pv 0) rfl) pa_nil))))
      (pss_cons (ps_fld (pv 0) (pe_call G_without (hr.mono (by omega)) rfl T.g_without T.F_without.kp T.b_without .nil pass0 (pa_cons (pe_fld (pv 0) rfl) (pa_cons (pe_lst (pa_cons (pv 1) pa_nil)) pa_nil))) rfl)
      (pss_cons (ps_fld (pv 0) (pe_call G_without (hr.mono (by omega)) rfl T.g_without T.F_without.kp T.b_without .nil pass0 (pa_cons (pe_fld (pv 0) rfl) (pa_cons (pe_lst (pa_cons (pv 1) pa_nil)) pa_nil))) rfl)
      (pss_cons (ps_fldaug (pv 0) pe_int in_add)
      (pss_cons (ps_if (pt_cmpR op_eq (pe_callB call_lenD (by rfl) T.z_len (by decide +kernel) (pa_cons (pe_fld (pv 0) rfl) pa_nil)) pe_int (nomark _)) (pss_one (ps_fld (pv 0) pe_int rfl)) pss_nil)
      (pss_one (ps_ret (pv 1))))))))))), ?_⟩
    obtain ⟨⟨dx, hd, rd, ht, hhd, hrd, nhd, nrd⟩, ⟨od, hO⟩, hpm, hsrt, hgv, ⟨nto, ntc⟩, nuv⟩ := id hT
    obtain ⟨⟨d1, ho⟩, ⟨d2, hc⟩, ⟨xs, hl, hlg⟩, hod, hR, nlod, noc, nu⟩ := id hO
    have hnd := hT.nd
    have lS := hpm.length_eq
    have hMl : 0 < M.length := List.length_pos_iff.mpr hne
    have npu : T.p_precedence ∉ uv := npt _ (hm_precedence T)
    refine ⟨_, rfl, t, _, dx, _, _, rfl, ht, T.cl_Ranked, T.n_Ranked_outer, rfl, o, d1, _, rfl, ho, rfl, o, c, l, od, fp, fo, fa, rfl, ⟨d1, ho⟩, ⟨d2, hc⟩, ?_⟩
    refine ⟨_, rfl, t, _, dx, _, _, rfl, ht, T.cl_Ranked, T.n_Ranked_held, rfl, hd, M, mb, rfl, hhd, hne, ?_⟩
    refine ⟨_, rfl, t, dx, o, hd, rd, given, rem, M, rk, rfl, ht, hrd, by omega, t0, fun r1 H1 k1 t1 fr1 e1 => ?_⟩
    obtain ⟨x, N, epr, mx⟩ := prec_head (rk := rk) hne
    rw [epr] at e1
    refine ⟨r1, _, 0, .int (x : Int), rfl, rfl, sqlOf e1, atI_nat (j := 0) rfl, pGN ?_⟩
    simp only [List.set_cons_succ, List.set_cons_zero]
    have ntab : ∀ {a : Addr} {x : HO}, H a = some x → (∀ ps, x ≠ .tbl ps) → a ∉ [T.p_precedence] := fun e n => not_cons (tab_ne t0 (hm_precedence T) e n) not_nil
    have m0 : ∀ {H : Hp}, TabsN (TT T) H → Mu H [T.p_precedence] := fun t0 => by
      obtain ⟨ps, h, _⟩ := t0 _ (hm_precedence T)
      exact mu_cons h (fun _ z => nomatch z) (fun _ z => nomatch z) mu_nil
    have up1 : ∀ {a : Addr} {x : HO}, H a = some x → (∀ ps, x ≠ .tbl ps) → H1 a = some x := fun e n => k1.at_ _ _ e (ntab e n)
    have ht1 := up1 ht (fun _ z => nomatch z)
    have ho1 := up1 ho (fun _ z => nomatch z)
    refine ⟨_, rfl, t, _, dx, _, _, rfl, ht1, T.cl_Ranked, T.n_Ranked_outer, rfl, o, d1, _, rfl, ho1, rfl, _, rfl, t, dx, o, d1, c, hd, rd, od, fp, fo, fa, given, rem, M, stC [] tr, rk, rfl, ht1, ho1, up1 hod (fun _ z => nomatch z), up1 hrd (fun _ z => nomatch z), hnd, hpm, hne, by omega, t1, fun r2 ys H2 k2 t2 fr2 e2 w2 => ?_⟩
    have k02 : Kp [T.p_precedence] H H2 := kp_trans k1 k2
    have up2 : ∀ {a : Addr} {x : HO}, H a = some x → (∀ ps, x ≠ .tbl ps) → H2 a = some x := fun e n => k02.at_ _ _ e (ntab e n)
    have ht2 := up2 ht (fun _ z => nomatch z)
    have ho2 := up2 ho (fun _ z => nomatch z)
    have hhd2 := up2 hhd (fun _ z => nomatch z)
    have hrd2 := up2 hrd (fun _ z => nomatch z)
    have fr20 : Fr H r2 := fr_kp k1 (m0 t1) fr2
    have O2 := hO.kp OA k02 (m0 t0) (ntab ho (fun _ z => nomatch z)) (ntab hc (fun _ z => nomatch z)) (ntab hl (fun _ z => nomatch z)) (ntab hod (fun _ z => nomatch z)) (fun a m => not_cons (fun z => npu (by rw [← z]; exact m)) not_nil)
    obtain ⟨pl1, pl2⟩ := plan_len (rk := rk) (rem := rem) hnd hpm hne
    obtain ⟨pr1, pr2, pr3⟩ := plan_run (rk := rk) (rem := rem) hnd hpm hne
    have pm3 := pr3 x (by rw [epr]; rfl)
    have hpmem := plan_mem (rk := rk) (rem := rem) hpm
    have hst : stC [] (tr ++ (planR rk rem M (stC [] tr)).map (caOf mb)) = runW (stC [] tr) (planR rk rem M (stC [] tr)) := by rw [stC_app, st_run pr1]
    have mu0 := OA.mu hR
    have hdU : hd ≠ o ∧ hd ≠ c ∧ hd ≠ l ∧ hd ∉ uv := ⟨fun z => nhd (by rw [z]; exact memB memA), fun z => nhd (by rw [z]; exact memB (memB memA)), fun z => nhd (by rw [z]; exact memB (memB (memB memA))), fun z => nhd (memB (memB (memB (memB z))))⟩
    have neF : ∀ {a : Addr}, Fr H a → a ≠ o ∧ a ≠ c ∧ a ≠ l ∧ a ∉ uv := fun f => ⟨(ne_of_none ho f.h).symm, (ne_of_none hc f.h).symm, (ne_of_none hl f.h).symm, mu0.fr f⟩
    refine ⟨_, rfl, t, _, dx, _, _, rfl, ht2, T.cl_Ranked, T.n_Ranked_held, rfl, o, c, l, od, r2, hd, fp, fo, fa, uv, PM, PQ, R, An, tr, ys, planR rk rem M (stC [] tr), dM M mb, mb, rfl, OA, O2, e2, w2, hhd2, fun e me ew => ⟨dM_val (hpmem e me ew), (hgv _ (hpmem e me ew)).2⟩, pr1, by omega, by omega, fun a ma => ?_, fun od2 H4 k4 fod2 O4 => ?_⟩
    · rcases List.mem_cons.mp ma with rfl | ma
      · exact neF fr20
      · rw [List.mem_singleton.mp ma]
        exact hdU
    generalize planR rk rem M (stC [] tr) = W at *
    have ntl : t ≠ l := neO ht hl (fun z => nomatch z)
    have tU : t ∉ o :: c :: l :: uv := not_cons nto (not_cons ntc (not_cons ntl fun z => nuv t z rfl))
    have hdU2 : hd ∉ o :: c :: l :: uv := fun z => nhd (memB z)
    have rdU2 : rd ∉ o :: c :: l :: uv := fun z => nrd (memB z)
    obtain ⟨⟨d5, ho2'⟩, ⟨d6, hc2'⟩, ⟨zs2, hl2', _⟩, _, hR2, _⟩ := id O2
    have mU2 : Mu H2 (o :: c :: l :: uv) := mu_ins ho2' (mu_ins hc2' (mu_lst hl2' (OA.mu hR2)))
    have t4 : TabsN (TT T) H4 := tabsN_kpU t2 k4 mU2 fun p hp => not_cons (tab_ne t2 hp ho2' (fun _ z => nomatch z)).symm (not_cons (tab_ne t2 hp hc2' (fun _ z => nomatch z)).symm (not_cons (tab_ne t2 hp hl2' (fun _ z => nomatch z)).symm (npt p hp)))
    have ht4 := k4.at_ _ _ ht2 tU
    have hhd4 := k4.at_ _ _ hhd2 hdU2
    have hrd4 := k4.at_ _ _ hrd2 rdU2
    have nthd : t ≠ hd := neO ht hhd (fun z => nomatch z)
    have ntrd : t ≠ rd := neO ht hrd (fun z => nomatch z)
    -- the members
    refine ⟨_, rfl, t, _, dx, _, _, rfl, ht4, T.cl_Ranked, T.n_Ranked_held, rfl, _, rfl, (by decide : 1 ≤ sizeLine), fun la nla => ?_⟩
    have s5 := same_newF (o := .lst [.int (x : Int)]) (Fr.mk nla)
    refine ⟨hd, la, M, [x], mb, rfl, s5 _ _ hhd4, upd_same, hnd, by omega, fun h2 H6 s6 f6 e6 => ?_⟩
    rw [filt_one] at e6
    have s46 := s5.trans s6
    have f64 : Fr H4 h2 := Fr.mk (s5.free f6.h)
    generalize upd H4 la (.lst [.int (x : Int)]) = H5 at s5 s6 f6
    have ht6 := s46 _ _ ht4
    refine ⟨_, rfl, t, _, dx, _, rfl, ht6, T.cl_Ranked, T.n_Ranked_held, (show 5 < 1000 by decide), ?_⟩
    show tSeq _ _ _ _ (upd H6 t (RO T.C_Ranked dx o given h2 rd rem))
    have nth2 : t ≠ h2 := ne_of_none ht4 f64.h
    have ht7 : upd H6 t (RO T.C_Ranked dx o given h2 rd rem) t = some (RO T.C_Ranked dx o given h2 rd rem) := upd_same
    have k7 : Kp [t] H4 (upd H6 t (RO T.C_Ranked dx o given h2 rd rem)) := kp_up memA (kp_same s46)
    have e7 : upd H6 t (RO T.C_Ranked dx o given h2 rd rem) h2 = _ := (upd_ne nth2.symm).trans e6
    generalize upd H6 t (RO T.C_Ranked dx o given h2 rd rem) = H7 at ht7 k7 e7 ⊢
    have hrd7 := k7.at_ _ _ hrd4 (not_cons ntrd.symm not_nil)
    -- the ranks
    refine ⟨_, rfl, t, _, dx, _, _, rfl, ht7, T.cl_Ranked, T.n_Ranked_ranks, rfl, _, rfl, (by decide : 1 ≤ sizeLine), fun lb nlb => ?_⟩
    have s8 := same_newF (o := .lst [.int (x : Int)]) (Fr.mk nlb)
    refine ⟨rd, lb, M, [x], rV rk, rfl, s8 _ _ hrd7, upd_same, hnd, by omega, fun h3 H9 s9 f9 e9 => ?_⟩
    rw [filt_one] at e9
    have s79 := s8.trans s9
    have f97 : Fr H7 h3 := Fr.mk (s8.free f9.h)
    generalize upd H7 lb (.lst [.int (x : Int)]) = H8 at s8 s9 f9
    have ht9 := s79 _ _ ht7
    refine ⟨_, rfl, t, _, dx, _, rfl, ht9, T.cl_Ranked, T.n_Ranked_ranks, (show 5 < 1000 by decide), ?_⟩
    show tSeq _ _ _ _ (upd H9 t (RO T.C_Ranked dx o given h2 h3 rem))
    have nth3 : t ≠ h3 := ne_of_none ht7 f97.h
    have ht10 : upd H9 t (RO T.C_Ranked dx o given h2 h3 rem) t = some (RO T.C_Ranked dx o given h2 h3 rem) := upd_same
    have k10 : Kp [t] H4 (upd H9 t (RO T.C_Ranked dx o given h2 h3 rem)) := kp_up memA (kp_trans k7 (kp_same s79))
    have e10 : upd H9 t (RO T.C_Ranked dx o given h2 h3 rem) h3 = _ := (upd_ne nth3.symm).trans e9
    have e710 : upd H9 t (RO T.C_Ranked dx o given h2 h3 rem) h2 = _ := (upd_ne nth2.symm).trans (s79 _ _ e7)
    generalize upd H9 t (RO T.C_Ranked dx o given h2 h3 rem) = H10 at ht10 k10 e10 e710 ⊢
    have nh2 : ∀ (y : HO), upd H10 t y h2 = H10 h2 := fun y => upd_ne nth2.symm
    have nh3 : ∀ (y : HO), upd H10 t y h3 = H10 h3 := fun y => upd_ne nth3.symm
    refine ⟨_, rfl, t, _, dx, _, _, rfl, ht10, T.cl_Ranked, T.n_Ranked_removals, rfl, _, _, rfl, rfl, dx, _, ht10, (show 5 < 1000 by decide), ?_⟩
    show tSeq _ _ _ _ (upd H10 t (RO T.C_Ranked dx o given h2 h3 (rem + 1)))
    have ht11 : upd H10 t (RO T.C_Ranked dx o given h2 h3 (rem + 1)) t = some (RO T.C_Ranked dx o given h2 h3 (rem + 1)) := upd_same
    have k11 : Kp [t] H4 (upd H10 t (RO T.C_Ranked dx o given h2 h3 (rem + 1))) := kp_up memA k10
    have e211 : upd H10 t (RO T.C_Ranked dx o given h2 h3 (rem + 1)) h2 = _ := (nh2 _).trans e710
    have e311 : upd H10 t (RO T.C_Ranked dx o given h2 h3 (rem + 1)) h3 = _ := (nh3 _).trans e10
    generalize upd H10 t (RO T.C_Ranked dx o given h2 h3 (rem + 1)) = H11 at ht11 k11 e211 e311 ⊢
    have m4 : Mu H4 [t] := mu_ins ht4 mu_nil
    obtain ⟨⟨d7, ho4⟩, ⟨d8, hc4⟩, ⟨zs4, hl4, _⟩, _, hR4, _⟩ := id O4
    have mU4 : Mu H4 (o :: c :: l :: uv) := mu_ins ho4 (mu_ins hc4 (mu_lst hl4 (OA.mu hR4)))
    have f20 : Fr H h2 := fr_kp k02 (m0 t2) (fr_kp k4 mU4 f64)
    have f30 : Fr H h3 := fr_kp k02 (m0 t2) (fr_kp k4 mU4 (fr_kp k7 (mu_ins ht7 mu_nil) f97))
    -- what holds behind it
    have fin : ∀ (H' : Hp) (rem2 : Nat), Kp [t] H4 H' → H' t = some (RO T.C_Ranked dx o given h2 h3 rem2) → H' h2 = some (.dK (dM (M.filter fun i => decide (i ≠ x)) mb)) → H' h3 = some (.dK (dM (M.filter fun i => decide (i ≠ x)) (rV rk))) → rem2 = remN rem (M.filter fun i => decide (i ≠ x)) → Q (.int (x : Int)) H' := by
      intro H' rem2 k a1 a2 a3 er
      have kA : Kp (T.p_precedence :: t :: o :: c :: l :: uv) H H' := kp_trans (kp_more k02 (subCons memA subNil)) (kp_trans (kp_more k4 fun a m => memB (memB m)) (kp_more k (subCons (memB memA) subNil)))
      have tA : TabsN (TT T) H' := tabsN_kpU t4 k m4 fun p hp => not_cons (tab_ne t4 hp ht4 (fun _ z => nomatch z)).symm not_nil
      have frU : ∀ {a : Addr}, Fr H a → t ≠ a → a ∉ t :: o :: c :: l :: uv := fun f nt => by
        obtain ⟨b1, b2, b3, b4⟩ := neF f
        exact not_cons nt.symm (not_cons b1 (not_cons b2 (not_cons b3 b4)))
      have OF := O4.kp OA k m4 (not_cons nto.symm not_nil) (not_cons ntc.symm not_nil) (not_cons ntl.symm not_nil) (not_cons (fun z => ne_of_none ht2 fod2.h (by rw [z])) not_nil) (fun a m => not_cons (nuv a m) not_nil)
      subst er
      exact q x N H' epr kA tA ⟨⟨dx, h2, h3, a1, a2, a3, frU f20 nth2, frU f30 nth3⟩, ⟨od2, OF⟩, by rw [hst]; exact pm3, hsrt.filter _, fun i mi => hgv i (List.mem_filter.mp mi).1, ⟨nto, ntc⟩, nuv⟩
    refine ⟨_, rfl, t, _, dx, _, _, rfl, ht11, T.cl_Ranked, T.n_Ranked_held, rfl, h2, _, rfl, e211, rfl, _, rfl, ?_⟩
    rw [dM_len]
    by_cases ce : (M.filter fun i => decide (i ≠ x)) = []
    · refine ifT (decide_eq_true (by rw [ce]; rfl)) ?_
      refine ⟨_, rfl, t, _, dx, _, rfl, ht11, T.cl_Ranked, T.n_Ranked_removals, (show 5 < 1000 by decide), ?_⟩
      refine ⟨_, rfl, ?_⟩
      show Q (.int (x : Int)) (upd H11 t (RO T.C_Ranked dx o given h2 h3 0))
      exact fin _ 0 (kp_up memA k11) upd_same ((upd_ne nth2.symm).trans e211) ((upd_ne nth3.symm).trans e311) (if_pos ce).symm
    · refine ifF (decide_eq_false fun z => ce (List.length_eq_zero_iff.mp (by have := V.int.inj z; omega))) ?_
      refine ⟨_, rfl, ?_⟩
      exact fin _ (rem + 1) k11 ht11 e211 e311 (if_neg ce).symm
end
end Ob

set_option Elab.async false
set_option linter.all false
set_option maxRecDepth 100000
set_option maxHeartbeats 1000000
namespace Ob
open PySem PySem.Spec PyProof.Rows L2
open LamX (Tabs TabB TabS ExtN)

set_option hygiene false in
local macro_rules
  | `(tactic| kp_flats) => `(tactic| first
    | assumption
    | exact upd_same
    | (apply atNew; assumption; kp_flats)
    | (apply atNe; (next => kbo_bools); kp_flats)
    | (apply atSame; assumption; kp_flats)
    | (apply atKp; assumption; (next => kaf_pre); kp_flats))
set_option hygiene false in
local macro_rules
  | `(tactic| kaf_pre) => `(tactic| first
    | assumption
    | exact not_nil
    | (apply not_cons; (next => kbo_bools); kaf_pre)
    | (apply not_app; (next => kaf_pre); kaf_pre))
set_option hygiene false in
local macro_rules
  | `(tactic| kbo_bools) => `(tactic| first
    | assumption
    | (apply Ne.symm; assumption)
    | (apply neN; assumption; kp_flats)
    | (apply neN'; assumption; kp_flats))
set_option hygiene false in
local macro_rules
  | `(tactic| o_reads) => `(tactic| first
    | with_reducible rfl
    | assumption
    | rfl
    | kp_flats
    | (show SqL _ _ _ _; first | assumption | (apply sqlOf; kp_flats) | (apply sqlSame; assumption; o_reads))
    | (show SqT _ _ _ _; first | assumption | (apply sqtOf; kp_flats) | (apply sqtAll; assumption) | (apply sqtSame; assumption; o_reads))
    | (show Cls _ _; first | exact T.cl_Calls | exact T.cl_Outer | exact T.cl_Ranked | exact T.cl_Unions)
    | (show NoAttr _ _ _; first | exact T.n_Calls_entries | exact T.n_Calls_running | exact T.n_Outer_calls | exact T.n_Outer_push_call | exact T.n_Outer_pop_call | exact T.n_Outer_ask_call | exact T.n_Outer_order | exact T.n_Outer_broken | exact T.n_Ranked_outer | exact T.n_Ranked_given | exact T.n_Ranked_held | exact T.n_Ranked_ranks | exact T.n_Ranked_removals | exact T.n_Unions_groups | exact T.n_Unions_parents | exact T.n_Unions_counts | exact T.n_Unions_moved)
    | (apply Or.inl; o_reads)
    | (apply Or.inr; o_reads)
    | (apply And.intro; (next => o_reads); o_reads)
    | (apply Exists.intro; o_reads)
    | exact Nat.le_of_ble_eq_true rfl
    | exact Nat.succ_ne_zero _
    | (show Fr _ _; kba_ints)
    | (show Same _ _; kd_subs)
    | (show Kp _ _ _; kxs_still)
    | (show (_ : Nat) ≤ _; simp only [List.length_append, List.length_map, List.length_cons, List.length_nil, List.length_take, List.length_drop, List.length_replicate, List.length_range, sizeLine_eq]; omega)
    | (show _ = none; apply Fr.h; kba_ints)
    | (show Bag _ _; first | assumption | (apply bag_putF; assumption; o_reads) | (apply bag_neF; (next => kbo_bools); o_reads) | (apply bag_kpR; assumption; (next => kaf_pre); o_reads))
    | omega
    | decide)
local macro_rules
  | `(tactic| o_readsAll) => `(tactic| repeat (first
    | (refine fun (pNew : Addr) (nNew : _ = none) => ?_; replace nNew := Fr.mk nNew)
    | (refine fun (xNew dNew : Addr) (nNew : _ = none) (mNew : _ = none) (eNew : dNew ≠ xNew) => ?_; replace nNew := Fr.mk nNew; replace mNew := Fr.mk mNew)
    | (apply And.intro; next => o_reads)
    | apply Exists.intro (α := V)
    | apply Exists.intro (α := Addr)
    | apply Exists.intro (α := Int)
    | apply Exists.intro (α := Bool)
    | apply Exists.intro (α := List V)
    | apply Exists.intro (α := List Nat)
    | apply Exists.intro (α := List (Str × V))
    | apply Exists.intro (α := List _)
    | apply Exists.intro (α := Str)
    | apply Exists.intro (α := HO)
    | apply Exists.intro (α := Sp)
    | apply Exists.intro (α := VK)))
set_option hygiene false in
local macro_rules
  | `(tactic| kba_ints) => `(tactic| first
    | assumption
    | (apply frUp; (first | assumption | (apply Ne.symm; assumption)); kba_ints)
    | (apply noneOf; assumption; intro oF eF; apply Exists.intro; kp_flats)
    | (apply frUp; (next => kbo_bools); kba_ints))
set_option hygiene false in
local macro_rules
  | `(tactic| kxs_still) => `(tactic| first
    | assumption
    | exact kp_refl _ _
    | (apply kp_newF; assumption; kxs_still)
    | (apply kp_new; assumption; kxs_still)
    | (apply kp_up; (next => o_fieldsN); kxs_still)
    | (apply kp_new; (next => kba_ints); kxs_still)
    | (apply kp_sameR; assumption; kxs_still)
    | (apply kp_transR; assumption; kxs_still)
    | (apply kp_freshR; assumption; (next => kaf_suf); kxs_still))
set_option hygiene false in
local macro_rules
  | `(tactic| kaf_suf) => `(tactic| first
    | assumption
    | exact subNil
    | (apply subCons; (first | (apply Or.inl; o_fieldsN) | (apply Or.inr; kba_ints)); kaf_suf)
    | (apply subApp; (next => kaf_suf); kaf_suf))
set_option hygiene false in
local macro_rules
  | `(tactic| o_fieldsN) => `(tactic| first
    | assumption
    | exact memA
    | (apply memB; o_fieldsN)
    | (apply memL; o_fieldsN)
    | (apply memR; o_fieldsN))
set_option hygiene false in
local macro_rules
  | `(tactic| kd_subs) => `(tactic| first
    | assumption
    | exact Same.refl _
    | (apply same_putF; assumption; kd_subs)
    | (apply same_putG; assumption; kd_subs)
    | (apply same_putF; (next => kba_ints); kd_subs)
    | (apply same_transR; assumption; kd_subs))

set_option pp.maxSteps 900
open NdefX (TabsN)
section
variable {P : Program} {w : World} {K : PySem.W.Frag} {mg : Str → Option Value} {base : Heap} {n : Nat}
/-- a question to a Ranked -/
def spRQ (P : Program) (w : World) (K : PySem.W.Frag) (mg : Str → Option Value) (base : Heap) (CT C CC : Addr) (n : Nat) : Sp := fun vs H Q _ => ∃ (t o c l : Addr) (fp fo fa qv : V) (uv : List Addr) (PM : Nat → V → Prop) (PQ : V → Prop) (R : List Ca → Hp → Prop) (An : List Ca → V → V → Hp → Prop) (tr : List Ca) (given rem : Nat) (M : List Nat) (mb : Nat → V) (rk : Nat → Int),
  vs = [.ref t, qv] ∧ OS P w K mg base n uv fp fo fa PM PQ R An ∧ RkAt CT C CC H t o c l fp fo fa uv PM R tr given M mb rk rem ∧ PQ qv ∧ tr.length < 400000 ∧
  ∀ u H', Kp (o :: c :: l :: uv) H H' → RkAt CT C CC H' t o c l fp fo fa uv PM R (tr ++ [.ask qv]) given M mb rk rem → An tr qv u H' → (∀ r, u = .ref r → H r = none) → Q u H'
theorem ok_rq (T : Txt K mg) : FnOk P w K mg base CX0 (n + 6) T.f_Ranked_query T.d_Ranked_query ["self", "question"] (spRQ P w K mg base T.C_Ranked T.C_Outer T.C_Calls n) := by
  have G_Outer_check := ok_oc (P := P) (w := w) (base := base) T
  have G_Outer_answer := ok_answ (P := P) (w := w) (base := base) (n := n) T
  refine T.F_Ranked_query.ok sc_Ranked_query (fun vs H Q E h => ?_) (fun cdv A outer s H vs Q E hr h => ?_)
  · obtain ⟨t, o, c, l, fp, fo, fa, qv, uv, PM, PQ, R, An, tr, given, rem, M, mb, rk, rfl, _⟩ := h
    rfl
  · obtain ⟨t, o, c, l, fp, fo, fa, qv, uv, PM, PQ, R, An, tr, given, rem, M, mb, rk, rfl, OA, hT, hpq, htl, q⟩ := h
    refine ⟨_, (pss_cons (ps_expr (pe_meth0 (pe_fld (pv 0) rfl) T.cl_Outer ⟨T.m_Outer_check, T.t_Outer_check, T.k_Outer_check⟩ G_Outer_check (hr.mono (by omega)) T.b_Outer_check .nil pass0))
      (pss_one (ps_ret (pe_meth (pe_fld (pv 0) rfl) T.cl_Outer ⟨T.m_Outer_answer, T.t_Outer_answer, T.k_Outer_answer⟩ G_Outer_answer (hr.mono (by omega)) T.b_Outer_answer .nil pass0 (pa_cons (pv 1) pa_nil))))), ?_⟩
    obtain ⟨⟨dx, hd, rd, ht, hhd, hrd, nhd, nrd⟩, ⟨od, hO⟩, hpm, hsrt, hgv, ⟨nto, ntc⟩, nuv⟩ := id hT
    obtain ⟨⟨d1, ho⟩, ⟨d2, hc⟩, ⟨xs, hl, hlg⟩, hod, hR, nlod, noc, nu⟩ := id hO
    refine ⟨_, rfl, t, _, dx, _, _, rfl, ht, T.cl_Ranked, T.n_Ranked_outer, rfl, o, d1, _, rfl, ho, rfl, o, c, l, od, fp, fo, fa, rfl, ⟨d1, ho⟩, ⟨d2, hc⟩, ?_⟩
    refine ⟨_, rfl, t, _, dx, _, _, rfl, ht, T.cl_Ranked, T.n_Ranked_outer, rfl, o, d1, _, rfl, ho, rfl, _, rfl, o, c, l, od, fp, fo, fa, qv, uv, PM, PQ, R, An, tr, rfl, OA, hO, hpq, by omega, fun u H' k1 O1 a1 f1 => ?_⟩
    have ntl : t ≠ l := neO ht hl (fun z => nomatch z)
    have tU : t ∉ o :: c :: l :: uv := not_cons nto (not_cons ntc (not_cons ntl fun z => nuv t z rfl))
    have hst : stC [] (tr ++ [.ask qv]) = stC [] tr := by
      rw [stC_app]
      rfl
    exact q u H' k1 ⟨⟨dx, hd, rd, k1.at_ _ _ ht tU, k1.at_ _ _ hhd (fun z => nhd (memB z)), k1.at_ _ _ hrd (fun z => nrd (memB z)), nhd, nrd⟩, ⟨od, O1⟩, by rw [hst]; exact hpm, hsrt, hgv, ⟨nto, ntc⟩, nuv⟩ a1 f1
end
end Ob

set_option Elab.async false
set_option linter.all false
set_option maxRecDepth 100000
set_option maxHeartbeats 1000000
namespace Ob
open PySem PySem.Spec PyProof.Rows L2
open LamX (Tabs TabB TabS ExtN)

set_option hygiene false in
local macro_rules
  | `(tactic| kp_flats) => `(tactic| first
    | assumption
    | exact upd_same
    | (apply atNew; assumption; kp_flats)
    | (apply atNe; (next => kbo_bools); kp_flats)
    | (apply atSame; assumption; kp_flats)
    | (apply atKp; assumption; (next => kaf_pre); kp_flats))
set_option hygiene false in
local macro_rules
  | `(tactic| kaf_pre) => `(tactic| first
    | assumption
    | exact not_nil
    | (apply not_cons; (next => kbo_bools); kaf_pre)
    | (apply not_app; (next => kaf_pre); kaf_pre))
set_option hygiene false in
local macro_rules
  | `(tactic| kbo_bools) => `(tactic| first
    | assumption
    | (apply Ne.symm; assumption)
    | (apply neN; assumption; kp_flats)
    | (apply neN'; assumption; kp_flats))
set_option hygiene false in
local macro_rules
  | `(tactic| o_reads) => `(tactic| first
    | with_reducible rfl
    | assumption
    | rfl
    | kp_flats
    | (show SqL _ _ _ _; first | assumption | (apply sqlOf; kp_flats) | (apply sqlSame; assumption; o_reads))
    | (show SqT _ _ _ _; first | assumption | (apply sqtOf; kp_flats) | (apply sqtAll; assumption) | (apply sqtSame; assumption; o_reads))
    | (show Cls _ _; first | exact T.cl_Calls | exact T.cl_Outer | exact T.cl_Ranked | exact T.cl_Unions)
    | (show NoAttr _ _ _; first | exact T.n_Calls_entries | exact T.n_Calls_running | exact T.n_Outer_calls | exact T.n_Outer_push_call | exact T.n_Outer_pop_call | exact T.n_Outer_ask_call | exact T.n_Outer_order | exact T.n_Outer_broken | exact T.n_Ranked_outer | exact T.n_Ranked_given | exact T.n_Ranked_held | exact T.n_Ranked_ranks | exact T.n_Ranked_removals | exact T.n_Unions_groups | exact T.n_Unions_parents | exact T.n_Unions_counts | exact T.n_Unions_moved)
    | (apply Or.inl; o_reads)
    | (apply Or.inr; o_reads)
    | (apply And.intro; (next => o_reads); o_reads)
    | (apply Exists.intro; o_reads)
    | exact Nat.le_of_ble_eq_true rfl
    | exact Nat.succ_ne_zero _
    | (show Fr _ _; kba_ints)
    | (show Same _ _; kd_subs)
    | (show Kp _ _ _; kxs_still)
    | (show (_ : Nat) ≤ _; simp only [List.length_append, List.length_map, List.length_cons, List.length_nil, List.length_take, List.length_drop, List.length_replicate, List.length_range, sizeLine_eq]; omega)
    | (show _ = none; apply Fr.h; kba_ints)
    | (show Bag _ _; first | assumption | (apply bag_putF; assumption; o_reads) | (apply bag_neF; (next => kbo_bools); o_reads) | (apply bag_kpR; assumption; (next => kaf_pre); o_reads))
    | omega
    | decide)
local macro_rules
  | `(tactic| o_readsAll) => `(tactic| repeat (first
    | (refine fun (pNew : Addr) (nNew : _ = none) => ?_; replace nNew := Fr.mk nNew)
    | (refine fun (xNew dNew : Addr) (nNew : _ = none) (mNew : _ = none) (eNew : dNew ≠ xNew) => ?_; replace nNew := Fr.mk nNew; replace mNew := Fr.mk mNew)
    | (apply And.intro; next => o_reads)
    | apply Exists.intro (α := V)
    | apply Exists.intro (α := Addr)
    | apply Exists.intro (α := Int)
    | apply Exists.intro (α := Bool)
    | apply Exists.intro (α := List V)
    | apply Exists.intro (α := List Nat)
    | apply Exists.intro (α := List (Str × V))
    | apply Exists.intro (α := List _)
    | apply Exists.intro (α := Str)
    | apply Exists.intro (α := HO)
    | apply Exists.intro (α := Sp)
    | apply Exists.intro (α := VK)))
set_option hygiene false in
local macro_rules
  | `(tactic| kba_ints) => `(tactic| first
    | assumption
    | (apply frUp; (first | assumption | (apply Ne.symm; assumption)); kba_ints)
    | (apply noneOf; assumption; intro oF eF; apply Exists.intro; kp_flats)
    | (apply frUp; (next => kbo_bools); kba_ints))
set_option hygiene false in
local macro_rules
  | `(tactic| kxs_still) => `(tactic| first
    | assumption
    | exact kp_refl _ _
    | (apply kp_newF; assumption; kxs_still)
    | (apply kp_new; assumption; kxs_still)
    | (apply kp_up; (next => o_fieldsN); kxs_still)
    | (apply kp_new; (next => kba_ints); kxs_still)
    | (apply kp_sameR; assumption; kxs_still)
    | (apply kp_transR; assumption; kxs_still)
    | (apply kp_freshR; assumption; (next => kaf_suf); kxs_still))
set_option hygiene false in
local macro_rules
  | `(tactic| kaf_suf) => `(tactic| first
    | assumption
    | exact subNil
    | (apply subCons; (first | (apply Or.inl; o_fieldsN) | (apply Or.inr; kba_ints)); kaf_suf)
    | (apply subApp; (next => kaf_suf); kaf_suf))
set_option hygiene false in
local macro_rules
  | `(tactic| o_fieldsN) => `(tactic| first
    | assumption
    | exact memA
    | (apply memB; o_fieldsN)
    | (apply memL; o_fieldsN)
    | (apply memR; o_fieldsN))
set_option hygiene false in
local macro_rules
  | `(tactic| kd_subs) => `(tactic| first
    | assumption
    | exact Same.refl _
    | (apply same_putF; assumption; kd_subs)
    | (apply same_putG; assumption; kd_subs)
    | (apply same_putF; (next => kba_ints); kd_subs)
    | (apply same_transR; assumption; kd_subs))

set_option pp.maxSteps 900
theorem tot_succ (n : Nat) : tot (n + 1) = tot n + low (n + 1) := by
  induction n using Nat.strongRecOn with
  | ind n ih =>
    rw [tot_all (n + 1), tot_all n]
    by_cases o : n % 2 = 0
    · rw [low_odd (by omega), show (n + 1) / 2 = n / 2 by omega]
      omega
    · rw [low_even (Nat.succ_ne_zero n) (by omega), show (n + 1) / 2 = n / 2 + 1 by omega, ih (n / 2) (by omega)]
      omega
/-! ### how often members are popped: the bound of removals -/
def Pre (rk : Nat → Int) (x y : Nat) : Prop := rk y < rk x ∨ (rk x = rk y ∧ x < y)
instance {rk : Nat → Int} {x y : Nat} : Decidable (Pre rk x y) := inferInstanceAs (Decidable (_ ∨ _))
theorem pre_as {rk : Nat → Int} {x y : Nat} (h : Pre rk x y) : ¬ Pre rk y x := fun g => by
  unfold Pre at h g
  omega
theorem len_sub {A B : List Nat} (hA : A.Nodup) (hB : B.Nodup) (h : ∀ x ∈ A, x ∈ B) : A.length ≤ B.length := by
  have e : A.Perm (B.filter fun x => decide (x ∈ A)) := (List.perm_ext_iff_of_nodup hA (hB.filter _)).mpr fun x => by
    rw [List.mem_filter]
    exact ⟨fun m => ⟨h x m, decide_eq_true m⟩, fun m => of_decide_eq_true m.2⟩
  rw [e.length_eq]
  exact List.length_filter_le _ _
theorem prec_st {rk : Nat → Int} {M : List Nat} (h : M.Nodup) : (precN rk M).Pairwise (Pre rk) := by
  have nd : (precN rk M).Nodup := prec_perm.nodup_iff.mpr h
  refine (prec_pw (rk := rk) (M := M)).imp₂ (fun {x y} p q => ?_) nd
  have q : x ≠ y := q
  unfold Pre
  omega
theorem need_pw {rk : Nat → Int} {k : Nat} {M : List Nat} (h : M.Nodup) : (needN rk k M).Pairwise (Pre rk) := (prec_st h).sublist (List.take_sublist _ _)
theorem need_init {rk : Nat → Int} {k : Nat} {M : List Nat} (h : M.Nodup) {d y : Nat} (hd : d ∈ needN rk k M) (hy : y ∈ M) (ny : y ∉ needN rk k M) : Pre rk d y := by
  have hp := prec_st (rk := rk) h
  have my := (prec_perm (rk := rk) (M := M)).mem_iff.mpr hy
  rw [← List.take_append_drop (low (k + 1)) (precN rk M)] at hp my
  exact (List.pairwise_append.mp hp).2.2 d hd y ((List.mem_append.mp my).resolve_left ny)
theorem need_cnt {rk : Nat → Int} {k : Nat} {M : List Nat} (h : M.Nodup) {d : Nat} (hd : d ∈ needN rk k M) : (M.filter fun x => decide (Pre rk x d)).length < low (k + 1) := by
  have nN := need_nd (rk := rk) (rem := k) h
  have e : (M.filter fun x => decide (Pre rk x d)).Perm ((needN rk k M).filter fun x => decide (Pre rk x d)) := (List.perm_ext_iff_of_nodup (h.filter _) (nN.filter _)).mpr fun x => by
    rw [List.mem_filter, List.mem_filter]
    refine ⟨fun ⟨m, p⟩ => ⟨?_, p⟩, fun ⟨m, p⟩ => ⟨need_sub x m, p⟩⟩
    by_cases c : x ∈ needN rk k M
    · exact c
    · exact absurd (need_init h hd m c) (pre_as (of_decide_eq_true p))
  rw [e.length_eq]
  have h1 : ((needN rk k M).filter fun x => decide (Pre rk x d)).length < (needN rk k M).length := List.length_filter_lt_length_iff_exists.mpr ⟨d, hd, fun z => pre_as (of_decide_eq_true z) (of_decide_eq_true z)⟩
  have h2 : (needN rk k M).length ≤ low (k + 1) := List.length_take_le _ _
  omega
/-- so many old members precede one -/
def cntP (rk : Nat → Int) (a : Nat → Nat) (j : Nat) (M : List Nat) (d : Nat) : Nat := (M.filter fun x => decide (a x < j ∧ Pre rk x d)).length
def OrdS (rk : Nat → Int) (a : Nat → Nat) (j m : Nat) (M S : List Nat) : Prop := S.Pairwise fun d y => a y < j → (j ≤ a d ∨ cntP rk a j M d < m) → Pre rk y d
theorem cnt_le {rk : Nat → Int} {a : Nat → Nat} {j : Nat} {M : List Nat} {d : Nat} : cntP rk a j M d ≤ (M.filter fun x => decide (Pre rk x d)).length := by
  unfold cntP
  have e : (M.filter fun x => decide (a x < j ∧ Pre rk x d)) = (M.filter fun x => decide (Pre rk x d)).filter fun x => decide (a x < j) := by
    rw [List.filter_filter]
    exact List.filter_congr fun x _ => by simp
  rw [e]
  exact List.length_filter_le _ _
theorem perm_head {M : List Nat} (h : M.Nodup) {y : Nat} (hy : y ∈ M) : M.Perm (y :: M.filter fun i => decide (i ≠ y)) := by
  refine (List.perm_ext_iff_of_nodup h (List.nodup_cons.mpr ⟨fun m => absurd rfl (of_decide_eq_true (List.mem_filter.mp m).2), h.filter _⟩)).mpr fun x => ?_
  rw [List.mem_cons, List.mem_filter]
  by_cases c : x = y
  · exact ⟨fun _ => .inl c, fun _ => c ▸ hy⟩
  · exact ⟨fun m => .inr ⟨m, decide_eq_true c⟩, fun m => (m.resolve_left c).1⟩
theorem cnt_drop {rk : Nat → Int} {a : Nat → Nat} {j : Nat} {M : List Nat} {d y : Nat} (h : M.Nodup) (hy : y ∈ M) : cntP rk a j M d ≤ cntP rk a j (M.filter fun i => decide (i ≠ y)) d + 1 := by
  unfold cntP
  rw [((perm_head h hy).filter _).length_eq, List.filter_cons]
  split
  · exact Nat.le_refl _
  · exact Nat.le_succ _
theorem pop_head {N : List Nat} : ∀ {S R : List Nat} {d : Nat}, popN N S = d :: R → d ∈ N
  | [], R, d, h => nomatch (show ([] : List Nat) = d :: R from h)
  | z :: l, R, d, h => by
    unfold popN at h
    rw [List.dropWhile_cons] at h
    split at h
    · exact pop_head (S := l) h
    · next c =>
      cases h
      exact Decidable.byContradiction fun w => c (decide_eq_true w)
/-- the place of a removal -/
theorem low_at {n e : Nat} (h : n % 2 ^ e = 0) (g : n % 2 ^ (e + 1) ≠ 0) : ∃ q, n = q * 2 ^ (e + 1) + 2 ^ e := by
  have e2 : 2 ^ (e + 1) = 2 * 2 ^ e := by rw [Nat.pow_succ, Nat.mul_comm]
  have h1 := Nat.div_add_mod n (2 ^ e)
  rw [h, Nat.add_zero] at h1
  refine ⟨n / 2 ^ e / 2, ?_⟩
  have h2 := Nat.div_add_mod (n / 2 ^ e) 2
  rcases Nat.mod_two_eq_zero_or_one (n / 2 ^ e) with z | z
  · exfalso
    apply g
    rw [z, Nat.add_zero] at h2
    rw [← h1, ← h2, e2, ← Nat.mul_assoc, Nat.mul_comm (2 ^ e) 2]
    exact Nat.mul_mod_right _ _
  · rw [z] at h2
    have h3 : 2 ^ e * (2 * (n / 2 ^ e / 2) + 1) = n := by rw [h2]; exact h1
    rw [Nat.mul_add, Nat.mul_one] at h3
    rw [e2, ← h3]
    congr 1
    rw [h3, ← Nat.mul_assoc, Nat.mul_comm (n / 2 ^ e / 2), Nat.mul_comm (2 ^ e) 2]
theorem dm_of {n b q r : Nat} (hr : r < b) (h : n = q * b + r) : n / b = q ∧ n % b = r :=
  (Nat.div_mod_unique (by omega)).mpr ⟨by rw [h, Nat.mul_comm, Nat.add_comm], hr⟩
/-- the same block, one further -/
theorem dm_succ {k b : Nat} (hb : 0 < b) (h : (k + 1) % b ≠ 0) : (k + 1) / b = k / b ∧ (k + 1) % b = k % b + 1 := by
  have h1 := Nat.div_add_mod k b
  have h2 := Nat.mod_lt k hb
  rw [Nat.mul_comm] at h1
  by_cases c : k % b + 1 = b
  · exfalso
    apply h
    have : k + 1 = (k / b + 1) * b + 0 := by
      rw [Nat.add_mul, Nat.one_mul]
      omega
    exact (dm_of hb this).2
  · exact dm_of (by omega) (by omega)
structure AM (rk : Nat → Int) (a : Nat → Nat) (k : Nat) (M S : List Nat) : Prop where
  ak : ∀ x ∈ M, a x ≤ k
  od : ∀ e, OrdS rk a (k / 2 ^ e * 2 ^ e) (2 ^ e - 1 - k % 2 ^ e) M S
theorem AM.nil {rk : Nat → Int} {a : Nat → Nat} {k : Nat} : AM rk a k [] [] := ⟨fun _ z => (by cases z), fun _ => .nil⟩
/-- others that are popped were added lately -/
theorem AM.late {rk : Nat → Int} {a : Nat → Nat} {k q e : Nat} {M S : List Nat} (h : AM rk a k M S) (nd : M.Nodup) (pm : S.Perm M) (hl : low (k + 1) = 2 ^ e) (hk : k + 1 = q * 2 ^ (e + 1) + 2 ^ e) : ∀ x ∈ popN (needN rk k M) S, x ∉ needN rk k M → q * 2 ^ (e + 1) ≤ a x := fun x hx nx => by
  have e2 : 2 ^ (e + 1) = 2 * 2 ^ e := by rw [Nat.pow_succ, Nat.mul_comm]
  have hp := Nat.two_pow_pos e
  obtain ⟨d1, d2⟩ := dm_of (n := k) (b := 2 ^ (e + 1)) (q := q) (r := 2 ^ e - 1) (by omega) (by omega)
  have ho := h.od (e + 1)
  rw [d1, d2] at ho
  have hs : (popN (needN rk k M) S).Pairwise _ := List.Pairwise.sublist (List.dropWhile_sublist _) ho
  cases hpo : popN (needN rk k M) S with
  | nil => rw [hpo] at hx; cases hx
  | cons d R =>
    have dN := pop_head hpo
    rw [hpo] at hx hs
    have xR : x ∈ R := (List.mem_cons.mp hx).resolve_left fun z => nx (z ▸ dN)
    refine Nat.le_of_not_lt fun z => ?_
    have h1 := cnt_le (rk := rk) (a := a) (j := q * 2 ^ (e + 1)) (M := M) (d := d)
    have h2 := need_cnt nd dN
    rw [hl] at h2
    have h3 := (List.pairwise_cons.mp hs).1 x xR z (.inr (by omega))
    have xM : x ∈ M := pm.mem_iff.mp (pop_sub x (by rw [hpo]; exact hx))
    exact pre_as h3 (need_init nd dN xM nx)
end Ob

set_option Elab.async false
set_option linter.all false
set_option maxRecDepth 100000
set_option maxHeartbeats 1000000
namespace Ob
open PySem PySem.Spec PyProof.Rows L2
open LamX (Tabs TabB TabS ExtN)

set_option hygiene false in
local macro_rules
  | `(tactic| kp_flats) => `(tactic| first
    | assumption
    | exact upd_same
    | (apply atNew; assumption; kp_flats)
    | (apply atNe; (next => kbo_bools); kp_flats)
    | (apply atSame; assumption; kp_flats)
    | (apply atKp; assumption; (next => kaf_pre); kp_flats))
set_option hygiene false in
local macro_rules
  | `(tactic| kaf_pre) => `(tactic| first
    | assumption
    | exact not_nil
    | (apply not_cons; (next => kbo_bools); kaf_pre)
    | (apply not_app; (next => kaf_pre); kaf_pre))
set_option hygiene false in
local macro_rules
  | `(tactic| kbo_bools) => `(tactic| first
    | assumption
    | (apply Ne.symm; assumption)
    | (apply neN; assumption; kp_flats)
    | (apply neN'; assumption; kp_flats))
set_option hygiene false in
local macro_rules
  | `(tactic| o_reads) => `(tactic| first
    | with_reducible rfl
    | assumption
    | rfl
    | kp_flats
    | (show SqL _ _ _ _; first | assumption | (apply sqlOf; kp_flats) | (apply sqlSame; assumption; o_reads))
    | (show SqT _ _ _ _; first | assumption | (apply sqtOf; kp_flats) | (apply sqtAll; assumption) | (apply sqtSame; assumption; o_reads))
    | (show Cls _ _; first | exact T.cl_Calls | exact T.cl_Outer | exact T.cl_Ranked | exact T.cl_Unions)
    | (show NoAttr _ _ _; first | exact T.n_Calls_entries | exact T.n_Calls_running | exact T.n_Outer_calls | exact T.n_Outer_push_call | exact T.n_Outer_pop_call | exact T.n_Outer_ask_call | exact T.n_Outer_order | exact T.n_Outer_broken | exact T.n_Ranked_outer | exact T.n_Ranked_given | exact T.n_Ranked_held | exact T.n_Ranked_ranks | exact T.n_Ranked_removals | exact T.n_Unions_groups | exact T.n_Unions_parents | exact T.n_Unions_counts | exact T.n_Unions_moved)
    | (apply Or.inl; o_reads)
    | (apply Or.inr; o_reads)
    | (apply And.intro; (next => o_reads); o_reads)
    | (apply Exists.intro; o_reads)
    | exact Nat.le_of_ble_eq_true rfl
    | exact Nat.succ_ne_zero _
    | (show Fr _ _; kba_ints)
    | (show Same _ _; kd_subs)
    | (show Kp _ _ _; kxs_still)
    | (show (_ : Nat) ≤ _; simp only [List.length_append, List.length_map, List.length_cons, List.length_nil, List.length_take, List.length_drop, List.length_replicate, List.length_range, sizeLine_eq]; omega)
    | (show _ = none; apply Fr.h; kba_ints)
    | (show Bag _ _; first | assumption | (apply bag_putF; assumption; o_reads) | (apply bag_neF; (next => kbo_bools); o_reads) | (apply bag_kpR; assumption; (next => kaf_pre); o_reads))
    | omega
    | decide)
local macro_rules
  | `(tactic| o_readsAll) => `(tactic| repeat (first
    | (refine fun (pNew : Addr) (nNew : _ = none) => ?_; replace nNew := Fr.mk nNew)
    | (refine fun (xNew dNew : Addr) (nNew : _ = none) (mNew : _ = none) (eNew : dNew ≠ xNew) => ?_; replace nNew := Fr.mk nNew; replace mNew := Fr.mk mNew)
    | (apply And.intro; next => o_reads)
    | apply Exists.intro (α := V)
    | apply Exists.intro (α := Addr)
    | apply Exists.intro (α := Int)
    | apply Exists.intro (α := Bool)
    | apply Exists.intro (α := List V)
    | apply Exists.intro (α := List Nat)
    | apply Exists.intro (α := List (Str × V))
    | apply Exists.intro (α := List _)
    | apply Exists.intro (α := Str)
    | apply Exists.intro (α := HO)
    | apply Exists.intro (α := Sp)
    | apply Exists.intro (α := VK)))
set_option hygiene false in
local macro_rules
  | `(tactic| kba_ints) => `(tactic| first
    | assumption
    | (apply frUp; (first | assumption | (apply Ne.symm; assumption)); kba_ints)
    | (apply noneOf; assumption; intro oF eF; apply Exists.intro; kp_flats)
    | (apply frUp; (next => kbo_bools); kba_ints))
set_option hygiene false in
local macro_rules
  | `(tactic| kxs_still) => `(tactic| first
    | assumption
    | exact kp_refl _ _
    | (apply kp_newF; assumption; kxs_still)
    | (apply kp_new; assumption; kxs_still)
    | (apply kp_up; (next => o_fieldsN); kxs_still)
    | (apply kp_new; (next => kba_ints); kxs_still)
    | (apply kp_sameR; assumption; kxs_still)
    | (apply kp_transR; assumption; kxs_still)
    | (apply kp_freshR; assumption; (next => kaf_suf); kxs_still))
set_option hygiene false in
local macro_rules
  | `(tactic| kaf_suf) => `(tactic| first
    | assumption
    | exact subNil
    | (apply subCons; (first | (apply Or.inl; o_fieldsN) | (apply Or.inr; kba_ints)); kaf_suf)
    | (apply subApp; (next => kaf_suf); kaf_suf))
set_option hygiene false in
local macro_rules
  | `(tactic| o_fieldsN) => `(tactic| first
    | assumption
    | exact memA
    | (apply memB; o_fieldsN)
    | (apply memL; o_fieldsN)
    | (apply memR; o_fieldsN))
set_option hygiene false in
local macro_rules
  | `(tactic| kd_subs) => `(tactic| first
    | assumption
    | exact Same.refl _
    | (apply same_putF; assumption; kd_subs)
    | (apply same_putG; assumption; kd_subs)
    | (apply same_putF; (next => kba_ints); kd_subs)
    | (apply same_transR; assumption; kd_subs))

set_option pp.maxSteps 900
theorem low_not {N : List Nat} : ∀ {S : List Nat} {d : Nat}, d ∈ lowN N S → d ∉ N
  | z :: l, d, h => by
    unfold lowN at h
    rw [List.takeWhile_cons] at h
    split at h
    · next c =>
      rcases List.mem_cons.mp h with rfl | h
      · exact of_decide_eq_true c
      · exact low_not (S := l) h
    · cases h
/-- what stands behind a removal, in order -/
theorem pw_back {R : Nat → Nat → Prop} {N S : List Nat} (hL : (lowN N S).Pairwise R) (hO : ∀ y ∈ popN N S, y ∉ N → ∀ d ∈ S, d ∉ N → R d y) (hT : (N.drop 1).Pairwise fun y d => R d y) (hLT : ∀ y ∈ N.drop 1, ∀ d ∈ S, d ∉ N → R d y) : (lowN N S ++ backN N S).Pairwise R := by
  have nl : ∀ d ∈ lowN N S, d ∉ N := fun d h => low_not h
  have hlS : ∀ d ∈ lowN N S, d ∈ S := fun d h => (List.takeWhile_sublist _).subset h
  unfold backN
  refine List.pairwise_append.mpr ⟨hL, List.pairwise_append.mpr ⟨?_, List.pairwise_reverse.mpr hT, fun d hd y hy => ?_⟩, fun d hd y hy => ?_⟩
  · exact List.Pairwise.imp_of_mem (fun {d y} hd hy _ => hO y (List.mem_filter.mp hy).1 (of_decide_eq_true (List.mem_filter.mp hy).2) d (pop_sub d (List.mem_filter.mp hd).1) (of_decide_eq_true (List.mem_filter.mp hd).2)) (List.pairwise_of_forall (R := fun _ _ => True) fun _ _ => True.intro)
  · exact hLT y (List.mem_reverse.mp hy) d (pop_sub d (List.mem_filter.mp hd).1) (of_decide_eq_true (List.mem_filter.mp hd).2)
  · rcases List.mem_append.mp hy with hy | hy
    · exact hO y (List.mem_filter.mp hy).1 (of_decide_eq_true (List.mem_filter.mp hy).2) d (hlS d hd) (nl d hd)
    · exact hLT y (List.mem_reverse.mp hy) d (hlS d hd) (nl d hd)
theorem AM.rem {rk : Nat → Int} {a : Nat → Nat} {k y : Nat} {L M S : List Nat} (h : AM rk a k M S) (nd : M.Nodup) (pm : S.Perm M) (hy : precN rk M = y :: L) : AM rk a (k + 1) (M.filter fun i => decide (i ≠ y)) (lowN (needN rk k M) S ++ backN (needN rk k M) S) := by
  have hyM : y ∈ M := (prec_perm (rk := rk) (M := M)).mem_iff.mp (by rw [hy]; exact List.mem_cons_self)
  obtain ⟨e, hl, he, hg⟩ := low_spec (k + 1) (by omega)
  obtain ⟨q, hk⟩ := low_at he hg
  have hlate := h.late nd pm hl hk
  have hp := Nat.two_pow_pos e
  have nN := need_nd (rk := rk) (rem := k) nd
  have hpw := need_pw (rk := rk) (k := k) nd
  obtain ⟨z, N1, eN, ez⟩ := need_cons (rk := rk) (rem := k) (M := M) (fun w => by rw [w] at hyM; cases hyM)
  rw [hy] at ez
  have ez : y = z := Option.some.inj ez
  subst ez
  have tl : (needN rk k M).drop 1 = N1 := by rw [eN]; rfl
  have tM : ∀ x ∈ N1, x ∈ M.filter fun i => decide (i ≠ y) := fun x m => List.mem_filter.mpr ⟨need_sub (rk := rk) (rem := k) x (by rw [eN]; exact List.mem_cons_of_mem _ m), decide_eq_true fun w => by
    rw [eN] at nN
    exact (List.nodup_cons.mp nN).1 (w ▸ m)⟩
  have hpw1 : N1.Pairwise (Pre rk) := by
    rw [eN] at hpw
    exact (List.pairwise_cons.mp hpw).2
  have nN1 : N1.Nodup := by
    rw [eN] at nN
    exact (List.nodup_cons.mp nN).2
  refine ⟨fun x hx => Nat.le_succ_of_le (h.ak x (List.mem_filter.mp hx).1), fun e' => ?_⟩
  by_cases c : e' ≤ e
  · -- a new block
    have hm := mod_le (a := k + 1) he c
    have hj : (k + 1) / 2 ^ e' * 2 ^ e' = k + 1 := by
      have := Nat.div_add_mod (k + 1) (2 ^ e')
      rw [hm, Nat.add_zero, Nat.mul_comm] at this
      exact this
    rw [hj, hm, Nat.sub_zero]
    have hle : 2 ^ e' ≤ 2 ^ e := Nat.pow_le_pow_right (by decide) c
    -- one that is followed by few is among the needed ones
    have key : ∀ d ∈ M, d ∉ needN rk k M → ¬ (k + 1 ≤ a d ∨ cntP rk a (k + 1) (M.filter fun i => decide (i ≠ y)) d < 2 ^ e' - 1) := fun d hd nd' w => by
      rcases w with w | w
      · have := h.ak d hd
        omega
      · have hlen : (needN rk k M).length = 2 ^ e := by
          have h1 : d ∈ precN rk M := (prec_perm (rk := rk) (M := M)).mem_iff.mpr hd
          have h2 : ¬ (precN rk M).length ≤ low (k + 1) := fun w => nd' (by
            unfold needN
            rw [List.take_of_length_le w]
            exact h1)
          unfold needN
          rw [List.length_take, hl]
          rw [hl] at h2
          omega
        rw [eN, List.length_cons] at hlen
        have h3 : N1.length ≤ cntP rk a (k + 1) (M.filter fun i => decide (i ≠ y)) d := len_sub nN1 ((nd.filter _).filter _) fun x m => by
          refine List.mem_filter.mpr ⟨tM x m, decide_eq_true ⟨?_, ?_⟩⟩
          · exact Nat.lt_succ_of_le (h.ak x (List.mem_filter.mp (tM x m)).1)
          · exact need_init nd (by rw [eN]; exact List.mem_cons_of_mem _ m) hd nd'
        omega
    refine pw_back ?_ ?_ ?_ ?_
    · refine List.Pairwise.imp_of_mem (fun {d y'} hd _ _ _ w => ?_) (List.pairwise_of_forall (R := fun _ _ => True) fun _ _ => True.intro)
      exact absurd w (key d (pm.mem_iff.mp ((List.takeWhile_sublist _).subset hd)) (low_not hd))
    · exact fun y' hy' ny' d hd nd' _ w => absurd w (key d (pm.mem_iff.mp hd) nd')
    · rw [tl]
      exact hpw1.imp fun {y' d} w _ _ => w
    · exact fun y' hy' d hd nd' _ w => absurd w (key d (pm.mem_iff.mp hd) nd')
  · -- the same block
    have c1 : e + 1 ≤ e' := by omega
    have hm : (k + 1) % 2 ^ e' ≠ 0 := fun w => hg (mod_le w c1)
    obtain ⟨d1, d2⟩ := dm_succ (Nat.two_pow_pos e') hm
    rw [d1, d2]
    have ho := h.od e'
    have hj : k / 2 ^ e' * 2 ^ e' ≤ q * 2 ^ (e + 1) := by
      have e2 : 2 ^ (e + 1) = 2 * 2 ^ e := by rw [Nat.pow_succ, Nat.mul_comm]
      have e3 : 2 ^ e' = 2 ^ (e' - (e + 1)) * 2 ^ (e + 1) := by rw [← Nat.pow_add]; congr 1; omega
      have h1 : k / 2 ^ e' * 2 ^ e' ≤ k := Nat.div_mul_le_self _ _
      have h2 : k / 2 ^ e' * 2 ^ e' = k / 2 ^ e' * 2 ^ (e' - (e + 1)) * 2 ^ (e + 1) := by
        conv => lhs; rhs; rw [e3]
        rw [Nat.mul_assoc]
      rw [h2] at h1 ⊢
      refine Nat.mul_le_mul_right _ (Nat.le_of_lt_succ ?_)
      refine Nat.lt_of_mul_lt_mul_right (a := 2 ^ (e + 1)) ?_
      rw [Nat.succ_mul]
      omega
    refine pw_back ?_ ?_ ?_ ?_
    · refine (ho.sublist (List.takeWhile_sublist _)).imp fun {d y'} w ha hd => w ha ?_
      rcases hd with hd | hd
      · exact .inl hd
      · have := cnt_drop (rk := rk) (a := a) (j := k / 2 ^ e' * 2 ^ e') (d := d) nd hyM
        exact .inr (by omega)
    · intro y' hy' ny' d _ _ ha _
      have := hlate y' hy' ny'
      omega
    · rw [tl]
      exact hpw1.imp fun {y' d} w _ _ => w
    · intro y' hy' d hd nd' _ _
      rw [tl] at hy'
      exact need_init nd (by rw [eN]; exact List.mem_cons_of_mem _ hy') (pm.mem_iff.mp hd) nd'
theorem AM.add {rk rk' : Nat → Int} {a a' : Nat → Nat} {k x : Nat} {M S : List Nat} (h : AM rk a k M S) (pm : S.Perm M) (hr : ∀ i ∈ M, rk' i = rk i) (ha : ∀ i ∈ M, a' i = a i) (hx : a' x = k) : AM rk' a' k (M ++ [x]) (S ++ [x]) := by
  refine ⟨fun i m => ?_, fun e => ?_⟩
  · rcases List.mem_append.mp m with m | m
    · rw [ha i m]
      exact h.ak i m
    · rw [List.mem_singleton.mp m, hx]
      exact Nat.le_refl _
  · have hj : k / 2 ^ e * 2 ^ e ≤ k := Nat.div_mul_le_self _ _
    have pe : ∀ i ∈ M, ∀ d ∈ M, (Pre rk' i d ↔ Pre rk i d) := fun i mi d md => by
      unfold Pre
      rw [hr i mi, hr d md]
    refine List.pairwise_append.mpr ⟨?_, List.pairwise_singleton _ _, fun d _ y hy hl _ => ?_⟩
    · refine List.Pairwise.imp_of_mem (fun {d y} md my w hl hd => ?_) (h.od e)
      have md := pm.mem_iff.mp md
      have my := pm.mem_iff.mp my
      rw [ha y my] at hl
      rw [ha d md] at hd
      refine (pe y my d md).mpr (w hl ?_)
      rcases hd with hd | hd
      · exact .inl hd
      · refine .inr (Nat.lt_of_le_of_lt (Nat.le_of_eq ?_) hd)
        unfold cntP
        rw [List.filter_append, List.length_append, List.filter_cons_of_neg (by rw [decide_eq_true_iff]; intro w; omega), List.filter_nil, List.length_nil, Nat.add_zero]
        congr 1
        refine List.filter_congr fun i mi => ?_
        rw [ha i mi]
        exact decide_eq_decide.mpr (and_congr_right fun _ => (pe i mi d md).symm)
    · rw [List.mem_singleton.mp hy, hx] at hl
      omega
/-! ### what members may still cost -/
def chg (e a : Nat) : Nat := a / 2 ^ (e + 1) * 2 ^ (e + 1) + 2 ^ e
def pot (W k a : Nat) : Nat := ((List.range W).filter fun e => decide (k < chg e a)).length
theorem pot_le {W k a : Nat} : pot W k a ≤ W := by
  unfold pot
  have := List.length_filter_le (fun e => decide (k < chg e a)) (List.range W)
  rwa [List.length_range] at this
theorem pot_sub {W k a : Nat} : pot W (k + 1) a = (((List.range W).filter fun e => decide (k < chg e a)).filter fun e => decide (k + 1 < chg e a)).length := by
  unfold pot
  rw [List.filter_filter]
  congr 1
  refine List.filter_congr fun e _ => ?_
  rw [← Bool.decide_and]
  exact decide_eq_decide.mpr ⟨fun z => ⟨z, Nat.lt_of_succ_lt z⟩, fun z => z.1⟩
theorem pot_mono {W k a : Nat} : pot W (k + 1) a ≤ pot W k a := by
  rw [pot_sub]
  exact List.length_filter_le _ _
theorem pot_dec {W k a e q : Nat} (hW : e < W) (hk : k + 1 = q * 2 ^ (e + 1) + 2 ^ e) (h1 : q * 2 ^ (e + 1) ≤ a) (h2 : a ≤ k) : pot W (k + 1) a + 1 ≤ pot W k a := by
  have hp := Nat.two_pow_pos e
  have e2 : 2 ^ (e + 1) = 2 * 2 ^ e := by rw [Nat.pow_succ, Nat.mul_comm]
  have hc : chg e a = k + 1 := by
    unfold chg
    rw [(dm_of (n := a) (b := 2 ^ (e + 1)) (q := q) (r := a - q * 2 ^ (e + 1)) (by omega) (by omega)).1, hk]
  rw [pot_sub]
  exact List.length_filter_lt_length_iff_exists.mpr ⟨e, List.mem_filter.mpr ⟨List.mem_range.mpr hW, decide_eq_true (by omega)⟩, fun z => by
    have := of_decide_eq_true z
    omega⟩
def psum (W k : Nat) (a : Nat → Nat) : List Nat → Nat
  | [] => 0
  | x :: l => pot W k (a x) + psum W k a l
theorem psum_app {W k : Nat} {a : Nat → Nat} : ∀ {A B : List Nat}, psum W k a (A ++ B) = psum W k a A + psum W k a B
  | [], B => (Nat.zero_add _).symm
  | x :: A, B => by
    show pot W k (a x) + psum W k a (A ++ B) = pot W k (a x) + psum W k a A + psum W k a B
    rw [psum_app (A := A), Nat.add_assoc]
theorem psum_perm {W k : Nat} {a : Nat → Nat} {A B : List Nat} (h : A.Perm B) : psum W k a A = psum W k a B := by
  induction h with
  | nil => rfl
  | cons x _ ih => exact congrArg (pot W k (a x) + ·) ih
  | swap x y l =>
    show pot W k (a y) + (pot W k (a x) + psum W k a l) = pot W k (a x) + (pot W k (a y) + psum W k a l)
    omega
  | trans _ _ h1 h2 => exact h1.trans h2
theorem psum_mono {W k : Nat} {a : Nat → Nat} : ∀ {A : List Nat}, psum W (k + 1) a A ≤ psum W k a A
  | [] => Nat.le_refl _
  | x :: A => Nat.add_le_add pot_mono psum_mono
theorem psum_dec {W k : Nat} {a : Nat → Nat} : ∀ {A : List Nat}, (∀ x ∈ A, pot W (k + 1) (a x) + 1 ≤ pot W k (a x)) → psum W (k + 1) a A + A.length ≤ psum W k a A
  | [], _ => Nat.le_refl _
  | x :: A, h => by
    have h1 := h x List.mem_cons_self
    have h2 := psum_dec (A := A) fun y m => h y (List.mem_cons_of_mem _ m)
    show pot W (k + 1) (a x) + psum W (k + 1) a A + (A.length + 1) ≤ pot W k (a x) + psum W k a A
    omega
theorem psum_congr {W k : Nat} {a a' : Nat → Nat} : ∀ {A : List Nat}, (∀ x ∈ A, a' x = a x) → psum W k a' A = psum W k a A
  | [], _ => rfl
  | x :: A, h => by
    show pot W k (a' x) + psum W k a' A = pot W k (a x) + psum W k a A
    rw [h x List.mem_cons_self, psum_congr fun y m => h y (List.mem_cons_of_mem _ m)]
theorem tot_sup : ∀ (n x y : Nat), x + y = n → tot x + tot y ≤ tot (x + y) := by
  intro n
  induction n using Nat.strongRecOn with
  | ind n ih =>
    intro x y hn
    by_cases h0 : n = 0
    · have h1 : x = 0 := by omega
      have h2 : y = 0 := by omega
      subst h1 h2
      rw [tot_zero]
      exact Nat.le_refl _
    · rw [tot_all x, tot_all y, tot_all (x + y)]
      have h1 := ih (x / 2 + y / 2) (by omega) (x / 2) (y / 2) rfl
      by_cases c : x % 2 = 1 ∧ y % 2 = 1
      · have e : (x + y) / 2 = x / 2 + y / 2 + 1 := by omega
        have h2 := tot_succ (x / 2 + y / 2)
        have h3 := low_pos (n := x / 2 + y / 2 + 1) (by omega)
        rw [e]
        omega
      · have e : (x + y) / 2 = x / 2 + y / 2 := by omega
        rw [e]
        omega
/-- so many additions, removals and pops -/
structure Bd (rk : Nat → Int) (a : Nat → Nat) (k : Nat) (M S : List Nat) (A R P : Nat) : Prop where
  am : AM rk a k M S
  bd : ∃ B0 R0 O, R = R0 + k ∧ P ≤ B0 + tot k + O ∧ B0 ≤ tot R0 ∧ ∀ W, R < 2 ^ W → O + psum W k a S ≤ W * A
theorem Bd.nil {rk : Nat → Int} {a : Nat → Nat} : Bd rk a 0 [] [] 0 0 0 := ⟨AM.nil, 0, 0, 0, rfl, Nat.zero_le _, Nat.zero_le _, fun W _ => by
  show 0 + 0 ≤ _
  omega⟩
theorem Bd.add {rk rk' : Nat → Int} {a a' : Nat → Nat} {k x A R P : Nat} {M S : List Nat} (h : Bd rk a k M S A R P) (pm : S.Perm M) (hr : ∀ i ∈ M, rk' i = rk i) (ha : ∀ i ∈ M, a' i = a i) (hx : a' x = k) : Bd rk' a' k (M ++ [x]) (S ++ [x]) (A + 1) R P := by
  obtain ⟨B0, R0, O, h1, h2, h3, h4⟩ := h.bd
  refine ⟨h.am.add pm hr ha hx, B0, R0, O, h1, h2, h3, fun W hW => ?_⟩
  have h5 := h4 W hW
  rw [psum_app, psum_congr fun i m => ha i (pm.mem_iff.mp m), Nat.mul_add, Nat.mul_one]
  have h6 : psum W k a' [x] ≤ W := by
    show pot W k (a' x) + 0 ≤ W
    exact pot_le
  omega
theorem Bd.rem {rk : Nat → Int} {a : Nat → Nat} {k y A R P : Nat} {L M S : List Nat} (h : Bd rk a k M S A R P) (nd : M.Nodup) (pm : S.Perm M) (hy : precN rk M = y :: L) : Bd rk a (if (M.filter fun i => decide (i ≠ y)) = [] then 0 else k + 1) (M.filter fun i => decide (i ≠ y)) (lowN (needN rk k M) S ++ backN (needN rk k M) S) A (R + 1) (P + (popN (needN rk k M) S).length) := by
  obtain ⟨B0, R0, O, h1, h2, h3, h4⟩ := h.bd
  have hyM : y ∈ M := (prec_perm (rk := rk) (M := M)).mem_iff.mp (by rw [hy]; exact List.mem_cons_self)
  have hne : M ≠ [] := fun w => by rw [w] at hyM; cases hyM
  have am := h.am.rem nd pm hy
  have hS := pm.nodup_iff.mpr nd
  have hpp := pop_perm hS (need_nd (rk := rk) (rem := k) nd) fun i z => pm.mem_iff.mpr (need_sub i z)
  have hpl := hpp.length_eq
  rw [List.length_append] at hpl
  have hN : (needN rk k M).length ≤ low (k + 1) := List.length_take_le _ _
  have ht := tot_succ k
  -- the potential
  obtain ⟨e, hl, he, hg⟩ := low_spec (k + 1) (by omega)
  obtain ⟨q, hk⟩ := low_at he hg
  have hlate := h.am.late nd pm hl hk
  have pot1 : ∀ W, R + 1 < 2 ^ W → psum W (k + 1) a (lowN (needN rk k M) S ++ backN (needN rk k M) S) + ((popN (needN rk k M) S).filter fun i => decide (i ∉ needN rk k M)).length ≤ psum W k a S := fun W hW => by
    have eS : psum W k a S = psum W k a (lowN (needN rk k M) S) + (psum W k a (needN rk k M) + psum W k a ((popN (needN rk k M) S).filter fun i => decide (i ∉ needN rk k M))) := by
      conv => lhs; rw [pop_split (N := needN rk k M) (S := S)]
      rw [psum_app, psum_perm hpp, psum_app]
    have heW : e < W := by
      refine Nat.lt_of_not_le fun w => ?_
      have := Nat.pow_le_pow_right (n := 2) (by decide) w
      omega
    have o1 := psum_dec (W := W) (k := k) (a := a) (A := (popN (needN rk k M) S).filter fun i => decide (i ∉ needN rk k M)) fun x m => by
      obtain ⟨m1, m2⟩ := List.mem_filter.mp m
      exact pot_dec heW hk (hlate x m1 (of_decide_eq_true m2)) (h.am.ak x (pm.mem_iff.mp (pop_sub x m1)))
    have o2 := psum_mono (W := W) (k := k) (a := a) (A := lowN (needN rk k M) S)
    have o3 := psum_mono (W := W) (k := k) (a := a) (A := (needN rk k M).drop 1)
    have o4 : psum W k a ((needN rk k M).drop 1) ≤ psum W k a (needN rk k M) := by
      cases needN rk k M with
      | nil => exact Nat.le_refl _
      | cons z N1 => exact Nat.le_add_left _ _
    unfold backN
    rw [psum_app, psum_app, psum_perm (List.reverse_perm ((needN rk k M).drop 1)), eS]
    omega
  by_cases hM : (M.filter fun i => decide (i ≠ y)) = []
  · rw [if_pos hM]
    have hS2 : lowN (needN rk k M) S ++ backN (needN rk k M) S = [] := by
      obtain ⟨_, rn, rp⟩ := plan_run (rk := rk) (rem := k) nd pm hne
      have := rp y (by rw [hy]; rfl)
      rw [hM, rn] at this
      exact List.perm_nil.mp this
    have hts := tot_sup (R0 + (k + 1)) R0 (k + 1) rfl
    refine ⟨by rw [hM, hS2]; exact AM.nil, B0 + tot (k + 1), R0 + (k + 1), O + ((popN (needN rk k M) S).filter fun i => decide (i ∉ needN rk k M)).length, by omega, by rw [tot_zero]; omega, by omega, fun W hW => ?_⟩
    have h5 := h4 W (by omega)
    have h6 := pot1 W hW
    rw [hS2] at h6 ⊢
    have z1 : psum W (k + 1) a [] = 0 := rfl
    have z2 : psum W 0 a [] = 0 := rfl
    omega
  · rw [if_neg hM]
    refine ⟨am, B0, R0, O + ((popN (needN rk k M) S).filter fun i => decide (i ∉ needN rk k M)).length, by omega, by omega, h3, fun W hW => ?_⟩
    have h5 := h4 W (by omega)
    have h6 := pot1 W hW
    omega
/-- the bound -/
theorem Bd.le {rk : Nat → Int} {a : Nat → Nat} {k A R P : Nat} {M S : List Nat} (h : Bd rk a k M S A R P) : P ≤ tot R + (R.log2 + 1) * A := by
  obtain ⟨B0, R0, O, h1, h2, h3, h4⟩ := h.bd
  have h5 := h4 (R.log2 + 1) Nat.lt_log2_self
  have h6 := tot_sup (R0 + k) R0 k rfl
  rw [h1] at h5 ⊢
  omega
theorem Bd.none {rk : Nat → Int} {a : Nat → Nat} {k A P : Nat} {M S : List Nat} (h : Bd rk a k M S A 0 P) : P = 0 := by
  obtain ⟨B0, R0, O, h1, h2, h3, h4⟩ := h.bd
  have h5 := h4 0 (by decide)
  have e1 : R0 = 0 := by omega
  have e2 : k = 0 := by omega
  rw [e1, tot_zero] at h3
  rw [e2, tot_zero] at h2
  rw [Nat.zero_mul] at h5
  omega
end Ob

set_option Elab.async false
set_option linter.all false
set_option maxRecDepth 100000
set_option maxHeartbeats 1000000
namespace Ob
open PySem PySem.Spec PyProof.Rows L2
open LamX (Tabs TabB TabS ExtN)

set_option hygiene false in
local macro_rules
  | `(tactic| kp_flats) => `(tactic| first
    | assumption
    | exact upd_same
    | (apply atNew; assumption; kp_flats)
    | (apply atNe; (next => kbo_bools); kp_flats)
    | (apply atSame; assumption; kp_flats)
    | (apply atKp; assumption; (next => kaf_pre); kp_flats))
set_option hygiene false in
local macro_rules
  | `(tactic| kaf_pre) => `(tactic| first
    | assumption
    | exact not_nil
    | (apply not_cons; (next => kbo_bools); kaf_pre)
    | (apply not_app; (next => kaf_pre); kaf_pre))
set_option hygiene false in
local macro_rules
  | `(tactic| kbo_bools) => `(tactic| first
    | assumption
    | (apply Ne.symm; assumption)
    | (apply neN; assumption; kp_flats)
    | (apply neN'; assumption; kp_flats))
set_option hygiene false in
local macro_rules
  | `(tactic| o_reads) => `(tactic| first
    | with_reducible rfl
    | assumption
    | rfl
    | kp_flats
    | (show SqL _ _ _ _; first | assumption | (apply sqlOf; kp_flats) | (apply sqlSame; assumption; o_reads))
    | (show SqT _ _ _ _; first | assumption | (apply sqtOf; kp_flats) | (apply sqtAll; assumption) | (apply sqtSame; assumption; o_reads))
    | (show Cls _ _; first | exact T.cl_Calls | exact T.cl_Outer | exact T.cl_Ranked | exact T.cl_Unions)
    | (show NoAttr _ _ _; first | exact T.n_Calls_entries | exact T.n_Calls_running | exact T.n_Outer_calls | exact T.n_Outer_push_call | exact T.n_Outer_pop_call | exact T.n_Outer_ask_call | exact T.n_Outer_order | exact T.n_Outer_broken | exact T.n_Ranked_outer | exact T.n_Ranked_given | exact T.n_Ranked_held | exact T.n_Ranked_ranks | exact T.n_Ranked_removals | exact T.n_Unions_groups | exact T.n_Unions_parents | exact T.n_Unions_counts | exact T.n_Unions_moved)
    | (apply Or.inl; o_reads)
    | (apply Or.inr; o_reads)
    | (apply And.intro; (next => o_reads); o_reads)
    | (apply Exists.intro; o_reads)
    | exact Nat.le_of_ble_eq_true rfl
    | exact Nat.succ_ne_zero _
    | (show Fr _ _; kba_ints)
    | (show Same _ _; kd_subs)
    | (show Kp _ _ _; kxs_still)
    | (show (_ : Nat) ≤ _; simp only [List.length_append, List.length_map, List.length_cons, List.length_nil, List.length_take, List.length_drop, List.length_replicate, List.length_range, sizeLine_eq]; omega)
    | (show _ = none; apply Fr.h; kba_ints)
    | (show Bag _ _; first | assumption | (apply bag_putF; assumption; o_reads) | (apply bag_neF; (next => kbo_bools); o_reads) | (apply bag_kpR; assumption; (next => kaf_pre); o_reads))
    | omega
    | decide)
local macro_rules
  | `(tactic| o_readsAll) => `(tactic| repeat (first
    | (refine fun (pNew : Addr) (nNew : _ = none) => ?_; replace nNew := Fr.mk nNew)
    | (refine fun (xNew dNew : Addr) (nNew : _ = none) (mNew : _ = none) (eNew : dNew ≠ xNew) => ?_; replace nNew := Fr.mk nNew; replace mNew := Fr.mk mNew)
    | (apply And.intro; next => o_reads)
    | apply Exists.intro (α := V)
    | apply Exists.intro (α := Addr)
    | apply Exists.intro (α := Int)
    | apply Exists.intro (α := Bool)
    | apply Exists.intro (α := List V)
    | apply Exists.intro (α := List Nat)
    | apply Exists.intro (α := List (Str × V))
    | apply Exists.intro (α := List _)
    | apply Exists.intro (α := Str)
    | apply Exists.intro (α := HO)
    | apply Exists.intro (α := Sp)
    | apply Exists.intro (α := VK)))
set_option hygiene false in
local macro_rules
  | `(tactic| kba_ints) => `(tactic| first
    | assumption
    | (apply frUp; (first | assumption | (apply Ne.symm; assumption)); kba_ints)
    | (apply noneOf; assumption; intro oF eF; apply Exists.intro; kp_flats)
    | (apply frUp; (next => kbo_bools); kba_ints))
set_option hygiene false in
local macro_rules
  | `(tactic| kxs_still) => `(tactic| first
    | assumption
    | exact kp_refl _ _
    | (apply kp_newF; assumption; kxs_still)
    | (apply kp_new; assumption; kxs_still)
    | (apply kp_up; (next => o_fieldsN); kxs_still)
    | (apply kp_new; (next => kba_ints); kxs_still)
    | (apply kp_sameR; assumption; kxs_still)
    | (apply kp_transR; assumption; kxs_still)
    | (apply kp_freshR; assumption; (next => kaf_suf); kxs_still))
set_option hygiene false in
local macro_rules
  | `(tactic| kaf_suf) => `(tactic| first
    | assumption
    | exact subNil
    | (apply subCons; (first | (apply Or.inl; o_fieldsN) | (apply Or.inr; kba_ints)); kaf_suf)
    | (apply subApp; (next => kaf_suf); kaf_suf))
set_option hygiene false in
local macro_rules
  | `(tactic| o_fieldsN) => `(tactic| first
    | assumption
    | exact memA
    | (apply memB; o_fieldsN)
    | (apply memL; o_fieldsN)
    | (apply memR; o_fieldsN))
set_option hygiene false in
local macro_rules
  | `(tactic| kd_subs) => `(tactic| first
    | assumption
    | exact Same.refl _
    | (apply same_putF; assumption; kd_subs)
    | (apply same_putG; assumption; kd_subs)
    | (apply same_putF; (next => kba_ints); kd_subs)
    | (apply same_transR; assumption; kd_subs))

namespace Un
/-! ### connected components -/
theorem app_ind {α : Type} {P : List α → Prop} (h0 : P []) (hs : ∀ l x, P l → P (l ++ [x])) (l : List α) : P l := by
  have : ∀ r : List α, P r.reverse := by
    intro r
    induction r with
    | nil => exact h0
    | cons x r ih =>
      rw [List.reverse_cons]
      exact hs _ _ ih
  have h := this l.reverse
  rwa [List.reverse_reverse] at h
theorem nd_le {α : Type} [DecidableEq α] : ∀ {a b : List α}, a.Nodup → (∀ x ∈ a, x ∈ b) → a.length ≤ b.length
  | [], _, _, _ => Nat.zero_le _
  | x :: a, b, h, s => by
    obtain ⟨h1, h2⟩ := List.nodup_cons.mp h
    have hx := s x (List.mem_cons_self ..)
    have i := nd_le (b := b.erase x) h2 fun y hy => (List.mem_erase_of_ne (fun e => h1 (by rw [← e]; exact hy))).mpr (s y (List.mem_cons_of_mem _ hy))
    rw [List.length_erase_of_mem hx] at i
    have := List.length_pos_of_mem hx
    rw [List.length_cons]
    omega
/-- connected by pairs -/
inductive Cn (ps : List (Nat × Nat)) (x : Nat) : Nat → Prop where
  | refl : Cn ps x x
  | fwd {a b : Nat} (h : Cn ps x a) (m : (a, b) ∈ ps) : Cn ps x b
  | bwd {a b : Nat} (h : Cn ps x b) (m : (a, b) ∈ ps) : Cn ps x a
theorem Cn.trans {ps : List (Nat × Nat)} {x y z : Nat} (h : Cn ps x y) (k : Cn ps y z) : Cn ps x z := by
  induction k with
  | refl => exact h
  | fwd _ m ih => exact .fwd ih m
  | bwd _ m ih => exact .bwd ih m
theorem Cn.symm {ps : List (Nat × Nat)} {x y : Nat} (h : Cn ps x y) : Cn ps y x := by
  induction h with
  | refl => exact .refl
  | fwd _ m ih => exact Cn.trans (.bwd .refl m) ih
  | bwd _ m ih => exact Cn.trans (.fwd .refl m) ih
theorem Cn.more {ps qs : List (Nat × Nat)} {x y : Nat} (s : ∀ p ∈ ps, p ∈ qs) (h : Cn ps x y) : Cn qs x y := by
  induction h with
  | refl => exact .refl
  | fwd _ m ih => exact .fwd ih (s _ m)
  | bwd _ m ih => exact .bwd ih (s _ m)
/-- the root of a point after the links (lower, upper) -/
def rootF (x : Nat) (L : List (Nat × Nat)) : Nat := L.foldl (fun r p => if r = p.1 then p.2 else r) x
theorem root_app (x : Nat) (L : List (Nat × Nat)) (p : Nat × Nat) : rootF x (L ++ [p]) = if rootF x L = p.1 then p.2 else rootF x L := by
  unfold rootF
  rw [List.foldl_append]
  rfl
/-- how many points stand below -/
def subF (L : List (Nat × Nat)) : Nat → Nat := L.foldl (fun s p => fun x => if x = p.2 then s p.2 + s p.1 else s x) (fun _ => 1)
theorem sub_app (L : List (Nat × Nat)) (p : Nat × Nat) (x : Nat) : subF (L ++ [p]) x = if x = p.2 then subF L p.2 + subF L p.1 else subF L x := by
  unfold subF
  rw [List.foldl_append]
  rfl
def depF (x : Nat) (L : List (Nat × Nat)) : Nat := (L.foldl (fun (q : Nat × Nat) p => if q.1 = p.1 then (p.2, q.2 + 1) else q) (x, 0)).2
theorem dep_fst (x : Nat) (L : List (Nat × Nat)) : (L.foldl (fun (q : Nat × Nat) p => if q.1 = p.1 then (p.2, q.2 + 1) else q) (x, 0)).1 = rootF x L := by
  refine app_ind (P := fun L => (L.foldl (fun (q : Nat × Nat) p => if q.1 = p.1 then (p.2, q.2 + 1) else q) (x, 0)).1 = rootF x L) rfl (fun l p ih => ?_) L
  rw [root_app, List.foldl_append, ← ih]
  show (if _ = p.1 then _ else _ : Nat × Nat).1 = _
  split
  · rfl
  · rfl
theorem dep_app (x : Nat) (L : List (Nat × Nat)) (p : Nat × Nat) : depF x (L ++ [p]) = if rootF x L = p.1 then depF x L + 1 else depF x L := by
  rw [← dep_fst]
  unfold depF
  rw [List.foldl_append]
  show (if _ = p.1 then _ else _ : Nat × Nat).2 = _
  split
  · rfl
  · rfl
/-- links of roots -/
inductive OkL (W : Nat) : List (Nat × Nat) → Prop where
  | nil : OkL W []
  | add {L : List (Nat × Nat)} {lo up : Nat} (h : OkL W L) (h1 : rootF lo L = lo) (h2 : rootF up L = up) (ne : lo ≠ up) (l1 : lo < W) (l2 : up < W) : OkL W (L ++ [(lo, up)])
theorem root_lt {W : Nat} {L : List (Nat × Nat)} (h : OkL W L) {x : Nat} (hx : x < W) : rootF x L < W := by
  induction h with
  | nil => exact hx
  | add _ _ _ _ _ l2 ih =>
    rw [root_app]
    split
    · exact l2
    · exact ih
theorem root_root {W : Nat} {L : List (Nat × Nat)} (h : OkL W L) (x : Nat) : rootF (rootF x L) L = rootF x L := by
  induction h with
  | nil => rfl
  | add h h1 h2 ne l1 l2 ih =>
    rename_i L lo up
    rw [root_app x]
    by_cases e : rootF x L = lo
    · rw [if_pos e, root_app, h2, if_neg fun z => ne z.symm]
    · rw [if_neg e, root_app, ih, if_neg e]
/-- the parent, as it is written down -/
def parL (L : List (Nat × Nat)) (x : Nat) : Option Nat := (L.find? fun p => p.1 == x).map (·.2)
theorem par_app (L : List (Nat × Nat)) (p : Nat × Nat) (x : Nat) : parL (L ++ [p]) x = match parL L x with
  | some u => some u
  | none => if p.1 = x then some p.2 else none := by
  unfold parL
  rw [List.find?_append]
  cases L.find? fun p => p.1 == x with
  | some q => rfl
  | none =>
    show ([p].find? fun p => p.1 == x).map (·.2) = if p.1 = x then some p.2 else none
    by_cases e : p.1 = x
    · rw [List.find?_cons_of_pos (p := fun q : Nat × Nat => q.1 == x) (beq_iff_eq.mpr e), if_pos e]
      rfl
    · rw [List.find?_cons_of_neg (p := fun q : Nat × Nat => q.1 == x) (by simpa using e), if_neg e]
      rfl
theorem par_none {W : Nat} {L : List (Nat × Nat)} (h : OkL W L) : ∀ x, parL L x = none ↔ rootF x L = x := by
  induction h with
  | nil => exact fun x => ⟨fun _ => rfl, fun _ => rfl⟩
  | add h h1 h2 ne l1 l2 ih =>
    rename_i L lo up
    intro x
    rw [par_app, root_app]
    cases hp : parL L x with
    | some u =>
      have hx : rootF x L ≠ x := fun z => by
        rw [(ih x).mpr z] at hp
        cases hp
      constructor
      · intro z
        cases z
      · intro z
        by_cases e : rootF x L = lo
        · rw [if_pos e] at z
          rw [← z, h2] at e
          exact absurd e.symm ne
        · rw [if_neg e] at z
          exact absurd z hx
    | none =>
      have hx := (ih x).mp hp
      show (if lo = x then some up else none) = none ↔ _
      by_cases e : lo = x
      · rw [if_pos e, hx, if_pos e.symm]
        constructor
        · intro z
          cases z
        · intro z
          exact absurd (e.trans z.symm) ne
      · rw [if_neg e, hx, if_neg fun z => e z.symm]
        exact ⟨fun _ => rfl, fun _ => rfl⟩
theorem par_some {W : Nat} {L : List (Nat × Nat)} (h : OkL W L) : ∀ {x u}, parL L x = some u → rootF x L = rootF u L ∧ depF x L = depF u L + 1 := by
  induction h with
  | nil => exact fun h => nomatch h
  | add h h1 h2 ne l1 l2 ih =>
    rename_i L lo up
    intro x u hp
    rw [par_app] at hp
    rw [root_app, root_app, dep_app, dep_app]
    cases hq : parL L x with
    | some v =>
      rw [hq] at hp
      cases hp
      obtain ⟨a, b⟩ := ih hq
      rw [a, b]
      refine ⟨rfl, ?_⟩
      split <;> rfl
    | none =>
      rw [hq] at hp
      replace hp : (if lo = x then some up else none) = some u := hp
      by_cases e : lo = x
      · rw [if_pos e] at hp
        cases hp
        subst e
        have hl := (par_none h lo).mp hq
        have d0 : ∀ {x}, rootF x L = x → depF x L = 0 → True := fun _ _ => trivial
        rw [h1, if_pos rfl, h2, if_neg (fun z => ne z.symm), if_pos rfl, if_neg (fun z => ne z.symm)]
        refine ⟨rfl, ?_⟩
        have dz : ∀ {L : List (Nat × Nat)}, OkL W L → ∀ {x}, rootF x L = x → depF x L = 0 := by
          intro L h
          induction h with
          | nil => exact fun _ => rfl
          | add h h1 h2 ne l1 l2 ih =>
            rename_i L lo up
            intro x hx
            rw [root_app] at hx
            rw [dep_app]
            by_cases e : rootF x L = lo
            · rw [if_pos e] at hx
              rw [← hx, h2] at e
              exact absurd e.symm ne
            · rw [if_neg e] at hx ⊢
              exact ih hx
        rw [dz h h1, dz h h2]
      · rw [if_neg e] at hp
        cases hp
/-- how many points have this root -/
def cntF (W : Nat) (L : List (Nat × Nat)) (r : Nat) : Nat := ((List.range W).filter fun y => rootF y L == r).length
theorem fil_or {α : Type} (p q : α → Bool) : ∀ (l : List α), (∀ x ∈ l, p x = true → q x = false) → (l.filter fun x => p x || q x).length = (l.filter p).length + (l.filter q).length
  | [], _ => rfl
  | x :: l, h => by
    have i := fil_or p q l fun y m => h y (List.mem_cons_of_mem _ m)
    have hx := h x (List.mem_cons_self ..)
    cases hp : p x with
    | true =>
      rw [List.filter_cons_of_pos (by simp [hp]), List.filter_cons_of_pos hp, List.filter_cons_of_neg (by simp [hx hp]), List.length_cons, List.length_cons, i]
      omega
    | false =>
      cases hq : q x with
      | true =>
        rw [List.filter_cons_of_pos (by simp [hp, hq]), List.filter_cons_of_neg (by simp [hp]), List.filter_cons_of_pos hq, List.length_cons, List.length_cons, i]
        omega
      | false => rw [List.filter_cons_of_neg (by simp [hp, hq]), List.filter_cons_of_neg (by simp [hp]), List.filter_cons_of_neg (by simp [hq]), i]
theorem fil_eq {α : Type} {p q : α → Bool} {l : List α} (h : ∀ x ∈ l, p x = q x) : l.filter p = l.filter q := List.filter_congr h
theorem sub_cnt {W : Nat} {L : List (Nat × Nat)} (h : OkL W L) : ∀ {r}, r < W → rootF r L = r → subF L r = cntF W L r := by
  induction h with
  | nil =>
    intro r hr _
    show 1 = ((List.range W).filter fun y => y == r).length
    have key : ∀ (n : Nat), r < n → ((List.range n).filter fun y => y == r).length = 1 := by
      intro n
      induction n with
      | zero => exact fun z => absurd z (Nat.not_lt_zero _)
      | succ n ih =>
        intro z
        rw [List.range_succ, List.filter_append, List.length_append]
        by_cases e : r < n
        · rw [ih e, List.filter_cons_of_neg (by simp; omega)]
          rfl
        · have : n = r := by omega
          subst this
          rw [List.filter_cons_of_pos (by simp)]
          have : (List.range n).filter (fun y => y == n) = [] := List.filter_eq_nil_iff.mpr fun y hy => by
            have := List.mem_range.mp hy
            simp
            omega
          rw [this]
          rfl
    exact (key W hr).symm
  | add h h1 h2 ne l1 l2 ih =>
    rename_i L lo up
    intro r hr hroot
    rw [sub_app]
    have hne : r ≠ lo := fun z => by
      rw [root_app, z, h1, if_pos rfl] at hroot
      exact ne hroot.symm
    have hrL : rootF r L = r := by
      rw [root_app] at hroot
      by_cases e : rootF r L = lo
      · rw [if_pos e] at hroot
        rw [← hroot, h2] at e
        exact absurd e.symm ne
      · rwa [if_neg e] at hroot
    by_cases e : r = up
    · subst e
      rw [if_pos rfl, ih l2 h2, ih l1 h1]
      show _ = ((List.range W).filter fun y => rootF y (L ++ [(lo, r)]) == r).length
      rw [show ((List.range W).filter fun y => rootF y (L ++ [(lo, r)]) == r) = (List.range W).filter fun y => (rootF y L == r) || (rootF y L == lo) from fil_eq fun y _ => by
        rw [root_app]
        by_cases z : rootF y L = lo
        · rw [if_pos z, z]
          simp
        · rw [if_neg z]
          simp [z]]
      exact (fil_or _ _ _ fun y _ z => by
        have := beq_iff_eq.mp z
        rw [this]
        simpa using fun w => ne w.symm).symm
    · rw [if_neg e, ih hr hrL]
      unfold cntF
      rw [fil_eq (q := fun y => rootF y (L ++ [(lo, up)]) == r) fun y _ => by
        rw [root_app]
        by_cases z : rootF y L = lo
        · rw [if_pos z, z]
          have a : (lo == r) = false := by simpa using fun w => hne w.symm
          have b : (up == r) = false := by simpa using fun w => e w.symm
          rw [a]
          exact b.symm
        · rw [if_neg z]]
/-- how many roots there are -/
theorem roots_len {W : Nat} {L : List (Nat × Nat)} (h : OkL W L) : ((List.range W).filter fun y => rootF y L == y).length + L.length = W := by
  induction h with
  | nil =>
    have e : ((List.range W).filter fun y => rootF y [] == y) = List.range W := List.filter_eq_self.mpr fun y _ => beq_iff_eq.mpr rfl
    rw [e, List.length_range]
    rfl
  | add h h1 h2 ne l1 l2 ih =>
    rename_i L lo up
    have e : ((List.range W).filter fun y => rootF y L == y) = (List.range W).filter fun y => (rootF y (L ++ [(lo, up)]) == y) || (y == lo) := fil_eq fun y _ => by
      rw [root_app]
      by_cases z : y = lo
      · subst z
        rw [h1]
        simp
      · by_cases w : rootF y L = lo
        · rw [if_pos w, w]
          have a : (lo == y) = false := by simpa using fun q => z q.symm
          have b : (up == y) = false := by
            simp
            intro q
            rw [← q, h2] at w
            exact ne w.symm
          have c : (y == lo) = false := by simpa using z
          rw [a, b, c]
          rfl
        · rw [if_neg w]
          have c : (y == lo) = false := by simpa using z
          rw [c, Bool.or_false]
    have e2 := fil_or (fun y => rootF y (L ++ [(lo, up)]) == y) (fun y => y == lo) (List.range W) fun y _ z => by
      have := beq_iff_eq.mp z
      simp
      intro w
      rw [w, root_app, h1, if_pos rfl] at this
      exact ne this.symm
    have e3 : ((List.range W).filter fun y => y == lo).length = 1 := by
      have := sub_cnt (OkL.nil (W := W)) l1 rfl
      exact this.symm
    rw [e, e2, e3] at ih
    rw [List.length_append]
    show _ + (L.length + 1) = W
    omega
/-! the links of pushed pairs -/
def linkOf (L : List (Nat × Nat)) (p : Nat × Nat) : Option (Nat × Nat) :=
  if rootF p.1 L = rootF p.2 L then none else if subF L (rootF p.1 L) < subF L (rootF p.2 L) then some (rootF p.1 L, rootF p.2 L) else some (rootF p.2 L, rootF p.1 L)
def stepL (L : List (Nat × Nat)) (p : Nat × Nat) : List (Nat × Nat) := match linkOf L p with
  | none => L
  | some q => L ++ [q]
def linksOf (ps : List (Nat × Nat)) : List (Nat × Nat) := ps.foldl stepL []
theorem links_app (ps : List (Nat × Nat)) (p : Nat × Nat) : linksOf (ps ++ [p]) = stepL (linksOf ps) p := by
  unfold linksOf
  rw [List.foldl_append]
  rfl
def movesF : List (Nat × Nat) → List (Nat × Nat) → List (Option Nat)
  | _, [] => []
  | L, p :: ps => (linkOf L p).map (·.1) :: movesF (stepL L p) ps
def movesOf (ps : List (Nat × Nat)) : List (Option Nat) := movesF [] ps
theorem moves_app (ps : List (Nat × Nat)) (p : Nat × Nat) : movesOf (ps ++ [p]) = movesOf ps ++ [(linkOf (linksOf ps) p).map (·.1)] := by
  have key : ∀ (ps L : List (Nat × Nat)), movesF L (ps ++ [p]) = movesF L ps ++ [(linkOf (ps.foldl stepL L) p).map (·.1)] := by
    intro ps
    induction ps with
    | nil => exact fun _ => rfl
    | cons q ps ih => exact fun L => congrArg _ (ih (stepL L q))
  exact key ps []
theorem moves_len (ps : List (Nat × Nat)) : (movesOf ps).length = ps.length := by
  refine app_ind (P := fun ps => (movesOf ps).length = ps.length) rfl (fun l x ih => ?_) ps
  rw [moves_app, List.length_append, List.length_append, ih]
  rfl
theorem links_len (ps : List (Nat × Nat)) : (linksOf ps).length ≤ ps.length := by
  refine app_ind (P := fun ps => (linksOf ps).length ≤ ps.length) (Nat.le_refl _) (fun l x ih => ?_) ps
  rw [links_app, List.length_append]
  unfold stepL
  cases linkOf (linksOf l) x with
  | none => exact Nat.le_succ_of_le ih
  | some q =>
    show (linksOf l ++ [q]).length ≤ _
    rw [List.length_append]
    exact Nat.succ_le_succ ih
def InW (W : Nat) (ps : List (Nat × Nat)) : Prop := ∀ p ∈ ps, p.1 < W ∧ p.2 < W
theorem InW.init {W : Nat} {ps : List (Nat × Nat)} {p : Nat × Nat} (h : InW W (ps ++ [p])) : InW W ps ∧ p.1 < W ∧ p.2 < W := ⟨fun q m => h q (List.mem_append.mpr (.inl m)), h p (List.mem_append.mpr (.inr (List.mem_singleton.mpr rfl)))⟩
theorem InW.add {W : Nat} {ps : List (Nat × Nat)} {p : Nat × Nat} (h : InW W ps) (h1 : p.1 < W) (h2 : p.2 < W) : InW W (ps ++ [p]) := fun q m => (List.mem_append.mp m).elim (h q) fun m => by rw [List.mem_singleton.mp m]; exact ⟨h1, h2⟩
theorem link_ok {W : Nat} {L : List (Nat × Nat)} (h : OkL W L) {p : Nat × Nat} (h1 : p.1 < W) (h2 : p.2 < W) {q : Nat × Nat} (e : linkOf L p = some q) : rootF q.1 L = q.1 ∧ rootF q.2 L = q.2 ∧ q.1 ≠ q.2 ∧ q.1 < W ∧ q.2 < W ∧ ((q.1 = rootF p.1 L ∧ q.2 = rootF p.2 L) ∨ (q.1 = rootF p.2 L ∧ q.2 = rootF p.1 L)) := by
  unfold linkOf at e
  by_cases c : rootF p.1 L = rootF p.2 L
  · rw [if_pos c] at e
    cases e
  · rw [if_neg c] at e
    split at e
    · cases e
      exact ⟨root_root h _, root_root h _, c, root_lt h h1, root_lt h h2, .inl ⟨rfl, rfl⟩⟩
    · cases e
      exact ⟨root_root h _, root_root h _, fun z => c z.symm, root_lt h h2, root_lt h h1, .inr ⟨rfl, rfl⟩⟩
theorem ok_links {W : Nat} (ps : List (Nat × Nat)) : InW W ps → OkL W (linksOf ps) := by
  refine app_ind (P := fun ps => InW W ps → OkL W (linksOf ps)) (fun _ => .nil) (fun l p ih h => ?_) ps
  obtain ⟨hl, h1, h2⟩ := h.init
  rw [links_app]
  unfold stepL
  cases e : linkOf (linksOf l) p with
  | none => exact ih hl
  | some q =>
    obtain ⟨a, b, c, d, f, _⟩ := link_ok (ih hl) h1 h2 e
    exact .add (ih hl) a b c d f
theorem link_none {L : List (Nat × Nat)} {p : Nat × Nat} : linkOf L p = none ↔ rootF p.1 L = rootF p.2 L := by
  unfold linkOf
  by_cases c : rootF p.1 L = rootF p.2 L
  · rw [if_pos c]
    exact ⟨fun _ => c, fun _ => rfl⟩
  · rw [if_neg c]
    constructor
    · intro z
      split at z <;> cases z
    · intro z
      exact absurd z c
theorem root_cn {W : Nat} (ps : List (Nat × Nat)) : InW W ps → ∀ x, Cn ps x (rootF x (linksOf ps)) := by
  refine app_ind (P := fun ps => InW W ps → ∀ x, Cn ps x (rootF x (linksOf ps))) (fun _ x => .refl) (fun l p ih h x => ?_) ps
  obtain ⟨hl, h1, h2⟩ := h.init
  have i : ∀ x, Cn (l ++ [p]) x (rootF x (linksOf l)) := fun x => (ih hl x).more fun q m => List.mem_append.mpr (.inl m)
  have hp : (p.1, p.2) ∈ l ++ [p] := List.mem_append.mpr (.inr (List.mem_singleton.mpr rfl))
  have hok := ok_links l hl
  rw [links_app]
  unfold stepL
  cases e : linkOf (linksOf l) p with
  | none => exact i x
  | some q =>
    obtain ⟨_, _, _, _, _, f⟩ := link_ok hok h1 h2 e
    show Cn (l ++ [p]) x (rootF x (linksOf l ++ [q]))
    rw [root_app]
    by_cases z : rootF x (linksOf l) = q.1
    · rw [if_pos z]
      have hx := i x
      rw [z] at hx
      rcases f with ⟨f1, f2⟩ | ⟨f1, f2⟩
      · rw [f2]
        rw [f1] at hx
        exact ((hx.trans (i p.1).symm).fwd hp).trans (i p.2)
      · rw [f2]
        rw [f1] at hx
        exact ((hx.trans (i p.2).symm).bwd hp).trans (i p.1)
    · rw [if_neg z]
      exact i x
theorem root_more {L : List (Nat × Nat)} {p : Nat × Nat} {x y : Nat} (h : rootF x L = rootF y L) : rootF x (stepL L p) = rootF y (stepL L p) := by
  unfold stepL
  cases linkOf L p with
  | none => exact h
  | some q =>
    show rootF x (L ++ [q]) = rootF y (L ++ [q])
    rw [root_app, root_app, h]
theorem root_edge {W : Nat} (ps : List (Nat × Nat)) : InW W ps → ∀ p ∈ ps, rootF p.1 (linksOf ps) = rootF p.2 (linksOf ps) := by
  refine app_ind (P := fun ps => InW W ps → ∀ p ∈ ps, rootF p.1 (linksOf ps) = rootF p.2 (linksOf ps)) (fun _ _ m => nomatch m) (fun l p ih h q m => ?_) ps
  obtain ⟨hl, h1, h2⟩ := h.init
  rw [links_app]
  rcases List.mem_append.mp m with m | m
  · exact root_more (ih hl q m)
  · rw [List.mem_singleton.mp m]
    have hok := ok_links l hl
    unfold stepL
    cases e : linkOf (linksOf l) p with
    | none => exact link_none.mp e
    | some r =>
      obtain ⟨a, b, c, _, _, f⟩ := link_ok hok h1 h2 e
      show rootF p.1 (linksOf l ++ [r]) = rootF p.2 (linksOf l ++ [r])
      rw [root_app, root_app]
      rcases f with ⟨f1, f2⟩ | ⟨f1, f2⟩
      · rw [← f1, ← f2, if_pos rfl, if_neg fun z => c z.symm]
      · rw [← f1, ← f2, if_pos rfl, if_neg fun z => c z.symm]
theorem root_iff {W : Nat} {ps : List (Nat × Nat)} (h : InW W ps) {x y : Nat} : rootF x (linksOf ps) = rootF y (linksOf ps) ↔ Cn ps x y := by
  constructor
  · intro e
    have := root_cn ps h x
    rw [e] at this
    exact this.trans (root_cn ps h y).symm
  · intro c
    induction c with
    | refl => rfl
    | fwd _ m ih => exact ih.trans (root_edge ps h _ m)
    | bwd _ m ih => exact ih.trans (root_edge ps h _ m).symm
theorem range_nd (n : Nat) : (List.range n).Nodup := List.nodup_range
theorem fil_nd {l : List Nat} {p : Nat → Bool} (h : l.Nodup) : (l.filter p).Nodup := h.filter p
theorem cn_lt {W : Nat} {ps : List (Nat × Nat)} (h : InW W ps) {x y : Nat} (hx : x < W) (c : Cn ps x y) : y < W := by
  induction c with
  | refl => exact hx
  | fwd _ m _ => exact (h _ m).2
  | bwd _ m _ => exact (h _ m).1
/-- a list of just the points that are connected with x -/
theorem size_of {W : Nat} {ps : List (Nat × Nat)} (h : InW W ps) {x : Nat} (hx : x < W) {F : List Nat} (nd : F.Nodup) (m : ∀ y, y ∈ F ↔ Cn ps x y) : subF (linksOf ps) (rootF x (linksOf ps)) = F.length := by
  have hok := ok_links ps h
  rw [sub_cnt hok (root_lt hok hx) (root_root hok x)]
  refine Nat.le_antisymm (nd_le (fil_nd (range_nd W)) fun y hy => ?_) (nd_le nd fun y hy => ?_)
  · obtain ⟨_, e⟩ := List.mem_filter.mp hy
    exact (m y).mpr ((root_iff h).mp (beq_iff_eq.mp e).symm)
  · have c := (m y).mp hy
    exact List.mem_filter.mpr ⟨List.mem_range.mpr (cn_lt h hx c), beq_iff_eq.mpr ((root_iff h).mpr c).symm⟩
/-- the least ones of the components are as many as the roots -/
theorem groups_of {W : Nat} {ps : List (Nat × Nat)} (h : InW W ps) {M : List Nat} (nd : M.Nodup) (m : ∀ y, y ∈ M ↔ y < W ∧ ∀ z, Cn ps y z → y ≤ z) : M.length + (linksOf ps).length = W := by
  have hok := ok_links ps h
  rw [← roots_len hok]
  congr 1
  have inj : ∀ {l : List Nat} {f : Nat → Nat}, (∀ a ∈ l, ∀ b ∈ l, f a = f b → a = b) → l.Nodup → (l.map f).Nodup := by
    intro l
    induction l with
    | nil => exact fun _ _ => List.nodup_nil
    | cons x l ih =>
      intro f hf h
      obtain ⟨h1, h2⟩ := List.nodup_cons.mp h
      refine List.nodup_cons.mpr ⟨fun q => ?_, ih (fun a ha b hb => hf a (List.mem_cons_of_mem _ ha) b (List.mem_cons_of_mem _ hb)) h2⟩
      obtain ⟨y, hy, e⟩ := List.mem_map.mp q
      rw [hf y (List.mem_cons_of_mem _ hy) x (List.mem_cons_self ..) e] at hy
      exact h1 hy
  refine Nat.le_antisymm ?_ ?_
  · have := nd_le (a := M.map fun y => rootF y (linksOf ps)) (b := (List.range W).filter fun y => rootF y (linksOf ps) == y) (inj (fun a ha b hb e => ?_) nd) (fun y hy => ?_)
    · rwa [List.length_map] at this
    · have c := (root_iff h).mp e
      have := ((m a).mp ha).2 b c
      have := ((m b).mp hb).2 a c.symm
      omega
    · obtain ⟨z, hz, rfl⟩ := List.mem_map.mp hy
      exact List.mem_filter.mpr ⟨List.mem_range.mpr (root_lt hok ((m z).mp hz).1), beq_iff_eq.mpr (root_root hok z)⟩
  · -- the least one of a component
    have least : ∀ r, r < W → ∃ y, y < W ∧ rootF y (linksOf ps) = rootF r (linksOf ps) ∧ ∀ z, rootF z (linksOf ps) = rootF r (linksOf ps) → y ≤ z := by
      intro r
      induction r using Nat.strongRecOn with
      | _ r ih =>
        intro hr
        by_cases c : ∃ z, z < r ∧ rootF z (linksOf ps) = rootF r (linksOf ps)
        · obtain ⟨z, hz, e⟩ := c
          obtain ⟨y, y1, y2, y3⟩ := ih z hz (by omega)
          exact ⟨y, y1, y2.trans e, fun w hw => y3 w (hw.trans e.symm)⟩
        · refine ⟨r, hr, rfl, fun z hz => ?_⟩
          refine Nat.le_of_not_lt fun lt => c ⟨z, lt, hz⟩
    have pick : ∀ r, ∃ y, r < W → y < W ∧ rootF y (linksOf ps) = rootF r (linksOf ps) ∧ ∀ z, rootF z (linksOf ps) = rootF r (linksOf ps) → y ≤ z := fun r => by
      by_cases hr : r < W
      · obtain ⟨y, hy⟩ := least r hr
        exact ⟨y, fun _ => hy⟩
      · exact ⟨0, fun z => absurd z hr⟩
    have := nd_le (a := ((List.range W).filter fun y => rootF y (linksOf ps) == y).map fun r => Classical.choose (pick r)) (b := M) (inj (fun a ha b hb e => ?_) (fil_nd (range_nd W))) (fun y hy => ?_)
    · rwa [List.length_map] at this
    · obtain ⟨a1, a2⟩ := List.mem_filter.mp ha
      obtain ⟨b1, b2⟩ := List.mem_filter.mp hb
      have sa := Classical.choose_spec (pick a) (List.mem_range.mp a1)
      have sb := Classical.choose_spec (pick b) (List.mem_range.mp b1)
      have e : Classical.choose (pick a) = Classical.choose (pick b) := e
      rw [e] at sa
      have := sa.2.1.symm.trans sb.2.1
      rw [beq_iff_eq.mp a2, beq_iff_eq.mp b2] at this
      exact this
    · obtain ⟨r, hr, rfl⟩ := List.mem_map.mp hy
      obtain ⟨a1, a2⟩ := List.mem_filter.mp hr
      have sa := Classical.choose_spec (pick r) (List.mem_range.mp a1)
      exact (m _).mpr ⟨sa.1, fun z c => sa.2.2 z (((root_iff h).mpr c).symm.trans sa.2.1)⟩

/-! ### the search -/
def Closed (ps : List (Nat × Nat)) (F : List Nat) : Prop := ∀ p ∈ ps, p.1 ∈ F ↔ p.2 ∈ F
def inB (F : List Nat) (p : Nat × Nat) : Bool := decide (p.1 ∈ F) && decide (p.2 ∈ F)
def openN (ps : List (Nat × Nat)) (F : List Nat) : Nat := (ps.filter fun p => !inB F p).length
theorem fil_le {α : Type} {p q : α → Bool} : ∀ {l : List α}, (∀ x ∈ l, p x = true → q x = true) → (l.filter p).length ≤ (l.filter q).length
  | [], _ => Nat.le_refl _
  | x :: l, h => by
    have i := fil_le (l := l) fun y m => h y (List.mem_cons_of_mem _ m)
    cases hp : p x with
    | true =>
      rw [List.filter_cons_of_pos hp, List.filter_cons_of_pos (h x (List.mem_cons_self ..) hp)]
      exact Nat.succ_le_succ i
    | false =>
      rw [List.filter_cons_of_neg (by simp [hp])]
      cases hq : q x with
      | true =>
        rw [List.filter_cons_of_pos hq]
        exact Nat.le_succ_of_le i
      | false =>
        rw [List.filter_cons_of_neg (by simp [hq])]
        exact i
theorem fil_lt {α : Type} {p q : α → Bool} : ∀ {l : List α}, (∀ x ∈ l, p x = true → q x = true) → (∃ x ∈ l, q x = true ∧ p x = false) → (l.filter p).length < (l.filter q).length
  | [], _, ⟨_, m, _⟩ => nomatch m
  | x :: l, h, ⟨y, m, e1, e2⟩ => by
    rcases List.mem_cons.mp m with rfl | m
    · rw [List.filter_cons_of_neg (by simp [e2]), List.filter_cons_of_pos e1]
      exact Nat.lt_succ_of_le (fil_le fun z m => h z (List.mem_cons_of_mem _ m))
    · have i := fil_lt (l := l) (fun z m => h z (List.mem_cons_of_mem _ m)) ⟨y, m, e1, e2⟩
      cases hp : p x with
      | true =>
        rw [List.filter_cons_of_pos hp, List.filter_cons_of_pos (h x (List.mem_cons_self ..) hp)]
        exact Nat.succ_lt_succ i
      | false =>
        rw [List.filter_cons_of_neg (by simp [hp])]
        cases hq : q x with
        | true =>
          rw [List.filter_cons_of_pos hq]
          exact Nat.lt_succ_of_lt i
        | false =>
          rw [List.filter_cons_of_neg (by simp [hq])]
          exact i
theorem inB_more {F : List Nat} {y : Nat} {p : Nat × Nat} (h : inB F p = true) : inB (F ++ [y]) p = true := by
  unfold inB at h ⊢
  rw [Bool.and_eq_true] at h ⊢
  exact ⟨decide_eq_true (List.mem_append.mpr (.inl (of_decide_eq_true h.1))), decide_eq_true (List.mem_append.mpr (.inl (of_decide_eq_true h.2)))⟩
theorem open_le (ps : List (Nat × Nat)) (F : List Nat) (y : Nat) : openN ps (F ++ [y]) ≤ openN ps F := fil_le fun p _ h => by
  cases e : inB F p with
  | false => rfl
  | true =>
    rw [inB_more e] at h
    cases h
theorem open_lt {ps : List (Nat × Nat)} {F : List Nat} {p : Nat × Nat} (hp : p ∈ ps) (h : ¬ (p.1 ∈ F ↔ p.2 ∈ F)) : openN ps (F ++ [if p.1 ∈ F then p.2 else p.1]) < openN ps F := fil_lt (fun q _ h => by
  cases e : inB F q with
  | false => rfl
  | true =>
    rw [inB_more e] at h
    cases h) ⟨p, hp, by
    have : inB F p = false := by
      cases e : inB F p with
      | false => rfl
      | true =>
        unfold inB at e
        rw [Bool.and_eq_true] at e
        exact absurd ⟨fun _ => of_decide_eq_true e.2, fun _ => of_decide_eq_true e.1⟩ h
    rw [this]
    refine ⟨rfl, ?_⟩
    have : inB (F ++ [if p.1 ∈ F then p.2 else p.1]) p = true := by
      unfold inB
      rw [Bool.and_eq_true]
      by_cases c : p.1 ∈ F
      · rw [if_pos c]
        exact ⟨decide_eq_true (List.mem_append.mpr (.inl c)), decide_eq_true (List.mem_append.mpr (.inr (List.mem_singleton.mpr rfl)))⟩
      · rw [if_neg c]
        refine ⟨decide_eq_true (List.mem_append.mpr (.inr (List.mem_singleton.mpr rfl))), decide_eq_true (List.mem_append.mpr (.inl ?_))⟩
        exact Decidable.byContradiction fun d => h ⟨fun z => absurd z c, fun z => absurd z d⟩
    rw [this]
    rfl⟩
theorem open_zero {ps : List (Nat × Nat)} {F : List Nat} (h : openN ps F = 0) : Closed ps F := fun p hp => by
  have e := List.length_eq_zero_iff.mp h
  have := List.filter_eq_nil_iff.mp e p hp
  have i : inB F p = true := by
    cases z : inB F p with
    | true => rfl
    | false =>
      rw [z] at this
      exact absurd rfl this
  unfold inB at i
  rw [Bool.and_eq_true] at i
  exact ⟨fun _ => of_decide_eq_true i.2, fun _ => of_decide_eq_true i.1⟩
theorem closed_all {ps : List (Nat × Nat)} {F : List Nat} {x y : Nat} (h : Closed ps F) (hx : x ∈ F) (c : Cn ps x y) : y ∈ F := by
  induction c with
  | refl => exact hx
  | fwd _ m ih => exact (h _ m).mp ih
  | bwd _ m ih => exact (h _ m).mpr ih
/-- what is found so far: each once, all connected -/
structure Fnd (ps : List (Nat × Nat)) (x : Nat) (F : List Nat) : Prop where
  nd : F.Nodup
  me : x ∈ F
  c : ∀ y ∈ F, Cn ps x y
theorem Fnd.one (ps : List (Nat × Nat)) (x : Nat) : Fnd ps x [x] := ⟨List.nodup_cons.mpr ⟨(fun z => nomatch z), List.nodup_nil⟩, List.mem_cons_self .., fun y m => by rw [List.mem_singleton.mp m]; exact .refl⟩
theorem Fnd.add {ps : List (Nat × Nat)} {x : Nat} {F : List Nat} (h : Fnd ps x F) {p : Nat × Nat} (hp : p ∈ ps) (n : ¬ (p.1 ∈ F ↔ p.2 ∈ F)) : Fnd ps x (F ++ [if p.1 ∈ F then p.2 else p.1]) := by
  have hp' : (p.1, p.2) ∈ ps := hp
  refine ⟨nd_snoc h.nd ?_, List.mem_append.mpr (.inl h.me), fun y m => (List.mem_append.mp m).elim (h.c y) fun m => ?_⟩
  · by_cases c : p.1 ∈ F
    · rw [if_pos c]
      exact fun z => n ⟨fun _ => z, fun _ => c⟩
    · rw [if_neg c]
      exact c
  · rw [List.mem_singleton.mp m]
    by_cases c : p.1 ∈ F
    · rw [if_pos c]
      exact .fwd (h.c _ c) hp'
    · rw [if_neg c]
      exact .bwd (h.c _ (Decidable.byContradiction fun d => n ⟨fun z => absurd z c, fun z => absurd z d⟩)) hp'
theorem Fnd.iff {ps : List (Nat × Nat)} {x : Nat} {F : List Nat} (h : Fnd ps x F) (k : Closed ps F) (y : Nat) : y ∈ F ↔ Cn ps x y := ⟨h.c y, closed_all k h.me⟩
theorem in_nat (x : Nat) : ∀ F : List Nat, inV (.int (x : Int)) (F.map fun k : Nat => V.int (k : Int)) = decide (x ∈ F)
  | [] => rfl
  | y :: F => by
    have i := in_nat x F
    unfold inV at i ⊢
    rw [List.map_cons, List.any_cons, i]
    have e : eqV (V.int (y : Int)) (V.int (x : Int)) = decide (y = x) := by
      show decide ((y : Int) = (x : Int)) = decide (y = x)
      by_cases z : y = x
      · rw [dT z, z, dT rfl]
      · rw [dF z, dF fun w => z (by omega)]
    rw [e]
    by_cases z : y = x
    · rw [dT z, dT (show x ∈ y :: F by rw [z]; exact List.mem_cons_self ..)]
      rfl
    · rw [dF z, Bool.false_or]
      by_cases m : x ∈ F
      · rw [dT m, dT (List.mem_cons_of_mem _ m)]
      · rw [dF m, dF fun w => (List.mem_cons.mp w).elim (fun q => z q.symm) m]
theorem flat_nats (F : List Nat) : (F.map fun k : Nat => V.int (k : Int)).all flatV = true := by
  rw [List.all_map]
  exact List.all_eq_true.mpr fun _ _ => rfl

end Un
end Ob

set_option Elab.async false
set_option linter.all false
set_option maxRecDepth 100000
set_option maxHeartbeats 1000000
namespace Ob
open PySem PySem.Spec PyProof.Rows L2
open LamX (Tabs TabB TabS ExtN)

set_option hygiene false in
local macro_rules
  | `(tactic| kp_flats) => `(tactic| first
    | assumption
    | exact upd_same
    | (apply atNew; assumption; kp_flats)
    | (apply atNe; (next => kbo_bools); kp_flats)
    | (apply atSame; assumption; kp_flats)
    | (apply atKp; assumption; (next => kaf_pre); kp_flats))
set_option hygiene false in
local macro_rules
  | `(tactic| kaf_pre) => `(tactic| first
    | assumption
    | exact not_nil
    | (apply not_cons; (next => kbo_bools); kaf_pre)
    | (apply not_app; (next => kaf_pre); kaf_pre))
set_option hygiene false in
local macro_rules
  | `(tactic| kbo_bools) => `(tactic| first
    | assumption
    | (apply Ne.symm; assumption)
    | (apply neN; assumption; kp_flats)
    | (apply neN'; assumption; kp_flats))
set_option hygiene false in
local macro_rules
  | `(tactic| o_reads) => `(tactic| first
    | with_reducible rfl
    | assumption
    | rfl
    | kp_flats
    | (show SqL _ _ _ _; first | assumption | (apply sqlOf; kp_flats) | (apply sqlSame; assumption; o_reads))
    | (show SqT _ _ _ _; first | assumption | (apply sqtOf; kp_flats) | (apply sqtAll; assumption) | (apply sqtSame; assumption; o_reads))
    | (show Cls _ _; first | exact T.cl_Calls | exact T.cl_Outer | exact T.cl_Ranked | exact T.cl_Unions)
    | (show NoAttr _ _ _; first | exact T.n_Calls_entries | exact T.n_Calls_running | exact T.n_Outer_calls | exact T.n_Outer_push_call | exact T.n_Outer_pop_call | exact T.n_Outer_ask_call | exact T.n_Outer_order | exact T.n_Outer_broken | exact T.n_Ranked_outer | exact T.n_Ranked_given | exact T.n_Ranked_held | exact T.n_Ranked_ranks | exact T.n_Ranked_removals | exact T.n_Unions_groups | exact T.n_Unions_parents | exact T.n_Unions_counts | exact T.n_Unions_moved)
    | (apply Or.inl; o_reads)
    | (apply Or.inr; o_reads)
    | (apply And.intro; (next => o_reads); o_reads)
    | (apply Exists.intro; o_reads)
    | exact Nat.le_of_ble_eq_true rfl
    | exact Nat.succ_ne_zero _
    | (show Fr _ _; kba_ints)
    | (show Same _ _; kd_subs)
    | (show Kp _ _ _; kxs_still)
    | (show (_ : Nat) ≤ _; simp only [List.length_append, List.length_map, List.length_cons, List.length_nil, List.length_take, List.length_drop, List.length_replicate, List.length_range, sizeLine_eq]; omega)
    | (show _ = none; apply Fr.h; kba_ints)
    | (show Bag _ _; first | assumption | (apply bag_putF; assumption; o_reads) | (apply bag_neF; (next => kbo_bools); o_reads) | (apply bag_kpR; assumption; (next => kaf_pre); o_reads))
    | omega
    | decide)
local macro_rules
  | `(tactic| o_readsAll) => `(tactic| repeat (first
    | (refine fun (pNew : Addr) (nNew : _ = none) => ?_; replace nNew := Fr.mk nNew)
    | (refine fun (xNew dNew : Addr) (nNew : _ = none) (mNew : _ = none) (eNew : dNew ≠ xNew) => ?_; replace nNew := Fr.mk nNew; replace mNew := Fr.mk mNew)
    | (apply And.intro; next => o_reads)
    | apply Exists.intro (α := V)
    | apply Exists.intro (α := Addr)
    | apply Exists.intro (α := Int)
    | apply Exists.intro (α := Bool)
    | apply Exists.intro (α := List V)
    | apply Exists.intro (α := List Nat)
    | apply Exists.intro (α := List (Str × V))
    | apply Exists.intro (α := List _)
    | apply Exists.intro (α := Str)
    | apply Exists.intro (α := HO)
    | apply Exists.intro (α := Sp)
    | apply Exists.intro (α := VK)))
set_option hygiene false in
local macro_rules
  | `(tactic| kba_ints) => `(tactic| first
    | assumption
    | (apply frUp; (first | assumption | (apply Ne.symm; assumption)); kba_ints)
    | (apply noneOf; assumption; intro oF eF; apply Exists.intro; kp_flats)
    | (apply frUp; (next => kbo_bools); kba_ints))
set_option hygiene false in
local macro_rules
  | `(tactic| kxs_still) => `(tactic| first
    | assumption
    | exact kp_refl _ _
    | (apply kp_newF; assumption; kxs_still)
    | (apply kp_new; assumption; kxs_still)
    | (apply kp_up; (next => o_fieldsN); kxs_still)
    | (apply kp_new; (next => kba_ints); kxs_still)
    | (apply kp_sameR; assumption; kxs_still)
    | (apply kp_transR; assumption; kxs_still)
    | (apply kp_freshR; assumption; (next => kaf_suf); kxs_still))
set_option hygiene false in
local macro_rules
  | `(tactic| kaf_suf) => `(tactic| first
    | assumption
    | exact subNil
    | (apply subCons; (first | (apply Or.inl; o_fieldsN) | (apply Or.inr; kba_ints)); kaf_suf)
    | (apply subApp; (next => kaf_suf); kaf_suf))
set_option hygiene false in
local macro_rules
  | `(tactic| o_fieldsN) => `(tactic| first
    | assumption
    | exact memA
    | (apply memB; o_fieldsN)
    | (apply memL; o_fieldsN)
    | (apply memR; o_fieldsN))
set_option hygiene false in
local macro_rules
  | `(tactic| kd_subs) => `(tactic| first
    | assumption
    | exact Same.refl _
    | (apply same_putF; assumption; kd_subs)
    | (apply same_putG; assumption; kd_subs)
    | (apply same_putF; (next => kba_ints); kd_subs)
    | (apply same_transR; assumption; kd_subs))

namespace Un
def nV (k : Nat) : V := .int (k : Int)
def kvL (L : List (Nat × Nat)) : List (Key × V) := L.map fun p : Nat × Nat => (Sum.inl (p.1 : Int), V.int (p.2 : Int))
theorem kvL_app (a b : List (Nat × Nat)) : kvL (a ++ b) = kvL a ++ kvL b := List.map_append ..
theorem kvL_val (x : Nat) : ∀ L : List (Nat × Nat), valV (kvL L) (Sum.inl (x : Int)) = (parL L x).map fun u : Nat => V.int (u : Int)
  | [] => rfl
  | p :: L => by
    show valV ((Sum.inl (p.1 : Int), V.int (p.2 : Int)) :: kvL L) _ = _
    unfold parL
    by_cases e : p.1 = x
    · rw [valV_pos (by rw [e]), List.find?_cons_of_pos (p := fun q : Nat × Nat => q.1 == x) (beq_iff_eq.mpr e)]
      rfl
    · rw [valV_neg (fun z => e (by injection z with z; omega)), List.find?_cons_of_neg (p := fun q : Nat × Nat => q.1 == x) (by simpa using e)]
      exact kvL_val x L
theorem kvL_key {x : Nat} : ∀ {L : List (Nat × Nat)}, parL L x = none → ¬ (Sum.inl (x : Int) : Key) ∈ (kvL L).map (·.1) := fun {L} h m => by
  obtain ⟨q, hq, e⟩ := List.mem_map.mp m
  obtain ⟨p, hp, rfl⟩ := List.mem_map.mp hq
  unfold parL at h
  rw [Option.map_eq_none_iff] at h
  have := List.find?_eq_none.mp h p hp
  injection e with e
  exact this (beq_iff_eq.mpr (by omega))
def mV : Option Nat → V
  | none => .non
  | some x => .int (x : Int)
structure CntOk (W : Nat) (L : List (Nat × Nat)) (cs : List (Key × V)) : Prop where
  v : ∀ x : Nat, (valV cs (Sum.inl (x : Int))).getD (.int 1) = .int (subF L x : Nat)
  nd : (cs.map (·.1)).Nodup
  k : ∀ k ∈ cs.map (·.1), ∃ x, x < W ∧ k = Sum.inl ((x : Nat) : Int)
theorem CntOk.len {W : Nat} {L : List (Nat × Nat)} {cs : List (Key × V)} (h : CntOk W L cs) : cs.length ≤ W := by
  have := nd_le (a := cs.map (·.1)) (b := (List.range W).map fun x : Nat => (Sum.inl (x : Int) : Key)) h.nd fun k m => by
    obtain ⟨x, hx, e⟩ := h.k k m
    exact List.mem_map.mpr ⟨x, List.mem_range.mpr hx, e.symm⟩
  rw [List.length_map, List.length_map, List.length_range] at this
  exact this
theorem keys_map (cs : List (Key × V)) (k : Key) (y : V) : (cs.map fun kv => if kv.1 = k then (kv.1, y) else kv).map (·.1) = cs.map (·.1) := by
  rw [List.map_map]
  refine List.map_congr_left fun p _ => ?_
  show (if p.1 = k then (p.1, y) else p).1 = p.1
  split <;> rfl
theorem CntOk.put {W : Nat} {L L' : List (Nat × Nat)} {cs : List (Key × V)} (h : CntOk W L cs) {x n : Nat} (hx : x < W) (hn : subF L' x = n) (ho : ∀ y, y ≠ x → subF L' y = subF L y) : CntOk W L' (putK cs (Sum.inl (x : Int)) (.int (n : Int))) := by
  refine ⟨fun y => ?_, ?_, ?_⟩
  · rw [valV_put]
    by_cases e : y = x
    · subst e
      rw [if_pos rfl, hn]
      rfl
    · rw [if_neg (fun z => e (by injection z with z; omega)), h.v, ho y e]
  · cases q : valV cs (Sum.inl (x : Int)) with
    | none => exact nd_putK _ h.nd q
    | some v =>
      unfold putK
      rw [valV_any, q, if_pos (show (some v).isSome = true from rfl), keys_map]
      exact h.nd
  · intro k m
    cases q : valV cs (Sum.inl (x : Int)) with
    | none =>
      rw [putK_new _ q, List.map_append] at m
      rcases List.mem_append.mp m with m | m
      · exact h.k k m
      · exact ⟨x, hx, List.mem_singleton.mp m⟩
    | some v =>
      unfold putK at m
      rw [valV_any, q, if_pos (show (some v).isSome = true from rfl), keys_map] at m
      exact h.k k m
structure UnAt (C : Addr) (H : Hp) (s dp dc m : Addr) (W : Nat) (ps : List (Nat × Nat)) : Prop where
  s : ∃ dx, H s = some (.ins C dx [("groups", .int ((W : Int) - ((linksOf ps).length : Nat))), ("parents", .ref dp), ("counts", .ref dc), ("moved", .ref m)])
  p : H dp = some (.dK (kvL (linksOf ps)))
  c : ∃ cs, H dc = some (.dK cs) ∧ CntOk W (linksOf ps) cs
  m : H m = some (.lst ((movesOf ps).map mV))
  w : InW W ps
  n : dp ≠ dc
theorem UnAt.kp {C s dp dc m : Addr} {H H1 : Hp} {W : Nat} {ps : List (Nat × Nat)} {cs : List Addr} (h : UnAt C H s dp dc m W ps) (k : Kp cs H H1) (n1 : s ∉ cs) (n2 : dp ∉ cs) (n3 : dc ∉ cs) (n4 : m ∉ cs) : UnAt C H1 s dp dc m W ps := by
  obtain ⟨⟨dx, e⟩, e2, ⟨c, e3, e4⟩, e5, e6, e7⟩ := h
  exact ⟨⟨dx, k.at_ _ _ e n1⟩, k.at_ _ _ e2 n2, ⟨c, k.at_ _ _ e3 n3, e4⟩, k.at_ _ _ e5 n4, e6, e7⟩
theorem UnAt.same {C s dp dc m : Addr} {H H1 : Hp} {W : Nat} {ps : List (Nat × Nat)} (h : UnAt C H s dp dc m W ps) (k : Same H H1) : UnAt C H1 s dp dc m W ps := h.kp (cs := []) (kp_same k) not_nil not_nil not_nil not_nil
theorem UnAt.ne {C s dp dc m : Addr} {H : Hp} {W : Nat} {ps : List (Nat × Nat)} (h : UnAt C H s dp dc m W ps) : s ≠ dp ∧ s ≠ dc ∧ s ≠ m ∧ dp ≠ dc ∧ dp ≠ m ∧ dc ≠ m := by
  obtain ⟨⟨dx, e⟩, e2, ⟨c, e3, e4⟩, e5, e6, e7⟩ := h
  exact ⟨neO e e2 (fun z => nomatch z), neO e e3 (fun z => nomatch z), neO e e5 (fun z => nomatch z), e7, neO e2 e5 (fun z => nomatch z), neO e3 e5 (fun z => nomatch z)⟩
section
variable {P : Program} {w : World} {K : PySem.W.Frag} {mg : Str → Option Value} {base : Heap}
def spRoot (C : Addr) : Sp := fun vs H Q _ => ∃ (s dp dc m : Addr) (W : Nat) (ps : List (Nat × Nat)) (x : Nat), vs = [.ref s, .int (x : Int)] ∧ UnAt C H s dp dc m W ps ∧ Q (.int (rootF x (linksOf ps) : Nat)) H
theorem ok_root (T : Txt K mg) : FnOk P w K mg base CX0 1 T.f_Unions_root_of T.d_Unions_root_of ["self", "point"] (spRoot T.C_Unions) := by
  refine T.F_Unions_root_of.ok sc_Unions_root_of (fun vs H Q E h => ?_) (fun cdv A outer s H vs Q E hr h => ?_)
  · obtain ⟨s, dp, dc, m, W, ps, x, rfl, _⟩ := h
    rfl
  · obtain ⟨s, dp, dc, m, W, ps, x, rfl, ⟨⟨dx, hs⟩, hp, ⟨cs, hc, hcs⟩, hm, hw, hn⟩, q⟩ := h
    refine ⟨_, (pss_cons (ps_set (i := 2) sc_Unions_root_of.nd rfl (.inl rfl) (pv 1))
      (pss_cons (ps_while PassesOwn.never (pt_cmp (pc_din (hu_of hr) (pv 2) (pe_fld (pv 0) rfl))) (pss_one (ps_set (i := 2) sc_Unions_root_of.nd rfl (.inl rfl) (pe_dget (hu_of hr) (pe_fld (pv 0) rfl) (pv 2) (fun _ _ => rfl)))))
      (pss_one (ps_ret (pv 2))))), ?_⟩
    have hok := ok_links ps hw
    refine ⟨_, rfl, ?_⟩
    refine while_by (fun σ H' => H' = H ∧ ∃ r : Nat, σ = [some (.ref s), some (.int (x : Int)), some (.int (r : Int))] ∧ rootF r (linksOf ps) = rootF x (linksOf ps)) (fun σ _ => match σ[2]? with
      | some (some (V.int r)) => depF r.toNat (linksOf ps)
      | _ => 0) ⟨rfl, x, rfl, rfl⟩ ?_ ?_
    · rintro σ H' ⟨rfl, r, rfl, he⟩
      have hg : DGet H' dp (.int (r : Int)) (valV (kvL (linksOf ps)) (Sum.inl (r : Int))) := DGet.k (k := Sum.inl (r : Int)) hp
      rw [kvL_val] at hg
      refine ⟨_, rfl, _, rfl, s, _, dx, _, _, rfl, hs, T.cl_Unions, T.n_Unions_parents, rfl, dp, _, rfl, hg, _, rfl, ?_⟩
      cases hf : parL (linksOf ps) r with
      | none =>
        refine ifF rfl ?_
        o_readsAll
        rw [(par_none hok r).mp hf] at he
        rw [← he] at q
        exact q
      | some u =>
        refine ifT rfl ?_
        rw [hf] at hg
        obtain ⟨e1, e2⟩ := par_some hok hf
        have e3 : rootF u (linksOf ps) = rootF x (linksOf ps) := e1.symm.trans he
        o_readsAll
        show depF ((u : Int)).toNat _ < depF ((r : Int)).toNat _
        rw [Int.toNat_natCast, Int.toNat_natCast, e2]
        exact Nat.lt_succ_self _
    · rintro σ H' Q1 Q2 m h
      dsimp only [tB, tDIn, tVar, tFld] at h ⊢
      obtain ⟨v, a1, v', a3, a, C, dx', fs, v1, a4, a5, a6, a7, a8, a', o, a9, a10, c', a11, h⟩ := h
      exact ⟨v, a1, v', a3, a, C, dx', fs, v1, a4, a5, a6, a7, a8, a', o, a9, a10, c', a11, m _ _ h⟩
def spCount (C : Addr) : Sp := fun vs H Q _ => ∃ (s dc : Addr) (dx : Addr) (fs : List (Str × V)) (x : Nat) (cs : List (Key × V)) (n : Nat), vs = [.ref s, .int (x : Int)] ∧ H s = some (.ins C dx fs) ∧ fs.lookup ("counts" : Str) = some (V.ref dc) ∧ H dc = some (.dK cs) ∧ (valV cs (Sum.inl (x : Int))).getD (.int 1) = .int (n : Int) ∧ Q (.int (n : Int)) H
theorem ok_count (T : Txt K mg) : FnOk P w K mg base CX0 1 T.f_Unions_count_of T.d_Unions_count_of ["self", "root"] (spCount T.C_Unions) := by
  refine T.F_Unions_count_of.ok sc_Unions_count_of (fun vs H Q E h => ?_) (fun cdv A outer s H vs Q E hr h => ?_)
  · obtain ⟨s, dc, dx, fs, x, cs, n, rfl, _⟩ := h
    rfl
  · obtain ⟨s, dc, dx, fs, x, cs, n, rfl, hs, hl, hc, hv, q⟩ := h
    refine ⟨_, (pss_one (ps_ret (pe_dget2 (hu_of hr) (pe_fld (pv 0) rfl) (pv 1) pe_int ⟨rfl, rfl, rfl, rfl⟩))), ?_⟩
    refine ⟨_, rfl, s, _, dx, fs, _, rfl, hs, T.cl_Unions, T.n_Unions_counts, hl, dc, rfl, .inl ⟨cs, .inl hc⟩, _, rfl, _, DGet.k (k := Sum.inl (x : Int)) hc, ?_⟩
    show Q ((valV cs (Sum.inl (x : Int))).getD (.int 1)) H
    rw [hv]
    exact q
def spUI (C : Addr) : Sp := fun vs H Q _ => ∃ (s dx : Addr) (W : Nat), vs = [.ref s, .int (W : Int)] ∧ H s = some (.ins C dx []) ∧ ∀ dp dc m H', Fr H dp → Fr H dc → Fr H m → Kp [s] H H' → UnAt C H' s dp dc m W [] → Q .non H'
theorem ok_ui (T : Txt K mg) : FnOk P w K mg base CX0 1 T.f_Unions_init T.d_Unions_init ["self", "many"] (spUI T.C_Unions) := by
  refine T.F_Unions_init.ok sc_Unions_init (fun vs H Q E h => ?_) (fun cdv A outer s H vs Q E hr h => ?_)
  · obtain ⟨s, dx, W, rfl, _⟩ := h
    rfl
  · obtain ⟨s, dx, W, rfl, hs, q⟩ := h
    refine ⟨_, (pss_cons (ps_fld (pv 0) (pv 1) rfl)
      (pss_cons (ps_fld (pv 0) pe_dnewK rfl)
      (pss_cons (ps_fld (pv 0) pe_dnewK rfl)
      (pss_one (ps_fld (pv 0) (pe_lst pa_nil) rfl))))), ?_⟩
    have e0 : ((W : Int) - ((linksOf []).length : Nat)) = (W : Int) := by
      show (W : Int) - ((0 : Nat) : Int) = W
      omega
    o_readsAll
    rename_i dp ndp dc ndc m ndm
    have nds : dp ≠ s := by kbo_bools
    have n1 : dp ≠ dc := neN (o := .dK []) ndc (by rw [upd_ne nds]; exact upd_same)
    have fdp : Fr H dp := by kba_ints
    have fdc : Fr H dc := by kba_ints
    have fm : Fr H m := by kba_ints
    refine q dp dc m _ fdp fdc fm (by kxs_still) ⟨⟨dx, ?_⟩, by kp_flats, ⟨[], by kp_flats, fun _ => rfl, List.nodup_nil, fun _ z => nomatch z⟩, by kp_flats, (fun _ z => nomatch z), n1⟩
    rw [e0]
    exact upd_same
end
end Un
end Ob

set_option Elab.async false
set_option linter.all false
set_option maxRecDepth 100000
set_option maxHeartbeats 1000000
namespace Ob
open PySem PySem.Spec PyProof.Rows L2
open LamX (Tabs TabB TabS ExtN)

set_option hygiene false in
local macro_rules
  | `(tactic| kp_flats) => `(tactic| first
    | assumption
    | exact upd_same
    | (apply atNew; assumption; kp_flats)
    | (apply atNe; (next => kbo_bools); kp_flats)
    | (apply atSame; assumption; kp_flats)
    | (apply atKp; assumption; (next => kaf_pre); kp_flats))
set_option hygiene false in
local macro_rules
  | `(tactic| kaf_pre) => `(tactic| first
    | assumption
    | exact not_nil
    | (apply not_cons; (next => kbo_bools); kaf_pre)
    | (apply not_app; (next => kaf_pre); kaf_pre))
set_option hygiene false in
local macro_rules
  | `(tactic| kbo_bools) => `(tactic| first
    | assumption
    | (apply Ne.symm; assumption)
    | (apply neN; assumption; kp_flats)
    | (apply neN'; assumption; kp_flats))
set_option hygiene false in
local macro_rules
  | `(tactic| o_reads) => `(tactic| first
    | with_reducible rfl
    | assumption
    | rfl
    | kp_flats
    | (show SqL _ _ _ _; first | assumption | (apply sqlOf; kp_flats) | (apply sqlSame; assumption; o_reads))
    | (show SqT _ _ _ _; first | assumption | (apply sqtOf; kp_flats) | (apply sqtAll; assumption) | (apply sqtSame; assumption; o_reads))
    | (show Cls _ _; first | exact T.cl_Calls | exact T.cl_Outer | exact T.cl_Ranked | exact T.cl_Unions)
    | (show NoAttr _ _ _; first | exact T.n_Calls_entries | exact T.n_Calls_running | exact T.n_Outer_calls | exact T.n_Outer_push_call | exact T.n_Outer_pop_call | exact T.n_Outer_ask_call | exact T.n_Outer_order | exact T.n_Outer_broken | exact T.n_Ranked_outer | exact T.n_Ranked_given | exact T.n_Ranked_held | exact T.n_Ranked_ranks | exact T.n_Ranked_removals | exact T.n_Unions_groups | exact T.n_Unions_parents | exact T.n_Unions_counts | exact T.n_Unions_moved)
    | (apply Or.inl; o_reads)
    | (apply Or.inr; o_reads)
    | (apply And.intro; (next => o_reads); o_reads)
    | (apply Exists.intro; o_reads)
    | exact Nat.le_of_ble_eq_true rfl
    | exact Nat.succ_ne_zero _
    | (show Fr _ _; kba_ints)
    | (show Same _ _; kd_subs)
    | (show Kp _ _ _; kxs_still)
    | (show (_ : Nat) ≤ _; simp only [List.length_append, List.length_map, List.length_cons, List.length_nil, List.length_take, List.length_drop, List.length_replicate, List.length_range, sizeLine_eq]; omega)
    | (show _ = none; apply Fr.h; kba_ints)
    | (show Bag _ _; first | assumption | (apply bag_putF; assumption; o_reads) | (apply bag_neF; (next => kbo_bools); o_reads) | (apply bag_kpR; assumption; (next => kaf_pre); o_reads))
    | omega
    | decide)
local macro_rules
  | `(tactic| o_readsAll) => `(tactic| repeat (first
    | (refine fun (pNew : Addr) (nNew : _ = none) => ?_; replace nNew := Fr.mk nNew)
    | (refine fun (xNew dNew : Addr) (nNew : _ = none) (mNew : _ = none) (eNew : dNew ≠ xNew) => ?_; replace nNew := Fr.mk nNew; replace mNew := Fr.mk mNew)
    | (apply And.intro; next => o_reads)
    | apply Exists.intro (α := V)
    | apply Exists.intro (α := Addr)
    | apply Exists.intro (α := Int)
    | apply Exists.intro (α := Bool)
    | apply Exists.intro (α := List V)
    | apply Exists.intro (α := List Nat)
    | apply Exists.intro (α := List (Str × V))
    | apply Exists.intro (α := List _)
    | apply Exists.intro (α := Str)
    | apply Exists.intro (α := HO)
    | apply Exists.intro (α := Sp)
    | apply Exists.intro (α := VK)))
set_option hygiene false in
local macro_rules
  | `(tactic| kba_ints) => `(tactic| first
    | assumption
    | (apply frUp; (first | assumption | (apply Ne.symm; assumption)); kba_ints)
    | (apply noneOf; assumption; intro oF eF; apply Exists.intro; kp_flats)
    | (apply frUp; (next => kbo_bools); kba_ints))
set_option hygiene false in
local macro_rules
  | `(tactic| kxs_still) => `(tactic| first
    | assumption
    | exact kp_refl _ _
    | (apply kp_newF; assumption; kxs_still)
    | (apply kp_new; assumption; kxs_still)
    | (apply kp_up; (next => o_fieldsN); kxs_still)
    | (apply kp_new; (next => kba_ints); kxs_still)
    | (apply kp_sameR; assumption; kxs_still)
    | (apply kp_transR; assumption; kxs_still)
    | (apply kp_freshR; assumption; (next => kaf_suf); kxs_still))
set_option hygiene false in
local macro_rules
  | `(tactic| kaf_suf) => `(tactic| first
    | assumption
    | exact subNil
    | (apply subCons; (first | (apply Or.inl; o_fieldsN) | (apply Or.inr; kba_ints)); kaf_suf)
    | (apply subApp; (next => kaf_suf); kaf_suf))
set_option hygiene false in
local macro_rules
  | `(tactic| o_fieldsN) => `(tactic| first
    | assumption
    | exact memA
    | (apply memB; o_fieldsN)
    | (apply memL; o_fieldsN)
    | (apply memR; o_fieldsN))
set_option hygiene false in
local macro_rules
  | `(tactic| kd_subs) => `(tactic| first
    | assumption
    | exact Same.refl _
    | (apply same_putF; assumption; kd_subs)
    | (apply same_putG; assumption; kd_subs)
    | (apply same_putF; (next => kba_ints); kd_subs)
    | (apply same_transR; assumption; kd_subs))

/-- an if, when its test is answered: I holds behind it, F where it was false -/
theorem if_by {c : L2.TT} {t u : TS} {D : Ends} {σ : L2.St} {H : Hp} (I : Hp → Prop) (F : Prop) (hT : ∀ H', I H' → t D σ H') (hF : ∀ H', I H' → F → u D σ H') (h : ∀ Q : Bool → Hp → Prop, (∀ b H', I H' → (b = false → F) → Q b H') → c σ H Q) : tIfS c t u D σ H :=
  h (fun b H' => if b = true then t D σ H' else u D σ H') fun b H' i f => by
    cases b with
    | true => exact (if_pos rfl).mpr (hT H' i)
    | false => exact (if_neg (fun z => nomatch z)).mpr (hF H' i (f rfl))

set_option pp.maxSteps 900
namespace Un
theorem last_at {α : Type} (xs : List α) (v : α) : (xs ++ [v])[(xs ++ [v]).length - 1]? = some v := by
  rw [List.length_append]
  exact List.getElem?_concat_length ..
theorem dropK_last {kvs : List (Key × V)} {k : Key} {v : V} (h : ¬ k ∈ kvs.map (·.1)) : dropK (kvs ++ [(k, v)]) k = kvs := by
  have e : dropK (kvs ++ [(k, v)]) k = dropK kvs k ++ dropK [(k, v)] k := by
    unfold dropK
    exact List.filter_append ..
  rw [e, dropK_no h, dropK_pos rfl]
  exact List.append_nil _
theorem dec_nat (a b : Nat) : decide (V.int (a : Int) = V.int (b : Int)) = decide (a = b) := by
  by_cases e : a = b
  · rw [dT e, e, dT rfl]
  · rw [dF e, dF fun z => e (by injection z with z; omega)]
theorem sub_pos (L : List (Nat × Nat)) : ∀ x, 1 ≤ subF L x := by
  refine app_ind (P := fun L => ∀ x, 1 ≤ subF L x) (fun _ => Nat.le_refl _) (fun l p ih x => ?_) L
  rw [sub_app]
  have := ih p.2
  have := ih x
  split <;> omega
section
variable {P : Program} {w : World} {K : PySem.W.Frag} {mg : Str → Option Value} {base : Heap}
def spPush (C : Addr) : Sp := fun vs H Q _ => ∃ (s dp dc m q : Addr) (W : Nat) (ps : List (Nat × Nat)) (a b : Nat), vs = [.ref s, .ref q] ∧ UnAt C H s dp dc m W ps ∧ H q = some (.tup [.int (a : Int), .int (b : Int)]) ∧ a < W ∧ b < W ∧ W ≤ 10000 ∧ ps.length ≤ 2000000 ∧ ∀ H', Kp [s, dp, dc, m] H H' → UnAt C H' s dp dc m W (ps ++ [(a, b)]) → Q .non H'
theorem ok_push (T : Txt K mg) : FnOk P w K mg base CX0 2 T.f_Unions_push T.d_Unions_push ["self", "pair"] (spPush T.C_Unions) := by
  have G_Unions_root_of := ok_root (P := P) (w := w) (base := base) T
  have G_Unions_count_of := ok_count (P := P) (w := w) (base := base) T
  refine T.F_Unions_push.ok sc_Unions_push (fun vs H Q E h => ?_) (fun cdv A outer s H vs Q E hr h => ?_)
  · obtain ⟨s, dp, dc, m, q, W, ps, a, b, rfl, _⟩ := h
    rfl
  · obtain ⟨s, dp, dc, m, q, W, ps, a, b, rfl, hU, hq, la, lb, lW, ll, k⟩ := h
    refine ⟨_, (pss_cons (ps_set (i := 2) sc_Unions_push.nd rfl (.inl rfl) (pe_meth (pv 0) T.cl_Unions ⟨T.m_Unions_root_of, T.t_Unions_root_of, T.k_Unions_root_of⟩ G_Unions_root_of (hr.mono (by omega)) T.b_Unions_root_of .nil pass0 (pa_cons (pe_ix (r := rIxT K) ix_tup (pv 1) pe_int (fun _ _ => rfl)) pa_nil)))
      (pss_cons (ps_set (i := 3) sc_Unions_push.nd rfl (.inl rfl) (pe_meth (pv 0) T.cl_Unions ⟨T.m_Unions_root_of, T.t_Unions_root_of, T.k_Unions_root_of⟩ G_Unions_root_of (hr.mono (by omega)) T.b_Unions_root_of .nil pass0 (pa_cons (pe_ix (r := rIxT K) ix_tup (pv 1) pe_int (fun _ _ => rfl)) pa_nil)))
      (pss_cons (ps_if (pt_cmpR op_eq (pv 2) (pv 3) (nomark _)) (pss_cons (ps_expr (pe_bm PySem.F.plainAttrs_list PySem.F.slot_list_append PySem.F.type_list_append mt_append (pe_fld (pv 0) rfl) (pa_cons pe_non pa_nil)))
        (pss_one ps_retN)) pss_nil)
      (C8.pss_cut (ps_if (pt_cmpR op_lt (pe_meth (pv 0) T.cl_Unions ⟨T.m_Unions_count_of, T.t_Unions_count_of, T.k_Unions_count_of⟩ G_Unions_count_of (hr.mono (by omega)) T.b_Unions_count_of .nil pass0 (pa_cons (pv 2) pa_nil)) (pe_meth (pv 0) T.cl_Unions ⟨T.m_Unions_count_of, T.t_Unions_count_of, T.k_Unions_count_of⟩ G_Unions_count_of (hr.mono (by omega)) T.b_Unions_count_of .nil pass0 (pa_cons (pv 3) pa_nil)) (nomark _)) (pss_one (ps_par (i := 2) (j := 3) (by rfl) sc_Unions_push.nd rfl rfl (by decide) rfl rfl (pa_cons (pv 3) (pa_cons (pv 2) pa_nil)) (by rfl))) pss_nil)
      (pss_cons (ps_dput (hu_of hr) (pe_fld (pv 0) rfl) (pv 2) (pe_op op_add (pe_meth (pv 0) T.cl_Unions ⟨T.m_Unions_count_of, T.t_Unions_count_of, T.k_Unions_count_of⟩ G_Unions_count_of (hr.mono (by omega)) T.b_Unions_count_of .nil pass0 (pa_cons (pv 2) pa_nil)) (pe_meth (pv 0) T.cl_Unions ⟨T.m_Unions_count_of, T.t_Unions_count_of, T.k_Unions_count_of⟩ G_Unions_count_of (hr.mono (by omega)) T.b_Unions_count_of .nil pass0 (pa_cons (pv 3) pa_nil))) rfl)
      (pss_cons (ps_dput (hu_of hr) (pe_fld (pv 0) rfl) (pv 3) (pv 2) rfl)
      (pss_cons (ps_fldaug (pv 0) pe_int in_sub)
      (pss_one (ps_expr (pe_bm PySem.F.plainAttrs_list PySem.F.slot_list_append PySem.F.type_list_append mt_append (pe_fld (pv 0) rfl) (pa_cons (pv 3) pa_nil))))))))))), ?_⟩
    obtain ⟨n1, n2, n3, n4, n5, n6⟩ := hU.ne
    have hU' := hU
    obtain ⟨⟨dx, hs⟩, hp, ⟨cs, hc, hcs⟩, hm, hw, hn⟩ := hU'
    have hok := ok_links ps hw
    have lk := links_len ps
    have lm := moves_len ps
    have ha : atI [V.int (a : Int), V.int (b : Int)] 0 = some (.int (a : Int)) := atI_nat (j := 0) rfl
    have hb : atI [V.int (a : Int), V.int (b : Int)] 1 = some (.int (b : Int)) := atI_nat (j := 1) rfl
    have ea : links_app ps (a, b) = links_app ps (a, b) := rfl
    have lmv : ((movesOf ps).map mV).length = ps.length := by rw [List.length_map, lm]
    refine ⟨_, rfl, s, dx, _, rfl, hs, rfl, _, rfl, q, _, 0, _, rfl, rfl, sqtOf hq, ha, s, dp, dc, m, W, ps, a, rfl, hU, ?_⟩
    refine ⟨_, rfl, s, dx, _, rfl, hs, rfl, _, rfl, q, _, 1, _, rfl, rfl, sqtOf hq, hb, s, dp, dc, m, W, ps, b, rfl, hU, ?_⟩
    refine ⟨_, rfl, _, rfl, rfl, _, rfl, ?_⟩
    have hw' : InW W (ps ++ [(a, b)]) := hw.add la lb
    refine ite2 (fun e => ?_) (fun e => ?_)
    · have er : rootF a (linksOf ps) = rootF b (linksOf ps) := by
        rw [dec_nat] at e
        exact of_decide_eq_true e
      have el : linkOf (linksOf ps) (a, b) = none := link_none.mpr er
      have e1 : linksOf (ps ++ [(a, b)]) = linksOf ps := by
        rw [links_app]
        unfold stepL
        rw [el]
      have e2 : (movesOf (ps ++ [(a, b)])).map mV = (movesOf ps).map mV ++ [V.non] := by
        rw [moves_app, el, List.map_append]
        rfl
      o_readsAll
      exact k _ (by kxs_still) ⟨⟨dx, by rw [e1]; kp_flats⟩, by rw [e1]; kp_flats, ⟨cs, by kp_flats, by rw [e1]; exact hcs⟩, by rw [e2]; exact upd_same, hw', hn⟩
    · have er : rootF a (linksOf ps) ≠ rootF b (linksOf ps) := fun z => e (by rw [dec_nat]; exact dT z)
      refine ⟨fun σ H' => H' = H ∧ ∃ lo up : Nat, σ = [some (.ref s), some (.ref q), some (.int (up : Int)), some (.int (lo : Int))] ∧ linkOf (linksOf ps) (a, b) = some (lo, up), ?_, ?_⟩
      · refine ⟨_, rfl, s, dx, _, rfl, hs, rfl, _, rfl, s, dc, dx, _, _, cs, _, rfl, hs, rfl, hc, hcs.v _, ?_⟩
        refine ⟨_, rfl, s, dx, _, rfl, hs, rfl, _, rfl, s, dc, dx, _, _, cs, _, rfl, hs, rfl, hc, hcs.v _, ?_⟩
        refine ⟨_, _, rfl, rfl, _, rfl, ?_⟩
        refine ite2 (fun f => ?_) (fun f => ?_)
        · refine ⟨_, rfl, _, rfl, _, _, rfl, rfl, _, _, rfl, ?_⟩
          unfold linkOf
          have f1 := of_decide_eq_true f
          rw [if_neg er, if_pos (show subF (linksOf ps) (rootF a (linksOf ps)) < subF (linksOf ps) (rootF b (linksOf ps)) by omega)]
        · refine ⟨rfl, _, _, rfl, ?_⟩
          unfold linkOf
          rw [if_neg er, if_neg (fun (z : subF (linksOf ps) (rootF a (linksOf ps)) < subF (linksOf ps) (rootF b (linksOf ps))) => f (dT (by omega)))]
      · rintro σ H' ⟨rfl, lo, up, rfl, el⟩
        obtain ⟨r1, r2, r3, r4, r5, _⟩ := link_ok hok (p := (a, b)) la lb el
        replace r1 : rootF lo (linksOf ps) = lo := r1
        replace r2 : rootF up (linksOf ps) = up := r2
        replace r3 : lo ≠ up := r3
        replace r4 : lo < W := r4
        replace r5 : up < W := r5
        have e1 : linksOf (ps ++ [(a, b)]) = linksOf ps ++ [(lo, up)] := by
          rw [links_app]
          unfold stepL
          rw [el]
        have e2 : (movesOf (ps ++ [(a, b)])).map mV = (movesOf ps).map mV ++ [V.int (lo : Int)] := by
          rw [moves_app, el, List.map_append]
          rfl
        have lc := hcs.len
        have hcs' : CntOk W (linksOf ps ++ [(lo, up)]) (putK cs (Sum.inl (up : Int)) (.int ((subF (linksOf ps) up + subF (linksOf ps) lo : Nat) : Int))) := hcs.put r5 (by rw [sub_app, if_pos rfl]) fun y hy => by rw [sub_app, if_neg hy]
        have ev : (((subF (linksOf ps) up : Nat) : Int) + ((subF (linksOf ps) lo : Nat) : Int)) = ((subF (linksOf ps) up + subF (linksOf ps) lo : Nat) : Int) := by omega
        have pn : parL (linksOf ps) lo = none := (par_none hok lo).mpr r1
        have hP1 : DPut H' dc (.int (up : Int)) (.int (((subF (linksOf ps) up : Nat) : Int) + ((subF (linksOf ps) lo : Nat) : Int))) (upd H' dc (.dK (putK cs (Sum.inl (up : Int)) (.int ((subF (linksOf ps) up + subF (linksOf ps) lo : Nat) : Int))))) := by
          rw [ev]
          exact DPut.k (k := Sum.inl (up : Int)) hc (by rw [sizeLine_eq]; omega)
        have hp1 : upd H' dc (.dK (putK cs (Sum.inl (up : Int)) (.int ((subF (linksOf ps) up + subF (linksOf ps) lo : Nat) : Int)))) dp = some (.dK (kvL (linksOf ps))) := by kp_flats
        have hs1 : upd H' dc (.dK (putK cs (Sum.inl (up : Int)) (.int ((subF (linksOf ps) up + subF (linksOf ps) lo : Nat) : Int)))) s = _ := atNe n2 hs
        have hP2 : DPut (upd H' dc (.dK (putK cs (Sum.inl (up : Int)) (.int ((subF (linksOf ps) up + subF (linksOf ps) lo : Nat) : Int))))) dp (.int (lo : Int)) (.int (up : Int)) (upd (upd H' dc (.dK (putK cs (Sum.inl (up : Int)) (.int ((subF (linksOf ps) up + subF (linksOf ps) lo : Nat) : Int))))) dp (.dK (kvL (linksOf ps ++ [(lo, up)])))) := by
          have := DPut.k (k := Sum.inl (lo : Int)) (v := .int (up : Int)) hp1 (by
            show ((linksOf ps).map _).length < sizeLine
            rw [List.length_map, sizeLine_eq]
            omega)
          rw [putK_new (kvs := kvL (linksOf ps)) _ (by rw [kvL_val, pn]; rfl)] at this
          rw [kvL_app]
          exact this
        refine ⟨_, rfl, s, dx, _, rfl, hs, rfl, _, rfl, s, dc, dx, _, _, cs, _, rfl, hs, rfl, hc, hcs.v _, ?_⟩
        refine ⟨_, rfl, s, dx, _, rfl, hs, rfl, _, rfl, s, dc, dx, _, _, cs, _, rfl, hs, rfl, hc, hcs.v _, ?_⟩
        refine ⟨_, _, rfl, rfl, ?_⟩
        refine ⟨_, rfl, s, _, dx, _, _, rfl, hs, T.cl_Unions, T.n_Unions_counts, rfl, _, rfl, dc, _, rfl, hP1, ?_⟩
        refine ⟨_, rfl, _, rfl, s, _, dx, _, _, rfl, hs1, T.cl_Unions, T.n_Unions_parents, rfl, _, rfl, dp, _, rfl, hP2, ?_⟩
        o_readsAll
        have eg : ((W : Int) - ((linksOf (ps ++ [(a, b)])).length : Nat)) = (W : Int) - ((linksOf ps).length : Nat) - 1 := by
          rw [e1, List.length_append]
          show (W : Int) - (((linksOf ps).length + 1 : Nat) : Int) = _
          omega
        refine k _ (by kxs_still) ⟨⟨dx, ?_⟩, by rw [e1]; kp_flats, ⟨_, by kp_flats, by rw [e1]; exact hcs'⟩, by rw [e2]; exact upd_same, hw', hn⟩
        rw [eg]
        kp_flats
def spPop (C : Addr) : Sp := fun vs H Q _ => ∃ (s dp dc m : Addr) (W : Nat) (ps : List (Nat × Nat)) (p : Nat × Nat), vs = [.ref s] ∧ UnAt C H s dp dc m W (ps ++ [p]) ∧ W ≤ 10000 ∧ ps.length ≤ 2000000 ∧ ∀ H', Kp [s, dp, dc, m] H H' → UnAt C H' s dp dc m W ps → Q .non H'
theorem ok_pop (T : Txt K mg) : FnOk P w K mg base CX0 2 T.f_Unions_pop T.d_Unions_pop ["self"] (spPop T.C_Unions) := by
  have G_Unions_count_of := ok_count (P := P) (w := w) (base := base) T
  refine T.F_Unions_pop.ok sc_Unions_pop (fun vs H Q E h => ?_) (fun cdv A outer s H vs Q E hr h => ?_)
  · obtain ⟨s, dp, dc, m, W, ps, p, rfl, _⟩ := h
    rfl
  · obtain ⟨s, dp, dc, m, W, ps, p, rfl, hU, lW, ll, k⟩ := h
    refine ⟨_, (pss_cons (ps_set (i := 1) sc_Unions_pop.nd rfl (.inl rfl) (pe_bm0 PySem.F.plainAttrs_list PySem.F.slot_list_pop PySem.F.type_list_pop mt_pop (pe_fld (pv 0) rfl)))
      (pss_cons (ps_if (pt_cmpR op_isN (pv 1) pe_non (nomark _)) (pss_one ps_retN) pss_nil)
      (pss_cons (ps_set (i := 2) sc_Unions_pop.nd rfl (.inl rfl) (pe_dget (hu_of hr) (pe_fld (pv 0) rfl) (pv 1) (fun _ _ => rfl)))
      (pss_cons (ps_ddel (pe_fld (pv 0) rfl) (pv 1))
      (pss_cons (ps_daug (hu_of hr) (pe_fld (pv 0) rfl) (pv 2) (pe_meth (pv 0) T.cl_Unions ⟨T.m_Unions_count_of, T.t_Unions_count_of, T.k_Unions_count_of⟩ G_Unions_count_of (hr.mono (by omega)) T.b_Unions_count_of .nil pass0 (pa_cons (pv 1) pa_nil)) in_sub (fun _ _ _ => rfl))
      (pss_one (ps_fldaug (pv 0) pe_int in_add))))))), ?_⟩
    obtain ⟨n1, n2, n3, n4, n5, n6⟩ := hU.ne
    obtain ⟨⟨dx, hs⟩, hp, ⟨cs, hc, hcs⟩, hm, hw, hn⟩ := hU
    obtain ⟨hw0, lp1, lp2⟩ := hw.init
    have hok := ok_links ps hw0
    have lk := links_len ps
    have lm := moves_len ps
    have hm2 : H m = some (.lst ((movesOf ps).map mV ++ [mV ((linkOf (linksOf ps) p).map (·.1))])) := by
      rw [hm, moves_app, List.map_append]
      rfl
    o_readsAll
    refine ⟨last_at _ _, ?_⟩
    rw [List.dropLast_concat]
    have hm1 : upd H m (.lst ((movesOf ps).map mV)) m = some (.lst ((movesOf ps).map mV)) := upd_same
    have e1 : linksOf (ps ++ [p]) = stepL (linksOf ps) p := links_app ps p
    cases el : linkOf (linksOf ps) p with
    | none =>
      have e2 : linksOf (ps ++ [p]) = linksOf ps := by
        rw [e1]
        unfold stepL
        rw [el]
      rw [e2] at hs hp hcs
      refine ⟨_, rfl, rfl, _, rfl, ?_⟩
      refine ifT rfl ?_
      exact k _ (by kxs_still) ⟨⟨dx, by kp_flats⟩, by kp_flats, ⟨cs, by kp_flats, hcs⟩, upd_same, hw0, hn⟩
    | some q =>
      obtain ⟨lo, up⟩ := q
      obtain ⟨r1, r2, r3, r4, r5, _⟩ := link_ok hok lp1 lp2 el
      replace r1 : rootF lo (linksOf ps) = lo := r1
      replace r3 : lo ≠ up := r3
      replace r5 : up < W := r5
      have e2 : linksOf (ps ++ [p]) = linksOf ps ++ [(lo, up)] := by
        rw [e1]
        unfold stepL
        rw [el]
      rw [e2] at hs hp hcs
      have pn : parL (linksOf ps) lo = none := (par_none hok lo).mpr r1
      have hv : valV (kvL (linksOf ps ++ [(lo, up)])) (Sum.inl (lo : Int)) = some (.int (up : Int)) := by
        rw [kvL_val, par_app, pn]
        show ((if lo = lo then some up else none : Option Nat)).map _ = _
        rw [if_pos rfl]
        rfl
      have hp0 : upd H m (.lst ((movesOf ps).map mV)) dp = some (.dK (kvL (linksOf ps ++ [(lo, up)]))) := by kp_flats
      have hs0 : upd H m (.lst ((movesOf ps).map mV)) s = some (.ins T.C_Unions dx [("groups", .int ((W : Int) - ((linksOf ps ++ [(lo, up)]).length : Nat))), ("parents", .ref dp), ("counts", .ref dc), ("moved", .ref m)]) := by kp_flats
      have hg : DGet (upd H m (.lst ((movesOf ps).map mV))) dp (.int (lo : Int)) (some (.int (up : Int))) := by
        rw [← hv]
        exact DGet.k (k := Sum.inl (lo : Int)) hp0
      refine ⟨_, rfl, rfl, _, rfl, ?_⟩
      refine ifF rfl ?_
      refine ⟨_, rfl, s, _, dx, _, _, rfl, hs0, T.cl_Unions, T.n_Unions_parents, rfl, _, rfl, dp, _, rfl, hg, ?_⟩
      refine ⟨_, rfl, s, _, dx, _, _, rfl, hs0, T.cl_Unions, T.n_Unions_parents, rfl, _, rfl, dp, _, (Sum.inl (lo : Int) : Key), rfl, hp0, rfl, by rw [hv]; rfl, ?_⟩
      have ek : dropK (kvL (linksOf ps ++ [(lo, up)])) (Sum.inl (lo : Int)) = kvL (linksOf ps) := by
        rw [kvL_app]
        exact dropK_last (kvL_key pn)
      rw [ek]
      have su : subF (linksOf ps ++ [(lo, up)]) up = subF (linksOf ps) up + subF (linksOf ps) lo := by rw [sub_app, if_pos rfl]
      have sl : subF (linksOf ps ++ [(lo, up)]) lo = subF (linksOf ps) lo := by rw [sub_app, if_neg r3]
      have p1 := sub_pos (linksOf ps) up
      have p2 := sub_pos (linksOf ps) lo
      have hvu : valV cs (Sum.inl (up : Int)) = some (.int (subF (linksOf ps) up + subF (linksOf ps) lo : Nat)) := by
        have := hcs.v up
        rw [su] at this
        cases z : valV cs (Sum.inl (up : Int)) with
        | none =>
          rw [z] at this
          replace this : V.int 1 = V.int (subF (linksOf ps) up + subF (linksOf ps) lo : Nat) := this
          injection this with this
          omega
        | some v =>
          rw [z] at this
          exact congrArg some this
      have hs1 : upd (upd H m (.lst ((movesOf ps).map mV))) dp (.dK (kvL (linksOf ps))) s = some (.ins T.C_Unions dx [("groups", .int ((W : Int) - ((linksOf ps ++ [(lo, up)]).length : Nat))), ("parents", .ref dp), ("counts", .ref dc), ("moved", .ref m)]) := by kp_flats
      have hc1 : upd (upd H m (.lst ((movesOf ps).map mV))) dp (.dK (kvL (linksOf ps))) dc = some (.dK cs) := atNe hn.symm (atNe n6 hc)
      have hg1 : DGet (upd (upd H m (.lst ((movesOf ps).map mV))) dp (.dK (kvL (linksOf ps)))) dc (.int (up : Int)) (some (.int (subF (linksOf ps) up + subF (linksOf ps) lo : Nat))) := by
        rw [← hvu]
        exact DGet.k (k := Sum.inl (up : Int)) hc1
      have hcs' : CntOk W (linksOf ps) (putK cs (Sum.inl (up : Int)) (.int (subF (linksOf ps) up : Nat))) := hcs.put r5 rfl fun y hy => by rw [sub_app, if_neg hy]
      have ev : (((subF (linksOf ps) up + subF (linksOf ps) lo : Nat) : Int) - ((subF (linksOf ps ++ [(lo, up)]) lo : Nat) : Int)) = ((subF (linksOf ps) up : Nat) : Int) := by
        rw [sl]
        omega
      have lc := hcs.len
      have hP : DPut (upd (upd H m (.lst ((movesOf ps).map mV))) dp (.dK (kvL (linksOf ps)))) dc (.int (up : Int)) (.int (((subF (linksOf ps) up + subF (linksOf ps) lo : Nat) : Int) - ((subF (linksOf ps ++ [(lo, up)]) lo : Nat) : Int))) (upd (upd (upd H m (.lst ((movesOf ps).map mV))) dp (.dK (kvL (linksOf ps)))) dc (.dK (putK cs (Sum.inl (up : Int)) (.int (subF (linksOf ps) up : Nat))))) := by
        rw [ev]
        exact DPut.k (k := Sum.inl (up : Int)) hc1 (by rw [sizeLine_eq]; omega)
      refine ⟨_, rfl, s, _, dx, _, _, rfl, hs1, T.cl_Unions, T.n_Unions_counts, rfl, _, rfl, dc, _, rfl, hg1, ?_⟩
      refine ⟨_, rfl, s, dx, _, rfl, hs1, rfl, _, rfl, s, dc, dx, _, _, cs, _, rfl, hs1, rfl, hc1, hcs.v _, ?_⟩
      refine ⟨_, _, rfl, rfl, _, hP, ?_⟩
      o_readsAll
      have eg : ((W : Int) - ((linksOf ps ++ [(lo, up)]).length : Nat)) + 1 = (W : Int) - ((linksOf ps).length : Nat) := by
        rw [List.length_append]
        show (W : Int) - (((linksOf ps).length + 1 : Nat) : Int) + 1 = _
        omega
      refine k _ (by kxs_still) ⟨⟨dx, ?_⟩, by kp_flats, ⟨_, by kp_flats, hcs'⟩, by kp_flats, hw0, hn⟩
      rw [← eg]
      exact upd_same
inductive Qn where
  | same (a b : Nat) | size (a : Nat) | groups
def Qn.tup : Qn → List V
  | .same a b => [.str "same", .int (a : Int), .int (b : Int)]
  | .size a => [.str "size", .int (a : Int)]
  | .groups => [.str "groups"]
def Qn.ans (W : Nat) (ps : List (Nat × Nat)) : Qn → V
  | .same a b => .bl (decide (rootF a (linksOf ps) = rootF b (linksOf ps)))
  | .size a => .int (subF (linksOf ps) (rootF a (linksOf ps)) : Nat)
  | .groups => .int ((W : Int) - ((linksOf ps).length : Nat))
def spAsk (C : Addr) : Sp := fun vs H Q _ => ∃ (s dp dc m q : Addr) (W : Nat) (ps : List (Nat × Nat)) (qn : Qn), vs = [.ref s, .ref q] ∧ UnAt C H s dp dc m W ps ∧ H q = some (.tup qn.tup) ∧ Q (qn.ans W ps) H
theorem ok_ask (T : Txt K mg) : FnOk P w K mg base CX0 2 T.f_Unions_ask T.d_Unions_ask ["self", "question"] (spAsk T.C_Unions) := by
  have G_Unions_root_of := ok_root (P := P) (w := w) (base := base) T
  have G_Unions_count_of := ok_count (P := P) (w := w) (base := base) T
  refine T.F_Unions_ask.ok sc_Unions_ask (fun vs H Q E h => ?_) (fun cdv A outer s H vs Q E hr h => ?_)
  · obtain ⟨s, dp, dc, m, q, W, ps, qn, rfl, _⟩ := h
    rfl
  · obtain ⟨s, dp, dc, m, q, W, ps, qn, rfl, hU, hq, k⟩ := h
    refine ⟨_, (pss_cons (ps_if (pt_cmpR op_eq (pe_ix (r := rIxT K) ix_tup (pv 1) pe_int (fun _ _ => rfl)) pe_str (nomark _)) (pss_one (ps_ret (pe_cmpR op_eq (pe_meth (pv 0) T.cl_Unions ⟨T.m_Unions_root_of, T.t_Unions_root_of, T.k_Unions_root_of⟩ G_Unions_root_of (hr.mono (by omega)) T.b_Unions_root_of .nil pass0 (pa_cons (pe_ix (r := rIxT K) ix_tup (pv 1) pe_int (fun _ _ => rfl)) pa_nil)) (pe_meth (pv 0) T.cl_Unions ⟨T.m_Unions_root_of, T.t_Unions_root_of, T.k_Unions_root_of⟩ G_Unions_root_of (hr.mono (by omega)) T.b_Unions_root_of .nil pass0 (pa_cons (pe_ix (r := rIxT K) ix_tup (pv 1) pe_int (fun _ _ => rfl)) pa_nil)) (nomark _)))) pss_nil)
      (pss_cons (ps_if (pt_cmpR op_eq (pe_ix (r := rIxT K) ix_tup (pv 1) pe_int (fun _ _ => rfl)) pe_str (nomark _)) (pss_one (ps_ret (pe_meth (pv 0) T.cl_Unions ⟨T.m_Unions_count_of, T.t_Unions_count_of, T.k_Unions_count_of⟩ G_Unions_count_of (hr.mono (by omega)) T.b_Unions_count_of .nil pass0 (pa_cons (pe_meth (pv 0) T.cl_Unions ⟨T.m_Unions_root_of, T.t_Unions_root_of, T.k_Unions_root_of⟩ G_Unions_root_of (hr.mono (by omega)) T.b_Unions_root_of .nil pass0 (pa_cons (pe_ix (r := rIxT K) ix_tup (pv 1) pe_int (fun _ _ => rfl)) pa_nil)) pa_nil)))) pss_nil)
      (pss_one (ps_ret (pe_fld (pv 0) rfl))))), ?_⟩
    have hU' := hU
    obtain ⟨⟨dx, hs⟩, hp, ⟨cs, hc, hcs⟩, hm, hw, hn⟩ := hU'
    cases qn with
    | same a b =>
      have q0 : atI (Qn.tup (.same a b)) 0 = some (.str "same") := atI_nat (j := 0) rfl
      have q1 : atI (Qn.tup (.same a b)) 1 = some (.int (a : Int)) := atI_nat (j := 1) rfl
      have q2 : atI (Qn.tup (.same a b)) 2 = some (.int (b : Int)) := atI_nat (j := 2) rfl
      refine ⟨_, rfl, q, _, 0, _, rfl, rfl, sqtOf hq, q0, rfl, _, rfl, ?_⟩
      refine ifT rfl ?_
      refine ⟨_, rfl, s, dx, _, rfl, hs, rfl, _, rfl, q, _, 1, _, rfl, rfl, sqtOf hq, q1, s, dp, dc, m, W, ps, a, rfl, hU, ?_⟩
      refine ⟨_, rfl, s, dx, _, rfl, hs, rfl, _, rfl, q, _, 2, _, rfl, rfl, sqtOf hq, q2, s, dp, dc, m, W, ps, b, rfl, hU, ?_⟩
      refine ⟨rfl, ?_⟩
      rw [dec_nat]
      exact k
    | size a =>
      have q0 : atI (Qn.tup (.size a)) 0 = some (.str "size") := atI_nat (j := 0) rfl
      have q1 : atI (Qn.tup (.size a)) 1 = some (.int (a : Int)) := atI_nat (j := 1) rfl
      refine ⟨_, rfl, q, _, 0, _, rfl, rfl, sqtOf hq, q0, rfl, _, rfl, ?_⟩
      refine ifF (by decide +kernel) ?_
      refine ⟨_, rfl, q, _, 0, _, rfl, rfl, sqtOf hq, q0, rfl, _, rfl, ?_⟩
      refine ifT rfl ?_
      refine ⟨_, rfl, s, dx, _, rfl, hs, rfl, _, rfl, s, dx, _, rfl, hs, rfl, _, rfl, q, _, 1, _, rfl, rfl, sqtOf hq, q1, s, dp, dc, m, W, ps, a, rfl, hU, ?_⟩
      exact ⟨s, dc, dx, _, _, cs, _, rfl, hs, rfl, hc, hcs.v _, k⟩
    | groups =>
      have q0 : atI (Qn.tup .groups) 0 = some (.str "groups") := atI_nat (j := 0) rfl
      refine ⟨_, rfl, q, _, 0, _, rfl, rfl, sqtOf hq, q0, rfl, _, rfl, ?_⟩
      refine ifF (by decide +kernel) ?_
      refine ⟨_, rfl, q, _, 0, _, rfl, rfl, sqtOf hq, q0, rfl, _, rfl, ?_⟩
      refine ifF (by decide +kernel) ?_
      exact ⟨_, rfl, s, _, dx, _, _, rfl, hs, T.cl_Unions, T.n_Unions_groups, rfl, k⟩
end
end Un
end Ob

set_option Elab.async false
set_option linter.all false
set_option maxRecDepth 100000
set_option maxHeartbeats 1000000
namespace Ob
open PySem PySem.Spec PyProof.Rows L2
open LamX (Tabs TabB TabS ExtN)

set_option hygiene false in
local macro_rules
  | `(tactic| kp_flats) => `(tactic| first
    | assumption
    | exact upd_same
    | (apply atNew; assumption; kp_flats)
    | (apply atNe; (next => kbo_bools); kp_flats)
    | (apply atSame; assumption; kp_flats)
    | (apply atKp; assumption; (next => kaf_pre); kp_flats))
set_option hygiene false in
local macro_rules
  | `(tactic| kaf_pre) => `(tactic| first
    | assumption
    | exact not_nil
    | (apply not_cons; (next => kbo_bools); kaf_pre)
    | (apply not_app; (next => kaf_pre); kaf_pre))
set_option hygiene false in
local macro_rules
  | `(tactic| kbo_bools) => `(tactic| first
    | assumption
    | (apply Ne.symm; assumption)
    | (apply neN; assumption; kp_flats)
    | (apply neN'; assumption; kp_flats))
set_option hygiene false in
local macro_rules
  | `(tactic| o_reads) => `(tactic| first
    | with_reducible rfl
    | assumption
    | rfl
    | kp_flats
    | (show SqL _ _ _ _; first | assumption | (apply sqlOf; kp_flats) | (apply sqlSame; assumption; o_reads))
    | (show SqT _ _ _ _; first | assumption | (apply sqtOf; kp_flats) | (apply sqtAll; assumption) | (apply sqtSame; assumption; o_reads))
    | (show Cls _ _; first | exact T.cl_Calls | exact T.cl_Outer | exact T.cl_Ranked | exact T.cl_Unions)
    | (show NoAttr _ _ _; first | exact T.n_Calls_entries | exact T.n_Calls_running | exact T.n_Outer_calls | exact T.n_Outer_push_call | exact T.n_Outer_pop_call | exact T.n_Outer_ask_call | exact T.n_Outer_order | exact T.n_Outer_broken | exact T.n_Ranked_outer | exact T.n_Ranked_given | exact T.n_Ranked_held | exact T.n_Ranked_ranks | exact T.n_Ranked_removals | exact T.n_Unions_groups | exact T.n_Unions_parents | exact T.n_Unions_counts | exact T.n_Unions_moved)
    | (apply Or.inl; o_reads)
    | (apply Or.inr; o_reads)
    | (apply And.intro; (next => o_reads); o_reads)
    | (apply Exists.intro; o_reads)
    | exact Nat.le_of_ble_eq_true rfl
    | exact Nat.succ_ne_zero _
    | (show Fr _ _; kba_ints)
    | (show Same _ _; kd_subs)
    | (show Kp _ _ _; kxs_still)
    | (show (_ : Nat) ≤ _; simp only [List.length_append, List.length_map, List.length_cons, List.length_nil, List.length_take, List.length_drop, List.length_replicate, List.length_range, sizeLine_eq]; omega)
    | (show _ = none; apply Fr.h; kba_ints)
    | (show Bag _ _; first | assumption | (apply bag_putF; assumption; o_reads) | (apply bag_neF; (next => kbo_bools); o_reads) | (apply bag_kpR; assumption; (next => kaf_pre); o_reads))
    | omega
    | decide)
local macro_rules
  | `(tactic| o_readsAll) => `(tactic| repeat (first
    | (refine fun (pNew : Addr) (nNew : _ = none) => ?_; replace nNew := Fr.mk nNew)
    | (refine fun (xNew dNew : Addr) (nNew : _ = none) (mNew : _ = none) (eNew : dNew ≠ xNew) => ?_; replace nNew := Fr.mk nNew; replace mNew := Fr.mk mNew)
    | (apply And.intro; next => o_reads)
    | apply Exists.intro (α := V)
    | apply Exists.intro (α := Addr)
    | apply Exists.intro (α := Int)
    | apply Exists.intro (α := Bool)
    | apply Exists.intro (α := List V)
    | apply Exists.intro (α := List Nat)
    | apply Exists.intro (α := List (Str × V))
    | apply Exists.intro (α := List _)
    | apply Exists.intro (α := Str)
    | apply Exists.intro (α := HO)
    | apply Exists.intro (α := Sp)
    | apply Exists.intro (α := VK)))
set_option hygiene false in
local macro_rules
  | `(tactic| kba_ints) => `(tactic| first
    | assumption
    | (apply frUp; (first | assumption | (apply Ne.symm; assumption)); kba_ints)
    | (apply noneOf; assumption; intro oF eF; apply Exists.intro; kp_flats)
    | (apply frUp; (next => kbo_bools); kba_ints))
set_option hygiene false in
local macro_rules
  | `(tactic| kxs_still) => `(tactic| first
    | assumption
    | exact kp_refl _ _
    | (apply kp_newF; assumption; kxs_still)
    | (apply kp_new; assumption; kxs_still)
    | (apply kp_up; (next => o_fieldsN); kxs_still)
    | (apply kp_new; (next => kba_ints); kxs_still)
    | (apply kp_sameR; assumption; kxs_still)
    | (apply kp_transR; assumption; kxs_still)
    | (apply kp_freshR; assumption; (next => kaf_suf); kxs_still))
set_option hygiene false in
local macro_rules
  | `(tactic| kaf_suf) => `(tactic| first
    | assumption
    | exact subNil
    | (apply subCons; (first | (apply Or.inl; o_fieldsN) | (apply Or.inr; kba_ints)); kaf_suf)
    | (apply subApp; (next => kaf_suf); kaf_suf))
set_option hygiene false in
local macro_rules
  | `(tactic| o_fieldsN) => `(tactic| first
    | assumption
    | exact memA
    | (apply memB; o_fieldsN)
    | (apply memL; o_fieldsN)
    | (apply memR; o_fieldsN))
set_option hygiene false in
local macro_rules
  | `(tactic| kd_subs) => `(tactic| first
    | assumption
    | exact Same.refl _
    | (apply same_putF; assumption; kd_subs)
    | (apply same_putG; assumption; kd_subs)
    | (apply same_putF; (next => kba_ints); kd_subs)
    | (apply same_transR; assumption; kd_subs))

/-! ### == and != of lists that hold the very same objects -/
def NoTok (v : V) : Prop := v = .non ∨ ∃ a, v = .ref a
theorem noTok_val {v : V} {u u' : Value} (h : NoTok v) (r : RelV v u) (r' : RelV v u') : u = u' := by
  rcases h with rfl | ⟨a, rfl⟩
  · exact (show u = Value.none from r).trans (show u' = Value.none from r').symm
  · exact (show u = Value.ref a from r).trans (show u' = Value.ref a from r').symm
theorem noTok_all : ∀ {xs : List V} {us us' : List Value}, (∀ x ∈ xs, NoTok x) → Vals xs us → Vals xs us' → us = us'
  | [], _, _, _, r, r' => by
    cases r
    cases r'
    rfl
  | x :: xs, _, _, h, r, r' => by
    cases r with
    | cons r1 r2 =>
      cases r' with
      | cons q1 q2 => rw [noTok_val (h x (List.mem_cons_self ..)) r1 q1, noTok_all (fun y hy => h y (List.mem_cons_of_mem _ hy)) r2 q2]
/-- both lists hold the objects xs -/
def rSame (K : PySem.W.Frag) (b : Bool) : R2 := fun x y H Q => ∃ (p q : Addr) (xs : List V), x = .ref p ∧ y = .ref q ∧ SqL K H p xs ∧ SqL K H q xs ∧ (∀ v ∈ xs, NoTok v) ∧ Q (.bl b) H
theorem all_yes (n : Nat) : (List.range n).all (fun _ => true) = true := List.all_eq_true.mpr fun _ _ => rfl
section
variable {X : Cx} {pins : List (Addr × Obj)} {σ : L2.St} {H : Hp} {s : Shared} {p q : Addr} {xs : List V}
theorem same_lists (I : Inv X pins σ H s) (hp : SqL X.K H p xs) (hq : SqL X.K H q xs) (hn : ∀ v ∈ xs, NoTok v) : ∃ its : Array Value, s.heap.IsList p its ∧ s.heap.IsList q its := by
  obtain ⟨its, rv, ⟨o, n, h1, h2, _, h3⟩, _⟩ := I.list hp
  obtain ⟨its', rv', ⟨o', n', h1', h2', _, h3'⟩, _⟩ := I.list hq
  obtain rfl := noTok_all hn rv rv'
  exact ⟨its.toArray, ⟨o, h1, h2, n, h3⟩, ⟨o', h1', h2', n', h3'⟩⟩
end
theorem op_eqS {X : Cx} (hu : X.A.units + 64 < cLine) : OpR X (compareOp .Eq) (rSame X.K true) := by
  intro pins s σ H x y v u Q I rx ry h
  obtain ⟨p, q, xs, rfl, rfl, hp, hq, hn, k⟩ := h
  obtain rfl : v = Value.ref p := rx
  obtain rfl : u = Value.ref q := ry
  obtain ⟨its, h1, h2⟩ := same_lists I hp hq hn
  have z := SeqAt.RcAt.lists (A := X.A) (e := fun _ => true) h1 h2 rfl (by omega) (fun j j1 j2 => SeqAt.EqAt.same _)
  rw [all_yes] at z
  exact z _ _ _ _ ⟨.bl true, H, I, rfl, k⟩
theorem op_neS {X : Cx} (hu : X.A.units + 64 < cLine) : OpR X (compareOp .NotEq) (rSame X.K false) := by
  intro pins s σ H x y v u Q I rx ry h
  obtain ⟨p, q, xs, rfl, rfl, hp, hq, hn, k⟩ := h
  obtain rfl : v = Value.ref p := rx
  obtain rfl : u = Value.ref q := ry
  obtain ⟨its, h1, h2⟩ := same_lists I hp hq hn
  have z := SeqAt.RcNeAt.lists (A := X.A) (e := fun _ => true) h1 h2 rfl (by omega) (fun j j1 j2 => SeqAt.EqAt.same _)
  rw [all_yes] at z
  exact z _ _ _ _ ⟨.bl false, H, I, rfl, k⟩
/-- a list against the empty one -/
def rNeNil (K : PySem.W.Frag) : R2 := fun x y H Q => ∃ (p q : Addr) (xs : List V), x = .ref p ∧ y = .ref q ∧ SqL K H p xs ∧ SqL K H q [] ∧ Q (.bl (!xs.isEmpty)) H
theorem is_list {X : Cx} {pins : List (Addr × Obj)} {σ : L2.St} {H : Hp} {s : Shared} {p : Addr} {xs : List V} (I : Inv X pins σ H s) (hp : SqL X.K H p xs) : ∃ its : Array Value, its.size = xs.length ∧ s.heap.IsList p its := by
  obtain ⟨its, rv, ⟨o, n, h1, h2, _, h3⟩, _⟩ := I.list hp
  exact ⟨its.toArray, by rw [List.size_toArray, rv.length], ⟨o, h1, h2, n, h3⟩⟩
theorem op_neNil {X : Cx} (hu : X.A.units + 64 < cLine) : OpR X (compareOp .NotEq) (rNeNil X.K) := by
  intro pins s σ H x y v u Q I rx ry h
  obtain ⟨p, q, xs, rfl, rfl, hp, hq, k⟩ := h
  cases xs with
  | nil => exact op_neS hu pins s σ H _ _ v u Q I rx ry ⟨p, q, [], rfl, rfl, hp, hq, (fun _ z => nomatch z), k⟩
  | cons a l =>
    obtain rfl : v = Value.ref p := rx
    obtain rfl : u = Value.ref q := ry
    obtain ⟨i1, e1, h1⟩ := is_list I hp
    obtain ⟨i2, e2, h2⟩ := is_list I hq
    have z := SeqAt.RcNeAt.lists_lengths (A := X.A) h1 h2 (by rw [e1, e2]; rfl) (by omega)
    exact z _ _ _ _ ⟨.bl true, H, I, rfl, k⟩

def rEqNil (K : PySem.W.Frag) : R2 := fun x y H Q => ∃ (p q : Addr) (xs : List V), x = .ref p ∧ y = .ref q ∧ SqL K H p xs ∧ SqL K H q [] ∧ Q (.bl xs.isEmpty) H
theorem op_eqNil {X : Cx} (hu : X.A.units + 64 < cLine) : OpR X (compareOp .Eq) (rEqNil X.K) := by
  intro pins s σ H x y v u Q I rx ry h
  obtain ⟨p, q, xs, rfl, rfl, hp, hq, k⟩ := h
  cases xs with
  | nil => exact op_eqS hu pins s σ H _ _ v u Q I rx ry ⟨p, q, [], rfl, rfl, hp, hq, (fun _ z => nomatch z), k⟩
  | cons a l =>
    obtain rfl : v = Value.ref p := rx
    obtain rfl : u = Value.ref q := ry
    obtain ⟨i1, e1, h1⟩ := is_list I hp
    obtain ⟨i2, e2, h2⟩ := is_list I hq
    have z := SeqAt.RcAt.lists_lengths (A := X.A) h1 h2 (by rw [e1, e2]; rfl) (by omega)
    exact z _ _ _ _ ⟨.bl false, H, I, rfl, k⟩

theorem kb_of {K : PySem.W.Frag} {x qual : Str} {st : Stmt} {f : Addr} {fd : FuncData} {ps ks : List Str} {n : Nat} {g : List Value → List Value → List Value} {gV : List V → List V → List V} (F : Fun K x qual st f fd)
    (h : ∀ (kV doc pm : Value) (an : Option Addr) (cdv ct : Value) (us ws : List Value), us.length = n → ws.length = ks.length → bindArgs (PySem.W.fnOf x qual (defArgs st) (defBody st) (defScope st) .none kV doc pm an cdv ct) ⟨us, ks.zip ws⟩ = pure (ps.zip (g us ws)))
    (r : ∀ {vs : List V} {us : List Value} {zs : List V} {ws : List Value}, Vals vs us → Vals zs ws → Vals (gV vs zs) (g us ws)) : KBn K fd ps n ks g gV := by
  obtain ⟨oc, od, kV, doc, pm, an, cdv, ct, osl, rfl, lk, hcd⟩ := F.ex
  exact ⟨fun s us ws X l1 l2 => .of_eq (h kV doc pm an cdv ct us ws l1 l2), r⟩

set_option pp.maxSteps 900
namespace Un
theorem u16 {k : Nat} {A : Around} (r : Room k A) : A.units + 64 + 16 < cLine := by
  have := r.un
  omega
/-- a list of pairs -/
structure PsAt (H : Hp) (a : Addr) (ts : List Addr) (ps : List (Nat × Nat)) : Prop where
  l : H a = some (.lst (ts.map V.ref))
  n : ts.length = ps.length
  t : ∀ (i : Nat) (t : Addr) (p : Nat × Nat), ts[i]? = some t → ps[i]? = some p → H t = some (.tup [.int (p.1 : Int), .int (p.2 : Int)])
theorem PsAt.same {H H1 : Hp} {a : Addr} {ts : List Addr} {ps : List (Nat × Nat)} (h : PsAt H a ts ps) (s : Same H H1) : PsAt H1 a ts ps := ⟨s _ _ h.l, h.n, fun i t p e1 e2 => s _ _ (h.t i t p e1 e2)⟩
section
variable {P : Program} {w : World} {K : PySem.W.Frag} {mg : Str → Option Value} {base : Heap}
def spComp : Sp := fun vs H Q _ => ∃ (a : Addr) (ts : List Addr) (ps : List (Nat × Nat)) (x W : Nat), vs = [.ref a, .int (x : Int)] ∧ PsAt H a ts ps ∧ ps.length ≤ 10000 ∧ InW W ps ∧ x < W ∧ W ≤ 10000 ∧ ∀ (o : Addr) (F : List Nat) (H' : Hp), Fr H o → Same H H' → H' o = some (.lst (F.map nV)) → F.Nodup → (∀ y, y ∈ F ↔ Cn ps x y) → Q (.ref o) H'
theorem ok_comp (T : Txt K mg) : FnOk P w K mg base CX0 1 T.f_l_component T.d_l_component ["_law_pairs", "_law_point"] spComp := by
  refine T.F_l_component.ok sc_l_component (fun vs H Q E h => ?_) (fun cdv A outer s H vs Q E hr h => ?_)
  · obtain ⟨a, ts, ps, x, W, rfl, _⟩ := h
    rfl
  · obtain ⟨a, ts, ps, x, W, rfl, hP, hle, hw, hx, hW, q⟩ := h
    refine ⟨_, (pss_cons (ps_set (i := 2) sc_l_component.nd rfl (.inl rfl) (pe_lst (pa_cons (pv 1) pa_nil)))
      (pss_cons (ps_for PassesOwn.never rfl (pi_range1 (by rfl) T.z_range (pa_cons (pe_callB call_len_seq (by rfl) T.z_len (by decide +kernel) (pa_cons (pv 0) pa_nil)) pa_nil)) (pg_name (i := 3) sc_l_component.nd rfl (.inl rfl)) (pss_one (ps_for PassesOwn.never rfl (pi_list (pv 0)) (pg_tup (by rfl) (pgs_cons (pg_name (i := 4) sc_l_component.nd rfl (.inl rfl)) (pgs_cons (pg_name (i := 5) sc_l_component.nd rfl (.inl rfl)) pgs_nil))) (pss_one (ps_if (pt_cmpR op_ne (pe_cmpR op_in_seq (pv 4) (pv 2) (by rfl)) (pe_cmpR op_in_seq (pv 5) (pv 2) (by rfl)) (nomark _)) (pss_one (ps_expr (pe_bm PySem.F.plainAttrs_list PySem.F.slot_list_append PySem.F.type_list_append mt_append (pv 2) (pa_cons (pe_ifExp (pt_cmpR op_in_seq (pv 4) (pv 2) (by rfl)) (pv 5) (pv 4)) pa_nil)))) pss_nil)))))
      (pss_one (ps_ret (pv 2))))), ?_⟩
    have hPl := hP.l
    have hts : (ts.map V.ref).length = ps.length := by rw [List.length_map, hP.n]
    o_readsAll
    rename_i o no
    have e0 : ([V.int (x : Int)] : List V) = [x].map nV := rfl
    have hao : a ≠ o := neN no hPl
    refine for_range (n := ((((ts.map V.ref).length : Nat) : Int)).toNat) (fun i σ H' => ∃ y3 y4 y5 F, σ = [some (.ref a), some (.int (x : Int)), some (.ref o), y3, y4, y5] ∧ Same H H' ∧ H' o = some (.lst (F.map nV)) ∧ Fnd ps x F ∧ (Closed ps F ∨ openN ps F + i ≤ ps.length)) ⟨_, _, _, [x], rfl, by kd_subs, upd_same, Fnd.one ps x, .inr (List.length_filter_le _ _)⟩ ?_ ?_
    · rintro i σ H1 hi ⟨y3, y4, y5, F, rfl, s1, e1, hF, hc⟩
      have hP1 := hP.same s1
      have hP1l := hP1.l
      have hi' : i < ps.length := by
        rw [hts] at hi
        exact hi
      o_readsAll
      refine for_list (xs := ts.map V.ref) (fun j σ H' => ∃ y4 y5 F', σ = [some (.ref a), some (.int (x : Int)), some (.ref o), some (.int (0 + (i : Int))), y4, y5] ∧ Same H H' ∧ H' o = some (.lst (F'.map nV)) ∧ Fnd ps x F' ∧ (Closed ps F' ∨ (openN ps F' + i ≤ ps.length ∧ ∀ p ∈ ps.take j, p.1 ∈ F' ↔ p.2 ∈ F') ∨ openN ps F' + (i + 1) ≤ ps.length)) ⟨_, _, F, rfl, s1, e1, hF, hc.imp id fun z => .inl ⟨z, fun _ m => nomatch m⟩⟩ ?_ ?_ ?_
      · rintro j σ H2 _ ⟨y4, y5, F', rfl, s2, e2, hF', hc'⟩
        exact sqlOf (hP.same s2).l
      · rintro j y σ H2 hy ⟨y4, y5, F', rfl, s2, e2, hF', hc'⟩
        rw [List.getElem?_map] at hy
        obtain ⟨t, ht, rfl⟩ := Option.map_eq_some_iff.mp hy
        have hj : j < ps.length := by
          have := (List.getElem?_eq_some_iff.mp ht).1
          rw [hP.n] at this
          exact this
        obtain ⟨p, hp⟩ : ∃ p, ps[j]? = some p := ⟨_, List.getElem?_eq_getElem hj⟩
        have hpm : p ∈ ps := List.mem_of_getElem? hp
        have htp := (hP.same s2).t j t p ht hp
        have ltk : ∀ q ∈ ps.take (j + 1), q ∈ ps.take j ∨ q = p := fun q m => by
          rw [List.take_succ, hp] at m
          exact (List.mem_append.mp m).imp id fun z => List.mem_singleton.mp z
        refine ⟨t, _, rfl, sqtOf htp, rfl, ?_⟩
        have v1 := in_nat p.1 F'
        have v2 := in_nat p.2 F'
        have fl := flat_nats F'
        o_readsAll
        by_cases c : p.1 ∈ F' ↔ p.2 ∈ F'
        · have hq : (!decide (V.bl (inV (.int (p.1 : Int)) (F'.map nV)) = V.bl (inV (.int (p.2 : Int)) (F'.map nV)))) = false := by
            rw [show inV (.int (p.1 : Int)) (F'.map nV) = _ from v1, show inV (.int (p.2 : Int)) (F'.map nV) = _ from v2]
            by_cases d : p.1 ∈ F'
            · rw [dT d, dT (c.mp d)]
              decide
            · rw [dF d, dF fun z => d (c.mpr z)]
              decide
          refine ifF hq ?_
          refine ⟨_, _, F', rfl, s2, e2, hF', hc'.imp id fun z => z.imp (fun z => ⟨z.1, fun q m => (ltk q m).elim (z.2 q) fun e => by rw [e]; exact c⟩) id⟩
        · have hq : (!decide (V.bl (inV (.int (p.1 : Int)) (F'.map nV)) = V.bl (inV (.int (p.2 : Int)) (F'.map nV)))) = true := by
            rw [show inV (.int (p.1 : Int)) (F'.map nV) = _ from v1, show inV (.int (p.2 : Int)) (F'.map nV) = _ from v2]
            by_cases d : p.1 ∈ F'
            · rw [dT d, dF fun z => c ⟨fun _ => z, fun _ => d⟩]
              decide
            · rw [dF d, dT (Decidable.byContradiction fun z => c ⟨fun q => absurd q d, fun q => absurd q z⟩)]
              decide
          refine ifT hq ?_
          have lF : F'.length ≤ 10000 := by
            have := nd_le (b := List.range W) hF'.nd fun y hy => List.mem_range.mpr (cn_lt hw hx (hF'.c y hy))
            rw [List.length_range] at this
            omega
          have hnew := hF'.add hpm c
          have hop : Closed ps (F' ++ [if p.1 ∈ F' then p.2 else p.1]) ∨ (openN ps (F' ++ [if p.1 ∈ F' then p.2 else p.1]) + i ≤ ps.length ∧ ∀ q ∈ ps.take (j + 1), q.1 ∈ (F' ++ [if p.1 ∈ F' then p.2 else p.1]) ↔ q.2 ∈ (F' ++ [if p.1 ∈ F' then p.2 else p.1])) ∨ openN ps (F' ++ [if p.1 ∈ F' then p.2 else p.1]) + (i + 1) ≤ ps.length := by
            have lt := open_lt hpm c
            rcases hc' with z | z | z
            · exact absurd (z p hpm) c
            · exact .inr (.inr (by have := z.1; omega))
            · exact .inr (.inr (by omega))
          o_readsAll
          by_cases d : p.1 ∈ F'
          · rw [if_pos d] at hnew hop
            refine ifT (show inV (.int (p.1 : Int)) (F'.map nV) = true from v1.trans (dT d)) ?_
            o_readsAll
            refine ⟨_, _, F' ++ [p.2], rfl, by kd_subs, ?_, hnew, hop⟩
            rw [List.map_append]
            exact upd_same
          · rw [if_neg d] at hnew hop
            refine ifF (show inV (.int (p.1 : Int)) (F'.map nV) = false from v1.trans (dF d)) ?_
            o_readsAll
            refine ⟨_, _, F' ++ [p.1], rfl, by kd_subs, ?_, hnew, hop⟩
            rw [List.map_append]
            exact upd_same
      · rintro σ H2 ⟨y4, y5, F', rfl, s2, e2, hF', hc'⟩
        refine ⟨_, _, _, F', rfl, s2, e2, hF', ?_⟩
        rcases hc' with z | z | z
        · exact .inl z
        · refine .inl fun p hp => z.2 p ?_
          rw [List.take_of_length_le (by rw [hts]; exact Nat.le_refl _)]
          exact hp
        · exact .inr z
    · rintro σ H1 ⟨y3, y4, y5, F, rfl, s1, e1, hF, hc⟩
      o_readsAll
      refine q o F H1 no s1 e1 hF.nd (hF.iff (hc.elim id fun z => open_zero ?_))
      rw [hts] at z
      omega
end
end Un
end Ob

set_option Elab.async false
set_option linter.all false
set_option maxRecDepth 100000
set_option maxHeartbeats 1000000
namespace Ob
open PySem PySem.Spec PyProof.Rows L2
open LamX (Tabs TabB TabS ExtN)

set_option hygiene false in
local macro_rules
  | `(tactic| kp_flats) => `(tactic| first
    | assumption
    | exact upd_same
    | (apply atNew; assumption; kp_flats)
    | (apply atNe; (next => kbo_bools); kp_flats)
    | (apply atSame; assumption; kp_flats)
    | (apply atKp; assumption; (next => kaf_pre); kp_flats))
set_option hygiene false in
local macro_rules
  | `(tactic| kaf_pre) => `(tactic| first
    | assumption
    | exact not_nil
    | (apply not_cons; (next => kbo_bools); kaf_pre)
    | (apply not_app; (next => kaf_pre); kaf_pre))
set_option hygiene false in
local macro_rules
  | `(tactic| kbo_bools) => `(tactic| first
    | assumption
    | (apply Ne.symm; assumption)
    | (apply neN; assumption; kp_flats)
    | (apply neN'; assumption; kp_flats))
set_option hygiene false in
local macro_rules
  | `(tactic| o_reads) => `(tactic| first
    | with_reducible rfl
    | assumption
    | rfl
    | kp_flats
    | (show SqL _ _ _ _; first | assumption | (apply sqlOf; kp_flats) | (apply sqlSame; assumption; o_reads))
    | (show SqT _ _ _ _; first | assumption | (apply sqtOf; kp_flats) | (apply sqtAll; assumption) | (apply sqtSame; assumption; o_reads))
    | (show Cls _ _; first | exact T.cl_Calls | exact T.cl_Outer | exact T.cl_Ranked | exact T.cl_Unions)
    | (show NoAttr _ _ _; first | exact T.n_Calls_entries | exact T.n_Calls_running | exact T.n_Outer_calls | exact T.n_Outer_push_call | exact T.n_Outer_pop_call | exact T.n_Outer_ask_call | exact T.n_Outer_order | exact T.n_Outer_broken | exact T.n_Ranked_outer | exact T.n_Ranked_given | exact T.n_Ranked_held | exact T.n_Ranked_ranks | exact T.n_Ranked_removals | exact T.n_Unions_groups | exact T.n_Unions_parents | exact T.n_Unions_counts | exact T.n_Unions_moved)
    | (apply Or.inl; o_reads)
    | (apply Or.inr; o_reads)
    | (apply And.intro; (next => o_reads); o_reads)
    | (apply Exists.intro; o_reads)
    | exact Nat.le_of_ble_eq_true rfl
    | exact Nat.succ_ne_zero _
    | (show Fr _ _; kba_ints)
    | (show Same _ _; kd_subs)
    | (show Kp _ _ _; kxs_still)
    | (show (_ : Nat) ≤ _; simp only [List.length_append, List.length_map, List.length_cons, List.length_nil, List.length_take, List.length_drop, List.length_replicate, List.length_range, sizeLine_eq]; omega)
    | (show _ = none; apply Fr.h; kba_ints)
    | (show Bag _ _; first | assumption | (apply bag_putF; assumption; o_reads) | (apply bag_neF; (next => kbo_bools); o_reads) | (apply bag_kpR; assumption; (next => kaf_pre); o_reads))
    | omega
    | decide)
local macro_rules
  | `(tactic| o_readsAll) => `(tactic| repeat (first
    | (refine fun (pNew : Addr) (nNew : _ = none) => ?_; replace nNew := Fr.mk nNew)
    | (refine fun (xNew dNew : Addr) (nNew : _ = none) (mNew : _ = none) (eNew : dNew ≠ xNew) => ?_; replace nNew := Fr.mk nNew; replace mNew := Fr.mk mNew)
    | (apply And.intro; next => o_reads)
    | apply Exists.intro (α := V)
    | apply Exists.intro (α := Addr)
    | apply Exists.intro (α := Int)
    | apply Exists.intro (α := Bool)
    | apply Exists.intro (α := List V)
    | apply Exists.intro (α := List Nat)
    | apply Exists.intro (α := List (Str × V))
    | apply Exists.intro (α := List _)
    | apply Exists.intro (α := Str)
    | apply Exists.intro (α := HO)
    | apply Exists.intro (α := Sp)
    | apply Exists.intro (α := VK)))
set_option hygiene false in
local macro_rules
  | `(tactic| kba_ints) => `(tactic| first
    | assumption
    | (apply frUp; (first | assumption | (apply Ne.symm; assumption)); kba_ints)
    | (apply noneOf; assumption; intro oF eF; apply Exists.intro; kp_flats)
    | (apply frUp; (next => kbo_bools); kba_ints))
set_option hygiene false in
local macro_rules
  | `(tactic| kxs_still) => `(tactic| first
    | assumption
    | exact kp_refl _ _
    | (apply kp_newF; assumption; kxs_still)
    | (apply kp_new; assumption; kxs_still)
    | (apply kp_up; (next => o_fieldsN); kxs_still)
    | (apply kp_new; (next => kba_ints); kxs_still)
    | (apply kp_sameR; assumption; kxs_still)
    | (apply kp_transR; assumption; kxs_still)
    | (apply kp_freshR; assumption; (next => kaf_suf); kxs_still))
set_option hygiene false in
local macro_rules
  | `(tactic| kaf_suf) => `(tactic| first
    | assumption
    | exact subNil
    | (apply subCons; (first | (apply Or.inl; o_fieldsN) | (apply Or.inr; kba_ints)); kaf_suf)
    | (apply subApp; (next => kaf_suf); kaf_suf))
set_option hygiene false in
local macro_rules
  | `(tactic| o_fieldsN) => `(tactic| first
    | assumption
    | exact memA
    | (apply memB; o_fieldsN)
    | (apply memL; o_fieldsN)
    | (apply memR; o_fieldsN))
set_option hygiene false in
local macro_rules
  | `(tactic| kd_subs) => `(tactic| first
    | assumption
    | exact Same.refl _
    | (apply same_putF; assumption; kd_subs)
    | (apply same_putG; assumption; kd_subs)
    | (apply same_putF; (next => kba_ints); kd_subs)
    | (apply same_transR; assumption; kd_subs))

/-- len within a comprehension: the fragment is named -/
theorem call_lenK {X : Cx} (K : PySem.W.Frag) (e : X.K = K) : CallR X (.builtin "len") (fun xs H Q => ∃ p ys, xs = [.ref p] ∧ (SqL K H p ys ∨ SqT K H p ys) ∧ Q (.int ys.length) H) := by
  subst e
  exact call_len_seq
theorem cr_minKK {X : Cx} (K : PySem.W.Frag) (e : X.K = K) (hc : X.calm = true) : CallR X (.builtin "min") (rMin K) := by
  subst e
  exact cr_min hc

set_option pp.maxSteps 900
namespace Un
/-! ### answers go by who is there, not by the order -/
def Qn.inW (W : Nat) : Qn → Prop
  | .same a b => a < W ∧ b < W
  | .size a => a < W
  | .groups => True
theorem ans_same {W : Nat} {ps : List (Nat × Nat)} (h : InW W ps) {a b : Nat} {F : List Nat} (m : ∀ y, y ∈ F ↔ Cn ps a y) : Qn.ans W ps (.same a b) = .bl (decide (b ∈ F)) := by
  show V.bl (decide (rootF a (linksOf ps) = rootF b (linksOf ps))) = _
  congr 1
  exact decide_eq_decide.mpr ((root_iff h).trans (m b).symm)
theorem ans_size {W : Nat} {ps : List (Nat × Nat)} (h : InW W ps) {a : Nat} (ha : a < W) {F : List Nat} (nd : F.Nodup) (m : ∀ y, y ∈ F ↔ Cn ps a y) : Qn.ans W ps (.size a) = .int (F.length : Nat) := by
  show V.int (subF (linksOf ps) (rootF a (linksOf ps)) : Nat) = _
  rw [size_of h ha nd m]
theorem ans_groups {W : Nat} {ps : List (Nat × Nat)} (h : InW W ps) {M : List Nat} (nd : M.Nodup) (m : ∀ y, y ∈ M ↔ y < W ∧ ∀ z, Cn ps y z → y ≤ z) : Qn.ans W ps .groups = .int (M.length : Nat) := by
  have e := groups_of h nd m
  show V.int ((W : Int) - ((linksOf ps).length : Nat)) = _
  congr 1
  omega
/-- y is the least of its part -/
def minB (ps : List (Nat × Nat)) (W y : Nat) : Bool := (List.range W).all fun z => !decide (rootF y (linksOf ps) = rootF z (linksOf ps)) || decide (y ≤ z)
theorem minB_iff {W : Nat} {ps : List (Nat × Nat)} (h : InW W ps) {y : Nat} (hy : y < W) : minB ps W y = true ↔ ∀ z, Cn ps y z → y ≤ z := by
  unfold minB
  rw [List.all_eq_true]
  constructor
  · intro g z c
    have hz := cn_lt h hy c
    have := g z (List.mem_range.mpr hz)
    rw [Bool.or_eq_true] at this
    rcases this with e | e
    · rw [dT ((root_iff h).mpr c)] at e
      cases e
    · exact of_decide_eq_true e
  · intro g z _
    rw [Bool.or_eq_true]
    by_cases c : rootF y (linksOf ps) = rootF z (linksOf ps)
    · exact .inr (decide_eq_true (g z ((root_iff h).mp c)))
    · exact .inl (by rw [dF c]; rfl)
def minsOf (ps : List (Nat × Nat)) (W i : Nat) : List Nat := (List.range i).filter (minB ps W)
theorem mins_iff {W : Nat} {ps : List (Nat × Nat)} (h : InW W ps) (y : Nat) : y ∈ minsOf ps W W ↔ y < W ∧ ∀ z, Cn ps y z → y ≤ z := by
  unfold minsOf
  rw [List.mem_filter, List.mem_range]
  exact ⟨fun g => ⟨g.1, (minB_iff h g.1).mp g.2⟩, fun g => ⟨g.1, (minB_iff h g.1).mpr g.2⟩⟩
theorem ans_mem {W : Nat} {ps qs : List (Nat × Nat)} (h1 : InW W ps) (h2 : InW W qs) (e : ∀ p, p ∈ ps ↔ p ∈ qs) {q : Qn} (hq : q.inW W) : q.ans W ps = q.ans W qs := by
  have cn : ∀ x y, Cn ps x y ↔ Cn qs x y := fun x y => ⟨fun c => c.more fun p => (e p).mp, fun c => c.more fun p => (e p).mpr⟩
  have hF : ∀ (a : Nat), a < W → ∀ y, y ∈ (List.range W).filter (fun y => decide (rootF a (linksOf ps) = rootF y (linksOf ps))) ↔ Cn ps a y := fun a ha y => by
    rw [List.mem_filter, List.mem_range]
    exact ⟨fun g => (root_iff h1).mp (of_decide_eq_true g.2), fun c => ⟨cn_lt h1 ha c, decide_eq_true ((root_iff h1).mpr c)⟩⟩
  match q, hq with
  | .same a b, hq => rw [ans_same h1 (hF a hq.1), ans_same h2 fun y => (hF a hq.1 y).trans (cn a y)]
  | .size a, hq =>
    have hq : a < W := hq
    rw [ans_size h1 hq (fil_nd (range_nd W)) (hF a hq), ans_size h2 hq (fil_nd (range_nd W)) fun y => (hF a hq y).trans (cn a y)]
  | .groups, _ =>
    rw [ans_groups h1 (M := minsOf ps W W) (fil_nd (range_nd W)) (mins_iff h1), ans_groups h2 (M := minsOf ps W W) (fil_nd (range_nd W)) fun y => (mins_iff h1 y).trans ⟨fun g => ⟨g.1, fun z c => g.2 z ((cn y z).mpr c)⟩, fun g => ⟨g.1, fun z c => g.2 z ((cn y z).mp c)⟩⟩]
section
variable {P : Program} {w : World} {K : PySem.W.Frag} {mg : Str → Option Value} {base : Heap}
def spAnswer : Sp := fun vs H Q _ => ∃ (a q : Addr) (ts : List Addr) (ps : List (Nat × Nat)) (W : Nat) (qn : Qn), vs = [.ref a, .int (W : Int), .ref q] ∧ PsAt H a ts ps ∧ ps.length ≤ 10000 ∧ InW W ps ∧ 0 < W ∧ W ≤ 100 ∧ H q = some (.tup qn.tup) ∧ qn.inW W ∧ ∀ H', Same H H' → Q (qn.ans W ps) H'
theorem ok_answer (T : Txt K mg) : FnOk P w K mg base CX0 2 T.f_l_answer T.d_l_answer ["_law_pairs", "_law_wide", "_law_question"] spAnswer := by
  have G_l_component := ok_comp (P := P) (w := w) (base := base) T
  refine T.F_l_answer.ok sc_l_answer (fun vs H Q E h => ?_) (fun cdv A outer s H vs Q E hr h => ?_)
  · obtain ⟨a, q, ts, ps, W, qn, rfl, _⟩ := h
    rfl
  · obtain ⟨a, q, ts, ps, W, qn, rfl, hP, hle, hw, hW0, hW, hq, hqw, k⟩ := h
    refine ⟨_, (pss_cons (ps_if (pt_cmpR op_eq (pe_ix (r := rIxT K) ix_tup (pv 2) pe_int (fun _ _ => rfl)) pe_str (nomark _)) (pss_one (ps_ret (pe_callB call_len_seq (by rfl) T.z_len (by decide +kernel) (pa_cons (pe_lc (own := [("_law_point", 4)]) (g := gName 4)  rfl sc_l_answer.nd (pi_range1 (by rfl) T.z_range (pa_cons (pv 1) pa_nil)) (blkOk_by (N := n_l_answer) (sc := defScope s_l_answer) (by decide +kernel)) (fun _ _ _ _ _ => (pg_name (i := 4) sc_l_answer.nd rfl (.inl rfl))) (fun _ _ _ _ _ => (pts_one (pt_cmpR op_eq (pe_callB (cr_minKK K rfl rfl) (by rfl) T.z_min (by decide +kernel) (pa_cons (pe_call G_l_component (hr.mono (by omega)) rfl T.g_l_component T.F_l_component.kp T.b_l_component .nil pass0 (pa_cons (pv 0) (pa_cons (pv 4) pa_nil))) pa_nil)) (pv 4) (nomark _)))) (fun _ _ _ _ _ => (pv 4))) pa_nil)))) pss_nil)
      (pss_cons (ps_set (i := 3) sc_l_answer.nd rfl (.inl rfl) (pe_call G_l_component (hr.mono (by omega)) rfl T.g_l_component T.F_l_component.kp T.b_l_component .nil pass0 (pa_cons (pv 0) (pa_cons (pe_ix (r := rIxT K) ix_tup (pv 2) pe_int (fun _ _ => rfl)) pa_nil))))
      (pss_one (ps_ret (pe_ifExp (pt_cmpR op_eq (pe_ix (r := rIxT K) ix_tup (pv 2) pe_int (fun _ _ => rfl)) pe_str (nomark _)) (pe_cmpR op_in_seq (pe_ix (r := rIxT K) ix_tup (pv 2) pe_int (fun _ _ => rfl)) (pv 3) (by rfl)) (pe_callB call_len_seq (by rfl) T.z_len (by decide +kernel) (pa_cons (pv 3) pa_nil))))))), ?_⟩
    cases qn with
    | same x b =>
      have q0 : atI (Qn.tup (.same x b)) 0 = some (.str "same") := atI_nat (j := 0) rfl
      have q1 : atI (Qn.tup (.same x b)) 1 = some (.int (x : Int)) := atI_nat (j := 1) rfl
      have q2 : atI (Qn.tup (.same x b)) 2 = some (.int (b : Int)) := atI_nat (j := 2) rfl
      refine ⟨_, rfl, q, _, 0, _, rfl, rfl, sqtOf hq, q0, rfl, _, rfl, ?_⟩
      refine ifF (by decide +kernel) ?_
      refine ⟨_, rfl, _, rfl, q, _, 1, _, rfl, rfl, sqtOf hq, q1, a, ts, ps, x, W, rfl, hP, hle, hw, hqw.1, by omega, fun o F H' fo s' ho nd m => ?_⟩
      refine ⟨_, rfl, q, _, 0, _, rfl, rfl, sqtOf (s' _ _ hq), q0, rfl, _, rfl, ?_⟩
      refine ifT rfl ?_
      have hin := in_nat b F
      have h3 := k _ s'
      rw [ans_same hw m, ← hin] at h3
      refine ⟨_, rfl, q, _, 2, _, rfl, rfl, sqtOf (s' _ _ hq), q2, _, rfl, ?_⟩
      exact ⟨o, _, rfl, .inl (sqlOf ho), rfl, flat_nats F, h3⟩
    | size x =>
      have q0 : atI (Qn.tup (.size x)) 0 = some (.str "size") := atI_nat (j := 0) rfl
      have q1 : atI (Qn.tup (.size x)) 1 = some (.int (x : Int)) := atI_nat (j := 1) rfl
      refine ⟨_, rfl, q, _, 0, _, rfl, rfl, sqtOf hq, q0, rfl, _, rfl, ?_⟩
      refine ifF (by decide +kernel) ?_
      have hqw : x < W := hqw
      refine ⟨_, rfl, _, rfl, q, _, 1, _, rfl, rfl, sqtOf hq, q1, a, ts, ps, x, W, rfl, hP, hle, hw, hqw, by omega, fun o F H' fo s' ho nd m => ?_⟩
      refine ⟨_, rfl, q, _, 0, _, rfl, rfl, sqtOf (s' _ _ hq), q0, rfl, _, rfl, ?_⟩
      refine ifF (by decide +kernel) ?_
      have h3 := k _ s'
      rw [ans_size hw hqw nd m] at h3
      refine ⟨_, rfl, o, _, rfl, .inl (sqlOf ho), ?_⟩
      rw [List.length_map]
      exact h3
    | groups =>
      have q0 : atI (Qn.tup .groups) 0 = some (.str "groups") := atI_nat (j := 0) rfl
      refine ⟨_, rfl, q, _, 0, _, rfl, rfl, sqtOf hq, q0, rfl, _, rfl, ?_⟩
      refine ifT rfl ?_
      refine ⟨_, rfl, _, rfl, by omega, by omega, fun D nD => ?_⟩
      have fD := Fr.mk nD
      refine lc_range (lo := 0) (n := W) (fun i H' => Same H H' ∧ H' D = some (.lst ((minsOf ps W i).map nV))) ⟨same_newF fD, upd_same⟩ ?_ ?_
      · rintro i H1 hi ⟨s1, eD⟩
        refine ⟨rfl, ?_⟩
        have hi0 : (0 : Int) + (i : Int) = (i : Int) := Int.zero_add _
        rw [hi0]
        refine ⟨_, rfl, _, rfl, a, ts, ps, i, W, rfl, hP.same s1, hle, hw, hi, by omega, fun o F H' fo s' ho nd m => ?_⟩
        have hoI : SqL K H' o ((F.map fun k : Nat => (k : Int)).map V.int) := by
          have := sqlOf (K := K) ho
          rw [show F.map nV = (F.map fun k : Nat => (k : Int)).map V.int by rw [List.map_map]; rfl] at this
          exact this
        have hiF : i ∈ F := (m i).mpr .refl
        refine ⟨o, _, rfl, hoI, by rw [List.length_map]; exact List.length_pos_of_mem hiF, fun mn h1 h2 => ?_⟩
        obtain ⟨k0, hk0, rfl⟩ := List.mem_map.mp h1
        have hb : decide (V.int (k0 : Int) = V.int (i : Int)) = minB ps W i := by
          rw [dec_nat]
          refine Bool.eq_iff_iff.mpr (Iff.trans ⟨of_decide_eq_true, decide_eq_true⟩ (Iff.trans ?_ (minB_iff hw hi).symm))
          constructor
          · rintro rfl z c
            have := h2 (z : Int) (List.mem_map.mpr ⟨z, (m z).mpr c, rfl⟩)
            exact Int.ofNat_le.mp this
          · intro g
            have e1 := g k0 ((m k0).mp hk0)
            have e2 := Int.ofNat_le.mp (h2 (i : Int) (List.mem_map.mpr ⟨i, hiF, rfl⟩))
            omega
        have hst : minsOf ps W (i + 1) = minsOf ps W i ++ if minB ps W i = true then [i] else [] := by
          unfold minsOf
          rw [List.range_succ, List.filter_append, List.filter_cons, List.filter_nil]
        have hlen : (minsOf ps W i).length ≤ i := by
          have := List.length_filter_le (minB ps W) (List.range i)
          rwa [List.length_range] at this
        refine ⟨_, rfl, rfl, _, rfl, ?_⟩
        have eD' := s' _ _ eD
        rw [hb, hst]
        by_cases c : minB ps W i = true
        · rw [if_pos c]
          refine ifT c ⟨_, rfl, _, eD', by rw [List.length_map, sizeLine_eq]; omega, same_putG fD (s1.trans s'), ?_⟩
          rw [upd_same, List.map_append]
          rfl
        · rw [if_neg c, List.append_nil]
          exact ifF (by cases h : minB ps W i; rfl; exact absurd h c) ⟨s1.trans s', eD'⟩
      · rintro H1 ⟨s1, eD⟩
        refine ⟨D, _, rfl, .inl (sqlOf eD), ?_⟩
        rw [List.length_map]
        have h3 := k _ s1
        rw [ans_groups hw (M := minsOf ps W W) (fil_nd (range_nd W)) (mins_iff hw)] at h3
        exact h3
end
end Un
end Ob

set_option Elab.async false
set_option linter.all false
set_option maxRecDepth 100000
set_option maxHeartbeats 1000000
namespace Ob
open PySem PySem.Spec PyProof.Rows L2
open LamX (Tabs TabB TabS ExtN)

set_option hygiene false in
local macro_rules
  | `(tactic| kp_flats) => `(tactic| first
    | assumption
    | exact upd_same
    | (apply atNew; assumption; kp_flats)
    | (apply atNe; (next => kbo_bools); kp_flats)
    | (apply atSame; assumption; kp_flats)
    | (apply atKp; assumption; (next => kaf_pre); kp_flats))
set_option hygiene false in
local macro_rules
  | `(tactic| kaf_pre) => `(tactic| first
    | assumption
    | exact not_nil
    | (apply not_cons; (next => kbo_bools); kaf_pre)
    | (apply not_app; (next => kaf_pre); kaf_pre))
set_option hygiene false in
local macro_rules
  | `(tactic| kbo_bools) => `(tactic| first
    | assumption
    | (apply Ne.symm; assumption)
    | (apply neN; assumption; kp_flats)
    | (apply neN'; assumption; kp_flats))
set_option hygiene false in
local macro_rules
  | `(tactic| o_reads) => `(tactic| first
    | with_reducible rfl
    | assumption
    | rfl
    | kp_flats
    | (show SqL _ _ _ _; first | assumption | (apply sqlOf; kp_flats) | (apply sqlSame; assumption; o_reads))
    | (show SqT _ _ _ _; first | assumption | (apply sqtOf; kp_flats) | (apply sqtAll; assumption) | (apply sqtSame; assumption; o_reads))
    | (show Cls _ _; first | exact T.cl_Calls | exact T.cl_Outer | exact T.cl_Ranked | exact T.cl_Unions)
    | (show NoAttr _ _ _; first | exact T.n_Calls_entries | exact T.n_Calls_running | exact T.n_Outer_calls | exact T.n_Outer_push_call | exact T.n_Outer_pop_call | exact T.n_Outer_ask_call | exact T.n_Outer_order | exact T.n_Outer_broken | exact T.n_Ranked_outer | exact T.n_Ranked_given | exact T.n_Ranked_held | exact T.n_Ranked_ranks | exact T.n_Ranked_removals | exact T.n_Unions_groups | exact T.n_Unions_parents | exact T.n_Unions_counts | exact T.n_Unions_moved)
    | (apply Or.inl; o_reads)
    | (apply Or.inr; o_reads)
    | (apply And.intro; (next => o_reads); o_reads)
    | (apply Exists.intro; o_reads)
    | exact Nat.le_of_ble_eq_true rfl
    | exact Nat.succ_ne_zero _
    | (show Fr _ _; kba_ints)
    | (show Same _ _; kd_subs)
    | (show Kp _ _ _; kxs_still)
    | (show (_ : Nat) ≤ _; simp only [List.length_append, List.length_map, List.length_cons, List.length_nil, List.length_take, List.length_drop, List.length_replicate, List.length_range, sizeLine_eq]; omega)
    | (show _ = none; apply Fr.h; kba_ints)
    | (show Bag _ _; first | assumption | (apply bag_putF; assumption; o_reads) | (apply bag_neF; (next => kbo_bools); o_reads) | (apply bag_kpR; assumption; (next => kaf_pre); o_reads))
    | omega
    | decide)
local macro_rules
  | `(tactic| o_readsAll) => `(tactic| repeat (first
    | (refine fun (pNew : Addr) (nNew : _ = none) => ?_; replace nNew := Fr.mk nNew)
    | (refine fun (xNew dNew : Addr) (nNew : _ = none) (mNew : _ = none) (eNew : dNew ≠ xNew) => ?_; replace nNew := Fr.mk nNew; replace mNew := Fr.mk mNew)
    | (apply And.intro; next => o_reads)
    | apply Exists.intro (α := V)
    | apply Exists.intro (α := Addr)
    | apply Exists.intro (α := Int)
    | apply Exists.intro (α := Bool)
    | apply Exists.intro (α := List V)
    | apply Exists.intro (α := List Nat)
    | apply Exists.intro (α := List (Str × V))
    | apply Exists.intro (α := List _)
    | apply Exists.intro (α := Str)
    | apply Exists.intro (α := HO)
    | apply Exists.intro (α := Sp)
    | apply Exists.intro (α := VK)))
set_option hygiene false in
local macro_rules
  | `(tactic| kba_ints) => `(tactic| first
    | assumption
    | (apply frUp; (first | assumption | (apply Ne.symm; assumption)); kba_ints)
    | (apply noneOf; assumption; intro oF eF; apply Exists.intro; kp_flats)
    | (apply frUp; (next => kbo_bools); kba_ints))
set_option hygiene false in
local macro_rules
  | `(tactic| kxs_still) => `(tactic| first
    | assumption
    | exact kp_refl _ _
    | (apply kp_newF; assumption; kxs_still)
    | (apply kp_new; assumption; kxs_still)
    | (apply kp_up; (next => o_fieldsN); kxs_still)
    | (apply kp_new; (next => kba_ints); kxs_still)
    | (apply kp_sameR; assumption; kxs_still)
    | (apply kp_transR; assumption; kxs_still)
    | (apply kp_freshR; assumption; (next => kaf_suf); kxs_still))
set_option hygiene false in
local macro_rules
  | `(tactic| kaf_suf) => `(tactic| first
    | assumption
    | exact subNil
    | (apply subCons; (first | (apply Or.inl; o_fieldsN) | (apply Or.inr; kba_ints)); kaf_suf)
    | (apply subApp; (next => kaf_suf); kaf_suf))
set_option hygiene false in
local macro_rules
  | `(tactic| o_fieldsN) => `(tactic| first
    | assumption
    | exact memA
    | (apply memB; o_fieldsN)
    | (apply memL; o_fieldsN)
    | (apply memR; o_fieldsN))
set_option hygiene false in
local macro_rules
  | `(tactic| kd_subs) => `(tactic| first
    | assumption
    | exact Same.refl _
    | (apply same_putF; assumption; kd_subs)
    | (apply same_putG; assumption; kd_subs)
    | (apply same_putF; (next => kba_ints); kd_subs)
    | (apply same_transR; assumption; kd_subs))

set_option pp.maxSteps 900
open NdefX (TabsN)
open Inf (LClo cut mend cellsOf)
def noSt : Stmt := .Pass ⟨0, 0, 0, 0⟩
def forBody : Stmt → List Stmt
  | .For (body := b) .. => b
  | _ => []
abbrev frN : List Str := ["_law_unions"]
theorem stC_len : ∀ {l : List Ca} {S : List Nat}, (stC S l).length ≤ S.length + l.length
  | [], S => Nat.le_refl _
  | .push i v :: l, S => by
    have h := stC_len (l := l) (S := S ++ [i])
    rw [List.length_append, List.length_singleton] at h
    show (stC (S ++ [i]) l).length ≤ _
    rw [List.length_cons]
    omega
  | .pop i :: l, S => by
    have h := stC_len (l := l) (S := S.dropLast)
    rw [List.length_dropLast] at h
    show (stC S.dropLast l).length ≤ _
    rw [List.length_cons]
    omega
  | .ask v :: l, S => by
    have h := stC_len (l := l) (S := S)
    show (stC S l).length ≤ _
    rw [List.length_cons]
    omega
theorem un_cut {C s dp dc m : Addr} {H : Hp} {W : Nat} {ps : List (Nat × Nat)} {cs : List Addr} (h : Un.UnAt C H s dp dc m W ps) (e : ∀ b ∈ cs, ∃ φ, H b = some (.ext φ)) : Un.UnAt C (cut cs H) s dp dc m W ps := by
  have out : ∀ {b : Addr} {o : HO}, H b = some o → (∀ φ, o ≠ .ext φ) → cut cs H b = some o := fun {b o} g n => (Inf.cut_out fun z => by
    obtain ⟨φ, y⟩ := e b z
    rw [g] at y
    exact n φ (Option.some.inj y)).trans g
  obtain ⟨⟨dx, e1⟩, e2, ⟨c, e3, e4⟩, e5, e6, e7⟩ := h
  exact ⟨⟨dx, out e1 (fun _ z => nomatch z)⟩, out e2 (fun _ z => nomatch z), ⟨c, out e3 (fun _ z => nomatch z), e4⟩, out e5 (fun _ z => nomatch z), e6, e7⟩
theorem un_cv {C s dp dc m : Addr} {H H1 : Hp} {W : Nat} {ps : List (Nat × Nat)} (h : Un.UnAt C H s dp dc m W ps) (cv : ∀ b o, H b = some o → (∀ φ, o ≠ .ext φ) → H1 b = some o) : Un.UnAt C H1 s dp dc m W ps := by
  obtain ⟨⟨dx, e1⟩, e2, ⟨c, e3, e4⟩, e5, e6, e7⟩ := h
  exact ⟨⟨dx, cv _ _ e1 (fun _ z => nomatch z)⟩, cv _ _ e2 (fun _ z => nomatch z), ⟨c, cv _ _ e3 (fun _ z => nomatch z), e4⟩, cv _ _ e5 (fun _ z => nomatch z), e6, e7⟩
theorem un_mend {C s dp dc m : Addr} {H H1 : Hp} {W : Nat} {ps : List (Nat × Nat)} {cs : List Addr} (h : Un.UnAt C H1 s dp dc m W ps) (no : ∀ b ∈ cs, H1 b = none) : Un.UnAt C (mend cs H H1) s dp dc m W ps := by
  have e' : ∀ {y : Addr} {o : HO}, H1 y = some o → mend cs H H1 y = some o := fun {y o} e => by
    rw [Inf.mend_out fun m => by rw [no y m] at e; cases e]
    exact e
  obtain ⟨⟨dx, e1⟩, e2, ⟨c, e3, e4⟩, e5, e6, e7⟩ := h
  exact ⟨⟨dx, e' e1⟩, e' e2, ⟨c, e' e3, e4⟩, e' e5, e6, e7⟩
theorem un_mu {C s dp dc m : Addr} {H : Hp} {W : Nat} {ps : List (Nat × Nat)} (h : Un.UnAt C H s dp dc m W ps) : Mu H [s, dp, dc, m] := by
  obtain ⟨⟨dx, e1⟩, e2, ⟨c, e3, e4⟩, e5, e6, e7⟩ := h
  exact mu_ins e1 (mu_cons e2 (fun _ z => nomatch z) (fun _ z => nomatch z) (mu_cons e3 (fun _ z => nomatch z) (fun _ z => nomatch z) (mu_lst e5 mu_nil)))
theorem tup_cut {H : Hp} {cs : List Addr} {t : Addr} {xs : List V} (g : H t = some (.tup xs)) (e : ∀ b ∈ cs, ∃ φ, H b = some (.ext φ)) : cut cs H t = some (.tup xs) := (Inf.cut_out fun z => by
  obtain ⟨φ, y⟩ := e t z
  rw [g] at y
  cases y).trans g
/-! ### the callables of the law: a Unions -/
def qN : Str := ("law" : Str) ++ ".<locals>." ++ "<lambda>"
def madeS : Stmt := (forBody ((defBody s_law).getD 0 noSt)).getD 3 noSt
def LP (cl : List (Str × Addr)) (c : Addr) : Inf.LF := lamF qN cl c (lamOf madeS 0)
def LO (cl : List (Str × Addr)) (c : Addr) : Inf.LF := lamF qN cl c (lamOf madeS 1)
def LA (cl : List (Str × Addr)) (c : Addr) : Inf.LF := lamF qN cl c (lamOf madeS 2)
theorem cellN : ∀ y ∈ frN, (defScope s_law).names.lookup y = some .cell := by decide +kernel
theorem scP : NdefX.NScope ["_law_pair", "_law_unions"] ["_law_pair"] frN (LP [] 0).scope := NdefX.nscope_by (by decide +kernel)
theorem scO : NdefX.NScope ["_law_unions"] [] frN (LO [] 0).scope := NdefX.nscope_by (by decide +kernel)
theorem scA : NdefX.NScope ["_law_question", "_law_unions"] ["_law_question"] frN (LA [] 0).scope := NdefX.nscope_by (by decide +kernel)
abbrev toW (F : Inf.LF) (sp : List (Option V) → Sp) (f : Addr) : Sp := fun vs H Q E => ∃ ws, LClo H f F frN ws ∧ sp (ws.map some) vs (cut (cellsOf F.nf frN) H) (fun v H1 => (∀ b, b ∈ cellsOf F.nf frN → H1 b = Option.none) → Q v (mend (cellsOf F.nf frN) H H1)) E
def insA (C : Addr) (H : Hp) (s : Addr) : Prop := ∃ dx g dp dc m, H s = some (.ins C dx [("groups", g), ("parents", .ref dp), ("counts", .ref dc), ("moved", .ref m)])
def spLP (C : Addr) : List (Option V) → Sp := fun ws vs H Q E => ∃ (s : Addr) (v : V), ws = [some (.ref s)] ∧ vs = [v] ∧ insA C H s ∧ Un.spPush C [.ref s, v] H Q E
def spLO (C : Addr) : List (Option V) → Sp := fun ws vs H Q E => ∃ (s : Addr), ws = [some (.ref s)] ∧ vs = [] ∧ insA C H s ∧ Un.spPop C [.ref s] H Q E
def spLA (C : Addr) : List (Option V) → Sp := fun ws vs H Q E => ∃ (s : Addr) (v : V), ws = [some (.ref s)] ∧ vs = [v] ∧ insA C H s ∧ Un.spAsk C [.ref s, v] H Q E
section
variable {P : Program} {w : World} {K : PySem.W.Frag} {mg : Str → Option Value} {base : Heap}
theorem lamP (T : Txt K mg) {cl : List (Str × Addr)} {c f : Addr} : FnR P w K mg base CX0 3 f (toW (LP cl c) (spLP T.C_Unions) f) := by
  have G_Unions_push := Un.ok_push (P := P) (w := w) (base := base) T
  refine Inf.lam_cloR (k := 2) (N := ["_law_pair", "_law_unions"]) (ps := ["_law_pair"]) scP (fun _ _ us hl => match us, hl with | [_], _ => rfl) (fun ws vs H Q E h => ?_) (fun A outer s H vs ws Q E hr hl h => ?_)
  · obtain ⟨s, v, rfl, rfl, _⟩ := h
    rfl
  · obtain ⟨s0, v, rfl, rfl, ⟨dx, g, dp, dc, m, hs⟩, h1⟩ := h
    refine ⟨_, pe_meth (pv 1) T.cl_Unions ⟨T.m_Unions_push, T.t_Unions_push, T.k_Unions_push⟩ G_Unions_push (by exact hr) T.b_Unions_push .nil pass0 (pa_cons (pv 0) pa_nil), ?_⟩
    exact ⟨_, rfl, s0, dx, _, rfl, hs, rfl, _, rfl, h1⟩
theorem lamO (T : Txt K mg) {cl : List (Str × Addr)} {c f : Addr} : FnR P w K mg base CX0 3 f (toW (LO cl c) (spLO T.C_Unions) f) := by
  have G_Unions_pop := Un.ok_pop (P := P) (w := w) (base := base) T
  refine Inf.lam_cloR (k := 2) (N := ["_law_unions"]) (ps := []) scO (fun _ _ us hl => match us, hl with | [], _ => rfl) (fun ws vs H Q E h => ?_) (fun A outer s H vs ws Q E hr hl h => ?_)
  · obtain ⟨s, rfl, rfl, _⟩ := h
    rfl
  · obtain ⟨s0, rfl, rfl, ⟨dx, g, dp, dc, m, hs⟩, h1⟩ := h
    refine ⟨_, pe_meth0 (pv 0) T.cl_Unions ⟨T.m_Unions_pop, T.t_Unions_pop, T.k_Unions_pop⟩ G_Unions_pop (by exact hr) T.b_Unions_pop .nil pass0, ?_⟩
    exact ⟨_, rfl, s0, dx, _, rfl, hs, rfl, h1⟩
theorem lamA (T : Txt K mg) {cl : List (Str × Addr)} {c f : Addr} : FnR P w K mg base CX0 3 f (toW (LA cl c) (spLA T.C_Unions) f) := by
  have G_Unions_ask := Un.ok_ask (P := P) (w := w) (base := base) T
  refine Inf.lam_cloR (k := 2) (N := ["_law_question", "_law_unions"]) (ps := ["_law_question"]) scA (fun _ _ us hl => match us, hl with | [_], _ => rfl) (fun ws vs H Q E h => ?_) (fun A outer s H vs ws Q E hr hl h => ?_)
  · obtain ⟨s, v, rfl, rfl, _⟩ := h
    rfl
  · obtain ⟨s0, v, rfl, rfl, ⟨dx, g, dp, dc, m, hs⟩, h1⟩ := h
    refine ⟨_, pe_meth (pv 1) T.cl_Unions ⟨T.m_Unions_ask, T.t_Unions_ask, T.k_Unions_ask⟩ G_Unions_ask (by exact hr) T.b_Unions_ask .nil pass0 (pa_cons (pv 0) pa_nil), ?_⟩
    exact ⟨_, rfl, s0, dx, _, rfl, hs, rfl, _, rfl, h1⟩
theorem ins_of {C s dp dc m : Addr} {H : Hp} {W : Nat} {ps : List (Nat × Nat)} (h : Un.UnAt C H s dp dc m W ps) : insA C H s := by
  obtain ⟨⟨dx, e1⟩, _⟩ := h
  exact ⟨dx, _, _, _, _, e1⟩
end
/-- what is made once: the Unions, and the three lambdas over it -/
structure LX where
  (s dp dc m fp cp fo co fa ca : Addr) (cp' co' ca' : List (Str × Addr)) (W : Nat)
/-- the pairs by their numbers, and the questions that are asked now -/
structure PX where
  (pa : Nat → Addr) (pr : Nat → Nat × Nat) (n : Nat) (qs : List (Addr × Un.Qn))
def LX.uv (x : LX) : List Addr := [x.s, x.dp, x.dc, x.m]
def psOf (y : PX) (tr : List Ca) : List (Nat × Nat) := (stC [] tr).map y.pr
def tupP (p : Nat × Nat) : List V := [.int (p.1 : Int), .int (p.2 : Int)]
structure R0 (C : Addr) (x : LX) (y : PX) (tr : List Ca) (H : Hp) : Prop where
  un : Un.UnAt C H x.s x.dp x.dc x.m x.W (psOf y tr)
  ms : ∀ i < y.n, H (y.pa i) = some (.tup (tupP (y.pr i))) ∧ (y.pr i).1 < x.W ∧ (y.pr i).2 < x.W
  qn : ∀ z ∈ y.qs, H z.1 = some (.tup z.2.tup)
structure L3 (x : LX) (H : Hp) : Prop where
  p : LClo H x.fp (LP x.cp' x.cp) frN [.ref x.s]
  o : LClo H x.fo (LO x.co' x.co) frN [.ref x.s]
  a : LClo H x.fa (LA x.ca' x.ca) frN [.ref x.s]
/-- in a heap where the law's cell is told -/
def RF (C : Addr) (x : LX) (y : PX) (tr : List Ca) (H : Hp) : Prop := L3 x H ∧ R0 C x y tr H
def PMu (y : PX) : Nat → V → Prop := fun i v => v = .ref (y.pa i) ∧ i < y.n
def PQu (y : PX) : V → Prop := fun v => ∃ z ∈ y.qs, v = .ref z.1
def AnU (x : LX) (y : PX) : List Ca → V → V → Hp → Prop := fun tr v u _ => ∃ z ∈ y.qs, v = .ref z.1 ∧ u = z.2.ans x.W (psOf y tr)
theorem R0.kp {C : Addr} {x : LX} {y : PX} {tr : List Ca} {H H1 : Hp} {cs : List Addr} (h : R0 C x y tr H) (k : Kp cs H H1) (mu : Mu H cs) (n : ∀ a ∈ x.uv, a ∉ cs) : R0 C x y tr H1 :=
  ⟨h.un.kp k (n _ memA) (n _ (memB memA)) (n _ (memB (memB memA))) (n _ (memB (memB (memB memA)))), fun i hi => ⟨kp_tup k mu (h.ms i hi).1, (h.ms i hi).2⟩, fun z m => kp_tup k mu (h.qn z m)⟩
theorem R0.mu {C : Addr} {x : LX} {y : PX} {tr : List Ca} {H : Hp} (h : R0 C x y tr H) : Mu H x.uv := un_mu h.un
theorem L3.kp {x : LX} {H H1 : Hp} {cs : List Addr} (h : L3 x H) (k : Kp cs H H1) (mu : Mu H cs) : L3 x H1 := ⟨lclo_kp h.p k mu, lclo_kp h.o k mu, lclo_kp h.a k mu⟩
section
variable {P : Program} {w : World} {K : PySem.W.Frag} {mg : Str → Option Value} {base : Heap}
theorem osF (T : Txt K mg) {x : LX} {y : PX} (hW : x.W ≤ 10000) : OS P w K mg base 3 x.uv (.ref x.fp) (.ref x.fo) (.ref x.fa) (PMu y) (PQu y) (RF T.C_Unions x y) (AnU x y) where
  rk := fun h k mu n => ⟨h.1.kp k mu, h.2.kp k mu n⟩
  ak := fun h _ _ _ => h
  mu := fun h => h.2.mu
  push := fun {tr i v H Q} hv ht h q => by
    obtain ⟨l3, r0⟩ := h
    obtain ⟨rfl, hi⟩ := hv
    obtain ⟨e1, w1, w2⟩ := r0.ms i hi
    have h0 := stC_len (l := tr) (S := [])
    have h00 : ([] : List Nat).length = 0 := rfl
    have ex : ∀ b ∈ cellsOf (LP x.cp' x.cp).nf frN, ∃ φ, H b = some (.ext φ) := fun b m => by obtain ⟨v, φ, e, _⟩ := l3.p.cell m; exact ⟨φ, e⟩
    refine ⟨x.fp, _, _, rfl, l3.p.fn, Inf.lamHO, lamP T, [.ref x.s], l3.p, x.s, .ref (y.pa i), rfl, rfl, ins_of (un_cut r0.un ex), x.s, x.dp, x.dc, x.m, y.pa i, x.W, _, (y.pr i).1, (y.pr i).2, rfl, un_cut r0.un ex, tup_cut e1 ex, w1, w2, hW, by unfold psOf; rw [List.length_map]; omega, fun H1 k1 u1 no => ?_⟩
    have k2 : Kp x.uv H (mend (cellsOf (LP x.cp' x.cp).nf frN) H H1) := mend_kp ex k1 no
    have m0 := r0.mu
    refine q _ _ k2 ⟨l3.kp k2 m0, ?_, fun j hj => ⟨kp_tup k2 m0 (r0.ms j hj).1, (r0.ms j hj).2⟩, fun z m => kp_tup k2 m0 (r0.qn z m)⟩
    have e2 : psOf y (tr ++ [.push i (.ref (y.pa i))]) = psOf y tr ++ [((y.pr i).1, (y.pr i).2)] := by
      unfold psOf
      rw [stC_app, ← show (stC [] tr ++ [i]).map y.pr = (stC [] tr).map y.pr ++ [((y.pr i).1, (y.pr i).2)] from List.map_append ..]
      rfl
    rw [e2]
    exact un_mend u1 no
  pop := fun {tr i S H Q} hs ht h q => by
    obtain ⟨l3, r0⟩ := h
    have h0 := stC_len (l := tr) (S := [])
    have h00 : ([] : List Nat).length = 0 := rfl
    have hl : S.length < 1000000 := by
      have := congrArg List.length hs
      rw [List.length_append] at this
      omega
    have un2 : Un.UnAt T.C_Unions H x.s x.dp x.dc x.m x.W (S.map y.pr ++ [y.pr i]) := by
      have := r0.un
      unfold psOf at this
      rw [hs, List.map_append] at this
      exact this
    have ex : ∀ b ∈ cellsOf (LO x.co' x.co).nf frN, ∃ φ, H b = some (.ext φ) := fun b m => by obtain ⟨v, φ, e, _⟩ := l3.o.cell m; exact ⟨φ, e⟩
    refine ⟨x.fo, _, _, rfl, l3.o.fn, Inf.lamHO, lamO T, [.ref x.s], l3.o, x.s, rfl, rfl, ins_of (un_cut r0.un ex), x.s, x.dp, x.dc, x.m, x.W, _, _, rfl, un_cut un2 ex, hW, by rw [List.length_map]; omega, fun H1 k1 u1 no => ?_⟩
    have k2 : Kp x.uv H (mend (cellsOf (LO x.co' x.co).nf frN) H H1) := mend_kp ex k1 no
    have m0 := r0.mu
    refine q _ _ k2 ⟨l3.kp k2 m0, ?_, fun j hj => ⟨kp_tup k2 m0 (r0.ms j hj).1, (r0.ms j hj).2⟩, fun z m => kp_tup k2 m0 (r0.qn z m)⟩
    have e2 : psOf y (tr ++ [.pop i]) = S.map y.pr := by
      unfold psOf
      rw [stC_app, hs]
      show (S ++ [i]).dropLast.map y.pr = _
      rw [List.dropLast_concat]
    rw [e2]
    exact un_mend u1 no
  ask := fun {tr v H Q} hv ht h q => by
    obtain ⟨l3, r0⟩ := h
    obtain ⟨z, mz, rfl⟩ := hv
    have ez := r0.qn z mz
    have ex : ∀ b ∈ cellsOf (LA x.ca' x.ca).nf frN, ∃ φ, H b = some (.ext φ) := fun b m => by obtain ⟨v, φ, e, _⟩ := l3.a.cell m; exact ⟨φ, e⟩
    refine ⟨x.fa, _, _, rfl, l3.a.fn, Inf.lamHO, lamA T, [.ref x.s], l3.a, x.s, .ref z.1, rfl, rfl, ins_of (un_cut r0.un ex), x.s, x.dp, x.dc, x.m, z.1, x.W, _, z.2, rfl, un_cut r0.un ex, tup_cut ez ex, fun no => ?_⟩
    have hm : mend (cellsOf (LA x.ca' x.ca).nf frN) H (cut (cellsOf (LA x.ca' x.ca).nf frN) H) = H := Inf.mend_cut
    rw [hm]
    have e2 : psOf y (tr ++ [.ask (.ref z.1)]) = psOf y tr := by
      unfold psOf
      rw [stC_app]
      rfl
    refine q _ _ (kp_refl _ _) ⟨l3, by rw [e2]; exact r0.un, r0.ms, r0.qn⟩ ⟨z, mz, rfl, rfl⟩ fun r e => ?_
    obtain ⟨q0, qn⟩ := z
    cases qn <;> cases e
end
end Ob

set_option Elab.async false
set_option linter.all false
set_option maxRecDepth 100000
set_option maxHeartbeats 1000000
namespace Ob
open PySem PySem.Spec PyProof.Rows L2
open LamX (Tabs TabB TabS ExtN)

set_option hygiene false in
local macro_rules
  | `(tactic| kp_flats) => `(tactic| first
    | assumption
    | exact upd_same
    | (apply atNew; assumption; kp_flats)
    | (apply atNe; (next => kbo_bools); kp_flats)
    | (apply atSame; assumption; kp_flats)
    | (apply atKp; assumption; (next => kaf_pre); kp_flats))
set_option hygiene false in
local macro_rules
  | `(tactic| kaf_pre) => `(tactic| first
    | assumption
    | exact not_nil
    | (apply not_cons; (next => kbo_bools); kaf_pre)
    | (apply not_app; (next => kaf_pre); kaf_pre))
set_option hygiene false in
local macro_rules
  | `(tactic| kbo_bools) => `(tactic| first
    | assumption
    | (apply Ne.symm; assumption)
    | (apply neN; assumption; kp_flats)
    | (apply neN'; assumption; kp_flats))
set_option hygiene false in
local macro_rules
  | `(tactic| o_reads) => `(tactic| first
    | with_reducible rfl
    | assumption
    | rfl
    | kp_flats
    | (show SqL _ _ _ _; first | assumption | (apply sqlOf; kp_flats) | (apply sqlSame; assumption; o_reads))
    | (show SqT _ _ _ _; first | assumption | (apply sqtOf; kp_flats) | (apply sqtAll; assumption) | (apply sqtSame; assumption; o_reads))
    | (show Cls _ _; first | exact T.cl_Calls | exact T.cl_Outer | exact T.cl_Ranked | exact T.cl_Unions)
    | (show NoAttr _ _ _; first | exact T.n_Calls_entries | exact T.n_Calls_running | exact T.n_Outer_calls | exact T.n_Outer_push_call | exact T.n_Outer_pop_call | exact T.n_Outer_ask_call | exact T.n_Outer_order | exact T.n_Outer_broken | exact T.n_Ranked_outer | exact T.n_Ranked_given | exact T.n_Ranked_held | exact T.n_Ranked_ranks | exact T.n_Ranked_removals | exact T.n_Unions_groups | exact T.n_Unions_parents | exact T.n_Unions_counts | exact T.n_Unions_moved)
    | (apply Or.inl; o_reads)
    | (apply Or.inr; o_reads)
    | (apply And.intro; (next => o_reads); o_reads)
    | (apply Exists.intro; o_reads)
    | exact Nat.le_of_ble_eq_true rfl
    | exact Nat.succ_ne_zero _
    | (show Fr _ _; kba_ints)
    | (show Same _ _; kd_subs)
    | (show Kp _ _ _; kxs_still)
    | (show (_ : Nat) ≤ _; simp only [List.length_append, List.length_map, List.length_cons, List.length_nil, List.length_take, List.length_drop, List.length_replicate, List.length_range, sizeLine_eq]; omega)
    | (show _ = none; apply Fr.h; kba_ints)
    | (show Bag _ _; first | assumption | (apply bag_putF; assumption; o_reads) | (apply bag_neF; (next => kbo_bools); o_reads) | (apply bag_kpR; assumption; (next => kaf_pre); o_reads))
    | omega
    | decide)
local macro_rules
  | `(tactic| o_readsAll) => `(tactic| repeat (first
    | (refine fun (pNew : Addr) (nNew : _ = none) => ?_; replace nNew := Fr.mk nNew)
    | (refine fun (xNew dNew : Addr) (nNew : _ = none) (mNew : _ = none) (eNew : dNew ≠ xNew) => ?_; replace nNew := Fr.mk nNew; replace mNew := Fr.mk mNew)
    | (apply And.intro; next => o_reads)
    | apply Exists.intro (α := V)
    | apply Exists.intro (α := Addr)
    | apply Exists.intro (α := Int)
    | apply Exists.intro (α := Bool)
    | apply Exists.intro (α := List V)
    | apply Exists.intro (α := List Nat)
    | apply Exists.intro (α := List (Str × V))
    | apply Exists.intro (α := List _)
    | apply Exists.intro (α := Str)
    | apply Exists.intro (α := HO)
    | apply Exists.intro (α := Sp)
    | apply Exists.intro (α := VK)))
set_option hygiene false in
local macro_rules
  | `(tactic| kba_ints) => `(tactic| first
    | assumption
    | (apply frUp; (first | assumption | (apply Ne.symm; assumption)); kba_ints)
    | (apply noneOf; assumption; intro oF eF; apply Exists.intro; kp_flats)
    | (apply frUp; (next => kbo_bools); kba_ints))
set_option hygiene false in
local macro_rules
  | `(tactic| kxs_still) => `(tactic| first
    | assumption
    | exact kp_refl _ _
    | (apply kp_newF; assumption; kxs_still)
    | (apply kp_new; assumption; kxs_still)
    | (apply kp_up; (next => o_fieldsN); kxs_still)
    | (apply kp_new; (next => kba_ints); kxs_still)
    | (apply kp_sameR; assumption; kxs_still)
    | (apply kp_transR; assumption; kxs_still)
    | (apply kp_freshR; assumption; (next => kaf_suf); kxs_still))
set_option hygiene false in
local macro_rules
  | `(tactic| kaf_suf) => `(tactic| first
    | assumption
    | exact subNil
    | (apply subCons; (first | (apply Or.inl; o_fieldsN) | (apply Or.inr; kba_ints)); kaf_suf)
    | (apply subApp; (next => kaf_suf); kaf_suf))
set_option hygiene false in
local macro_rules
  | `(tactic| o_fieldsN) => `(tactic| first
    | assumption
    | exact memA
    | (apply memB; o_fieldsN)
    | (apply memL; o_fieldsN)
    | (apply memR; o_fieldsN))
set_option hygiene false in
local macro_rules
  | `(tactic| kd_subs) => `(tactic| first
    | assumption
    | exact Same.refl _
    | (apply same_putF; assumption; kd_subs)
    | (apply same_putG; assumption; kd_subs)
    | (apply same_putF; (next => kba_ints); kd_subs)
    | (apply same_transR; assumption; kd_subs))

set_option pp.maxSteps 900
open NdefX (TabsN)
open Inf (Clo cut mend cellsOf)
/-- callables beside things of the law's own, which they leave as they are -/
theorem OS.ext {P : Program} {w : World} {K : PySem.W.Frag} {mg : Str → Option Value} {base : Heap} {n : Nat} {uv ex : List Addr} {fp fo fa : V} {PM : Nat → V → Prop} {PQ : V → Prop} {R : List Ca → Hp → Prop} {An : List Ca → V → V → Hp → Prop} {X : Hp → Prop} (A : OS P w K mg base n uv fp fo fa PM PQ R An) (hx : ∀ {cs : List Addr} {H H1 : Hp}, X H → Kp cs H H1 → Mu H cs → (∀ a ∈ ex, a ∉ cs) → X H1) (mx : ∀ {H : Hp}, X H → Mu H ex) (d : ∀ a ∈ ex, a ∉ uv) : OS P w K mg base n (uv ++ ex) fp fo fa PM PQ (fun tr H => R tr H ∧ X H) An where
  rk := fun h k m n => ⟨A.rk h.1 k m (fun a ma => n a (memL ma)), hx h.2 k m fun a ma => n a (memR ma)⟩
  ak := A.ak
  mu := fun h => mu_app (A.mu h.1) (mx h.2)
  push := fun hv ht h q => A.push hv ht h.1 fun u H' k r => q u H' (kp_more k fun _ m => memL m) ⟨r, hx h.2 k (A.mu h.1) d⟩
  pop := fun hs ht h q => A.pop hs ht h.1 fun u H' k r => q u H' (kp_more k fun _ m => memL m) ⟨r, hx h.2 k (A.mu h.1) d⟩
  ask := fun hv ht h q => A.ask hv ht h.1 fun u H' k r a f => q u H' (kp_more k fun _ m => memL m) ⟨r, hx h.2 k (A.mu h.1) d⟩ a f
/-- things that may be written, and no tables -/
def Sol (H : Hp) (av : List Addr) : Prop := Mu H av ∧ ∀ a ∈ av, ∀ ps, H a ≠ some (.tbl ps)
theorem Sol.nil {H : Hp} : Sol H [] := ⟨mu_nil, fun _ z => nomatch z⟩
theorem Sol.app {H : Hp} {a b : List Addr} (h : Sol H a) (g : Sol H b) : Sol H (a ++ b) := ⟨mu_app h.1 g.1, fun x m => (List.mem_append.mp m).elim (h.2 x) (g.2 x)⟩
theorem Sol.lst {H : Hp} {p : Addr} {xs : List V} {av : List Addr} (h : H p = some (.lst xs)) (g : Sol H av) : Sol H (p :: av) := ⟨mu_lst h g.1, fun x m => (List.mem_cons.mp m).elim (fun e ps z => by rw [e, h] at z; cases z) (g.2 x)⟩
theorem Sol.dK {H : Hp} {p : Addr} {xs : List (Key × V)} {av : List Addr} (h : H p = some (.dK xs)) (g : Sol H av) : Sol H (p :: av) := ⟨mu_cons h (fun _ z => nomatch z) (fun _ z => nomatch z) g.1, fun x m => (List.mem_cons.mp m).elim (fun e ps z => by rw [e, h] at z; cases z) (g.2 x)⟩
theorem Sol.ins {H : Hp} {p C dx : Addr} {fs : List (Str × V)} {av : List Addr} (h : H p = some (.ins C dx fs)) (g : Sol H av) : Sol H (p :: av) := ⟨mu_ins h g.1, fun x m => (List.mem_cons.mp m).elim (fun e ps z => by rw [e, h] at z; cases z) (g.2 x)⟩
theorem Sol.tab {Ts : List NdefX.NTab} {H : Hp} {av : List Addr} (h : Sol H av) (t : TabsN Ts H) : ∀ p ∈ Ts, p.1 ∉ av := fun p hp m => by
  obtain ⟨ps, e, _⟩ := t p hp
  exact h.2 _ m ps e
/-- the same things stand at av in both heaps -/
def Eqv (av : List Addr) (G H : Hp) : Prop := ∀ a ∈ av, H a = G a
theorem Sol.eqv {G H : Hp} {av : List Addr} (h : Sol G av) (e : Eqv av G H) : Sol H av := ⟨fun a m => by
  obtain ⟨o, h1, h2⟩ := h.1 a m
  exact ⟨o, (e a m).trans h1, h2⟩, fun a m ps z => h.2 a m ps ((e a m).symm.trans z)⟩
theorem Eqv.kp {av cs : List Addr} {G H H1 : Hp} (h : Eqv av G H) (g : Sol G av) (k : Kp cs H H1) (n : ∀ a ∈ av, a ∉ cs) : Eqv av G H1 := fun a m => by
  obtain ⟨o, h1, h2⟩ := g.1 a m
  rw [h1]
  exact k.at_ _ _ ((h a m).trans h1) (n a m)
/-- the addresses of a collection -/
def foot (t o c l hd rd od : Addr) (uv : List Addr) : List Addr := [t, o, c, l, hd, rd, od] ++ uv
/-- a collection at t over any callables, all its addresses are F -/
structure HsG (CT C CC : Addr) (uv : List Addr) (fp fo fa : V) (PM : Nat → V → Prop) (R : List Ca → Hp → Prop) (H : Hp) (F : List Addr) (t o c l : Addr) (tr : List Ca) (given : Nat) (M : List Nat) (mb : Nat → V) (rk : Nat → Int) (rem : Nat) : Prop where
  ft : ∃ dx hd rd od, F = foot t o c l hd rd od uv ∧ H t = some (RO CT dx o given hd rd rem) ∧ H hd = some (.dK (dM M mb)) ∧ H rd = some (.dK (dM M (rV rk))) ∧ hd ∉ [t, o, c, l] ++ uv ∧ rd ∉ [t, o, c, l] ++ uv ∧ OutAt C CC H o c l od fp fo fa uv R tr
  pm : (stC [] tr).Perm M
  srt : M.Pairwise (· < ·)
  gv : ∀ i ∈ M, i < given ∧ PM i (mb i)
  nt : t ≠ o ∧ t ≠ c
  nu : ∀ a ∈ uv, a ≠ t
section
variable {P : Program} {w : World} {K : PySem.W.Frag} {mg : Str → Option Value} {base : Heap} {n : Nat}
variable {CT C CC : Addr} {uv : List Addr} {fp fo fa : V} {PM PM1 : Nat → V → Prop} {PQ : V → Prop} {R R1 : List Ca → Hp → Prop} {An : List Ca → V → V → Hp → Prop} {H H1 : Hp} {F : List Addr} {t o c l : Addr} {tr : List Ca} {given : Nat} {M : List Nat} {mb : Nat → V} {rk : Nat → Int} {rem : Nat}
theorem HsG.sol (h : HsG CT C CC uv fp fo fa PM R H F t o c l tr given M mb rk rem) (su : Sol H uv) : Sol H F := by
  obtain ⟨dx, hd, rd, od, rfl, e1, e2, e3, _, _, ⟨d1, o1⟩, ⟨d2, o2⟩, ⟨xs, o3, _⟩, o4, _⟩ := h.ft
  exact Sol.app (Sol.ins e1 (Sol.ins o1 (Sol.ins o2 (Sol.lst o3 (Sol.dK e2 (Sol.dK e3 (Sol.lst o4 Sol.nil))))))) su
theorem HsG.rkat (h : HsG CT C CC uv fp fo fa PM R H F t o c l tr given M mb rk rem) : RkAt CT C CC H t o c l fp fo fa uv PM R tr given M mb rk rem := by
  obtain ⟨dx, hd, rd, od, rfl, e1, e2, e3, n1, n2, O⟩ := h.ft
  exact ⟨⟨dx, hd, rd, e1, e2, e3, n1, n2⟩, ⟨od, O⟩, h.pm, h.srt, h.gv, h.nt, h.nu⟩
/-- other promises of the callables, in a heap with the same things -/
theorem HsG.chg (h : HsG CT C CC uv fp fo fa PM R H F t o c l tr given M mb rk rem) (cv : ∀ b y, H b = some y → (∀ φ, y ≠ .ext φ) → H1 b = some y) (hr : R1 tr H1) (hm : ∀ i ∈ M, PM i (mb i) → PM1 i (mb i)) : HsG CT C CC uv fp fo fa PM1 R1 H1 F t o c l tr given M mb rk rem := by
  obtain ⟨⟨dx, hd, rd, od, rfl, e1, e2, e3, n1, n2, ⟨d1, o1⟩, ⟨d2, o2⟩, ⟨xs, o3, o3'⟩, o4, r, b1, b2, b3⟩, h1, h2, h3, h4, h5⟩ := h
  have lc : LogC H1 xs tr := ⟨o3'.len, fun q y e a c => by
    obtain ⟨u, h1, h2⟩ := o3'.at_ q y e a c
    exact ⟨u, h1, cv _ _ h2 (fun _ z => nomatch z)⟩⟩
  exact ⟨⟨dx, hd, rd, od, rfl, cv _ _ e1 (fun _ z => nomatch z), cv _ _ e2 (fun _ z => nomatch z), cv _ _ e3 (fun _ z => nomatch z), n1, n2, ⟨d1, cv _ _ o1 (fun _ z => nomatch z)⟩, ⟨d2, cv _ _ o2 (fun _ z => nomatch z)⟩, ⟨xs, cv _ _ o3 (fun _ z => nomatch z), lc⟩, cv _ _ o4 (fun _ z => nomatch z), hr, b1, b2, b3⟩, h1, h2, fun i m => ⟨(h3 i m).1, hm i m (h3 i m).2⟩, h4, h5⟩
theorem HsG.kp {cs : List Addr} (h : HsG CT C CC uv fp fo fa PM R H F t o c l tr given M mb rk rem) (k : Kp cs H H1) (m : Mu H cs) (hr : R tr H1) (nF : ∀ a ∈ F, a ∉ cs) : HsG CT C CC uv fp fo fa PM R H1 F t o c l tr given M mb rk rem := by
  obtain ⟨⟨dx, hd, rd, od, rfl, e1, e2, e3, n1, n2, ⟨d1, o1⟩, ⟨d2, o2⟩, ⟨xs, o3, o3'⟩, o4, r, b1, b2, b3⟩, h1, h2, h3, h4, h5⟩ := h
  exact ⟨⟨dx, hd, rd, od, rfl, k.at_ _ _ e1 (nF t memA), k.at_ _ _ e2 (nF hd (memB (memB (memB (memB memA))))), k.at_ _ _ e3 (nF rd (memB (memB (memB (memB (memB memA)))))), n1, n2, ⟨d1, k.at_ _ _ o1 (nF o (memB memA))⟩, ⟨d2, k.at_ _ _ o2 (nF c (memB (memB memA)))⟩, ⟨xs, k.at_ _ _ o3 (nF l (memB (memB (memB memA)))), o3'.kp k m⟩, k.at_ _ _ o4 (nF od (memB (memB (memB (memB (memB (memB memA))))))), hr, b1, b2, b3⟩, h1, h2, h3, h4, h5⟩
theorem osX {av : List Addr} {G : Hp} (A : OS P w K mg base n uv fp fo fa PM PQ R An) (s : Sol G av) (d : ∀ a ∈ av, a ∉ uv) : OS P w K mg base n (uv ++ av) fp fo fa PM PQ (fun tr H' => R tr H' ∧ Eqv av G H') An :=
  OS.ext A (fun x k _ n => Eqv.kp x s k n) (fun x => (s.eqv x).1) d
theorem HsG.lift {av : List Addr} (h : HsG CT C CC uv fp fo fa PM R H F t o c l tr given M mb rk rem) (d : ∀ a ∈ av, a ∉ F) : RkAt CT C CC H t o c l fp fo fa (uv ++ av) PM (fun tr H' => R tr H' ∧ Eqv av H H') tr given M mb rk rem := by
  obtain ⟨⟨dx, hd, rd, od, rfl, e1, e2, e3, n1, n2, o1, o2, o3, o4, r, b1, b2, b3⟩, h1, h2, h3, h4, h5⟩ := h
  have nin : ∀ {x : Addr}, x ∉ [t, o, c, l] ++ uv → x ∉ av → x ∉ t :: o :: c :: l :: (uv ++ av) := fun {x} z y m => by
    have m : x ∈ [t, o, c, l] ++ (uv ++ av) := m
    rw [← List.append_assoc] at m
    exact (List.mem_append.mp m).elim z y
  refine ⟨⟨dx, hd, rd, e1, e2, e3, nin n1 fun z => d _ z (memB (memB (memB (memB memA)))), nin n2 fun z => d _ z (memB (memB (memB (memB (memB memA)))))⟩, ⟨od, o1, o2, o3, o4, ⟨r, fun _ _ => rfl⟩, b1, b2, fun a ma => ?_⟩, h1, h2, h3, h4, fun a ma => ?_⟩
  · rcases List.mem_append.mp ma with ma | ma
    · exact b3 a ma
    · exact ⟨fun z => d a ma (by rw [z]; exact memB memA), fun z => d a ma (by rw [z]; exact memB (memB memA)), fun z => d a ma (by rw [z]; exact memB (memB (memB memA))), fun z => d a ma (by rw [z]; exact memB (memB (memB (memB (memB (memB memA))))))⟩
  · rcases List.mem_append.mp ma with ma | ma
    · exact h5 a ma
    · exact fun z => d a ma (by rw [z]; exact memA)
theorem rk_back {av : List Addr} {G : Hp} (h : RkAt CT C CC H t o c l fp fo fa (uv ++ av) PM (fun tr H' => R tr H' ∧ Eqv av G H') tr given M mb rk rem) (d : ∀ a ∈ av, a ∉ uv) : ∃ F', HsG CT C CC uv fp fo fa PM R H F' t o c l tr given M mb rk rem ∧ (∀ a ∈ av, a ∉ F') ∧ Eqv av G H := by
  obtain ⟨⟨dx, hd, rd, e1, e2, e3, n1, n2⟩, ⟨od, o1, o2, o3, o4, ⟨r, x⟩, b1, b2, b3⟩, h1, h2, h3, h4, h5⟩ := h
  have nin : ∀ {x : Addr}, x ∉ t :: o :: c :: l :: (uv ++ av) → x ∉ [t, o, c, l] ++ uv ∧ x ∉ av := fun {x} z => by
    have z : x ∉ [t, o, c, l] ++ (uv ++ av) := z
    rw [← List.append_assoc] at z
    exact ⟨fun m => z (List.mem_append.mpr (.inl m)), fun m => z (List.mem_append.mpr (.inr m))⟩
  refine ⟨_, ⟨⟨dx, hd, rd, od, rfl, e1, e2, e3, (nin n1).1, (nin n2).1, o1, o2, o3, o4, r, b1, b2, fun a ma => b3 a (memL ma)⟩, h1, h2, h3, h4, fun a ma => h5 a (memL ma)⟩, fun a ma => ?_, x⟩
  have b := b3 a (memR ma)
  exact not_cons (h5 a (memR ma)) (not_cons b.1 (not_cons b.2.1 (not_cons b.2.2.1 (not_cons (fun z => (nin n1).2 (by rw [← z]; exact ma)) (not_cons (fun z => (nin n2).2 (by rw [← z]; exact ma)) (not_cons b.2.2.2 (d a ma)))))))
theorem kp_av {av : List Addr} {hd rd od : Addr} {ps : List Addr} (s : Sol H av) (k : Kp (ps ++ (t :: o :: c :: l :: (uv ++ av))) H H1) (x : Eqv av H H1) : Kp (ps ++ foot t o c l hd rd od uv) H H1 := ⟨fun b y e nb => by
  by_cases m : b ∈ av
  · rw [x b m]
    exact e
  · refine k.at_ b y e fun z => ?_
    rcases List.mem_append.mp z with z | z
    · exact nb (memL z)
    · have z : b ∈ [t, o, c, l] ++ (uv ++ av) := z
      rcases List.mem_append.mp z with z | z
      · refine nb (memR ?_)
        rcases List.mem_cons.mp z with rfl | z
        · exact memA
        rcases List.mem_cons.mp z with rfl | z
        · exact memB memA
        rcases List.mem_cons.mp z with rfl | z
        · exact memB (memB memA)
        · rw [List.mem_singleton.mp z]
          exact memB (memB (memB memA))
      · rcases List.mem_append.mp z with z | z
        · exact nb (memR (memB (memB (memB (memB (memB (memB (memB z))))))))
        · exact m z⟩
theorem dis_uv {av : List Addr} (h : HsG CT C CC uv fp fo fa PM R H F t o c l tr given M mb rk rem) (d : ∀ a ∈ av, a ∉ F) : ∀ a ∈ av, a ∉ uv := fun a ma z => by
  obtain ⟨dx, hd, rd, od, eF, _⟩ := h.ft
  exact d a ma (by rw [eF]; exact memR z)
theorem use_add (T : Txt K mg) {av : List Addr} {m : V} {r : Int} {Q : VK} (A : OS P w K mg base n uv fp fo fa PM PQ R An) (h : HsG T.C_Ranked T.C_Outer T.C_Calls uv fp fo fa PM R H F t o c l tr given M mb rk rem) (s : Sol H av) (d : ∀ a ∈ av, a ∉ F) (hPM : PM given m) (htl : tr.length < 400000) (hML : M.length < 400000)
    (q : ∀ H' F', Kp F H H' → HsG T.C_Ranked T.C_Outer T.C_Calls uv fp fo fa PM R H' F' t o c l (tr ++ [.push given m]) (given + 1) (M ++ [given]) (fun x => if x = given then m else mb x) (fun x => if x = given then r else rk x) rem → (∀ a ∈ av, a ∉ F') → Eqv av H H' → Q (.int (given : Int)) H') :
    spRAdd P w K mg base T.C_Ranked T.C_Outer T.C_Calls n [.ref t, m, .int r] H Q E0 := by
  obtain ⟨dx, hd, rd, od, eF, _⟩ := id h.ft
  have dph := dis_uv h d
  refine ⟨t, o, c, l, _, _, _, m, r, _, PM, _, _, _, tr, given, rem, M, mb, rk, rfl, osX A s dph, h.lift d, hPM, htl, hML, fun H' kk h' => ?_⟩
  obtain ⟨F', g1, g2, g3⟩ := rk_back h' dph
  refine q H' F' ?_ g1 g2 g3
  rw [eF]
  exact kp_av (ps := []) s kk g3
theorem use_rem (T : Txt K mg) {av : List Addr} {Q : VK} (A : OS P w K mg base n uv fp fo fa PM PQ R An) (h : HsG T.C_Ranked T.C_Outer T.C_Calls uv fp fo fa PM R H F t o c l tr given M mb rk rem) (su : Sol H uv) (s : Sol H av) (d : ∀ a ∈ av, a ∉ F) (t0 : TabsN (TT T) H) (hne : M ≠ []) (htl : tr.length + 2 * M.length < 400000)
    (q : ∀ x N H' F', precN rk M = x :: N → Kp (T.p_precedence :: F) H H' → TabsN (TT T) H' → HsG T.C_Ranked T.C_Outer T.C_Calls uv fp fo fa PM R H' F' t o c l (tr ++ (planR rk rem M (stC [] tr)).map (caOf mb)) given (M.filter fun i => decide (i ≠ x)) mb rk (remN rem (M.filter fun i => decide (i ≠ x))) → (∀ a ∈ av, a ∉ F') → Eqv av H H' → Q (.int (x : Int)) H') :
    spRRem P w K mg base T n [.ref t] H Q E0 := by
  obtain ⟨dx, hd, rd, od, eF, _⟩ := id h.ft
  have dph := dis_uv h d
  refine ⟨t, o, c, l, _, _, _, _, PM, _, _, _, tr, given, rem, M, mb, rk, rfl, osX A s dph, h.lift d, hne, t0, fun p hp z => ?_, htl, fun x N H' ep kk t' h' => ?_⟩
  · rcases List.mem_append.mp z with z | z
    · exact su.tab t0 p hp z
    · exact s.tab t0 p hp z
  · obtain ⟨F', g1, g2, g3⟩ := rk_back h' dph
    refine q x N H' F' ep ?_ t' g1 g2 g3
    rw [eF]
    exact kp_av (ps := [T.p_precedence]) s kk g3
theorem use_ask (T : Txt K mg) {av : List Addr} {qv : V} {Q : VK} (A : OS P w K mg base n uv fp fo fa PM PQ R An) (h : HsG T.C_Ranked T.C_Outer T.C_Calls uv fp fo fa PM R H F t o c l tr given M mb rk rem) (s : Sol H av) (d : ∀ a ∈ av, a ∉ F) (hq : PQ qv) (htl : tr.length < 400000)
    (q : ∀ u H' F', Kp F H H' → HsG T.C_Ranked T.C_Outer T.C_Calls uv fp fo fa PM R H' F' t o c l (tr ++ [.ask qv]) given M mb rk rem → (∀ a ∈ av, a ∉ F') → Eqv av H H' → An tr qv u H' → (∀ r, u = .ref r → H r = none) → Q u H') :
    spRQ P w K mg base T.C_Ranked T.C_Outer T.C_Calls n [.ref t, qv] H Q E0 := by
  obtain ⟨dx, hd, rd, od, eF, _⟩ := id h.ft
  have dph := dis_uv h d
  refine ⟨t, o, c, l, _, _, _, qv, _, PM, _, _, _, tr, given, rem, M, mb, rk, rfl, osX A s dph, h.lift d, hq, htl, fun u H' kk h' an fr => ?_⟩
  obtain ⟨F', g1, g2, g3⟩ := rk_back h' dph
  refine q u H' F' ?_ g1 g2 g3 an fr
  rw [eF]
  exact kp_av (ps := []) s (kp_more kk fun _ m => memB m) g3
end
end Ob

set_option Elab.async false
set_option linter.all false
set_option maxRecDepth 100000
set_option maxHeartbeats 1000000
namespace Ob
open PySem PySem.Spec PyProof.Rows L2
open LamX (Tabs TabB TabS ExtN)

set_option hygiene false in
local macro_rules
  | `(tactic| kp_flats) => `(tactic| first
    | assumption
    | exact upd_same
    | (apply atNew; assumption; kp_flats)
    | (apply atNe; (next => kbo_bools); kp_flats)
    | (apply atSame; assumption; kp_flats)
    | (apply atKp; assumption; (next => kaf_pre); kp_flats))
set_option hygiene false in
local macro_rules
  | `(tactic| kaf_pre) => `(tactic| first
    | assumption
    | exact not_nil
    | (apply not_cons; (next => kbo_bools); kaf_pre)
    | (apply not_app; (next => kaf_pre); kaf_pre))
set_option hygiene false in
local macro_rules
  | `(tactic| kbo_bools) => `(tactic| first
    | assumption
    | (apply Ne.symm; assumption)
    | (apply neN; assumption; kp_flats)
    | (apply neN'; assumption; kp_flats))
set_option hygiene false in
local macro_rules
  | `(tactic| o_reads) => `(tactic| first
    | with_reducible rfl
    | assumption
    | rfl
    | kp_flats
    | (show SqL _ _ _ _; first | assumption | (apply sqlOf; kp_flats) | (apply sqlSame; assumption; o_reads))
    | (show SqT _ _ _ _; first | assumption | (apply sqtOf; kp_flats) | (apply sqtAll; assumption) | (apply sqtSame; assumption; o_reads))
    | (show Cls _ _; first | exact T.cl_Calls | exact T.cl_Outer | exact T.cl_Ranked | exact T.cl_Unions)
    | (show NoAttr _ _ _; first | exact T.n_Calls_entries | exact T.n_Calls_running | exact T.n_Outer_calls | exact T.n_Outer_push_call | exact T.n_Outer_pop_call | exact T.n_Outer_ask_call | exact T.n_Outer_order | exact T.n_Outer_broken | exact T.n_Ranked_outer | exact T.n_Ranked_given | exact T.n_Ranked_held | exact T.n_Ranked_ranks | exact T.n_Ranked_removals | exact T.n_Unions_groups | exact T.n_Unions_parents | exact T.n_Unions_counts | exact T.n_Unions_moved)
    | (apply Or.inl; o_reads)
    | (apply Or.inr; o_reads)
    | (apply And.intro; (next => o_reads); o_reads)
    | (apply Exists.intro; o_reads)
    | exact Nat.le_of_ble_eq_true rfl
    | exact Nat.succ_ne_zero _
    | (show Fr _ _; kba_ints)
    | (show Same _ _; kd_subs)
    | (show Kp _ _ _; kxs_still)
    | (show (_ : Nat) ≤ _; simp only [List.length_append, List.length_map, List.length_cons, List.length_nil, List.length_take, List.length_drop, List.length_replicate, List.length_range, sizeLine_eq]; omega)
    | (show _ = none; apply Fr.h; kba_ints)
    | (show Bag _ _; first | assumption | (apply bag_putF; assumption; o_reads) | (apply bag_neF; (next => kbo_bools); o_reads) | (apply bag_kpR; assumption; (next => kaf_pre); o_reads))
    | omega
    | decide)
local macro_rules
  | `(tactic| o_readsAll) => `(tactic| repeat (first
    | (refine fun (pNew : Addr) (nNew : _ = none) => ?_; replace nNew := Fr.mk nNew)
    | (refine fun (xNew dNew : Addr) (nNew : _ = none) (mNew : _ = none) (eNew : dNew ≠ xNew) => ?_; replace nNew := Fr.mk nNew; replace mNew := Fr.mk mNew)
    | (apply And.intro; next => o_reads)
    | apply Exists.intro (α := V)
    | apply Exists.intro (α := Addr)
    | apply Exists.intro (α := Int)
    | apply Exists.intro (α := Bool)
    | apply Exists.intro (α := List V)
    | apply Exists.intro (α := List Nat)
    | apply Exists.intro (α := List (Str × V))
    | apply Exists.intro (α := List _)
    | apply Exists.intro (α := Str)
    | apply Exists.intro (α := HO)
    | apply Exists.intro (α := Sp)
    | apply Exists.intro (α := VK)))
set_option hygiene false in
local macro_rules
  | `(tactic| kba_ints) => `(tactic| first
    | assumption
    | (apply frUp; (first | assumption | (apply Ne.symm; assumption)); kba_ints)
    | (apply noneOf; assumption; intro oF eF; apply Exists.intro; kp_flats)
    | (apply frUp; (next => kbo_bools); kba_ints))
set_option hygiene false in
local macro_rules
  | `(tactic| kxs_still) => `(tactic| first
    | assumption
    | exact kp_refl _ _
    | (apply kp_newF; assumption; kxs_still)
    | (apply kp_new; assumption; kxs_still)
    | (apply kp_up; (next => o_fieldsN); kxs_still)
    | (apply kp_new; (next => kba_ints); kxs_still)
    | (apply kp_sameR; assumption; kxs_still)
    | (apply kp_transR; assumption; kxs_still)
    | (apply kp_freshR; assumption; (next => kaf_suf); kxs_still))
set_option hygiene false in
local macro_rules
  | `(tactic| kaf_suf) => `(tactic| first
    | assumption
    | exact subNil
    | (apply subCons; (first | (apply Or.inl; o_fieldsN) | (apply Or.inr; kba_ints)); kaf_suf)
    | (apply subApp; (next => kaf_suf); kaf_suf))
set_option hygiene false in
local macro_rules
  | `(tactic| o_fieldsN) => `(tactic| first
    | assumption
    | exact memA
    | (apply memB; o_fieldsN)
    | (apply memL; o_fieldsN)
    | (apply memR; o_fieldsN))
set_option hygiene false in
local macro_rules
  | `(tactic| kd_subs) => `(tactic| first
    | assumption
    | exact Same.refl _
    | (apply same_putF; assumption; kd_subs)
    | (apply same_putG; assumption; kd_subs)
    | (apply same_putF; (next => kba_ints); kd_subs)
    | (apply same_transR; assumption; kd_subs))

set_option pp.maxSteps 1500
open NdefX (TabsN)
def caW : Ca → Str
  | .push _ _ => "push"
  | .pop _ => "pop"
  | .ask _ => "ask"
/-- how many calls of a kind -/
def cntC (wd : Str) (tr : List Ca) : Nat := (tr.filter fun e => decide (caW e = wd)).length
theorem cntC_app {wd : Str} {a b : List Ca} : cntC wd (a ++ b) = cntC wd a + cntC wd b := by
  unfold cntC
  rw [List.filter_append, List.length_append]
theorem ent_w {e : Ca} : ∃ l, e.ent = .str (caW e) :: l := by cases e <;> exact ⟨_, rfl⟩
section
variable {K : PySem.W.Frag} {y1 y2 y3 y4 y5 y6 y7 : Option V}
theorem lc_cnt {H : Hp} {Q : VK} {lg : Addr} {es : List V} {tr : List Ca} {wd : Str} (hlg : H lg = some (.lst es)) (hl : LogC H es tr) (hlen : tr.length ≤ 100000) (q : ∀ r zs H', Fr H r → Same H H' → H' r = some (.lst zs) → zs.length = cntC wd tr → Q (.ref r) H') :
    tLc (iList K (tVar 0)) (gName 7) (tTest (tOp rEq (tOp (rIxT K) (tVar 7) (tC (V.int 0))) (tC (V.str wd)))) (tVar 7) [7] [some (.ref lg), y1, y2, y3, y4, y5, y6, y7] H Q := by
  refine ⟨_, rfl, lg, rfl, ⟨_, sqlOf hlg⟩, fun D nD => ?_⟩
  have fD := Fr.mk nD
  have hel := hl.len
  refine lc_it (walk_list (K := K) (a := lg) (xs := es)) (fun i H' => Same H H' ∧ ∃ zs, H' D = some (.lst zs) ∧ zs.length = cntC wd (tr.take i)) ⟨same_newF fD, [], upd_same, rfl⟩ (fun i H' _ z => sqlOf (z.1 _ _ hlg)) ?_ ?_
  · rintro i x H1 H2 hi ⟨s1, zs, eD, hz⟩ ⟨rfl, hx⟩
    obtain ⟨e, he⟩ : ∃ e, tr[i]? = some e := ⟨_, List.getElem?_eq_getElem (by omega)⟩
    obtain ⟨p, rfl, ep⟩ := hl.at_ i x e hx he
    obtain ⟨l2, el⟩ := ent_w (e := e)
    rw [el] at ep
    have hstep : cntC wd (tr.take (i + 1)) = zs.length + (if caW e = wd then 1 else 0) := by
      rw [List.take_succ, he, cntC_app, ← hz]
      congr 1
      show ([e].filter _).length = _
      by_cases c : caW e = wd
      · rw [if_pos c, List.filter_cons_of_pos (by simpa using c)]
        rfl
      · rw [if_neg c, List.filter_cons_of_neg (by simpa using c)]
        rfl
    have hzl : zs.length ≤ 100000 := by
      rw [hz]
      unfold cntC
      have h1 := List.length_filter_le (fun e => decide (caW e = wd)) (tr.take i)
      have h2 := List.length_take_le' i tr
      omega
    refine ⟨rfl, ⟨_, rfl, p, _, 0, _, rfl, rfl, sqtOf (s1 _ _ ep), atI_nat (j := 0) rfl, rfl, _, rfl, ?_⟩⟩
    by_cases c : caW e = wd
    · refine ifT (decide_eq_true (by rw [c])) ⟨_, rfl, zs, eD, by rw [sizeLine_eq]; omega, same_putG fD s1, _, upd_same, ?_⟩
      rw [hstep, if_pos c, List.length_append]
      rfl
    · refine ifF (decide_eq_false (fun z => c (by injection z))) ⟨s1, zs, eD, ?_⟩
      rw [hstep, if_neg c]
      rfl
  · rintro H1 ⟨s1, zs, eD, hz⟩
    rw [List.take_of_length_le (by omega)] at hz
    exact q D zs H1 fD s1 eD hz
end
section
variable {P : Program} {w : World} {K : PySem.W.Frag} {mg : Str → Option Value} {base : Heap}
def spBR : Sp := fun vs H Q _ => ∃ (lg : Addr) (es : List V) (tr : List Ca) (A R M : Nat), vs = [.ref lg, .int (A : Int), .int (R : Int), .int (M : Int)] ∧ H lg = some (.lst es) ∧ LogC H es tr ∧ tr.length ≤ 100000 ∧ A ≤ 1000 ∧ R ≤ 1000 ∧ cntC "push" tr = cntC "pop" tr + M ∧ cntC "pop" tr ≤ tot R + (R.log2 + 1) * A ∧ (R = 0 → cntC "pop" tr = 0) ∧ ∀ H', Same H H' → Q (.bl true) H'
theorem ok_br (T : Txt K mg) : FnOk P w K mg base CX0 20 T.f_l_bound_right T.d_l_bound_right ["_law_log", "_law_added", "_law_removed", "_law_present"] spBR := by
  have G_total_built := Tt.ok_total (P := P) (w := w) (base := base) T
  refine T.F_l_bound_right.ok sc_l_bound_right (fun vs H Q E h => ?_) (fun cdv A outer s H vs Q E hr h => ?_)
  · obtain ⟨lg, es, tr, A, R, M, rfl, _⟩ := h
    rfl
  · obtain ⟨lg, es, tr, A0, R, M, rfl, hlg, hl, hlen, hA, hR, h1, h2, h3, q⟩ := h
    refine ⟨_, (pss_cons (ps_par (i := 4) (j := 5) (by rfl) sc_l_bound_right.nd rfl rfl (by decide) rfl rfl (pa_cons (pe_callB call_len_seq (by rfl) T.z_len (by decide +kernel) (pa_cons (pe_lc (own := [("_law_one", 7)]) (g := gName 7)  rfl sc_l_bound_right.nd (pi_list (pv 0)) (blkOk_by (N := n_l_bound_right) (sc := defScope s_l_bound_right) (by decide +kernel)) (fun _ _ _ _ _ => (pg_name (i := 7) sc_l_bound_right.nd rfl (.inl rfl))) (fun _ _ _ _ _ => (pts_one (pt_cmpR op_eq (pe_ix (r := rIxT K) ix_tup (pv 7) pe_int (fun _ _ => rfl)) pe_str (nomark _)))) (fun _ _ _ _ _ => (pv 7))) pa_nil)) (pa_cons (pe_callB call_len_seq (by rfl) T.z_len (by decide +kernel) (pa_cons (pe_lc (own := [("_law_one", 7)]) (g := gName 7)  rfl sc_l_bound_right.nd (pi_list (pv 0)) (blkOk_by (N := n_l_bound_right) (sc := defScope s_l_bound_right) (by decide +kernel)) (fun _ _ _ _ _ => (pg_name (i := 7) sc_l_bound_right.nd rfl (.inl rfl))) (fun _ _ _ _ _ => (pts_one (pt_cmpR op_eq (pe_ix (r := rIxT K) ix_tup (pv 7) pe_int (fun _ _ => rfl)) pe_str (nomark _)))) (fun _ _ _ _ _ => (pv 7))) pa_nil)) pa_nil)) (by rfl))
      (pss_cons (ps_if (pt_cmpR op_ne (pv 5) (pe_op op_add (pv 4) (pv 3)) (nomark _)) (pss_one (ps_ret pe_bl)) pss_nil)
      (pss_cons (ps_set (i := 6) sc_l_bound_right.nd rfl (.inl rfl) pe_int)
      (pss_cons (ps_while PassesOwn.never (pt_cmpR op_le (pe_op op_shlW pe_int (pv 6)) (pv 2) (nomark _)) (pss_one (ps_set (i := 6) sc_l_bound_right.nd rfl (.inl rfl) (pe_op op_add (pv 6) pe_int))))
      (pss_one (ps_ret (pe_ifExp (pt_cmpR op_gt (pv 2) pe_int (nomark _)) (pe_cmpR op_le (pv 4) (pe_op op_add (pe_call G_total_built (hr.mono (by omega)) rfl T.g_total_built T.F_total_built.kp T.b_total_built .nil pass0 (pa_cons (pv 2) pa_nil)) (pe_op op_mul (pe_op op_add (pv 6) pe_int) (pv 1))) (nomark _)) (pe_cmpR op_eq (pv 4) pe_int (nomark _))))))))), ?_⟩
    have z0 : L2.start n_l_bound_right [V.ref lg, V.int (A0 : Int), V.int (R : Int), V.int (M : Int)] = [some (.ref lg), some (.int (A0 : Int)), some (.int (R : Int)), some (.int (M : Int)), none, none, none, none] := rfl
    rw [z0]
    clear z0
    refine pSeq ?_
    dsimp only [tPar, tCons, tCB]
    show tLc _ _ _ _ _ _ H _
    refine lc_cnt (K := K) (wd := "pop") hlg hl hlen fun r1 z1 H1 f1 s1 e1 hz1 => ⟨r1, z1, rfl, .inl (sqlOf e1), ?_⟩
    show tLc (iList K (tVar 0)) (gName 7) (tTest (tOp rEq (tOp (rIxT K) (tVar 7) (tC (V.int 0))) (tC (V.str "push")))) (tVar 7) [7] _ H1 _
    refine lc_cnt (K := K) (wd := "push") (s1 _ _ hlg) (hl.kp (cs := []) (kp_same s1) mu_nil) hlen fun r2 z2 H2 f2 s2 e2 hz2 => ⟨r2, z2, rfl, .inl (sqlOf e2), ?_⟩
    rw [hz1, hz2]
    have s12 := s1.trans s2
    clear hz1 hz2 e1 e2 s1 s2
    refine ⟨_, _, rfl, ?_⟩
    simp only [List.set_cons_succ, List.set_cons_zero]
    refine pSeq (pIf (pTest (pOp ⟨_, rfl, _, rfl, _, rfl, _, _, rfl, rfl, rfl, _, rfl, ifF ?_ (pNx ?_)⟩)))
    · rw [h1]
      show (!decide (V.int ((cntC "pop" tr + M : Nat) : Int) = V.int ((cntC "pop" tr : Nat) + (M : Int)))) = false
      rw [decide_eq_true (by rw [Int.natCast_add])]
      rfl
    dsimp only []
    refine pSeq (pAsg (pGN ?_))
    simp only [List.set_cons_succ, List.set_cons_zero]
    have hb2 : Builtin.Int.intBits 2 = 2 := by decide +kernel
    refine pSeq (while_by (fun σ H' => ∃ h : Nat, σ = [some (.ref lg), some (.int (A0 : Int)), some (.int (R : Int)), some (.int (M : Int)), some (.int (cntC "pop" tr : Nat)), some (.int (cntC "push" tr : Nat)), some (.int (h : Int)), none] ∧ (h = 0 ∨ 2 ^ h ≤ R) ∧ H' = H2) (fun σ _ => 20 - intAt σ 6) ⟨0, rfl, .inl rfl, rfl⟩ ?_ ?_)
    · rintro σ H' ⟨h, rfl, hh, rfl⟩
      have hle : h ≤ 10 := by
        refine Nat.le_of_not_lt fun z => ?_
        rcases hh with y | y
        · omega
        · have h1 : (2 : Nat) ^ 11 ≤ 2 ^ h := Nat.pow_le_pow_right (by decide) (by omega)
          have h2 : (2 : Nat) ^ 11 = 2048 := by decide
          omega
      have two_pow : (2 : Int) * 2 ^ ((h : Nat) : Int).toNat = ((2 * 2 ^ h : Nat) : Int) := by
        rw [Int.toNat_natCast, Int.natCast_mul, Int.natCast_pow]
        rfl
      refine ⟨_, rfl, _, _, rfl, rfl, ⟨by omega, by rw [hb2]; omega⟩, _, rfl, _, _, rfl, rfl, _, rfl, ?_⟩
      rw [two_pow]
      refine ite2 (fun e => ?_) (fun e => ?_)
      · have e1 := of_decide_eq_true e
        have e2 : 2 ^ (h + 1) ≤ R := by
          rw [Nat.pow_succ]
          omega
        refine ⟨_, rfl, _, _, rfl, rfl, ⟨h + 1, rfl, .inr e2, rfl⟩, ?_⟩
        show 20 - ((h : Int) + 1).toNat < 20 - ((h : Int)).toNat
        omega
      · have e1 : R < 2 ^ (h + 1) := by
          have : ¬ (((2 * 2 ^ h : Nat) : Int) ≤ (R : Int)) := fun z => e (decide_eq_true z)
          rw [Nat.pow_succ]
          omega
        dsimp only []
        refine ⟨_, rfl, _, _, rfl, rfl, _, rfl, ?_⟩
        by_cases hR0 : R = 0
        · refine ifF (decide_eq_false (by omega)) ⟨_, rfl, rfl, ?_⟩
          rw [h3 hR0]
          exact q _ s12
        · have hh2 : R.log2 = h := by
            have hlo : 2 ^ h ≤ R := by
              rcases hh with y | y
              · rw [y]
                show 1 ≤ R
                omega
              · exact y
            exact (Nat.log2_eq_iff hR0).mpr ⟨hlo, e1⟩
          rw [hh2] at h2
          refine ifT (decide_eq_true (by omega)) ⟨_, rfl, _, rfl, R, rfl, ?_, _, rfl, _, _, rfl, rfl, _, rfl, _, _, rfl, rfl, .inr ⟨by omega, by omega⟩, _, _, rfl, rfl, _, _, rfl, rfl, ?_⟩
          · exact Nat.le_trans hR (by decide)
          · have : (((cntC "pop" tr : Nat) : Int) ≤ ((tot R : Nat) : Int) + ((h : Int) + 1) * (A0 : Int)) := by
              have e : ((h : Int) + 1) * (A0 : Int) = (((h + 1) * A0 : Nat) : Int) := by
                rw [Int.natCast_mul, Int.natCast_add]
                rfl
              rw [e]
              omega
            dsimp only []
            rw [decide_eq_true this]
            exact q _ s12
    · rintro σ H' Q1 Q2 m ⟨x, hx, i, j, e1, e2, c, y, hy, a, b, e5, e6, k, e7, q⟩
      exact ⟨x, hx, i, j, e1, e2, c, y, hy, a, b, e5, e6, k, e7, m _ _ q⟩
end
end Ob

set_option Elab.async false
set_option linter.all false
set_option maxRecDepth 100000
set_option maxHeartbeats 1000000
namespace Ob
open PySem PySem.Spec PyProof.Rows L2
open LamX (Tabs TabB TabS ExtN)

set_option hygiene false in
local macro_rules
  | `(tactic| kp_flats) => `(tactic| first
    | assumption
    | exact upd_same
    | (apply atNew; assumption; kp_flats)
    | (apply atNe; (next => kbo_bools); kp_flats)
    | (apply atSame; assumption; kp_flats)
    | (apply atKp; assumption; (next => kaf_pre); kp_flats))
set_option hygiene false in
local macro_rules
  | `(tactic| kaf_pre) => `(tactic| first
    | assumption
    | exact not_nil
    | (apply not_cons; (next => kbo_bools); kaf_pre)
    | (apply not_app; (next => kaf_pre); kaf_pre))
set_option hygiene false in
local macro_rules
  | `(tactic| kbo_bools) => `(tactic| first
    | assumption
    | (apply Ne.symm; assumption)
    | (apply neN; assumption; kp_flats)
    | (apply neN'; assumption; kp_flats))
set_option hygiene false in
local macro_rules
  | `(tactic| o_reads) => `(tactic| first
    | with_reducible rfl
    | assumption
    | rfl
    | kp_flats
    | (show SqL _ _ _ _; first | assumption | (apply sqlOf; kp_flats) | (apply sqlSame; assumption; o_reads))
    | (show SqT _ _ _ _; first | assumption | (apply sqtOf; kp_flats) | (apply sqtAll; assumption) | (apply sqtSame; assumption; o_reads))
    | (show Cls _ _; first | exact T.cl_Calls | exact T.cl_Outer | exact T.cl_Ranked | exact T.cl_Unions)
    | (show NoAttr _ _ _; first | exact T.n_Calls_entries | exact T.n_Calls_running | exact T.n_Outer_calls | exact T.n_Outer_push_call | exact T.n_Outer_pop_call | exact T.n_Outer_ask_call | exact T.n_Outer_order | exact T.n_Outer_broken | exact T.n_Ranked_outer | exact T.n_Ranked_given | exact T.n_Ranked_held | exact T.n_Ranked_ranks | exact T.n_Ranked_removals | exact T.n_Unions_groups | exact T.n_Unions_parents | exact T.n_Unions_counts | exact T.n_Unions_moved)
    | (apply Or.inl; o_reads)
    | (apply Or.inr; o_reads)
    | (apply And.intro; (next => o_reads); o_reads)
    | (apply Exists.intro; o_reads)
    | exact Nat.le_of_ble_eq_true rfl
    | exact Nat.succ_ne_zero _
    | (show Fr _ _; kba_ints)
    | (show Same _ _; kd_subs)
    | (show Kp _ _ _; kxs_still)
    | (show (_ : Nat) ≤ _; simp only [List.length_append, List.length_map, List.length_cons, List.length_nil, List.length_take, List.length_drop, List.length_replicate, List.length_range, sizeLine_eq]; omega)
    | (show _ = none; apply Fr.h; kba_ints)
    | (show Bag _ _; first | assumption | (apply bag_putF; assumption; o_reads) | (apply bag_neF; (next => kbo_bools); o_reads) | (apply bag_kpR; assumption; (next => kaf_pre); o_reads))
    | omega
    | decide)
local macro_rules
  | `(tactic| o_readsAll) => `(tactic| repeat (first
    | (refine fun (pNew : Addr) (nNew : _ = none) => ?_; replace nNew := Fr.mk nNew)
    | (refine fun (xNew dNew : Addr) (nNew : _ = none) (mNew : _ = none) (eNew : dNew ≠ xNew) => ?_; replace nNew := Fr.mk nNew; replace mNew := Fr.mk mNew)
    | (apply And.intro; next => o_reads)
    | apply Exists.intro (α := V)
    | apply Exists.intro (α := Addr)
    | apply Exists.intro (α := Int)
    | apply Exists.intro (α := Bool)
    | apply Exists.intro (α := List V)
    | apply Exists.intro (α := List Nat)
    | apply Exists.intro (α := List (Str × V))
    | apply Exists.intro (α := List _)
    | apply Exists.intro (α := Str)
    | apply Exists.intro (α := HO)
    | apply Exists.intro (α := Sp)
    | apply Exists.intro (α := VK)))
set_option hygiene false in
local macro_rules
  | `(tactic| kba_ints) => `(tactic| first
    | assumption
    | (apply frUp; (first | assumption | (apply Ne.symm; assumption)); kba_ints)
    | (apply noneOf; assumption; intro oF eF; apply Exists.intro; kp_flats)
    | (apply frUp; (next => kbo_bools); kba_ints))
set_option hygiene false in
local macro_rules
  | `(tactic| kxs_still) => `(tactic| first
    | assumption
    | exact kp_refl _ _
    | (apply kp_newF; assumption; kxs_still)
    | (apply kp_new; assumption; kxs_still)
    | (apply kp_up; (next => o_fieldsN); kxs_still)
    | (apply kp_new; (next => kba_ints); kxs_still)
    | (apply kp_sameR; assumption; kxs_still)
    | (apply kp_transR; assumption; kxs_still)
    | (apply kp_freshR; assumption; (next => kaf_suf); kxs_still))
set_option hygiene false in
local macro_rules
  | `(tactic| kaf_suf) => `(tactic| first
    | assumption
    | exact subNil
    | (apply subCons; (first | (apply Or.inl; o_fieldsN) | (apply Or.inr; kba_ints)); kaf_suf)
    | (apply subApp; (next => kaf_suf); kaf_suf))
set_option hygiene false in
local macro_rules
  | `(tactic| o_fieldsN) => `(tactic| first
    | assumption
    | exact memA
    | (apply memB; o_fieldsN)
    | (apply memL; o_fieldsN)
    | (apply memR; o_fieldsN))
set_option hygiene false in
local macro_rules
  | `(tactic| kd_subs) => `(tactic| first
    | assumption
    | exact Same.refl _
    | (apply same_putF; assumption; kd_subs)
    | (apply same_putG; assumption; kd_subs)
    | (apply same_putF; (next => kba_ints); kd_subs)
    | (apply same_transR; assumption; kd_subs))

/-! ### a call by keywords alone -/
section
variable {X : Cx} {CX : CXT} {k n : Nat} {f : Addr} {fd : FuncData} {ps ks : List Str} {sp : Sp} {E : XK} {x : Str} {p pos : Pos} {kws : List Keyword} {tk : TA} {g : List Value → List Value → List Value} {gV : List V → List V → List V}
theorem pe_kw0 (F : FnOk X.prog X.w X.K X.mg X.base CX k f fd ps sp) (hr : Room k X.A) (hg : Gl X x) (hm : X.mg x = some (.ref f))
    (hk : PySem.W.keepIn X.K (.ref f) = true) (hb : KBn X.K fd ps 0 ks g gV) (hx : Passes CX X E) (hkw : PK X kws tk)
    (hall : (backToKw pos (keywordEach kws X.env)).all (·.1.isSome) = true := by rfl)
    (hks : (backToKw pos (keywordEach kws X.env)).filterMap (·.1) = ks := by rfl) (hdb : (x == ("__debug__" : Str)) = false := by decide)
    (hpl : ((backTo pos (starEach [] X.env)).any (·.1) || (backToKw pos (keywordEach kws X.env)).any (·.1.isNone)) = false := by rfl) :
    PE X (.Call (.Name x p) [] kws pos) (tCallN 0 ks.length sp gV E tNil tk) :=
  ⟨fun pins s σ H Q I h => wpAny_Call_Name_kw (ld_glob I hg hm (PySem.W.callWith_KW0 (h₀ := X.base) I.ok.mod.kin hk hall
    (thn (hkw.run pos pins s σ H _ I h) fun ws s2 ⟨zs, H2, I2, rz, l1, l2, q2⟩ => ⟨I2.kIn, by rw [hks]; exact run_fnN (us := []) (vs := []) F hr hb hx I2 .nil rz l1 l2 q2⟩) hpl) hdb)⟩
end
theorem kb_one {K : PySem.W.Frag} {x qual : Str} {st : Stmt} {f : Addr} {fd : FuncData} {n : Str} (F : Fun K x qual st f fd)
    (h : ∀ (kV doc pm : Value) (an : Option Addr) (cdv ct v : Value), bindArgs (PySem.W.fnOf x qual (defArgs st) (defBody st) (defScope st) .none kV doc pm an cdv ct) ⟨[], [(n, v)]⟩ = pure [(n, v)]) :
    KBn K fd [n] 0 [n] (fun _ ws => ws) (fun _ zs => zs) := by
  obtain ⟨oc, od, kV, doc, pm, an, cdv, ct, osl, rfl, lk, hcd⟩ := F.ex
  exact ⟨fun s us ws X l1 l2 => match us, ws, l1, l2 with | [], [v], _, _ => .of_eq (h kV doc pm an cdv ct v), fun _ r => r⟩
/-! ### lists of ints, compared -/
theorem dp_ints {K : PySem.W.Frag} {H : Hp} : ∀ l : List Int, DpAll K H (l.map V.int) (l.map PyData.int)
  | [] => .nil
  | x :: l => .cons (.int x) (dp_ints l)
theorem lay_ints : ∀ l : List Int, PyData.canLayAll0 (l.map PyData.int) = true ∧ PyData.depthAll (l.map PyData.int) ≤ 1
  | [] => ⟨rfl, by decide⟩
  | x :: l => by
    obtain ⟨a, b⟩ := lay_ints l
    refine ⟨?_, ?_⟩
    · show PyData.canLayAll0 (PyData.int x :: l.map PyData.int) = true
      simp only [PyData.canLayAll0, PyData.canLay0, a, Bool.and_self]
    · show PyData.depthAll (PyData.int x :: l.map PyData.int) ≤ 1
      simp only [PyData.depthAll, PyData.depth]
      omega
theorem sh_ints (l : List Int) : SeqAt.shaped (.list (l.map PyData.int)) = true := by
  obtain ⟨a, b⟩ := lay_ints l
  unfold SeqAt.shaped
  rw [Bool.and_eq_true]
  refine ⟨?_, decide_eq_true ?_⟩
  · simp only [PyData.canLay0, a]
  · simp only [PyData.depth]
    omega

set_option pp.maxSteps 1500
open NdefX (TabsN)
open Inf (Clo LClo cut mend cellsOf)
structure FX where
  (t o c l p hl : Addr)
structure VS where
  (tr : List Ca) (given : Nat) (M : List Nat) (rk : Nat → Int) (rem : Nat) (L : List Nat)
def mbP (y : PX) : Nat → V := fun i => .ref (y.pa i)
/-- the law's own list of what is held -/
def heldL (y : PX) (v : VS) : List (List V) := v.L.map fun i => [V.int (v.rk i), V.int (i : Int), V.ref (y.pa i)]
structure TupL (H : Hp) (xs : List V) (ls : List (List V)) : Prop where
  len : xs.length = ls.length
  at_ : ∀ (q : Nat) (x : V) (l : List V), xs[q]? = some x → ls[q]? = some l → ∃ p, x = .ref p ∧ H p = some (.tup l)
theorem TupL.kp {H H1 : Hp} {xs : List V} {ls : List (List V)} {cs : List Addr} (h : TupL H xs ls) (k : Kp cs H H1) (m : Mu H cs) : TupL H1 xs ls := ⟨h.len, fun q x e a b => by
  obtain ⟨p, h1, h2⟩ := h.at_ q x e a b
  exact ⟨p, h1, kp_tup k m h2⟩⟩
section
variable {P : Program} {w : World} {K : PySem.W.Frag} {mg : Str → Option Value} {base : Heap} {T : Txt K mg}
def HsX (T : Txt K mg) (R : List Ca → Hp → Prop) (x : LX) (y : PX) (H : Hp) (F : List Addr) (f : FX) (v : VS) : Prop := HsG T.C_Ranked T.C_Outer T.C_Calls x.uv (.ref x.fp) (.ref x.fo) (.ref x.fa) (PMu y) R H F f.t f.o f.c f.l v.tr v.given v.M (mbP y) v.rk v.rem
/-- a collection over a Unions, the bag, and the law's own list -/
structure K1 (T : Txt K mg) (R : List Ca → Hp → Prop) (x : LX) (y : PX) (Hz : Hp) (av : List Addr) (f : FX) (F : List Addr) (v : VS) (H : Hp) : Prop where
  tb : TabsN (TT T) H
  hs : HsX T R x y H F f v
  bg : Bag H f.p
  hd : ∃ xs, H f.hl = some (.lst xs) ∧ TupL H xs (heldL y v)
  ez : Eqv av Hz H
  sz : Sol Hz av
  dj : ∀ a ∈ [f.p, f.hl] ++ av, a ∉ F
  n1 : f.p ≠ f.hl
  nav : ∀ a ∈ [f.p, f.hl], a ∉ av
theorem R0.sol {C : Addr} {x : LX} {y : PX} {tr : List Ca} {H : Hp} (h : R0 C x y tr H) : Sol H x.uv := by
  obtain ⟨⟨dx, e1⟩, e2, ⟨c, e3, e4⟩, e5, e6, e7⟩ := h.un
  exact Sol.ins e1 (Sol.dK e2 (Sol.dK e3 (Sol.lst e5 Sol.nil)))
structure RKit (x : LX) (R : List Ca → Hp → Prop) : Prop where
  rk : ∀ {tr : List Ca} {cs : List Addr} {H H1 : Hp}, R tr H → Kp cs H H1 → Mu H cs → (∀ a ∈ x.uv, a ∉ cs) → R tr H1
  rs : ∀ {tr : List Ca} {H : Hp}, R tr H → Sol H x.uv
theorem kitF {C : Addr} {x : LX} {y : PX} : RKit x (RF C x y) := ⟨fun h k mu n => ⟨h.1.kp k mu, h.2.kp k mu n⟩, fun h => h.2.sol⟩
variable {R : List Ca → Hp → Prop} {x : LX} {y : PX} {Hz H H1 : Hp} {av : List Addr} {f : FX} {F : List Addr} {v : VS}
theorem K1.r (h : K1 T R x y Hz av f F v H) : R v.tr H := by
  obtain ⟨dx, hd, rd, od, _, _, _, _, _, _, o⟩ := h.hs.ft
  exact o.r
theorem K1.solF (h : K1 T R x y Hz av f F v H) (kit : RKit x R) : Sol H F := HsG.sol h.hs (kit.rs h.r)
theorem K1.sol (h : K1 T R x y Hz av f F v H) : Sol H ([f.p, f.hl] ++ av) := by
  obtain ⟨ys, e⟩ := bag_lst h.bg
  obtain ⟨xs, e2, _⟩ := h.hd
  exact Sol.app (Sol.lst e (Sol.lst e2 Sol.nil)) (h.sz.eqv h.ez)
theorem K1.inuv (h : K1 T R x y Hz av f F v H) : ∀ a ∈ x.uv, a ∈ F := fun a m => by
  obtain ⟨dx, hd, rd, od, eF, _⟩ := h.hs.ft
  rw [eF]
  exact memR m
theorem K1.kp {cs : List Addr} (h : K1 T R x y Hz av f F v H) (kit : RKit x R) (k : Kp cs H H1) (m : Mu H cs) (t : TabsN (TT T) H1) (n1 : ∀ a ∈ F, a ∉ cs) (nb : ∀ a ∈ [f.p, f.hl] ++ av, a ∉ cs) : K1 T R x y Hz av f F v H1 := by
  obtain ⟨xs, e, tl⟩ := h.hd
  exact ⟨t, HsG.kp h.hs k m (kit.rk h.r k m fun a ma => n1 a (h.inuv a ma)) n1, bag_kpR k (nb _ memA) h.bg, ⟨xs, k.at_ _ _ e (nb _ (memB memA)), tl.kp k m⟩, h.ez.kp h.sz k fun a ma => nb a (memR ma), h.sz, h.dj, h.n1, h.nav⟩
theorem K1.same (h : K1 T R x y Hz av f F v H) (kit : RKit x R) (s : Same H H1) : K1 T R x y Hz av f F v H1 :=
  h.kp kit (cs := []) (kp_same s) mu_nil (tabs_same h.tb s) (fun _ _ => not_nil) fun _ _ => not_nil
theorem K1.take (h : K1 T R x y Hz av f F v H) (kit : RKit x R) (k : Kp [f.p] H H1) (bg : Bag H1 f.p) : K1 T R x y Hz av f F v H1 := by
  obtain ⟨ys, e⟩ := bag_lst h.bg
  have mp : Mu H [f.p] := bag_mu h.bg
  obtain ⟨xs, e2, tl⟩ := h.hd
  have n1 : ∀ a ∈ F, a ∉ [f.p] := fun a ma z => h.dj _ memA (by rw [← List.mem_singleton.mp z]; exact ma)
  have t1 : TabsN (TT T) H1 := tabsN_kpU h.tb k mp fun q hq => not_cons (tab_ne h.tb hq e (fun _ z => nomatch z)).symm not_nil
  exact ⟨t1, HsG.kp h.hs k mp (kit.rk h.r k mp fun a ma => n1 a (h.inuv a ma)) n1, bg, ⟨xs, k.at_ _ _ e2 (not_cons h.n1.symm not_nil), tl.kp k mp⟩, h.ez.kp h.sz k fun a ma => not_cons (fun z => h.nav _ memA (by rw [← z]; exact ma)) not_nil, h.sz, h.dj, h.n1, h.nav⟩
/-- what is outside the layer stays -/
def Ek (H H1 : Hp) : Prop := ∀ b φ, H b = some (.ext φ) → H1 b = some (.ext φ)
theorem ek_kp {cs : List Addr} (k : Kp cs H H1) (m : Mu H cs) : Ek H H1 := fun b φ e => kp_ext k m e
theorem Ek.trans {H2 : Hp} (a : Ek H H1) (b : Ek H1 H2) : Ek H H2 := fun c φ e => b c φ (a c φ e)
theorem K1.ask {qv : V} {Q : VK} (h : K1 T (RF T.C_Unions x y) x y Hz av f F v H) (hW : x.W ≤ 10000) (hq : PQu y qv) (htl : v.tr.length < 400000) (q : ∀ u H' F', Ek H H' → K1 T (RF T.C_Unions x y) x y Hz av f F' { v with tr := v.tr ++ [.ask qv] } H' → AnU x y v.tr qv u H' → Q u H') :
    spRQ P w K mg base T.C_Ranked T.C_Outer T.C_Calls 3 [.ref f.t, qv] H Q E0 := by
  have sF := h.solF kitF
  have so := h.sol
  refine use_ask T (osF (P := P) (w := w) (base := base) T hW) h.hs so h.dj hq htl fun u H' F' kk g dj e an _ => ?_
  obtain ⟨xs, e2, tl⟩ := h.hd
  have nb : ∀ a ∈ [f.p, f.hl] ++ av, a ∉ F := h.dj
  exact q u H' F' (ek_kp kk sF.1) ⟨tabsN_kpU h.tb kk sF.1 fun p hp => sF.tab h.tb p hp, g, bag_kpR kk (nb _ memA) h.bg, ⟨xs, kk.at_ _ _ e2 (nb _ (memB memA)), tl.kp kk sF.1⟩, fun a ma => (e a (memR ma)).trans (h.ez a ma), h.sz, dj, h.n1, h.nav⟩ an
theorem K1.stk {Q : VK} (h : K1 T R x y Hz av f F v H) (kit : RKit x R) (q : ∀ r, H r = none → K1 T R x y Hz av f F v (upd H r (.lst ((stC [] v.tr).map nV))) → Q (.ref r) (upd H r (.lst ((stC [] v.tr).map nV)))) : spRStk T [.ref f.t] H Q E0 :=
  ⟨f.t, f.o, f.c, f.l, _, _, _, _, _, _, _, _, _, _, _, _, rfl, HsG.rkat h.hs, fun r nr => q r nr (h.same kit (same_newF (Fr.mk nr)))⟩
theorem K1.log {Q : VK} (h : K1 T R x y Hz av f F v H) (kit : RKit x R) (q : ∀ r es H', Same H H' → Fr H r → H' r = some (.lst es) → LogC H' es v.tr → K1 T R x y Hz av f F v H' → Q (.ref r) H') : spRLog T [.ref f.t] H Q E0 :=
  ⟨f.t, f.o, f.c, f.l, _, _, _, _, _, _, _, _, _, _, _, _, rfl, HsG.rkat h.hs, fun r es H' s fr e w => q r es H' s fr e w (h.same kit s)⟩
theorem K1.obj (h : K1 T R x y Hz av f F v H) : ∃ dx hd rd, H f.t = some (RO T.C_Ranked dx f.o v.given hd rd v.rem) := by
  obtain ⟨dx, hd, rd, od, _, e, _⟩ := h.hs.ft
  exact ⟨dx, hd, rd, e⟩
end
section
variable {K : PySem.W.Frag} {y0 y1 y2 y3 y4 y5 y6 y7 y8 y9 y10 : Option V}
theorem lc_held {H : Hp} {Q : VK} {hl : Addr} {xs : List V} {y : PX} {v : VS} {te : TE} {g : Nat → V} (e : H hl = some (.lst xs)) (tl : TupL H xs (heldL y v)) (hM : v.L.length ≤ 1000)
    (hte : ∀ (i : Nat) (H1 : Hp) (Q1 : VK), Q1 (g i) H1 → te [y0, y1, some (.ref hl), y3, y4, y5, y6, y7, some (.int (i : Int)), some (.ref (y.pa i)), some (.int (v.rk i))] H1 Q1) (q : ∀ r H', Fr H r → Same H H' → H' r = some (.lst (v.L.map g)) → Q (.ref r) H') :
    tLc (iList K (tVar 2)) (gTup K 3 (gCons (gName 10) (gCons (gName 8) (gCons (gName 9) gNil)))) tYes te [10, 8, 9] [y0, y1, some (.ref hl), y3, y4, y5, y6, y7, y8, y9, y10] H Q := by
  refine ⟨_, rfl, hl, rfl, ⟨_, sqlOf e⟩, fun D nD => ?_⟩
  have fD := Fr.mk nD
  have hxl := tl.len
  unfold heldL at hxl
  rw [List.length_map] at hxl
  refine lc_it (walk_list (K := K) (a := hl) (xs := xs)) (fun i H' => Same H H' ∧ H' D = some (.lst ((v.L.take i).map g))) ⟨same_newF fD, upd_same⟩ (fun i H' _ z => sqlOf (z.1 _ _ e)) ?_ ?_
  · rintro i z H1 H2 hi ⟨s1, eD⟩ ⟨rfl, hx⟩
    obtain ⟨j, hj⟩ : ∃ j, v.L[i]? = some j := ⟨_, List.getElem?_eq_getElem (by omega)⟩
    obtain ⟨p, rfl, ep⟩ := tl.at_ i z [V.int (v.rk j), V.int (j : Int), V.ref (y.pa j)] hx (by unfold heldL; rw [List.getElem?_map, hj]; rfl)
    refine ⟨p, _, rfl, sqtOf (s1 _ _ ep), rfl, _, _, rfl, _, _, rfl, _, _, rfl, rfl, rfl, ?_⟩
    unfold tYes
    refine ifT rfl ?_
    refine hte j _ _ ⟨_, eD, ?_, same_putG fD s1, ?_⟩
    · rw [List.length_map, sizeLine_eq]
      have := List.length_take_le' i v.L
      omega
    · rw [upd_same, take_map g hj]
  · rintro H1 ⟨s1, eD⟩
    rw [hxl, List.take_length] at eD
    exact q D H1 fD s1 eD
end
section
variable {P : Program} {w : World} {K : PySem.W.Frag} {mg : Str → Option Value} {base : Heap} {T : Txt K mg}
theorem eq_sh {d : PyData} (h : SeqAt.shaped d = true) : (!PyData.eqv d d) = false := by
  rw [SeqAt.eqv_refl _ (SeqAt.canLay_of_shaped h)]
  rfl
theorem qn_inj {a b : Un.Qn} (h : a.tup = b.tup) : a = b := by
  cases a <;> cases b <;> simp [Un.Qn.tup] at h
  · obtain ⟨h1, h2⟩ := h
    congr 1 <;> omega
  · congr 1
    omega
  · rfl
theorem ans_dp {H : Hp} {W : Nat} {ps : List (Nat × Nat)} {q : Un.Qn} : ∃ d, Dp K H (q.ans W ps) d ∧ SeqAt.shaped d = true := by
  cases q with
  | same a b => exact ⟨_, .bl _, by cases decide (Un.rootF a (Un.linksOf ps) = Un.rootF b (Un.linksOf ps)) <;> rfl⟩
  | size a => exact ⟨_, .int _, rfl⟩
  | groups => exact ⟨_, .int _, rfl⟩
theorem srt_eq : ∀ {a b : List Int}, a.Perm b → a.Pairwise (· ≤ ·) → b.Pairwise (· ≤ ·) → a = b
  | [], b, p, _, _ => (List.Perm.nil_eq p)
  | x :: a, [], p, _, _ => by cases (List.Perm.eq_nil p)
  | x :: a, y :: b, p, h1, h2 => by
    obtain ⟨h1, h3⟩ := List.pairwise_cons.mp h1
    obtain ⟨h2, h4⟩ := List.pairwise_cons.mp h2
    have e : x = y := by
      rcases List.mem_cons.mp (p.mem_iff.mp List.mem_cons_self) with e | m
      · exact e
      · rcases List.mem_cons.mp (p.mem_iff.mpr List.mem_cons_self) with e | m2
        · exact e.symm
        · exact Int.le_antisymm (h1 y m2) (h2 x m)
    subst e
    rw [srt_eq ((List.perm_cons x).mp p) h3 h4]
def spRight (T : Txt K mg) : Sp := fun vs H Q _ => ∃ (x : LX) (y : PX) (Hz : Hp) (av : List Addr) (f : FX) (F : List Addr) (v : VS), vs = [.ref f.p, .ref f.t, .ref f.hl, .int (x.W : Int)] ∧ K1 T (RF T.C_Unions x y) x y Hz av f F v H ∧ y.qs = [] ∧ 0 < x.W ∧ x.W ≤ 9 ∧ v.M.length ≤ 100 ∧ v.tr.length ≤ 50000 ∧ v.given ≤ y.n ∧ v.L = v.M ∧
  ∀ H' F' (as : List V), as.length = 3 → Ek H H' → K1 T (RF T.C_Unions x y) x y Hz av f F' { v with tr := v.tr ++ as.map Ca.ask } H' → Q (.bl true) H'
theorem ok_right (T : Txt K mg) : FnOk P w K mg base CX0 20 T.f_l_right T.d_l_right ["_law_bag_here", "_law_ranked", "_law_held", "_law_wide"] (spRight T) := by
  have G_l_take := ok_takeK (P := P) (w := w) (base := base) T
  have G_l_answer := Un.ok_answer (P := P) (w := w) (base := base) T
  have G_Ranked_query := ok_rq (P := P) (w := w) (base := base) (n := 3) T
  have G_Ranked_stack := ok_rstk (P := P) (w := w) (base := base) T
  refine T.F_l_right.ok sc_l_right (fun vs H Q E h => ?_) (fun cdv A outer s H vs Q E hr h => ?_)
  · obtain ⟨x, y, Hz, av, f, F, v, rfl, _⟩ := h
    rfl
  · obtain ⟨x, y, Hz, av, f, F, v, rfl, k, hqs, hW0, hW, hM, htr, hgn, hLM, q⟩ := h
    refine ⟨_, (pss_cons (ps_setLc (i := 4) (own := [("_law_weight", 10), ("_law_number", 8), ("_law_pair", 9)]) (g := (gTup K 3 (gCons (gName 10) (gCons (gName 8) (gCons (gName 9) gNil))))) (tt := tYes) rfl sc_l_right.nd rfl rfl (sw_true rfl rfl rfl (by decide +kernel)) (pi_list (pv 2)) (blkOk_by (N := n_l_right) (sc := defScope s_l_right) (by decide +kernel)) (fun _ _ _ _ _ => (pg_tup (by rfl) (pgs_cons (pg_name (i := 10) sc_l_right.nd rfl (.inl rfl)) (pgs_cons (pg_name (i := 8) sc_l_right.nd rfl (.inl rfl)) (pgs_cons (pg_name (i := 9) sc_l_right.nd rfl (.inl rfl)) pgs_nil))))) (fun _ _ _ _ _ => pts_nil) (fun _ _ _ _ _ => (pv 9)))
      (pss_cons (ps_par (i := 5) (j := 6) (by rfl) sc_l_right.nd rfl rfl (by decide) rfl rfl (pa_cons (pe_call G_l_take (hr.mono (by omega)) rfl T.g_l_take T.F_l_take.kp T.b_l_take .nil pass0 (pa_cons (pv 0) (pa_cons (pv 3) pa_nil))) (pa_cons (pe_call G_l_take (hr.mono (by omega)) rfl T.g_l_take T.F_l_take.kp T.b_l_take .nil pass0 (pa_cons (pv 0) (pa_cons (pv 3) pa_nil))) pa_nil)) (by rfl))
      (pss_cons (ps_for PassesOwn.never rfl (pi_list (pe_lst (pa_cons (pe_tup (pa_cons pe_str (pa_cons (pv 5) (pa_cons (pv 6) pa_nil)))) (pa_cons (pe_tup (pa_cons pe_str (pa_cons (pv 5) pa_nil))) (pa_cons (pe_tup (pa_cons pe_str pa_nil)) pa_nil))))) (pg_name (i := 7) sc_l_right.nd rfl (.inl rfl)) (pss_one (ps_if (pt_cmpR (op_neD hr.units) (pe_meth (pv 1) T.cl_Ranked ⟨T.m_Ranked_query, T.t_Ranked_query, T.k_Ranked_query⟩ G_Ranked_query (hr.mono (by omega)) T.b_Ranked_query .nil pass0 (pa_cons (pv 7) pa_nil)) (pe_call G_l_answer (hr.mono (by omega)) rfl T.g_l_answer T.F_l_answer.kp T.b_l_answer .nil pass0 (pa_cons (pv 4) (pa_cons (pv 3) (pa_cons (pv 7) pa_nil)))) (nomark _)) (pss_one (ps_ret pe_bl)) pss_nil)))
      (pss_one (ps_ret (pe_cmpR (op_eqD hr.units) (pe_callB (r := rSortedI K) cr_sortedI (by rfl) T.z_sorted (by decide +kernel) (pa_cons (pe_meth0 (pv 1) T.cl_Ranked ⟨T.m_Ranked_stack, T.t_Ranked_stack, T.k_Ranked_stack⟩ G_Ranked_stack (hr.mono (by omega)) T.b_Ranked_stack .nil pass0) pa_nil)) (pe_callB (r := rSortedI K) cr_sortedI (by rfl) T.z_sorted (by decide +kernel) (pa_cons (pe_lc (own := [("_law_weight", 10), ("_law_number", 8), ("_law_pair", 9)]) (g := (gTup K 3 (gCons (gName 10) (gCons (gName 8) (gCons (gName 9) gNil))))) (tt := tYes) rfl sc_l_right.nd (pi_list (pv 2)) (blkOk_by (N := n_l_right) (sc := defScope s_l_right) (by decide +kernel)) (fun _ _ _ _ _ => (pg_tup (by rfl) (pgs_cons (pg_name (i := 10) sc_l_right.nd rfl (.inl rfl)) (pgs_cons (pg_name (i := 8) sc_l_right.nd rfl (.inl rfl)) (pgs_cons (pg_name (i := 9) sc_l_right.nd rfl (.inl rfl)) pgs_nil))))) (fun _ _ _ _ _ => pts_nil) (fun _ _ _ _ _ => (pv 8))) pa_nil)) (nomark _))))))), ?_⟩
    have z0 : L2.start n_l_right [V.ref f.p, V.ref f.t, V.ref f.hl, V.int (x.W : Int)] = [some (.ref f.p), some (.ref f.t), some (.ref f.hl), some (.int (x.W : Int)), none, none, none, none, none, none, none] := rfl
    rw [z0]
    clear z0
    obtain ⟨xs, exs, tls⟩ := k.hd
    -- the pairs
    refine pSeq (pAsg (lc_held (K := K) (g := fun i => V.ref (y.pa i)) exs tls (by rw [hLM]; omega) (fun i H1 Q1 hq => ⟨_, rfl, hq⟩) fun r H1 fr s1 er => pGN ?_))
    rw [hLM] at er
    simp only [List.set_cons_succ, List.set_cons_zero]
    have k1 := k.same kitF s1
    have nrF : r ∉ F := (k.solF kitF).1.fr fr
    have nrO : r ∉ [f.p, f.hl] ++ av := k.sol.1.fr fr
    have nrp : r ≠ f.p := fun z => nrO (by rw [z]; exact memA)
    clear k exs tls
    -- two points
    have hW2 : ((x.W : Int)).natAbs < 2 ^ 200 := by
      have : (2 : Nat) ^ 200 > 70 := by decide
      omega
    refine pSeq ?_
    dsimp only [tPar, tCons, tNil]
    refine ⟨_, rfl, _, rfl, f.p, (x.W : Int), rfl, k1.bg, by omega, hW2, fun a H2 ha0 ha1 b2 kk2 => ?_⟩
    have k2 := k1.take kitF kk2 b2
    have er2 := kk2.at_ _ _ er (not_cons nrp not_nil)
    refine ⟨_, rfl, _, rfl, f.p, (x.W : Int), rfl, k2.bg, by omega, hW2, fun b H3 hb0 hb1 b3 kk3 => ?_⟩
    have k3 := k2.take kitF kk3 b3
    have er3 := kk3.at_ _ _ er2 (not_cons nrp not_nil)
    have ek3 : Ek H H3 := (ek_kp (cs := []) (kp_same s1) mu_nil).trans ((ek_kp kk2 (bag_mu k1.bg)).trans (ek_kp kk3 (bag_mu k2.bg)))
    obtain ⟨an, rfl⟩ : ∃ an : Nat, a = (an : Int) := ⟨a.toNat, by omega⟩
    obtain ⟨bn, rfl⟩ : ∃ bn : Nat, b = (bn : Int) := ⟨b.toNat, by omega⟩
    clear k1 k2 er er2 kk2 kk3 b2 b3 s1 fr
    refine ⟨_, _, rfl, ?_⟩
    simp only [List.set_cons_succ, List.set_cons_zero]
    -- the questions
    refine pSeq ⟨_, rfl, _, rfl, le3, fun t1 n1 => ⟨_, rfl, le2, fun t2 n2 => ⟨(show 1 ≤ sizeLine by decide), fun t3 n3 => ⟨le3, fun ql nql => ⟨ql, rfl, ⟨_, sqlOf upd_same⟩, ?_⟩⟩⟩⟩⟩
    obtain ⟨G1, hG1⟩ : ∃ G, G = upd H3 t1 (.tup (Un.Qn.tup (.same an bn))) := ⟨_, rfl⟩
    have s4 : Same H3 G1 := by
      rw [hG1]
      exact same_newF (Fr.mk n1)
    have e1 : G1 t1 = some (.tup (Un.Qn.tup (.same an bn))) := by
      rw [hG1]
      exact upd_same
    have n2 : G1 t2 = none := by
      rw [hG1]
      exact n2
    obtain ⟨G2, hG2⟩ : ∃ G, G = upd G1 t2 (.tup (Un.Qn.tup (.size an))) := ⟨_, rfl⟩
    have s5 : Same G1 G2 := by
      rw [hG2]
      exact same_newF (Fr.mk n2)
    have e2 : G2 t2 = some (.tup (Un.Qn.tup (.size an))) := by
      rw [hG2]
      exact upd_same
    have n3 : G2 t3 = none := by
      rw [hG2, hG1]
      exact n3
    obtain ⟨G3, hG3⟩ : ∃ G, G = upd G2 t3 (.tup (Un.Qn.tup .groups)) := ⟨_, rfl⟩
    have s6 : Same G2 G3 := by
      rw [hG3]
      exact same_newF (Fr.mk n3)
    have e3 : G3 t3 = some (.tup (Un.Qn.tup .groups)) := by
      rw [hG3]
      exact upd_same
    have n4 : G3 ql = none := by
      rw [hG3, hG2, hG1]
      exact nql
    obtain ⟨G4, hG4⟩ : ∃ G, G = upd G3 ql (.lst [.ref t1, .ref t2, .ref t3]) := ⟨_, rfl⟩
    have s7 : Same G3 G4 := by
      rw [hG4]
      exact same_newF (Fr.mk n4)
    have e4 : G4 ql = some (.lst [.ref t1, .ref t2, .ref t3]) := by
      rw [hG4]
      exact upd_same
    have eG : upd (upd (upd (upd H3 t1 (.tup [V.str "same", V.int (an : Int), V.int (bn : Int)])) t2 (.tup [V.str "size", V.int (an : Int)])) t3 (.tup [V.str "groups"])) ql (.lst [.ref t1, .ref t2, .ref t3]) = G4 := by
      rw [hG4, hG3, hG2, hG1]
      rfl
    show ∃ W : Nat → Nat → L2.St → Hp → Prop, (∃ m, W 0 m _ (upd (upd (upd (upd H3 t1 (.tup [V.str "same", V.int (an : Int), V.int (bn : Int)])) t2 (.tup [V.str "size", V.int (an : Int)])) t3 (.tup [V.str "groups"])) ql (.lst [.ref t1, .ref t2, .ref t3]))) ∧ _
    rw [eG]
    clear eG hG1 hG2 hG3 hG4
    have s37 := s4.trans (s5.trans (s6.trans s7))
    have k4 := k3.same kitF s37
    have er4 := s37 _ _ er3
    have q1 := s7 _ _ (s6 _ _ (s5 _ _ e1))
    have q2 := s7 _ _ (s6 _ _ e2)
    have q3 := s7 _ _ e3
    have fql : Fr H3 ql := Fr.mk (s4.free (s5.free (s6.free n4)))
    have nqF : ql ∉ F := (k3.solF kitF).1.fr fql
    have nqO : ql ∉ [f.p, f.hl] ++ av := k3.sol.1.fr fql
    obtain ⟨y1, hy1⟩ : ∃ y1 : PX, y1 = { y with qs := [(t1, .same an bn), (t2, .size an), (t3, .groups)] } := ⟨_, rfl⟩
    have hqw : ∀ z ∈ y1.qs, z.2.inW x.W := fun z mz => by
      rw [hy1] at mz
      rcases List.mem_cons.mp mz with rfl | mz
      · exact ⟨by omega, by omega⟩
      rcases List.mem_cons.mp mz with rfl | mz
      · show an < x.W
        omega
      · rw [List.mem_singleton.mp mz]
        exact True.intro
    have k5 : K1 T (RF T.C_Unions x y1) x y1 G4 ([r, ql] ++ av) f F v G4 := by
      rw [hy1]
      obtain ⟨l3, r0⟩ := k4.r
      refine ⟨k4.tb, HsG.chg k4.hs (fun b y h _ => h) ⟨l3, r0.un, r0.ms, fun z mz => ?_⟩ (fun i m h => h), k4.bg, k4.hd, fun _ _ => rfl, Sol.lst er4 (Sol.lst e4 (k4.sz.eqv k4.ez)), fun a ma => ?_, k4.n1, fun a ma z => ?_⟩
      · rcases List.mem_cons.mp mz with rfl | mz
        · exact q1
        rcases List.mem_cons.mp mz with rfl | mz
        · exact q2
        · rw [List.mem_singleton.mp mz]
          exact q3
      · rcases List.mem_append.mp ma with ma | ma
        · exact k4.dj a (memL ma)
        rcases List.mem_cons.mp ma with rfl | ma
        · exact nrF
        rcases List.mem_cons.mp ma with rfl | ma
        · exact nqF
        · exact k4.dj a (memR ma)
      · rcases List.mem_cons.mp z with rfl | z
        · exact nrO (memL ma)
        rcases List.mem_cons.mp z with rfl | z
        · exact nqO (memL ma)
        · exact k4.nav a ma z
    have ek4 : Ek H G4 := ek3.trans (ek_kp (cs := []) (kp_same s37) mu_nil)
    have hWq : (t1, Un.Qn.same an bn) ∈ y1.qs ∧ (t2, Un.Qn.size an) ∈ y1.qs ∧ (t3, Un.Qn.groups) ∈ y1.qs := by
      rw [hy1]
      show _ ∈ [(t1, Un.Qn.same an bn), (t2, Un.Qn.size an), (t3, Un.Qn.groups)] ∧ _ ∈ [(t1, Un.Qn.same an bn), (t2, Un.Qn.size an), (t3, Un.Qn.groups)] ∧ _ ∈ [(t1, Un.Qn.same an bn), (t2, Un.Qn.size an), (t3, Un.Qn.groups)]
      exact ⟨List.mem_cons_self, List.mem_cons_of_mem _ List.mem_cons_self, List.mem_cons_of_mem _ (List.mem_cons_of_mem _ List.mem_cons_self)⟩
    have hpa : y1.pa = y.pa ∧ y1.pr = y.pr ∧ y1.n = y.n := by
      rw [hy1]
      exact ⟨rfl, rfl, rfl⟩
    clear k3 e1 e2 e3 q1 q2 q3 s4 s5 s6 s7 n1 n2 n3 n4 er3
    refine for_it (walk_list (K := K) (a := ql) (xs := [.ref t1, .ref t2, .ref t3])) (fun i σ H' => ∃ (y7 : Option V) (F' : List Addr) (as : List V), σ = [some (.ref f.p), some (.ref f.t), some (.ref f.hl), some (.int (x.W : Int)), some (.ref r), some (.int (an : Int)), some (.int (bn : Int)), y7, none, none, none] ∧ K1 T (RF T.C_Unions x y1) x y1 G4 ([r, ql] ++ av) f F' { v with tr := v.tr ++ as.map Ca.ask } H' ∧ as.length = i ∧ Ek G4 H')
      ⟨_, F, [], rfl, by rw [List.map_nil, List.append_nil]; exact k5, rfl, fun _ _ e => e⟩ (fun i σ H' _ z => by
        obtain ⟨_, F', as, _, k6, _⟩ := z
        exact sqlOf ((k6.ez ql (memB memA)).trans e4)) ?_ ?_
    · rintro i z σ H5' H5 hi ⟨y7, F', as, rfl, k6, has, ek5⟩ ⟨rfl, hx⟩
      obtain ⟨zq, mq, rfl⟩ : ∃ zq, zq ∈ y1.qs ∧ z = V.ref zq.1 := by
        match i, hi, hx with
        | 0, _, hx => exact ⟨_, hWq.1, (Option.some.inj hx).symm⟩
        | 1, _, hx => exact ⟨_, hWq.2.1, (Option.some.inj hx).symm⟩
        | 2, _, hx => exact ⟨_, hWq.2.2, (Option.some.inj hx).symm⟩
        | i + 3, hi, _ => exact absurd hi (by show ¬ i + 3 < 3; omega)
      have hi3 : i < 3 := hi
      refine pGN ?_
      simp only [List.set_cons_succ, List.set_cons_zero]
      obtain ⟨dx, hd, rd, eo⟩ := k6.obj
      have hasl : (v.tr ++ as.map Ca.ask).length < 400000 := by
        rw [List.length_append, List.length_map]
        omega
      refine pIf (pTest (pOp ⟨_, rfl, f.t, dx, _, rfl, eo, rfl, _, rfl, ?_⟩))
      dsimp only [tNil, List.map, List.cons_append, List.nil_append]
      refine K1.ask k6 (by omega) ⟨zq, mq, rfl⟩ hasl fun u H6 F6 ek6 k7 an7 => ?_
      obtain ⟨z', mz', ez', eu⟩ := an7
      have r7 := k7.r.2
      have ezq : zq.1 = z'.1 := V.ref.inj ez'
      have eqn : z'.2 = zq.2 := by
        have h1 := r7.qn z' mz'
        have h2 := r7.qn zq mq
        rw [ezq, h1] at h2
        exact qn_inj (HO.tup.inj (Option.some.inj h2))
      rw [eqn] at eu
      have hms : ∀ j ∈ v.M, j < y1.n := fun j mj => by
        have := (k7.hs.gv j mj).2
        exact this.2
      have hps : Un.PsAt H6 r (v.M.map y1.pa) (v.M.map y1.pr) := by
        refine ⟨?_, by rw [List.length_map, List.length_map], fun j t p a1 a2 => ?_⟩
        · rw [List.map_map, hpa.1]
          exact (k7.ez r memA).trans er4
        · rw [List.getElem?_map] at a1 a2
          obtain ⟨i1, hi1, rfl⟩ := Option.map_eq_some_iff.mp a1
          rw [hi1] at a2
          cases a2
          exact (r7.ms i1 (hms i1 (List.mem_of_getElem? hi1))).1
      have hw1 : Un.InW x.W (v.M.map y1.pr) := fun p mp => by
        obtain ⟨j, mj, rfl⟩ := List.mem_map.mp mp
        exact (r7.ms j (hms j mj)).2
      have hu : u = zq.2.ans x.W (v.M.map y1.pr) := by
        rw [eu]
        have hpm : (stC [] (v.tr ++ as.map Ca.ask)).Perm v.M := k6.hs.pm
        exact Un.ans_mem (k6.r.2.un.w) hw1 (fun p => (hpm.map y1.pr).mem_iff) (hqw zq mq)
      refine ⟨_, rfl, _, rfl, _, rfl, r, zq.1, _, _, x.W, zq.2, rfl, hps, by rw [List.length_map]; omega, hw1, hW0, by omega, r7.qn zq mq, hqw zq mq, fun H7 s7 => ?_⟩
      rw [hu]
      obtain ⟨d, hd1, hd2⟩ := ans_dp (K := K) (H := H7) (W := x.W) (ps := v.M.map y1.pr) (q := zq.2)
      refine ⟨d, d, hd1, hd1, hd2, hd2, _, rfl, ifF (eq_sh hd2) (pNx ?_)⟩
      refine ⟨_, F6, as ++ [.ref zq.1], rfl, ?_, by rw [List.length_append, has]; rfl, ek5.trans (ek6.trans (ek_kp (cs := []) (kp_same s7) mu_nil))⟩
      rw [List.map_append, ← List.append_assoc]
      exact k7.same kitF s7
    · rintro σ H5 ⟨y7, F', as, rfl, k6, has, ek5⟩
      obtain ⟨dx, hd, rd, eo⟩ := k6.obj
      dsimp only []
      refine ⟨_, rfl, f.t, dx, _, rfl, eo, rfl, ?_⟩
      dsimp only [tNil, List.map, List.cons_append, List.nil_append]
      refine K1.stk k6 kitF fun rs nrs k7 => ?_
      have s8 := same_newF (o := .lst ((stC [] (v.tr ++ as.map Ca.ask)).map nV)) (Fr.mk nrs)
      have ers : upd H5 rs (.lst ((stC [] (v.tr ++ as.map Ca.ask)).map nV)) rs = some (.lst (((stC [] (v.tr ++ as.map Ca.ask)).map fun i : Nat => (i : Int)).map V.int)) := by
        rw [List.map_map]
        exact upd_same
      have k7 : K1 T (RF T.C_Unions x y1) x y1 G4 ([r, ql] ++ av) f F' { v with tr := v.tr ++ as.map Ca.ask } (upd H5 rs (.lst ((stC [] (v.tr ++ as.map Ca.ask)).map nV))) := k7
      show rSortedI K _ (upd H5 rs (.lst ((stC [] (v.tr ++ as.map Ca.ask)).map nV))) _
      generalize upd H5 rs (.lst ((stC [] (v.tr ++ as.map Ca.ask)).map nV)) = H6 at s8 ers k7 ⊢
      refine ⟨rs, _, rfl, sqlOf ers, fun zs1 a1 p1 w1 na1 => ?_⟩
      have s9 := same_newF (o := .lst (zs1.map V.int)) (Fr.mk na1)
      have ea1 : upd H6 a1 (.lst (zs1.map V.int)) a1 = some (.lst (zs1.map V.int)) := upd_same
      have k8 := k7.same kitF s9
      generalize upd H6 a1 (.lst (zs1.map V.int)) = H7 at s9 ea1 k8 ⊢
      obtain ⟨xs8, exs8, tls8⟩ := k8.hd
      dsimp only [tCB, tCons, tNil]
      refine lc_held (K := K) (g := fun i => V.int (i : Int)) exs8 tls8 (by show v.L.length ≤ 1000; rw [hLM]; omega) (fun i H1 Q1 hq => ⟨_, rfl, hq⟩) fun r2 H8 fr2 s10 er2 => ?_
      have er2 : H8 r2 = some (.lst (v.L.map fun i : Nat => V.int (i : Int))) := er2
      rw [hLM] at er2
      have er2' : H8 r2 = some (.lst ((v.M.map fun i : Nat => (i : Int)).map V.int)) := by
        rw [List.map_map]
        exact er2
      refine ⟨r2, _, rfl, sqlOf er2', fun zs2 a2 p2 w2 na2 => ?_⟩
      have s11 := same_newF (o := .lst (zs2.map V.int)) (Fr.mk na2)
      have hpm : (stC [] (v.tr ++ as.map Ca.ask)).Perm v.M := k6.hs.pm
      have hz : zs1 = zs2 := srt_eq (p1.trans ((hpm.map fun i : Nat => (i : Int)).trans p2.symm)) w1 w2
      subst hz
      refine ⟨_, _, .lst (sqlOf ((s10.trans s11) _ _ ea1)) (dp_ints zs1), .lst (sqlOf upd_same) (dp_ints zs1), sh_ints zs1, sh_ints zs1, ?_⟩
      rw [SeqAt.eqv_refl _ (SeqAt.canLay_of_shaped (sh_ints zs1))]
      have k9 := k8.same kitF (s10.trans s11)
      refine q _ F' as has (ek4.trans (ek5.trans (ek_kp (cs := []) (kp_same (s8.trans (s9.trans (s10.trans s11)))) mu_nil))) ?_
      rw [hy1] at k9
      obtain ⟨l3, r0⟩ := k9.r
      refine ⟨k9.tb, HsG.chg k9.hs (fun b y h _ => h) ⟨l3, r0.un, r0.ms, fun z mz => ?_⟩ (fun i m h => h), k9.bg, k9.hd, fun a ma => (k9.ez a (memR ma)).trans (k4.ez a ma), k4.sz, fun a ma => ?_, k9.n1, k4.nav⟩
      · rw [hqs] at mz
        cases mz
      · rcases List.mem_append.mp ma with ma | ma
        · exact k9.dj a (memL ma)
        · exact k9.dj a (memR (memR ma))
end
end Ob

set_option Elab.async false
set_option linter.all false
set_option maxRecDepth 100000
set_option maxHeartbeats 1000000
namespace Ob
open PySem PySem.Spec PyProof.Rows L2
open LamX (Tabs TabB TabS ExtN)

set_option hygiene false in
local macro_rules
  | `(tactic| kp_flats) => `(tactic| first
    | assumption
    | exact upd_same
    | (apply atNew; assumption; kp_flats)
    | (apply atNe; (next => kbo_bools); kp_flats)
    | (apply atSame; assumption; kp_flats)
    | (apply atKp; assumption; (next => kaf_pre); kp_flats))
set_option hygiene false in
local macro_rules
  | `(tactic| kaf_pre) => `(tactic| first
    | assumption
    | exact not_nil
    | (apply not_cons; (next => kbo_bools); kaf_pre)
    | (apply not_app; (next => kaf_pre); kaf_pre))
set_option hygiene false in
local macro_rules
  | `(tactic| kbo_bools) => `(tactic| first
    | assumption
    | (apply Ne.symm; assumption)
    | (apply neN; assumption; kp_flats)
    | (apply neN'; assumption; kp_flats))
set_option hygiene false in
local macro_rules
  | `(tactic| o_reads) => `(tactic| first
    | with_reducible rfl
    | assumption
    | rfl
    | kp_flats
    | (show SqL _ _ _ _; first | assumption | (apply sqlOf; kp_flats) | (apply sqlSame; assumption; o_reads))
    | (show SqT _ _ _ _; first | assumption | (apply sqtOf; kp_flats) | (apply sqtAll; assumption) | (apply sqtSame; assumption; o_reads))
    | (show Cls _ _; first | exact T.cl_Calls | exact T.cl_Outer | exact T.cl_Ranked | exact T.cl_Unions)
    | (show NoAttr _ _ _; first | exact T.n_Calls_entries | exact T.n_Calls_running | exact T.n_Outer_calls | exact T.n_Outer_push_call | exact T.n_Outer_pop_call | exact T.n_Outer_ask_call | exact T.n_Outer_order | exact T.n_Outer_broken | exact T.n_Ranked_outer | exact T.n_Ranked_given | exact T.n_Ranked_held | exact T.n_Ranked_ranks | exact T.n_Ranked_removals | exact T.n_Unions_groups | exact T.n_Unions_parents | exact T.n_Unions_counts | exact T.n_Unions_moved)
    | (apply Or.inl; o_reads)
    | (apply Or.inr; o_reads)
    | (apply And.intro; (next => o_reads); o_reads)
    | (apply Exists.intro; o_reads)
    | exact Nat.le_of_ble_eq_true rfl
    | exact Nat.succ_ne_zero _
    | (show Fr _ _; kba_ints)
    | (show Same _ _; kd_subs)
    | (show Kp _ _ _; kxs_still)
    | (show (_ : Nat) ≤ _; simp only [List.length_append, List.length_map, List.length_cons, List.length_nil, List.length_take, List.length_drop, List.length_replicate, List.length_range, sizeLine_eq]; omega)
    | (show _ = none; apply Fr.h; kba_ints)
    | (show Bag _ _; first | assumption | (apply bag_putF; assumption; o_reads) | (apply bag_neF; (next => kbo_bools); o_reads) | (apply bag_kpR; assumption; (next => kaf_pre); o_reads))
    | omega
    | decide)
local macro_rules
  | `(tactic| o_readsAll) => `(tactic| repeat (first
    | (refine fun (pNew : Addr) (nNew : _ = none) => ?_; replace nNew := Fr.mk nNew)
    | (refine fun (xNew dNew : Addr) (nNew : _ = none) (mNew : _ = none) (eNew : dNew ≠ xNew) => ?_; replace nNew := Fr.mk nNew; replace mNew := Fr.mk mNew)
    | (apply And.intro; next => o_reads)
    | apply Exists.intro (α := V)
    | apply Exists.intro (α := Addr)
    | apply Exists.intro (α := Int)
    | apply Exists.intro (α := Bool)
    | apply Exists.intro (α := List V)
    | apply Exists.intro (α := List Nat)
    | apply Exists.intro (α := List (Str × V))
    | apply Exists.intro (α := List _)
    | apply Exists.intro (α := Str)
    | apply Exists.intro (α := HO)
    | apply Exists.intro (α := Sp)
    | apply Exists.intro (α := VK)))
set_option hygiene false in
local macro_rules
  | `(tactic| kba_ints) => `(tactic| first
    | assumption
    | (apply frUp; (first | assumption | (apply Ne.symm; assumption)); kba_ints)
    | (apply noneOf; assumption; intro oF eF; apply Exists.intro; kp_flats)
    | (apply frUp; (next => kbo_bools); kba_ints))
set_option hygiene false in
local macro_rules
  | `(tactic| kxs_still) => `(tactic| first
    | assumption
    | exact kp_refl _ _
    | (apply kp_newF; assumption; kxs_still)
    | (apply kp_new; assumption; kxs_still)
    | (apply kp_up; (next => o_fieldsN); kxs_still)
    | (apply kp_new; (next => kba_ints); kxs_still)
    | (apply kp_sameR; assumption; kxs_still)
    | (apply kp_transR; assumption; kxs_still)
    | (apply kp_freshR; assumption; (next => kaf_suf); kxs_still))
set_option hygiene false in
local macro_rules
  | `(tactic| kaf_suf) => `(tactic| first
    | assumption
    | exact subNil
    | (apply subCons; (first | (apply Or.inl; o_fieldsN) | (apply Or.inr; kba_ints)); kaf_suf)
    | (apply subApp; (next => kaf_suf); kaf_suf))
set_option hygiene false in
local macro_rules
  | `(tactic| o_fieldsN) => `(tactic| first
    | assumption
    | exact memA
    | (apply memB; o_fieldsN)
    | (apply memL; o_fieldsN)
    | (apply memR; o_fieldsN))
set_option hygiene false in
local macro_rules
  | `(tactic| kd_subs) => `(tactic| first
    | assumption
    | exact Same.refl _
    | (apply same_putF; assumption; kd_subs)
    | (apply same_putG; assumption; kd_subs)
    | (apply same_putF; (next => kba_ints); kd_subs)
    | (apply same_transR; assumption; kd_subs))

set_option pp.maxSteps 900
open NdefX (TabsN)
open Inf (Clo LClo cut mend cellsOf)
/-- in a heap where the law's cell is not told: the lambdas stand -/
structure C3 (x : LX) (H : Hp) : Prop where
  p : H x.fp = some (Inf.LamO x.fp (LP x.cp' x.cp)) ∧ H x.cp = some (LamX.CodeO x.cp qN)
  o : H x.fo = some (Inf.LamO x.fo (LO x.co' x.co)) ∧ H x.co = some (LamX.CodeO x.co qN)
  a : H x.fa = some (Inf.LamO x.fa (LA x.ca' x.ca)) ∧ H x.ca = some (LamX.CodeO x.ca qN)
def RC (C : Addr) (x : LX) (y : PX) (tr : List Ca) (H : Hp) : Prop := C3 x H ∧ R0 C x y tr H
theorem kitC {C : Addr} {x : LX} {y : PX} : RKit x (RC C x y) := ⟨fun h k mu n => ⟨⟨⟨kp_ext k mu h.1.p.1, kp_ext k mu h.1.p.2⟩, ⟨kp_ext k mu h.1.o.1, kp_ext k mu h.1.o.2⟩, kp_ext k mu h.1.a.1, kp_ext k mu h.1.a.2⟩, h.2.kp k mu n⟩, fun h => h.2.sol⟩
theorem R0.cv {C : Addr} {x : LX} {y : PX} {tr : List Ca} {H H1 : Hp} (h : R0 C x y tr H) (cv : ∀ b o, H b = some o → (∀ φ, o ≠ .ext φ) → H1 b = some o) : R0 C x y tr H1 := ⟨un_cv h.un cv, fun i hi => ⟨cv _ _ (h.ms i hi).1 (fun _ z => nomatch z), (h.ms i hi).2⟩, fun z mz => cv _ _ (h.qn z mz) (fun _ z => nomatch z)⟩
theorem tabs_cut {T : List NdefX.NTab} {cells : List (Str × Addr)} {names : List (Str × NameKind)} {N : List Str} {σ : L2.St} {H HT H3 : Hp} {cT : List Addr} (t : Inf.Tel cells names N σ H cT HT) (k : ∀ b, b ∈ cT → H3 b = HT b) (tb : TabsN T H3) : TabsN T (cut cT H3) := fun p hp => by
  obtain ⟨ps, h1, h2, h3⟩ := tb p hp
  refine ⟨ps, ?_, h2, fun pos cv hc => ?_⟩
  · rw [Inf.cut_out fun m => ?_]
    · exact h1
    · obtain ⟨φ, y⟩ := t.ext _ m
      rw [k _ m, y] at h1
      cases h1
  · obtain ⟨c, e1, e2⟩ := h3 pos cv hc
    refine ⟨c, e1, ?_⟩
    rw [Inf.cut_out fun m => ?_]
    · exact e2
    · exact t.nc c m _ ((k c m).symm.trans e2)
section
variable {P : Program} {w : World} {K : PySem.W.Frag} {mg : Str → Option Value} {base : Heap} {T : Txt K mg}
variable {R : List Ca → Hp → Prop} {x : LX} {y : PX} {Hz H H1 H8 : Hp} {av : List Addr} {f : FX} {F F' : List Addr} {v v' : VS} {cT : List Addr}
theorem heldCv {xs : List V} {ls : List (List V)} (h : TupL H xs ls) (cv : ∀ b o, H b = some o → (∀ φ, o ≠ .ext φ) → H1 b = some o) : TupL H1 xs ls := ⟨h.len, fun q z l a b => by
  obtain ⟨p, e1, e2⟩ := h.at_ q z l a b
  exact ⟨p, e1, cv _ _ e2 (fun _ z => nomatch z)⟩⟩
/-- the law's cell is told -/
theorem K1.tell (h : K1 T (RC T.C_Unions x y) x y Hz av f F v H) (s : Same H H1) (l : L3 x H1) : K1 T (RF T.C_Unions x y) x y Hz av f F v H1 := by
  obtain ⟨xs, e, tl⟩ := h.hd
  exact ⟨tabs_same h.tb s, HsG.chg h.hs (fun b o e _ => s _ _ e) ⟨l, h.r.2.cv fun b o e _ => s _ _ e⟩ (fun _ _ z => z), bag_kpR (kp_same (cs := []) s) not_nil h.bg, ⟨xs, s _ _ e, tl.kp (cs := []) (kp_same s) mu_nil⟩, h.ez.kp h.sz (kp_same (cs := []) s) (fun _ _ => not_nil), h.sz, h.dj, h.n1, h.nav⟩
/-- and it is cut again -/
theorem K1.back (h : K1 T (RF T.C_Unions x y) x y Hz av f F v H) (g : C3 x H8) (no : ∀ a ∈ cT, H8 a = none) (cv : ∀ b o, H b = some o → (∀ φ, o ≠ .ext φ) → cut cT H b = some o) (tb : TabsN (TT T) (cut cT H)) (ez : Eqv av Hz (cut cT H)) : K1 T (RC T.C_Unions x y) x y Hz av f F v (cut cT H) := by
  have out : ∀ {a : Addr} {o : HO}, H8 a = some o → a ∉ cT := fun e m => by
    rw [no _ m] at e
    cases e
  obtain ⟨l3, r0⟩ := h.r
  have c3 : C3 x (Inf.cut cT H) := ⟨⟨(Inf.cut_out (out g.p.1)).trans l3.p.fn, (Inf.cut_out (out g.p.2)).trans l3.p.code⟩, ⟨(Inf.cut_out (out g.o.1)).trans l3.o.fn, (Inf.cut_out (out g.o.2)).trans l3.o.code⟩, (Inf.cut_out (out g.a.1)).trans l3.a.fn, (Inf.cut_out (out g.a.2)).trans l3.a.code⟩
  obtain ⟨xs, e, tl⟩ := h.hd
  have bg : Bag (Inf.cut cT H) f.p := by
    obtain ⟨g, m, c, e, z⟩ := h.bg
    exact ⟨g, m, c, cv _ _ e (fun _ z => nomatch z), z⟩
  exact ⟨tb, HsG.chg h.hs cv ⟨c3, r0.cv cv⟩ (fun _ _ z => z), bg, ⟨xs, cv _ _ e (fun _ z => nomatch z), heldCv tl cv⟩, ez, h.sz, h.dj, h.n1, h.nav⟩
theorem mu_tabs {H : Hp} (t : TabsN (TT T) H) {q : Addr} (hq : ∃ tb ∈ TT T, tb.1 = q) : Mu H [q] := by
  obtain ⟨tb, hm, rfl⟩ := hq
  obtain ⟨ps, h, _⟩ := t _ hm
  exact mu_cons h (fun _ z => nomatch z) (fun _ z => nomatch z) mu_nil
theorem K1.rd {q : Addr} (h : K1 T R x y Hz av f F v H) (kit : RKit x R) (k : Kp [q] H H1) (t : TabsN (TT T) H1) (hq : ∃ tb ∈ TT T, tb.1 = q) : K1 T R x y Hz av f F v H1 := by
  have hq' := hq
  obtain ⟨tb, hm, rfl⟩ := hq'
  exact h.kp kit k (mu_tabs h.tb hq) t (fun a ma z => (h.solF kit).tab h.tb _ hm (by rw [← List.mem_singleton.mp z]; exact ma)) fun a ma z => h.sol.tab h.tb _ hm (by rw [← List.mem_singleton.mp z]; exact ma)
/-- the law's own list is written -/
theorem K1.setL {ys : List V} {L : List Nat} (h : K1 T R x y Hz av f F v H) (kit : RKit x R) (tl : TupL H ys (heldL y { v with L := L })) : K1 T R x y Hz av f F { v with L := L } (upd H f.hl (.lst ys)) := by
  obtain ⟨xs, e, _⟩ := h.hd
  have k : Kp [f.hl] H (upd H f.hl (.lst ys)) := kp_up memA (kp_refl _ _)
  have m : Mu H [f.hl] := mu_lst e mu_nil
  have n1 : ∀ a ∈ F, a ∉ [f.hl] := fun a ma z => h.dj _ (memB memA) (by rw [← List.mem_singleton.mp z]; exact ma)
  exact ⟨tabsN_kpU h.tb k m fun q hq => not_cons (tab_ne h.tb hq e (fun _ z => nomatch z)).symm not_nil, HsG.kp h.hs k m (kit.rk h.r k m fun a ma => n1 a (h.inuv a ma)) n1, bag_kpR k (not_cons h.n1 not_nil) h.bg, ⟨ys, upd_same, tl.kp k m⟩, h.ez.kp h.sz k fun a ma => not_cons (fun z => h.nav _ (memB memA) (by rw [← z]; exact ma)) not_nil, h.sz, h.dj, h.n1, h.nav⟩
/-- one more pair is known -/
def PX.more (y : PX) (q : Addr) (p : Nat × Nat) : PX := { y with pa := fun i => if i = y.n then q else y.pa i, pr := fun i => if i = y.n then p else y.pr i, n := y.n + 1 }
theorem K1.more {q : Addr} {p : Nat × Nat} (h : K1 T (RC T.C_Unions x y) x y Hz av f F v H) (hq : H q = some (.tup (tupP p))) (h1 : p.1 < x.W) (h2 : p.2 < x.W) (hM : ∀ i ∈ v.M, i < y.n) (hL : ∀ i ∈ v.L, i < y.n) (hS : ∀ i ∈ stC [] v.tr, i < y.n) : K1 T (RC T.C_Unions x (y.more q p)) x (y.more q p) Hz av f F v H := by
  have pa_old : ∀ i, i < y.n → (y.more q p).pa i = y.pa i := fun i hi => if_neg (Nat.ne_of_lt hi)
  have pr_old : ∀ i, i < y.n → (y.more q p).pr i = y.pr i := fun i hi => if_neg (Nat.ne_of_lt hi)
  have eh : heldL (y.more q p) v = heldL y v := List.map_congr_left fun i mi => by rw [pa_old i (hL i mi)]
  have ep : psOf (y.more q p) v.tr = psOf y v.tr := List.map_congr_left fun i mi => pr_old i (hS i mi)
  obtain ⟨c3, r0⟩ := h.r
  have r0' : R0 T.C_Unions x (y.more q p) v.tr H := by
    refine ⟨by rw [ep]; exact r0.un, fun i hi => ?_, r0.qn⟩
    by_cases c : i = y.n
    · rw [show (y.more q p).pa i = q from if_pos c, show (y.more q p).pr i = p from if_pos c]
      exact ⟨hq, h1, h2⟩
    · have hi : i < y.n + 1 := hi
      rw [pa_old i (by omega), pr_old i (by omega)]
      exact r0.ms i (by omega)
  have hs : HsX T (RC T.C_Unions x (y.more q p)) x (y.more q p) H F f v := by
    obtain ⟨⟨dx, hd, rd, od, e0, e1, e2, e3, n1, n2, o1, o2, o3, o4, r, b1, b2, b3⟩, g1, g2, g3, g4, g5⟩ := h.hs
    refine ⟨⟨dx, hd, rd, od, e0, e1, ?_, e3, n1, n2, o1, o2, o3, o4, ⟨c3, r0'⟩, b1, b2, b3⟩, g1, g2, fun i mi => ⟨(g3 i mi).1, rfl, Nat.lt_succ_of_lt (hM i mi)⟩, g4, g5⟩
    rw [e2]
    refine congrArg (fun z => some (HO.dK z)) (dM_congr fun i mi => ?_)
    show V.ref (y.pa i) = V.ref ((y.more q p).pa i)
    rw [pa_old i (hM i mi)]
  obtain ⟨xs, e, tl⟩ := h.hd
  exact ⟨h.tb, hs, h.bg, ⟨xs, e, by rw [eh]; exact tl⟩, h.ez, h.sz, h.dj, h.n1, h.nav⟩
def VS.add (v : VS) (m : V) (r : Int) : VS := { v with tr := v.tr ++ [.push v.given m], given := v.given + 1, M := v.M ++ [v.given], rk := fun i => if i = v.given then r else v.rk i }
def VS.rmv (v : VS) (y : PX) (j : Nat) : VS := { v with tr := v.tr ++ (planR v.rk v.rem v.M (stC [] v.tr)).map (caOf (mbP y)), M := v.M.filter fun i => decide (i ≠ j), rem := remN v.rem (v.M.filter fun i => decide (i ≠ j)) }
theorem K1.step {v' : VS} (h : K1 T (RF T.C_Unions x y) x y Hz av f F v H) (k : Kp (T.p_precedence :: F) H H1) (t : TabsN (TT T) H1) (g : HsX T (RF T.C_Unions x y) x y H1 F' f v') (eh : heldL y v' = heldL y v) (dj : ∀ a ∈ [f.p, f.hl] ++ av, a ∉ F') (e : Eqv ([f.p, f.hl] ++ av) H H1) : K1 T (RF T.C_Unions x y) x y Hz av f F' v' H1 := by
  have m : Mu H (T.p_precedence :: F) := mu_app (mu_tabs h.tb ⟨_, hm_precedence T, rfl⟩) (h.solF kitF).1
  have no : ∀ a ∈ [f.p, f.hl] ++ av, a ∉ T.p_precedence :: F := fun a ma z => by
    rcases List.mem_cons.mp z with z | z
    · exact h.sol.tab h.tb _ (hm_precedence T) (by rw [← z]; exact ma)
    · exact h.dj a ma z
  obtain ⟨xs, e2, tl⟩ := h.hd
  exact ⟨t, g, bag_kpR k (no _ memA) h.bg, ⟨xs, k.at_ _ _ e2 (no _ (memB memA)), by rw [eh]; exact tl.kp k m⟩, fun a ma => (e a (memR ma)).trans (h.ez a ma), h.sz, dj, h.n1, h.nav⟩
theorem K1.add {r : Int} {q0 : Addr} {Q : VK} (h : K1 T (RF T.C_Unions x y) x y Hz av f F v H) (hq0 : y.pa v.given = q0) (hW : x.W ≤ 10000) (hn : v.given < y.n) (hL : ∀ i ∈ v.L, i < v.given) (htl : v.tr.length < 400000) (hML : v.M.length < 400000) (q : ∀ H' F', Kp (T.p_precedence :: F) H H' → K1 T (RF T.C_Unions x y) x y Hz av f F' (v.add (.ref q0) r) H' → Q (.int (v.given : Int)) H') :
    spRAdd P w K mg base T.C_Ranked T.C_Outer T.C_Calls 3 [.ref f.t, .ref q0, .int r] H Q E0 := by
  subst hq0
  refine use_add T (osF (P := P) (w := w) (base := base) T hW) h.hs h.sol h.dj ⟨rfl, hn⟩ htl hML fun H' F' kk g dj e => ?_
  have sF := h.solF kitF
  have t' : TabsN (TT T) H' := tabsN_kpU h.tb kk sF.1 fun p hp => sF.tab h.tb p hp
  have em : (fun i => if i = v.given then V.ref (y.pa v.given) else mbP y i) = mbP y := funext fun i => by
    by_cases c : i = v.given
    · rw [if_pos c, c]
      rfl
    · rw [if_neg c]
  rw [em] at g
  refine q H' F' (kp_more kk fun a m => memB m) (h.step (kp_more kk fun a m => memB m) t' (v' := v.add (.ref (y.pa v.given)) r) g (List.map_congr_left fun i mi => ?_) dj e)
  show [V.int (if i = v.given then r else v.rk i), _, _] = [V.int (v.rk i), _, _]
  rw [if_neg (Nat.ne_of_lt (hL i mi))]
theorem K1.rmv {Q : VK} (h : K1 T (RF T.C_Unions x y) x y Hz av f F v H) (hW : x.W ≤ 10000) (hne : v.M ≠ []) (htl : v.tr.length + 2 * v.M.length < 400000) (q : ∀ j N H' F', precN v.rk v.M = j :: N → Kp (T.p_precedence :: F) H H' → K1 T (RF T.C_Unions x y) x y Hz av f F' (v.rmv y j) H' → Q (.int (j : Int)) H') :
    spRRem P w K mg base T 3 [.ref f.t] H Q E0 := by
  refine use_rem T (osF (P := P) (w := w) (base := base) T hW) h.hs h.r.2.sol h.sol h.dj h.tb hne htl fun j N H' F' ep kk t' g dj e => ?_
  exact q j N H' F' ep kk (h.step kk t' (v' := v.rmv y j) g rfl dj e)
theorem K1.fst {Q : VK} (h : K1 T R x y Hz av f F v H) (kit : RKit x R) (hne : v.M ≠ []) (hML : v.M.length < 400000) (q : ∀ j N H', precN v.rk v.M = j :: N → Kp [T.p_precedence] H H' → K1 T R x y Hz av f F v H' → Q (.int (j : Int)) H') : spRFst T [.ref f.t] H Q E0 :=
  ⟨f.t, f.o, f.c, f.l, _, _, _, _, _, _, _, _, _, _, _, _, rfl, HsG.rkat h.hs, hne, hML, h.tb, fun j N H' ep k t => q j N H' ep k (h.rd kit k t ⟨_, hm_precedence T, rfl⟩)⟩
end
end Ob

set_option Elab.async false
set_option linter.all false
set_option maxRecDepth 100000
set_option maxHeartbeats 1000000
namespace Ob
open PySem PySem.Spec PyProof.Rows L2
open LamX (Tabs TabB TabS ExtN)

set_option hygiene false in
local macro_rules
  | `(tactic| kp_flats) => `(tactic| first
    | assumption
    | exact upd_same
    | (apply atNew; assumption; kp_flats)
    | (apply atNe; (next => kbo_bools); kp_flats)
    | (apply atSame; assumption; kp_flats)
    | (apply atKp; assumption; (next => kaf_pre); kp_flats))
set_option hygiene false in
local macro_rules
  | `(tactic| kaf_pre) => `(tactic| first
    | assumption
    | exact not_nil
    | (apply not_cons; (next => kbo_bools); kaf_pre)
    | (apply not_app; (next => kaf_pre); kaf_pre))
set_option hygiene false in
local macro_rules
  | `(tactic| kbo_bools) => `(tactic| first
    | assumption
    | (apply Ne.symm; assumption)
    | (apply neN; assumption; kp_flats)
    | (apply neN'; assumption; kp_flats))
set_option hygiene false in
local macro_rules
  | `(tactic| o_reads) => `(tactic| first
    | with_reducible rfl
    | assumption
    | rfl
    | kp_flats
    | (show SqL _ _ _ _; first | assumption | (apply sqlOf; kp_flats) | (apply sqlSame; assumption; o_reads))
    | (show SqT _ _ _ _; first | assumption | (apply sqtOf; kp_flats) | (apply sqtAll; assumption) | (apply sqtSame; assumption; o_reads))
    | (show Cls _ _; first | exact T.cl_Calls | exact T.cl_Outer | exact T.cl_Ranked | exact T.cl_Unions)
    | (show NoAttr _ _ _; first | exact T.n_Calls_entries | exact T.n_Calls_running | exact T.n_Outer_calls | exact T.n_Outer_push_call | exact T.n_Outer_pop_call | exact T.n_Outer_ask_call | exact T.n_Outer_order | exact T.n_Outer_broken | exact T.n_Ranked_outer | exact T.n_Ranked_given | exact T.n_Ranked_held | exact T.n_Ranked_ranks | exact T.n_Ranked_removals | exact T.n_Unions_groups | exact T.n_Unions_parents | exact T.n_Unions_counts | exact T.n_Unions_moved)
    | (apply Or.inl; o_reads)
    | (apply Or.inr; o_reads)
    | (apply And.intro; (next => o_reads); o_reads)
    | (apply Exists.intro; o_reads)
    | exact Nat.le_of_ble_eq_true rfl
    | exact Nat.succ_ne_zero _
    | (show Fr _ _; kba_ints)
    | (show Same _ _; kd_subs)
    | (show Kp _ _ _; kxs_still)
    | (show (_ : Nat) ≤ _; simp only [List.length_append, List.length_map, List.length_cons, List.length_nil, List.length_take, List.length_drop, List.length_replicate, List.length_range, sizeLine_eq]; omega)
    | (show _ = none; apply Fr.h; kba_ints)
    | (show Bag _ _; first | assumption | (apply bag_putF; assumption; o_reads) | (apply bag_neF; (next => kbo_bools); o_reads) | (apply bag_kpR; assumption; (next => kaf_pre); o_reads))
    | omega
    | decide)
local macro_rules
  | `(tactic| o_readsAll) => `(tactic| repeat (first
    | (refine fun (pNew : Addr) (nNew : _ = none) => ?_; replace nNew := Fr.mk nNew)
    | (refine fun (xNew dNew : Addr) (nNew : _ = none) (mNew : _ = none) (eNew : dNew ≠ xNew) => ?_; replace nNew := Fr.mk nNew; replace mNew := Fr.mk mNew)
    | (apply And.intro; next => o_reads)
    | apply Exists.intro (α := V)
    | apply Exists.intro (α := Addr)
    | apply Exists.intro (α := Int)
    | apply Exists.intro (α := Bool)
    | apply Exists.intro (α := List V)
    | apply Exists.intro (α := List Nat)
    | apply Exists.intro (α := List (Str × V))
    | apply Exists.intro (α := List _)
    | apply Exists.intro (α := Str)
    | apply Exists.intro (α := HO)
    | apply Exists.intro (α := Sp)
    | apply Exists.intro (α := VK)))
set_option hygiene false in
local macro_rules
  | `(tactic| kba_ints) => `(tactic| first
    | assumption
    | (apply frUp; (first | assumption | (apply Ne.symm; assumption)); kba_ints)
    | (apply noneOf; assumption; intro oF eF; apply Exists.intro; kp_flats)
    | (apply frUp; (next => kbo_bools); kba_ints))
set_option hygiene false in
local macro_rules
  | `(tactic| kxs_still) => `(tactic| first
    | assumption
    | exact kp_refl _ _
    | (apply kp_newF; assumption; kxs_still)
    | (apply kp_new; assumption; kxs_still)
    | (apply kp_up; (next => o_fieldsN); kxs_still)
    | (apply kp_new; (next => kba_ints); kxs_still)
    | (apply kp_sameR; assumption; kxs_still)
    | (apply kp_transR; assumption; kxs_still)
    | (apply kp_freshR; assumption; (next => kaf_suf); kxs_still))
set_option hygiene false in
local macro_rules
  | `(tactic| kaf_suf) => `(tactic| first
    | assumption
    | exact subNil
    | (apply subCons; (first | (apply Or.inl; o_fieldsN) | (apply Or.inr; kba_ints)); kaf_suf)
    | (apply subApp; (next => kaf_suf); kaf_suf))
set_option hygiene false in
local macro_rules
  | `(tactic| o_fieldsN) => `(tactic| first
    | assumption
    | exact memA
    | (apply memB; o_fieldsN)
    | (apply memL; o_fieldsN)
    | (apply memR; o_fieldsN))
set_option hygiene false in
local macro_rules
  | `(tactic| kd_subs) => `(tactic| first
    | assumption
    | exact Same.refl _
    | (apply same_putF; assumption; kd_subs)
    | (apply same_putG; assumption; kd_subs)
    | (apply same_putF; (next => kba_ints); kd_subs)
    | (apply same_transR; assumption; kd_subs))

set_option pp.maxSteps 900
open NdefX (TabsN)
theorem cnt_plan {mb : Nat → V} {E B : List Nat} : cntC "pop" ((tickW E B).map (caOf mb)) = E.length ∧ cntC "push" ((tickW E B).map (caOf mb)) = B.length := by
  have one : ∀ (w1 : Str) (e : Ca) (l : List Ca), cntC w1 (e :: l) = (if caW e = w1 then 1 else 0) + cntC w1 l := fun w1 e l => by
    rw [show e :: l = [e] ++ l from rfl, cntC_app]
    congr 1
    show ([e].filter _).length = _
    by_cases c : caW e = w1
    · rw [if_pos c, List.filter_cons_of_pos (by simpa using c)]
      rfl
    · rw [if_neg c, List.filter_cons_of_neg (by simpa using c)]
      rfl
  have wOP : ¬ ("pop" : Str) = "push" := by decide +kernel
  have wPO : ¬ ("push" : Str) = "pop" := by decide +kernel
  have po : ∀ L : List Nat, cntC "pop" ((L.map fun i => (("pop" : Str), i)).map (caOf mb)) = L.length ∧ cntC "push" ((L.map fun i => (("pop" : Str), i)).map (caOf mb)) = 0 := fun L => by
    induction L with
    | nil => exact ⟨rfl, rfl⟩
    | cons x L ih =>
      have e : caOf mb (("pop" : Str), x) = Ca.pop x := if_neg wOP
      rw [List.map_cons, List.map_cons, e, one, one, ih.1, ih.2]
      refine ⟨?_, ?_⟩
      · rw [show caW (Ca.pop x) = "pop" from rfl, if_pos rfl, List.length_cons, Nat.add_comm]
      · rw [show caW (Ca.pop x) = "pop" from rfl, if_neg wOP]
  have pu : ∀ L : List Nat, cntC "pop" ((L.map fun i => (("push" : Str), i)).map (caOf mb)) = 0 ∧ cntC "push" ((L.map fun i => (("push" : Str), i)).map (caOf mb)) = L.length := fun L => by
    induction L with
    | nil => exact ⟨rfl, rfl⟩
    | cons x L ih =>
      have e : caOf mb (("push" : Str), x) = Ca.push x (mb x) := if_pos rfl
      rw [List.map_cons, List.map_cons, e, one, one, ih.1, ih.2]
      refine ⟨?_, ?_⟩
      · rw [show caW (Ca.push x (mb x)) = "push" from rfl, if_neg wPO]
      · rw [show caW (Ca.push x (mb x)) = "push" from rfl, if_pos rfl, List.length_cons, Nat.add_comm]
  unfold tickW
  rw [List.map_append, cntC_app, cntC_app, (po _).1, (po _).2, (pu _).1, (pu _).2, List.length_reverse]
  exact ⟨rfl, Nat.zero_add _⟩
theorem cnt_asks {as : List V} : cntC "pop" (as.map Ca.ask) = 0 ∧ cntC "push" (as.map Ca.ask) = 0 := by
  have h : ∀ w1 : Str, (("ask" : Str) ≠ w1) → cntC w1 (as.map Ca.ask) = 0 := fun w1 hw => by
    unfold cntC
    rw [List.filter_eq_nil_iff.mpr fun e m => ?_]
    · rfl
    · obtain ⟨a, _, rfl⟩ := List.mem_map.mp m
      exact fun z => hw (of_decide_eq_true z)
  exact ⟨h _ (by decide +kernel), h _ (by decide +kernel)⟩
theorem stC_asks : ∀ {as : List V} {S : List Nat}, stC S (as.map Ca.ask) = S
  | [], _ => rfl
  | _ :: as, S => stC_asks (as := as)
/-- after so many deeds: A additions, R removals -/
structure RelB (v : VS) (turn A R : Nat) : Prop where
  bd : ∃ a, Bd v.rk a v.rem v.M (stC [] v.tr) A R (cntC "pop" v.tr)
  pu : cntC "push" v.tr = cntC "pop" v.tr + v.M.length
  am : A = R + v.M.length
  gv : v.given = A
  at_ : A + R = turn
  tl : v.tr.length ≤ 200 * turn
  pm : (stC [] v.tr).Perm v.M
  srt : v.M.Pairwise (· < ·)
  lt : ∀ i ∈ v.M, i < v.given
theorem RelB.nil {v : VS} (h : v.tr = []) (h2 : v.given = 0) (h3 : v.M = []) (h4 : v.rem = 0) : RelB v 0 0 0 := by
  refine ⟨⟨fun _ => 0, ?_⟩, ?_, ?_, h2, rfl, ?_, ?_, ?_, ?_⟩
  · rw [h, h3, h4]
    exact Bd.nil
  · rw [h, h3]
    rfl
  · rw [h3]
    rfl
  · rw [h]
    exact Nat.zero_le _
  · rw [h, h3]
    exact .nil
  · rw [h3]
    exact .nil
  · rw [h3]
    exact fun _ z => nomatch z
theorem RelB.setL {v : VS} {turn A R : Nat} {L : List Nat} (h : RelB v turn A R) : RelB { v with L := L } turn A R := ⟨h.bd, h.pu, h.am, h.gv, h.at_, h.tl, h.pm, h.srt, h.lt⟩
theorem RelB.add {v : VS} {turn A R : Nat} {m : V} {r : Int} (h : RelB v turn A R) {as : List V} (ha : as.length = 3) : RelB { v.add m r with tr := (v.add m r).tr ++ as.map Ca.ask } (turn + 1) (A + 1) R := by
  obtain ⟨⟨a, bd⟩, h1, h2, h3, h4, h5, h6, h7, h8⟩ := h
  have old : ∀ i ∈ v.M, i ≠ v.given := fun i mi => Nat.ne_of_lt (h8 i mi)
  have eS : stC [] ((v.tr ++ [Ca.push v.given m]) ++ as.map Ca.ask) = stC [] v.tr ++ [v.given] := by
    rw [stC_app, stC_asks, stC_app]
    rfl
  have b2 := bd.add (rk' := fun x => if x = v.given then r else v.rk x) (a' := fun x => if x = v.given then v.rem else a x) (x := v.given) h6 (fun i mi => if_neg (old i mi)) (fun i mi => if_neg (old i mi)) (if_pos rfl)
  have c1 : cntC "pop" ((v.tr ++ [Ca.push v.given m]) ++ as.map Ca.ask) = cntC "pop" v.tr := by
    rw [cntC_app, cntC_app, cnt_asks.1]
    have : cntC "pop" [Ca.push v.given m] = 0 := by
      unfold cntC
      rw [List.filter_cons_of_neg (by show ¬ decide (("push" : Str) = "pop") = true; decide +kernel)]
      rfl
    rw [this]
    rfl
  have c2 : cntC "push" ((v.tr ++ [Ca.push v.given m]) ++ as.map Ca.ask) = cntC "push" v.tr + 1 := by
    rw [cntC_app, cntC_app, cnt_asks.2]
    have : cntC "push" [Ca.push v.given m] = 1 := by
      unfold cntC
      rw [List.filter_cons_of_pos (by show decide (("push" : Str) = "push") = true; decide +kernel)]
      rfl
    rw [this]
  refine ⟨⟨fun x => if x = v.given then v.rem else a x, ?_⟩, ?_, ?_, ?_, by omega, ?_, ?_, ?_, fun i mi => ?_⟩
  · show Bd (fun x => if x = v.given then r else v.rk x) (fun x => if x = v.given then v.rem else a x) v.rem (v.M ++ [v.given]) (stC [] ((v.tr ++ [Ca.push v.given m]) ++ as.map Ca.ask)) (A + 1) R (cntC "pop" ((v.tr ++ [Ca.push v.given m]) ++ as.map Ca.ask))
    rw [eS, c1]
    exact b2
  · show cntC "push" ((v.tr ++ [Ca.push v.given m]) ++ as.map Ca.ask) = cntC "pop" ((v.tr ++ [Ca.push v.given m]) ++ as.map Ca.ask) + (v.M ++ [v.given]).length
    rw [c1, c2, List.length_append, h1]
    rfl
  · show A + 1 = R + (v.M ++ [v.given]).length
    rw [List.length_append, h2]
    rfl
  · show v.given + 1 = A + 1
    rw [h3]
  · show ((v.tr ++ [Ca.push v.given m]) ++ as.map Ca.ask).length ≤ _
    rw [List.length_append, List.length_append, List.length_map, ha]
    show v.tr.length + 1 + 3 ≤ _
    omega
  · show (stC [] ((v.tr ++ [Ca.push v.given m]) ++ as.map Ca.ask)).Perm (v.M ++ [v.given])
    rw [eS]
    exact h6.append (List.Perm.refl _)
  · refine List.pairwise_append.mpr ⟨h7, List.pairwise_singleton _ _, fun a ha b hb => ?_⟩
    rw [List.mem_singleton.mp hb]
    exact h8 a ha
  · rcases List.mem_append.mp mi with mi | mi
    · exact Nat.lt_succ_of_lt (h8 i mi)
    · rw [List.mem_singleton.mp mi]
      exact Nat.lt_succ_self _
theorem RelB.rmv {v : VS} {y : PX} {turn A R x : Nat} {N : List Nat} (h : RelB v turn A R) (ht : turn ≤ 90) (ep : precN v.rk v.M = x :: N) {as : List V} (ha : as.length = 3) : RelB { v.rmv y x with tr := (v.rmv y x).tr ++ as.map Ca.ask } (turn + 1) A (R + 1) := by
  obtain ⟨⟨a, bd⟩, h1, h2, h3, h4, h5, h6, h7, h8⟩ := h
  have nd : v.M.Nodup := h7.imp fun {a b} z => Nat.ne_of_lt z
  have hx : x ∈ v.M := (prec_perm (rk := v.rk) (M := v.M)).mem_iff.mp (by rw [ep]; exact List.mem_cons_self)
  have hne : v.M ≠ [] := fun w => by rw [w] at hx; cases hx
  obtain ⟨po, rn, rp⟩ := plan_run (rk := v.rk) (rem := v.rem) nd h6 hne
  obtain ⟨pl1, pl2⟩ := plan_len (rk := v.rk) (rem := v.rem) nd h6 hne
  have eS : stC [] ((v.tr ++ (planR v.rk v.rem v.M (stC [] v.tr)).map (caOf (mbP y))) ++ as.map Ca.ask) = lowN (needN v.rk v.rem v.M) (stC [] v.tr) ++ backN (needN v.rk v.rem v.M) (stC [] v.tr) := by
    rw [stC_app, stC_asks, stC_app, st_run po, rn]
  have hpm := rp x (by rw [ep]; rfl)
  rw [rn] at hpm
  obtain ⟨n1, n2⟩ := cnt_plan (mb := mbP y) (E := popN (needN v.rk v.rem v.M) (stC [] v.tr)) (B := backN (needN v.rk v.rem v.M) (stC [] v.tr))
  have hl := (perm_head nd hx).length_eq
  rw [List.length_cons] at hl
  have b2 := bd.rem nd h6 ep
  have hplan : planR v.rk v.rem v.M (stC [] v.tr) = tickW (popN (needN v.rk v.rem v.M) (stC [] v.tr)) (backN (needN v.rk v.rem v.M) (stC [] v.tr)) := rfl
  have hb : (backN (needN v.rk v.rem v.M) (stC [] v.tr)).length + 1 = (popN (needN v.rk v.rem v.M) (stC [] v.tr)).length := by
    rw [hplan, tick_len] at pl1
    omega
  have c1 : cntC "pop" ((v.tr ++ (planR v.rk v.rem v.M (stC [] v.tr)).map (caOf (mbP y))) ++ as.map Ca.ask) = cntC "pop" v.tr + (popN (needN v.rk v.rem v.M) (stC [] v.tr)).length := by
    rw [cntC_app, cntC_app, cnt_asks.1, hplan, n1]
    rfl
  have c2 : cntC "push" ((v.tr ++ (planR v.rk v.rem v.M (stC [] v.tr)).map (caOf (mbP y))) ++ as.map Ca.ask) = cntC "push" v.tr + (backN (needN v.rk v.rem v.M) (stC [] v.tr)).length := by
    rw [cntC_app, cntC_app, cnt_asks.2, hplan, n2]
    rfl
  refine ⟨⟨a, ?_⟩, ?_, ?_, h3, by omega, ?_, ?_, h7.filter _, fun i mi => h8 i (List.mem_filter.mp mi).1⟩
  · show Bd v.rk a (remN v.rem (v.M.filter fun i => decide (i ≠ x))) (v.M.filter fun i => decide (i ≠ x)) (stC [] ((v.tr ++ (planR v.rk v.rem v.M (stC [] v.tr)).map (caOf (mbP y))) ++ as.map Ca.ask)) A (R + 1) (cntC "pop" ((v.tr ++ (planR v.rk v.rem v.M (stC [] v.tr)).map (caOf (mbP y))) ++ as.map Ca.ask))
    rw [eS, c1]
    exact b2
  · show cntC "push" ((v.tr ++ (planR v.rk v.rem v.M (stC [] v.tr)).map (caOf (mbP y))) ++ as.map Ca.ask) = cntC "pop" ((v.tr ++ (planR v.rk v.rem v.M (stC [] v.tr)).map (caOf (mbP y))) ++ as.map Ca.ask) + (v.M.filter fun i => decide (i ≠ x)).length
    rw [c1, c2, h1]
    omega
  · show A = R + 1 + (v.M.filter fun i => decide (i ≠ x)).length
    omega
  · show ((v.tr ++ (planR v.rk v.rem v.M (stC [] v.tr)).map (caOf (mbP y))) ++ as.map Ca.ask).length ≤ _
    rw [List.length_append, List.length_append, List.length_map, List.length_map, ha]
    omega
  · show (stC [] ((v.tr ++ (planR v.rk v.rem v.M (stC [] v.tr)).map (caOf (mbP y))) ++ as.map Ca.ask)).Perm (v.M.filter fun i => decide (i ≠ x))
    rw [eS]
    exact hpm
/-! ### the first in precedence, and taking it out of a list -/
theorem prec_first {rk : Nat → Int} {M N : List Nat} {x : Nat} (ep : precN rk M = x :: N) : x ∈ M ∧ ∀ j ∈ M, rk j < rk x ∨ (rk j = rk x ∧ x ≤ j) := by
  have pp := prec_perm (rk := rk) (M := M)
  have pw := prec_pw (rk := rk) (M := M)
  rw [ep] at pp pw
  refine ⟨pp.mem_iff.mp List.mem_cons_self, fun j mj => ?_⟩
  rcases List.mem_cons.mp (pp.mem_iff.mpr mj) with rfl | m
  · exact .inr ⟨rfl, Nat.le_refl _⟩
  · rcases (List.pairwise_cons.mp pw).1 j m with h | h
    · exact .inl h
    · exact .inr ⟨h.1.symm, h.2⟩
theorem fil_head {p : Nat → Bool} {x : Nat} : ∀ {M : List Nat}, M.Pairwise (· < ·) → x ∈ M → p x = true → (∀ j ∈ M, p j = true → x ≤ j) → ∃ l, M.filter p = x :: l
  | [], _, m, _, _ => nomatch m
  | a :: M, h, m, hp, hl => by
    obtain ⟨h1, h2⟩ := List.pairwise_cons.mp h
    by_cases c : p a = true
    · have hxa : x = a := by
        rcases List.mem_cons.mp m with e | m
        · exact e
        · have := hl a List.mem_cons_self c
          have := h1 x m
          omega
      subst hxa
      exact ⟨_, List.filter_cons_of_pos c⟩
    · rw [List.filter_cons_of_neg c]
      rcases List.mem_cons.mp m with e | m
      · rw [← e] at c
        exact absurd hp c
      · exact fil_head h2 m hp fun j mj => hl j (List.mem_cons_of_mem _ mj)
theorem erase_fil {x : Nat} : ∀ {M : List Nat} {i : Nat}, M.Nodup → M[i]? = some x → M.eraseIdx i = M.filter fun j => decide (j ≠ x)
  | [], i, _, e => by cases e
  | a :: M, 0, h, e => by
    cases e
    obtain ⟨h1, h2⟩ := List.nodup_cons.mp h
    rw [List.filter_cons_of_neg (by simp)]
    show M = _
    refine (List.filter_eq_self.mpr fun j mj => ?_).symm
    have : j ≠ x := fun z => h1 (by rw [← z]; exact mj)
    simpa using this
  | a :: M, i + 1, h, e => by
    obtain ⟨h1, h2⟩ := List.nodup_cons.mp h
    have e : M[i]? = some x := e
    rw [List.filter_cons_of_pos (by simpa using fun z => h1 (by rw [z]; exact List.mem_of_getElem? e))]
    show a :: M.eraseIdx i = _
    rw [erase_fil h2 e]
theorem TupL.erase {H : Hp} {xs : List V} {ls : List (List V)} {i : Nat} (h : TupL H xs ls) : TupL H (xs.eraseIdx i) (ls.eraseIdx i) := by
  have hl := h.len
  refine ⟨by rw [List.length_eraseIdx, List.length_eraseIdx, hl], fun q z l a b => ?_⟩
  rw [List.getElem?_eraseIdx] at a b
  by_cases c : q < i
  · rw [if_pos c] at a b
    exact h.at_ _ _ _ a b
  · rw [if_neg c] at a b
    exact h.at_ _ _ _ a b
def rowD (y : PX) (v : VS) (i : Nat) : PyData := .tuple [.int (v.rk i), .int (i : Int), .tuple [.int ((y.pr i).1 : Int), .int ((y.pr i).2 : Int)]]
theorem row_eq {y : PX} {v : VS} {i j : Nat} : PyData.eqv (rowD y v i) (rowD y v j) = decide (i = j) := by
  by_cases c : i = j
  · subst c
    rw [decide_eq_true rfl]
    exact SeqAt.eqv_refl _ (SeqAt.canLay_of_shaped (by rfl))
  · rw [decide_eq_false c]
    have hn : ((i : Int) == (j : Int)) = false := by simpa using fun z => c (Int.ofNat.inj z)
    simp [rowD, PyData.eqv, PyData.eqvAll, hn, c]
theorem plain_rows {y : PX} {v : VS} : ∀ {L : List Nat}, PyData.plainAll (L.map (rowD y v)) = true
  | [] => rfl
  | i :: L => by
    have ih := plain_rows (y := y) (v := v) (L := L)
    show (PyData.plain (rowD y v i) && PyData.plainAll (L.map (rowD y v))) = true
    rw [ih]
    rfl
theorem find_row {y : PX} {v : VS} {x i : Nat} {L : List Nat} (nd : L.Nodup) (h : L[i]? = some x) : (L.map (rowD y v)).findIdx? (fun z => PyData.eqv z (rowD y v x)) = some i := by
  obtain ⟨hi, e⟩ := List.getElem?_eq_some_iff.mp h
  refine List.findIdx?_eq_some_iff_getElem.mpr ⟨by rw [List.length_map]; exact hi, ?_, fun j hj => ?_⟩
  · rw [List.getElem_map, row_eq, e]
    exact decide_eq_true rfl
  · rw [List.getElem_map, row_eq]
    have : L[j] ≠ x := fun z => by
      have hx1 : x ∈ L.take i := List.mem_of_getElem? (i := j) (by rw [List.getElem?_take, if_pos hj, List.getElem?_eq_getElem (by omega), z])
      have hx2 : x ∈ L.drop i := List.mem_of_getElem? (i := 0) (by rw [List.getElem?_drop, Nat.add_zero]; exact h)
      exact (List.nodup_append.mp (show (L.take i ++ L.drop i).Nodup by rw [List.take_append_drop]; exact nd)).2.2 x hx1 x hx2 rfl
    simpa using this
theorem erase_map {α β : Type} (g : α → β) : ∀ {l : List α} {i : Nat}, (l.map g).eraseIdx i = (l.eraseIdx i).map g
  | [], _ => rfl
  | _ :: _, 0 => rfl
  | a :: l, i + 1 => congrArg (g a :: ·) (erase_map g (l := l) (i := i))
theorem TupL.add {H : Hp} {xs : List V} {ls : List (List V)} {t : Addr} {e : List V} (h : TupL H xs ls) (ht : H t = some (.tup e)) : TupL H (xs ++ [.ref t]) (ls ++ [e]) := by
  refine ⟨by rw [List.length_append, List.length_append, h.len]; rfl, fun i x y a b => ?_⟩
  have hl := h.len
  by_cases c : i < xs.length
  · rw [List.getElem?_append_left c] at a
    rw [List.getElem?_append_left (by omega)] at b
    exact h.at_ i x y a b
  · rw [List.getElem?_append_right (by omega)] at a
    rw [List.getElem?_append_right (by omega), ← hl] at b
    match i - xs.length, a, b with
    | 0, a, b =>
      cases a
      cases b
      exact ⟨t, rfl, ht⟩
    | r + 1, a, _ => cases r <;> cases a
theorem dp_rows {K : PySem.W.Frag} {H : Hp} {y : PX} {v : VS} {xs : List V} (tl : TupL H xs (heldL y v)) (hp : ∀ i ∈ v.L, H (y.pa i) = some (.tup (tupP (y.pr i)))) : DpAll K H xs (v.L.map (rowD y v)) := by
  have hl := tl.len
  unfold heldL at hl
  rw [List.length_map] at hl
  have go : ∀ {xs : List V} {L : List Nat}, xs.length = L.length → (∀ (q : Nat) x i, xs[q]? = some x → L[q]? = some i → Dp K H x (rowD y v i)) → DpAll K H xs (L.map (rowD y v)) := fun {xs} => by
    induction xs with
    | nil =>
      intro L l _
      cases L with
      | nil => exact .nil
      | cons _ _ => cases l
    | cons x xs ih =>
      intro L l h
      cases L with
      | nil => cases l
      | cons i L => exact .cons (h 0 x i rfl rfl) (ih (Nat.succ.inj l) fun q y e a b => h (q + 1) y e a b)
  refine go hl fun q x i a b => ?_
  obtain ⟨p, rfl, ep⟩ := tl.at_ q x [V.int (v.rk i), V.int (i : Int), V.ref (y.pa i)] a (by unfold heldL; rw [List.getElem?_map, b]; rfl)
  exact .tup (sqtOf ep) (.cons (.int _) (.cons (.int _) (.cons (.tup (sqtOf (hp i (List.mem_of_getElem? b))) (.cons (.int _) (.cons (.int _) .nil))) .nil)))
section
variable {K : PySem.W.Frag} {y0 y1 y2 y3 y4 y5 y6 y8 y9 y10 y11 y12 y13 y14 y15 y16 : Option V}
theorem lc_w {H : Hp} {Q : VK} {hl : Addr} {xs : List V} {y : PX} {v : VS} (e : H hl = some (.lst xs)) (tl : TupL H xs (heldL y v)) (hM : v.L.length ≤ 1000) (q : ∀ r H', Fr H r → Same H H' → H' r = some (.lst ((v.L.map v.rk).map V.int)) → Q (.ref r) H') :
    tLc (iList K (tVar 7)) (gName 16) tYes (tOp (rIxT K) (tVar 16) (tC (V.int 0))) [16] [y0, y1, y2, y3, y4, y5, y6, some (.ref hl), y8, y9, y10, y11, y12, y13, y14, y15, y16] H Q := by
  refine ⟨_, rfl, hl, rfl, ⟨_, sqlOf e⟩, fun D nD => ?_⟩
  have fD := Fr.mk nD
  have hxl := tl.len
  unfold heldL at hxl
  rw [List.length_map] at hxl
  refine lc_it (walk_list (K := K) (a := hl) (xs := xs)) (fun i H' => Same H H' ∧ H' D = some (.lst (((v.L.take i).map v.rk).map V.int))) ⟨same_newF fD, upd_same⟩ (fun i H' _ z => sqlOf (z.1 _ _ e)) ?_ ?_
  · rintro i z H1 H2 hi ⟨s1, eD⟩ ⟨rfl, hx⟩
    obtain ⟨j, hj⟩ : ∃ j, v.L[i]? = some j := ⟨_, List.getElem?_eq_getElem (by omega)⟩
    obtain ⟨p, rfl, ep⟩ := tl.at_ i z [V.int (v.rk j), V.int (j : Int), V.ref (y.pa j)] hx (by unfold heldL; rw [List.getElem?_map, hj]; rfl)
    refine ⟨rfl, ?_⟩
    unfold tYes
    refine ifT rfl ⟨_, rfl, p, _, 0, _, rfl, rfl, sqtOf (s1 _ _ ep), atI_nat (j := 0) rfl, _, eD, ?_, same_putG fD s1, ?_⟩
    · rw [List.length_map, List.length_map, sizeLine_eq]
      have := List.length_take_le' i v.L
      omega
    · rw [upd_same, take_map v.rk hj, List.map_append]
      rfl
  · rintro H1 ⟨s1, eD⟩
    rw [hxl, List.take_length] at eD
    exact q D H1 fD s1 eD
theorem lc_f {H : Hp} {Q : VK} {hl : Addr} {xs : List V} {y : PX} {v : VS} {g : Int} (e : H hl = some (.lst xs)) (tl : TupL H xs (heldL y v)) (hM : v.L.length ≤ 1000) (q : ∀ r zs H', Fr H r → Same H H' → H' r = some (.lst zs) → TupL H' zs ((v.L.filter fun i => decide (v.rk i = g)).map fun i => [V.int (v.rk i), V.int (i : Int), V.ref (y.pa i)]) → Q (.ref r) H') :
    tLc (iList K (tVar 7)) (gName 16) (tTest (tOp rEq (tOp (rIxT K) (tVar 16) (tC (V.int 0))) (tVar 14))) (tVar 16) [16] [y0, y1, y2, y3, y4, y5, y6, some (.ref hl), y8, y9, y10, y11, y12, y13, some (.int g), y15, y16] H Q := by
  refine ⟨_, rfl, hl, rfl, ⟨_, sqlOf e⟩, fun D nD => ?_⟩
  have fD := Fr.mk nD
  have hxl := tl.len
  unfold heldL at hxl
  rw [List.length_map] at hxl
  refine lc_it (walk_list (K := K) (a := hl) (xs := xs)) (fun i H' => Same H H' ∧ ∃ zs, H' D = some (.lst zs) ∧ TupL H' zs (((v.L.take i).filter fun i => decide (v.rk i = g)).map fun i => [V.int (v.rk i), V.int (i : Int), V.ref (y.pa i)])) ⟨same_newF fD, [], upd_same, rfl, fun q z l a b => by cases q <;> cases a⟩ (fun i H' _ z => sqlOf (z.1 _ _ e)) ?_ ?_
  · rintro i z H1 H2 hi ⟨s1, zs, eD, tz⟩ ⟨rfl, hx⟩
    obtain ⟨j, hj⟩ : ∃ j, v.L[i]? = some j := ⟨_, List.getElem?_eq_getElem (by omega)⟩
    obtain ⟨p, rfl, ep⟩ := tl.at_ i z [V.int (v.rk j), V.int (j : Int), V.ref (y.pa j)] hx (by unfold heldL; rw [List.getElem?_map, hj]; rfl)
    have htk : v.L.take (i + 1) = v.L.take i ++ [j] := by
      rw [List.take_succ, hj]
      rfl
    have hzl : zs.length ≤ 1000 := by
      have h1 := tz.len
      rw [List.length_map] at h1
      have h2 := List.length_filter_le (fun i => decide (v.rk i = g)) (v.L.take i)
      have h3 := List.length_take_le' i v.L
      omega
    rw [htk, List.filter_append]
    refine ⟨rfl, ⟨_, rfl, p, _, 0, _, rfl, rfl, sqtOf (s1 _ _ ep), atI_nat (j := 0) rfl, _, rfl, rfl, _, rfl, ?_⟩⟩
    by_cases c : v.rk j = g
    · refine ifT (decide_eq_true (by rw [c])) ⟨_, rfl, zs, eD, by rw [sizeLine_eq]; omega, same_putG fD s1, _, upd_same, ?_⟩
      rw [List.filter_cons_of_pos (by simpa using c), List.filter_nil, List.map_append]
      have kD : Kp [D] H2 (upd H2 D (.lst (zs ++ [.ref p]))) := kp_up memA (kp_refl _ _)
      have mD : Mu H2 [D] := mu_lst eD mu_nil
      exact (tz.kp kD mD).add (kp_tup kD mD (s1 _ _ ep))
    · refine ifF (decide_eq_false fun z => c (by injection z)) ⟨s1, zs, eD, ?_⟩
      rw [List.filter_cons_of_neg (by simpa using c), List.filter_nil, List.append_nil]
      exact tz
  · rintro H1 ⟨s1, zs, eD, tz⟩
    rw [hxl, List.take_length] at tz
    exact q D zs H1 fD s1 eD tz
end
end Ob

set_option Elab.async false
set_option linter.all false
set_option maxRecDepth 100000
set_option maxHeartbeats 1000000
namespace Ob
open PySem PySem.Spec PyProof.Rows L2
open LamX (Tabs TabB TabS ExtN)

set_option hygiene false in
local macro_rules
  | `(tactic| kp_flats) => `(tactic| first
    | assumption
    | exact upd_same
    | (apply atNew; assumption; kp_flats)
    | (apply atNe; (next => kbo_bools); kp_flats)
    | (apply atSame; assumption; kp_flats)
    | (apply atKp; assumption; (next => kaf_pre); kp_flats))
set_option hygiene false in
local macro_rules
  | `(tactic| kaf_pre) => `(tactic| first
    | assumption
    | exact not_nil
    | (apply not_cons; (next => kbo_bools); kaf_pre)
    | (apply not_app; (next => kaf_pre); kaf_pre))
set_option hygiene false in
local macro_rules
  | `(tactic| kbo_bools) => `(tactic| first
    | assumption
    | (apply Ne.symm; assumption)
    | (apply neN; assumption; kp_flats)
    | (apply neN'; assumption; kp_flats))
set_option hygiene false in
local macro_rules
  | `(tactic| o_reads) => `(tactic| first
    | with_reducible rfl
    | assumption
    | rfl
    | kp_flats
    | (show SqL _ _ _ _; first | assumption | (apply sqlOf; kp_flats) | (apply sqlSame; assumption; o_reads))
    | (show SqT _ _ _ _; first | assumption | (apply sqtOf; kp_flats) | (apply sqtAll; assumption) | (apply sqtSame; assumption; o_reads))
    | (show Cls _ _; first | exact T.cl_Calls | exact T.cl_Outer | exact T.cl_Ranked | exact T.cl_Unions)
    | (show NoAttr _ _ _; first | exact T.n_Calls_entries | exact T.n_Calls_running | exact T.n_Outer_calls | exact T.n_Outer_push_call | exact T.n_Outer_pop_call | exact T.n_Outer_ask_call | exact T.n_Outer_order | exact T.n_Outer_broken | exact T.n_Ranked_outer | exact T.n_Ranked_given | exact T.n_Ranked_held | exact T.n_Ranked_ranks | exact T.n_Ranked_removals | exact T.n_Unions_groups | exact T.n_Unions_parents | exact T.n_Unions_counts | exact T.n_Unions_moved)
    | (apply Or.inl; o_reads)
    | (apply Or.inr; o_reads)
    | (apply And.intro; (next => o_reads); o_reads)
    | (apply Exists.intro; o_reads)
    | exact Nat.le_of_ble_eq_true rfl
    | exact Nat.succ_ne_zero _
    | (show Fr _ _; kba_ints)
    | (show Same _ _; kd_subs)
    | (show Kp _ _ _; kxs_still)
    | (show (_ : Nat) ≤ _; simp only [List.length_append, List.length_map, List.length_cons, List.length_nil, List.length_take, List.length_drop, List.length_replicate, List.length_range, sizeLine_eq]; omega)
    | (show _ = none; apply Fr.h; kba_ints)
    | (show Bag _ _; first | assumption | (apply bag_putF; assumption; o_reads) | (apply bag_neF; (next => kbo_bools); o_reads) | (apply bag_kpR; assumption; (next => kaf_pre); o_reads))
    | omega
    | decide)
local macro_rules
  | `(tactic| o_readsAll) => `(tactic| repeat (first
    | (refine fun (pNew : Addr) (nNew : _ = none) => ?_; replace nNew := Fr.mk nNew)
    | (refine fun (xNew dNew : Addr) (nNew : _ = none) (mNew : _ = none) (eNew : dNew ≠ xNew) => ?_; replace nNew := Fr.mk nNew; replace mNew := Fr.mk mNew)
    | (apply And.intro; next => o_reads)
    | apply Exists.intro (α := V)
    | apply Exists.intro (α := Addr)
    | apply Exists.intro (α := Int)
    | apply Exists.intro (α := Bool)
    | apply Exists.intro (α := List V)
    | apply Exists.intro (α := List Nat)
    | apply Exists.intro (α := List (Str × V))
    | apply Exists.intro (α := List _)
    | apply Exists.intro (α := Str)
    | apply Exists.intro (α := HO)
    | apply Exists.intro (α := Sp)
    | apply Exists.intro (α := VK)))
set_option hygiene false in
local macro_rules
  | `(tactic| kba_ints) => `(tactic| first
    | assumption
    | (apply frUp; (first | assumption | (apply Ne.symm; assumption)); kba_ints)
    | (apply noneOf; assumption; intro oF eF; apply Exists.intro; kp_flats)
    | (apply frUp; (next => kbo_bools); kba_ints))
set_option hygiene false in
local macro_rules
  | `(tactic| kxs_still) => `(tactic| first
    | assumption
    | exact kp_refl _ _
    | (apply kp_newF; assumption; kxs_still)
    | (apply kp_new; assumption; kxs_still)
    | (apply kp_up; (next => o_fieldsN); kxs_still)
    | (apply kp_new; (next => kba_ints); kxs_still)
    | (apply kp_sameR; assumption; kxs_still)
    | (apply kp_transR; assumption; kxs_still)
    | (apply kp_freshR; assumption; (next => kaf_suf); kxs_still))
set_option hygiene false in
local macro_rules
  | `(tactic| kaf_suf) => `(tactic| first
    | assumption
    | exact subNil
    | (apply subCons; (first | (apply Or.inl; o_fieldsN) | (apply Or.inr; kba_ints)); kaf_suf)
    | (apply subApp; (next => kaf_suf); kaf_suf))
set_option hygiene false in
local macro_rules
  | `(tactic| o_fieldsN) => `(tactic| first
    | assumption
    | exact memA
    | (apply memB; o_fieldsN)
    | (apply memL; o_fieldsN)
    | (apply memR; o_fieldsN))
set_option hygiene false in
local macro_rules
  | `(tactic| kd_subs) => `(tactic| first
    | assumption
    | exact Same.refl _
    | (apply same_putF; assumption; kd_subs)
    | (apply same_putG; assumption; kd_subs)
    | (apply same_putF; (next => kba_ints); kd_subs)
    | (apply same_transR; assumption; kd_subs))

set_option pp.maxSteps 3000
open NdefX (TabsN)
open Inf (Clo LClo cut mend cellsOf)
theorem u65 {k : Nat} {A : Around} (r : Room k A) : A.units + 65 < cLine := by
  have := r.un
  omega
theorem mid_seq {t u : TS} {D : Ends} {σ : L2.St} {H : Hp} (I : L2.St → Hp → Prop) (h1 : ∀ N : L2.St → Hp → Prop, (∀ σ' H', I σ' H' → N σ' H') → t { D with nx := N } σ H) (h2 : ∀ σ' H', I σ' H' → u D σ' H') : tSeq t u D σ H := h1 _ h2
section
variable {P : Program} {w : World} {K : PySem.W.Frag} {mg : Str → Option Value} {base : Heap}
def spLaw (T : Txt K mg) : Sp := fun vs H Q _ => ∃ (a : Addr) (ns : List Int), vs = [.ref a] ∧ SqL K H a (ns.map V.int) ∧ ns.length ≤ 63 ∧ H T.p_precedence = some (.tbl #[]) ∧ H T.p_law = some (.tbl #[]) ∧ ∀ H', Q (.bl true) H'
theorem ok_law (T : Txt K mg) (TB2 : LamX.TabB base mg T.c_precedence T.p_precedence) (TB : LamX.TabB base mg T.c_law T.p_law) {f : Addr} {d : FuncData} (F : FunT K "law" "law" s_law f d T.c_law) : FnOk P w K mg base CX0 40 f d ["_law_script"] (spLaw T) := by
  have G_l_bag := ok_bag (P := P) (w := w) (base := base) T
  have G_l_take := ok_takeK (P := P) (w := w) (base := base) T
  have G_l_right := ok_right (P := P) (w := w) (base := base) T
  have G_l_bound_right := ok_br (P := P) (w := w) (base := base) T
  have G_Unions_init := Un.ok_ui (P := P) (w := w) (base := base) T
  have G_Ranked_init := ok_rki (P := P) (w := w) (base := base) T
  have G_Ranked_add := ok_radd (P := P) (w := w) (base := base) (n := 3) T
  have G_Ranked_remove_first := ok_rrem (P := P) (w := w) (n := 3) T TB2
  have G_Ranked_first := ok_rfst (P := P) (w := w) T TB2
  have G_Ranked_log := ok_rlog (P := P) (w := w) (base := base) T
  obtain ⟨mv0, KB_Ranked_add⟩ := FunD.kbinds0 (ps := ["self", "member", "rank"]) T.F_Ranked_add 2 ["rank"] [] (fun us mv ws => us ++ ws) (List.cons_ne_nil _ _) (fun _ z => nomatch z) (fun a _ c => a.append c)
    (fun D doc pm an cdv ct us mv ws h1 h2 h3 => match us, h1, mv, h2, ws, h3 with | [_, _], _, [], _, [_], _ => rfl)
  refine F.ok sc_law (fun vs H Q E h => ?_) (fun A_ outer s H vs Q E hr h => ?_)
  · obtain ⟨a, ns, rfl, _⟩ := h
    rfl
  · obtain ⟨a0, ns0, rfl, hS, hlen, hp1, hp2, q⟩ := h
    have t0 : TabsN (TT T) H := fun p hp => by
      rcases List.mem_cons.mp hp with rfl | hp
      · exact NdefX.TabN.nil hp1
      · rw [List.mem_singleton.mp hp]
        exact NdefX.TabN.nil hp2
    refine ⟨_, (pss_cons (ps_for (passes_of rfl) rfl (pi_range1 (by rfl) T.z_range (pa_cons (pe_callB (call_max2 rfl) (by rfl) T.z_max (by decide +kernel) (pa_cons pe_int (pa_cons (pe_callB (call_min2 rfl) (by rfl) T.z_min (by decide +kernel) (pa_cons pe_int (pa_cons (pe_callB call_len_seq (by rfl) T.z_len (by decide +kernel) (pa_cons (pv 0) pa_nil)) pa_nil))) pa_nil))) pa_nil)) (pg_name (i := 1) sc_law.nd rfl (.inl rfl)) (pss_cons (ps_set (i := 2) sc_law.nd rfl (.inl rfl) (pe_call G_l_bag (hr.mono (by omega)) rfl T.g_l_bag T.F_l_bag.kp T.b_l_bag .nil pass0 (pa_cons (pv 0) (pa_cons (pv 1) pa_nil))))
        (pss_cons (ps_par3 (i := 3) (j := 4) (l := 5) (by rfl) sc_law.nd rfl rfl rfl (by decide) (by decide) (by decide) rfl rfl rfl (pa_cons (pe_op op_add pe_int (pe_call G_l_take (hr.mono (by omega)) rfl T.g_l_take T.F_l_take.kp T.b_l_take .nil pass0 (pa_cons (pv 2) (pa_cons pe_int pa_nil)))) (pa_cons (pe_ix (r := rIxL K) ix_list (pe_lst (pa_cons pe_int (pa_cons pe_int (pa_cons (pe_op op_pow pe_int pe_int) pa_nil)))) (pe_call G_l_take (hr.mono (by omega)) rfl T.g_l_take T.F_l_take.kp T.b_l_take .nil pass0 (pa_cons (pv 2) (pa_cons pe_int pa_nil))) (fun _ _ => rfl)) (pa_cons pe_int pa_nil))) (by rfl))
        (pss_cons (ps_asg (pe_tup (pa_cons (pe_make ⟨T.mk_Unions, T.m_Unions_init, T.t_Unions_init, T.kp_Unions⟩ G_Unions_init (hr.mono (by omega)) rfl T.gc_Unions T.b_Unions_init .nil pass0 (pa_cons (pv 3) pa_nil)) (pa_cons (pe_lst pa_nil) (pa_cons pe_int (pa_cons pe_int pa_nil))))) (pg_tup (by rfl) (pgs_cons (pg_name (i := 6) sc_law.nd rfl (.inr rfl)) (pgs_cons (pg_name (i := 7) sc_law.nd rfl (.inl rfl)) (pgs_cons (pg_name (i := 8) sc_law.nd rfl (.inl rfl)) (pgs_cons (pg_name (i := 9) sc_law.nd rfl (.inl rfl)) pgs_nil))))))
        (pss_cons (ps_set (i := 10) sc_law.nd rfl (.inl rfl) (pe_make ⟨T.mk_Ranked, T.m_Ranked_init, T.t_Ranked_init, T.kp_Ranked⟩ G_Ranked_init (hr.mono (by omega)) rfl T.gc_Ranked T.b_Ranked_init .nil pass0 (pa_cons (Inf.pe_lamP (T := TT T) (nm := nm_law) (c := T.c_law) (P := T.p_law) TB rfl (hm_law T) rfl (hu_law T) rfl (NdefX.ndef_free (sc := defScope s_law) (fr := ["_law_unions"]) (by decide +kernel))) (pa_cons (Inf.pe_lamP (T := TT T) (nm := nm_law) (c := T.c_law) (P := T.p_law) TB rfl (hm_law T) rfl (hu_law T) rfl (NdefX.ndef_free (sc := defScope s_law) (fr := ["_law_unions"]) (by decide +kernel))) (pa_cons (Inf.pe_lamP (T := TT T) (nm := nm_law) (c := T.c_law) (P := T.p_law) TB rfl (hm_law T) rfl (hu_law T) rfl (NdefX.ndef_free (sc := defScope s_law) (fr := ["_law_unions"]) (by decide +kernel))) pa_nil)))))
        (pss_one (ps_for (passes_of rfl) rfl (pi_range1 (by rfl) T.z_range (pa_cons (pe_op op_add pe_int (pe_call G_l_take (hr.mono (by omega)) rfl T.g_l_take T.F_l_take.kp T.b_l_take .nil pass0 (pa_cons (pv 2) (pa_cons pe_int pa_nil)))) pa_nil)) (pg_name (i := 11) sc_law.nd rfl (.inl rfl)) (pss_cons (ps_if (pt_cmpR op_eq (pe_call G_l_take (hr.mono (by omega)) rfl T.g_l_take T.F_l_take.kp T.b_l_take .nil pass0 (pa_cons (pv 2) (pa_cons pe_int pa_nil))) pe_int (nomark _)) (pss_one (ps_set (i := 5) sc_law.nd rfl (.inl rfl) (pe_call G_l_take (hr.mono (by omega)) rfl T.g_l_take T.F_l_take.kp T.b_l_take .nil pass0 (pa_cons (pv 2) (pa_cons pe_int pa_nil))))) pss_nil)
          (pss_cons (ps_if (PW.pt (pw_or (pt_cmpR op_lt (pv 5) pe_int (nomark _)) (pw_or1 (pt_cmpR (op_eqNil hr.units) (pv 7) (pe_lst pa_nil) (nomark _))))) (pss_cons (ps_par (i := 12) (j := 13) (by rfl) sc_law.nd rfl rfl (by decide) rfl rfl (pa_cons (pe_tup (pa_cons (pe_call G_l_take (hr.mono (by omega)) rfl T.g_l_take T.F_l_take.kp T.b_l_take .nil pass0 (pa_cons (pv 2) (pa_cons (pv 3) pa_nil))) (pa_cons (pe_call G_l_take (hr.mono (by omega)) rfl T.g_l_take T.F_l_take.kp T.b_l_take .nil pass0 (pa_cons (pv 2) (pa_cons (pv 3) pa_nil))) pa_nil))) (pa_cons (pe_op op_sub (pe_call G_l_take (hr.mono (by omega)) rfl T.g_l_take T.F_l_take.kp T.b_l_take .nil pass0 (pa_cons (pv 2) (pa_cons (pv 4) pa_nil))) (pe_op op_fdivW (pv 4) pe_int)) pa_nil)) (by rfl))
            (pss_cons (ps_if (pt_cmpR op_ne (Inf.pe_methKT (fun _ => rfl) (pv 10) T.cl_Ranked ⟨T.m_Ranked_add, T.t_Ranked_add, T.k_Ranked_add⟩ G_Ranked_add (hr.mono (by omega)) KB_Ranked_add (pa_cons (pv 12) pa_nil) (pk_cons (pv 13) pk_nil)) (pv 8) (nomark _)) (pss_one (ps_ret pe_bl)) pss_nil)
            (pss_cons (ps_expr (pe_bm PySem.F.plainAttrs_list PySem.F.slot_list_append PySem.F.type_list_append mt_append (pv 7) (pa_cons (pe_tup (pa_cons (pv 13) (pa_cons (pv 8) (pa_cons (pv 12) pa_nil)))) pa_nil)))
            (pss_one (ps_set (i := 8) sc_law.nd rfl (.inl rfl) (pe_op op_add (pv 8) pe_int)))))) (pss_cons (ps_set (i := 14) sc_law.nd rfl (.inr rfl) (pe_callB (cr_max rfl) (by rfl) T.z_max (by decide +kernel) (pa_cons (pe_lc (own := [("_law_one", 16)]) (g := gName 16) (tt := tYes) rfl sc_law.nd (pi_list (pv 7)) (blkOk_by (N := n_law) (sc := defScope s_law) (by decide +kernel)) (fun _ _ _ _ _ => (pg_name (i := 16) sc_law.nd rfl (.inl rfl))) (fun _ _ _ _ _ => pts_nil) (fun _ _ _ _ _ => (pe_ix (r := rIxT K) ix_tup (pv 16) pe_int (fun _ _ => rfl)))) pa_nil)))
            (pss_cons (ps_set (i := 15) sc_law.nd rfl (.inl rfl) (pe_ix (r := rIxL K) ix_list (pe_lc (own := [("_law_one", 16)]) (g := gName 16)  rfl sc_law.nd (pi_list (pv 7)) (blkOk_by (N := n_law) (sc := defScope s_law) (by decide +kernel)) (fun _ _ _ _ _ => (pg_name (i := 16) sc_law.nd rfl (.inl rfl))) (fun _ _ _ _ _ => (pts_one (pt_cmpR op_eq (pe_ix (r := rIxT K) ix_tup (pv 16) pe_int (fun _ _ => rfl)) (pv 14) (nomark _)))) (fun _ _ _ _ _ => (pv 16))) pe_int (fun _ _ => rfl)))
            (pss_cons (ps_if (PW.pt (pw_or (pt_cmpR op_ne (pe_meth0 (pv 10) T.cl_Ranked ⟨T.m_Ranked_first, T.t_Ranked_first, T.k_Ranked_first⟩ G_Ranked_first (hr.mono (by omega)) T.b_Ranked_first .nil pass0) (pe_ix (r := rIxT K) ix_tup (pv 15) pe_int (fun _ _ => rfl)) (nomark _)) (pw_or1 (pt_cmpR op_ne (Inf.pe_methT0 (fun _ => rfl) (pv 10) T.cl_Ranked ⟨T.m_Ranked_remove_first, T.t_Ranked_remove_first, T.k_Ranked_remove_first⟩ G_Ranked_remove_first (hr.mono (by omega)) T.b_Ranked_remove_first .nil) (pe_ix (r := rIxT K) ix_tup (pv 15) pe_int (fun _ _ => rfl)) (nomark _))))) (pss_one (ps_ret pe_bl)) pss_nil)
            (pss_cons (ps_expr (show PE _ _ (tBM K "list" (Inf.rRemD K) (tVar 7) (tCons (tVar 15) tNil)) from pe_bm PySem.F.plainAttrs_list PySem.F.slot_list_remove PySem.F.type_list_remove (Inf.mt_removeD (u65 hr)) (pv 7) (pa_cons (pv 15) pa_nil)))
            (pss_one (ps_set (i := 9) sc_law.nd rfl (.inl rfl) (pe_op op_add (pv 9) pe_int))))))))
          (pss_cons (ps_if (pt_not (pt_val (Inf.pe_callT (fun _ => rfl) G_l_right (hr.mono (by omega)) rfl T.g_l_right T.F_l_right.kp T.b_l_right .nil (pa_cons (pv 2) (pa_cons (pv 10) (pa_cons (pv 7) (pa_cons (pv 3) pa_nil))))))) (pss_one (ps_ret pe_bl)) pss_nil)
          (pss_one (ps_if (pt_not (pt_val (pe_call G_l_bound_right (hr.mono (by omega)) rfl T.g_l_bound_right T.F_l_bound_right.kp T.b_l_bound_right .nil pass0 (pa_cons (pe_meth0 (pv 10) T.cl_Ranked ⟨T.m_Ranked_log, T.t_Ranked_log, T.k_Ranked_log⟩ G_Ranked_log (hr.mono (by omega)) T.b_Ranked_log .nil pass0) (pa_cons (pv 8) (pa_cons (pv 9) (pa_cons (pe_callB call_len_seq (by rfl) T.z_len (by decide +kernel) (pa_cons (pv 7) pa_nil)) pa_nil))))))) (pss_one (ps_ret pe_bl)) pss_nil))))))))))))
      (pss_one (ps_ret pe_bl))), ?_⟩
    have b200 : (2 : Nat) ^ 200 > 10 ^ 20 := by decide
    have b20 : (10 : Nat) ^ 20 = 100000000000000000000 := by decide
    refine pSeq ⟨_, rfl, a0, _, rfl, .inl hS, 3, _, rfl, 1, _, rfl, _, rfl, ?_, ?_, ?_⟩
    · split <;> split <;> omega
    · split <;> split <;> omega
    generalize hN : (if (if (((ns0.map V.int).length : Nat) : Int) < 3 then (((ns0.map V.int).length : Nat) : Int) else 3) > 1 then (if (((ns0.map V.int).length : Nat) : Int) < 3 then (((ns0.map V.int).length : Nat) : Int) else 3) else (1 : Int)).toNat = N
    have hN2 : N ≤ 3 := by
      rw [← hN]
      split <;> split <;> omega
    refine for_range (n := N) (fun i σ H' => ∃ y1 y2 y3 y4 y5 y6 y7 y8 y9 y10 y11 y12 y13 y14 y15 y16, σ = [some (.ref a0), y1, y2, y3, y4, y5, y6, y7, y8, y9, y10, y11, y12, y13, y14, y15, y16] ∧ TabsN (TT T) H' ∧ SqL K H' a0 (ns0.map V.int)) ⟨_, _, _, _, _, _, _, _, _, _, _, _, _, _, _, _, rfl, t0, hS⟩ ?_ ?_
    · rintro i σ Hz hi ⟨y1, y2, y3, y4, y5, y6, y7, y8, y9, y10, y11, y12, y13, y14, y15, y16, rfl, tz, sz⟩
      obtain ⟨av, sav, eav, fav⟩ : ∃ av, Sol Hz av ∧ (∀ H', Eqv av Hz H' → SqL K H' a0 (ns0.map V.int)) ∧ ∀ x, Fr Hz x → x ∉ av := by
        rcases sz with (h | ⟨o, h⟩) | h
        · exact ⟨[a0], Sol.lst h Sol.nil, fun H' e => .inl (.inl ((e a0 memA).trans h)), fun x f => not_cons (fun z => by rw [← z, f.h] at h; cases h) not_nil⟩
        · exact ⟨[a0], ⟨mu_cons h (fun _ z => nomatch z) (fun _ z => nomatch z) mu_nil, fun a m ps z => by rw [List.mem_singleton.mp m, h] at z; cases z⟩, fun H' e => .inl (.inr ⟨o, (e a0 memA).trans h⟩), fun x f => not_cons (fun z => by rw [← z, f.h] at h; cases h) not_nil⟩
        · exact ⟨[], Sol.nil, fun H' _ => .inr h, fun _ _ => not_nil⟩
      -- the bag
      refine pGN (pSeq (pAsg ⟨_, rfl, _, rfl, a0, ns0, i, by rw [Int.zero_add]; rfl, sz, by omega, fun p H1 np s1 b1 => pGN ?_⟩))
      simp only [List.set_cons_succ, List.set_cons_zero]
      have f_p : p ∉ av := fav p (Fr.mk np)
      have t1 := tabs_same tz s1
      have ez1 : Eqv av Hz H1 := fun a m => by
        obtain ⟨o, h, _⟩ := sav.1 a m
        rw [h]
        exact s1 _ _ h
      -- how wide
      refine pSeq ?_
      show tPar3 3 4 5 _ _ _ H1
      dsimp only [tPar3, tCons, tNil]
      refine ⟨_, rfl, p, 9, rfl, b1, by decide, by omega, fun w9 H2 hw0 hw1 b2 k12 => ?_⟩
      refine ⟨_, _, rfl, rfl, ?_⟩
      obtain ⟨W, hWe, hW0, hW9⟩ : ∃ W : Nat, (1 : Int) + w9 = (W : Int) ∧ 0 < W ∧ W ≤ 9 := ⟨(1 + w9).toNat, by omega, by omega, by omega⟩
      dsimp only []
      rw [hWe]
      obtain ⟨bs1, eb1⟩ := bag_lst b1
      have mp1 : Mu H1 [p] := bag_mu b1
      have t2 : TabsN (TT T) H2 := tabsN_kpU t1 k12 mp1 fun q hq => not_cons (tab_ne t1 hq eb1 (fun _ z => nomatch z)).symm not_nil
      have ez2 : Eqv av Hz H2 := ez1.kp sav k12 fun a ma => not_cons (fun z => f_p (by rw [← z]; exact ma)) not_nil
      -- how far the ranks lie apart
      refine ⟨_, _, rfl, rfl, ⟨by decide, by decide, by decide⟩, le3, fun q2 nq2 => ?_⟩
      have s23 := same_newF (o := .lst [.int 1, .int 3, .int (10 ^ (20 : Int).toNat)]) (Fr.mk nq2)
      refine ⟨_, rfl, p, 3, rfl, bag_kpR (kp_same (cs := []) s23) not_nil b2, by decide, by omega, fun r2 H3 hr0 hr1 b3 k23 => ?_⟩
      obtain ⟨bs2, eb2⟩ := bag_lst b2
      have npq : q2 ≠ p := (ne_of_none eb2 nq2).symm
      have eq2 : H3 q2 = some (.lst [.int 1, .int 3, .int (10 ^ (20 : Int).toNat)]) := k23.at_ _ _ upd_same (not_cons npq not_nil)
      have k23' : Kp [p] H2 H3 := kp_trans (kp_same s23) k23
      have mp2 : Mu H2 [p] := bag_mu b2
      have t3 : TabsN (TT T) H3 := tabsN_kpU t2 k23' mp2 fun q hq => not_cons (tab_ne t2 hq eb2 (fun _ z => nomatch z)).symm not_nil
      have ez3 : Eqv av Hz H3 := ez2.kp sav k23' fun a ma => not_cons (fun z => f_p (by rw [← z]; exact ma)) not_nil
      obtain ⟨sp, hat, hsp1, hsp2⟩ : ∃ sp : Int, atI [V.int 1, V.int 3, V.int (10 ^ (20 : Int).toNat)] r2 = some (.int sp) ∧ 0 < sp ∧ sp ≤ 10 ^ 20 := by
        rcases (show r2 = 0 ∨ r2 = 1 ∨ r2 = 2 by omega) with rfl | rfl | rfl
        · exact ⟨1, rfl, by decide, by decide⟩
        · exact ⟨3, rfl, by decide, by decide⟩
        · exact ⟨10 ^ (20 : Int).toNat, rfl, by decide, by decide⟩
      have hsp3 : sp.natAbs < 2 ^ 200 := by omega
      refine ⟨q2, _, r2, .int sp, rfl, rfl, sqlOf eq2, hat, _, _, _, rfl, ?_⟩
      simp only [List.set_cons_succ, List.set_cons_zero]
      clear eq2 npq nq2 k23 k23' s23 hat k12 mp1 mp2 eb1 eb2 b1 b2
      -- the Unions
      refine pSeq (pAsg ⟨_, rfl, fun u dx nu ndx nxu => ?_⟩)
      have fu := Fr.mk nu
      have fdx := Fr.mk ndx
      have e1 : upd (upd H3 dx (.own u)) u (.ins T.C_Unions dx []) u = some (.ins T.C_Unions dx []) := upd_same
      have s4 : Same H3 (upd (upd H3 dx (.own u)) u (.ins T.C_Unions dx [])) := same_putG fu (same_newF fdx)
      have nuf : ∀ {a : Addr}, Fr (upd (upd H3 dx (.own u)) u (.ins T.C_Unions dx [])) a → Fr H3 a := fun f => Fr.mk (s4.free f.h)
      generalize upd (upd H3 dx (.own u)) u (.ins T.C_Unions dx []) = H4 at e1 s4 nuf ⊢
      refine ⟨u, dx, W, rfl, e1, fun dp dc m H5 fdp fdc fm k45 un5 => ⟨rfl, Nat.zero_le _, fun hl nhl => ⟨(show 4 ≤ sizeLine by decide), fun tt ntt => ⟨tt, _, rfl, sqtOf upd_same, rfl, _, _, rfl, _, _, rfl, _, _, rfl, _, _, rfl, rfl, ?_⟩⟩⟩⟩
      simp only [List.set_cons_succ, List.set_cons_zero]
      have k35 : Kp [u] H3 H5 := kp_trans (kp_same s4) k45
      have s35 : Same H3 H5 := fun b o e => k35.at_ b o e (not_cons (ne_of_none e nu) not_nil)
      have s56 := same_newF (o := .lst []) (Fr.mk nhl)
      have s67 := same_newF (o := .tup [.ref u, .ref hl, .int 0, .int 0]) (Fr.mk ntt)
      have s57 := s56.trans s67
      have ehl : upd (upd H5 hl (.lst [])) tt (.tup [.ref u, .ref hl, .int 0, .int 0]) hl = some (.lst []) := s67 _ _ upd_same
      have un7 := un5.same s57
      have s37 := s35.trans s57
      have fhl : Fr H3 hl := Fr.mk (s35.free nhl)
      have nhu : ∀ a ∈ [u, dp, dc, m], a ≠ hl := fun a ma z => by
        obtain ⟨o, e, _⟩ := un_mu un5 a ma
        rw [z, nhl] at e
        cases e
      have fuv : ∀ a ∈ [u, dp, dc, m], Fr H3 a := fun a ma => by
        rcases List.mem_cons.mp ma with rfl | ma
        · exact fu
        rcases List.mem_cons.mp ma with rfl | ma
        · exact nuf fdp
        rcases List.mem_cons.mp ma with rfl | ma
        · exact nuf fdc
        · rw [List.mem_singleton.mp ma]
          exact nuf fm
      have t7 := tabs_same t3 s37
      have b7 := bag_kpR (kp_same (cs := []) s37) not_nil b3
      have ez7 : Eqv av Hz (upd (upd H5 hl (.lst [])) tt (.tup [.ref u, .ref hl, .int 0, .int 0])) := ez3.kp sav (kp_same (cs := []) s37) fun _ _ => not_nil
      generalize upd (upd H5 hl (.lst [])) tt (.tup [.ref u, .ref hl, .int 0, .int 0]) = H7 at s57 ehl un7 s37 t7 b7 ez7 ⊢
      obtain ⟨bs3, eb3⟩ := bag_lst b3
      have so3 : Sol H3 (p :: av) := Sol.lst eb3 (sav.eqv ez3)
      clear s56 s67 un5 k45 k35 s4 e1 fdp fdc fm fdx
      -- the lambdas and the Ranked
      refine pSeq (pAsg ⟨t7, fun fp cp H8 k8 n8 tb8 nf8 hf8 hc8 => ⟨tb8, fun fo co H9 k9 n9 tb9 nf9 hf9 hc9 => ⟨tb9, fun fa ca H10 k10 n10 tb10 nf10 hf10 hc10 => fun t dxr nt ndxr nxt => ?_⟩⟩⟩)
      obtain ⟨cp', ecp, hf8⟩ : ∃ cl, (cl = cloFrom (cxOf CX0 P w K mg base n_law "law" (defScope s_law) f (Value.ref T.c_law) A_ outer s H E).env.cells (LP [] 0).scope.names []) ∧ H8 fp = some (Inf.LamO fp (LP cl cp)) := ⟨_, rfl, hf8⟩
      obtain ⟨co', eco, hf9⟩ : ∃ cl, (cl = cloFrom (cxOf CX0 P w K mg base n_law "law" (defScope s_law) f (Value.ref T.c_law) A_ outer s H E).env.cells (LO [] 0).scope.names []) ∧ H9 fo = some (Inf.LamO fo (LO cl co)) := ⟨_, rfl, hf9⟩
      obtain ⟨ca', eca, hf10⟩ : ∃ cl, (cl = cloFrom (cxOf CX0 P w K mg base n_law "law" (defScope s_law) f (Value.ref T.c_law) A_ outer s H E).env.cells (LA [] 0).scope.names []) ∧ H10 fa = some (Inf.LamO fa (LA cl ca)) := ⟨_, rfl, hf10⟩
      have hc8 : H8 cp = some (LamX.CodeO cp qN) := hc8
      have hc9 : H9 co = some (LamX.CodeO co qN) := hc9
      have hc10 : H10 ca = some (LamX.CodeO ca qN) := hc10
      have k8 : Kp [T.p_law] H7 H8 := ⟨fun b o e n => k8 b o e fun z => n (by rw [z]; exact memA)⟩
      have k9 : Kp [T.p_law] H8 H9 := ⟨fun b o e n => k9 b o e fun z => n (by rw [z]; exact memA)⟩
      have k10 : Kp [T.p_law] H9 H10 := ⟨fun b o e n => k10 b o e fun z => n (by rw [z]; exact memA)⟩
      have hmt : ∃ tb ∈ TT T, tb.1 = T.p_law := ⟨_, hm_law T, rfl⟩
      have c8 := kp_ext k10 (mu_tabs tb9 hmt) (kp_ext k9 (mu_tabs tb8 hmt) hf8)
      have d8 := kp_ext k10 (mu_tabs tb9 hmt) (kp_ext k9 (mu_tabs tb8 hmt) hc8)
      have c9 := kp_ext k10 (mu_tabs tb9 hmt) hf9
      have d9 := kp_ext k10 (mu_tabs tb9 hmt) hc9
      have k710 : Kp [T.p_law] H7 H10 := kp_trans k8 (kp_trans k9 k10)
      have n710 : ∀ {a : Addr}, H10 a = none → H7 a = none := fun e => n8 _ (n9 _ (n10 _ e))
      have so7 : Sol H7 ([u, dp, dc, m] ++ ([p, hl] ++ av)) := by
        obtain ⟨bs7, eb7⟩ := bag_lst b7
        obtain ⟨⟨dx, e1⟩, e2, ⟨c, e3, e4⟩, e5, e6, e7⟩ := un7
        exact Sol.app (Sol.ins e1 (Sol.dK e2 (Sol.dK e3 (Sol.lst e5 Sol.nil)))) (Sol.app (Sol.lst eb7 (Sol.lst ehl Sol.nil)) (sav.eqv ez7))
      have nol : ∀ a ∈ [u, dp, dc, m] ++ ([p, hl] ++ av), a ∉ [T.p_law] := fun a ma z => so7.tab t7 _ (hm_law T) (by rw [← List.mem_singleton.mp z]; exact ma)
      have un10 := un7.kp k710 (nol u (memL memA)) (nol dp (memL (memB memA))) (nol dc (memL (memB (memB memA)))) (nol m (memL (memB (memB (memB memA)))))
      have b10 := bag_kpR k710 (nol p (memR memA)) b7
      have ehl10 := k710.at_ _ _ ehl (nol hl (memR (memB memA)))
      have ez10 : Eqv av Hz H10 := ez7.kp sav k710 fun a ma => nol a (memR (memR ma))
      clear k8 k9 k10 hf8 hf9 hc8 hc9
      have s11 : Same H10 (upd (upd H10 dxr (.own t)) t (.ins T.C_Ranked dxr [])) := same_putG (Fr.mk nt) (same_newF (Fr.mk ndxr))
      have et11 : upd (upd H10 dxr (.own t)) t (.ins T.C_Ranked dxr []) t = some (.ins T.C_Ranked dxr []) := upd_same
      have tabF : ∀ {a : Addr}, Fr (upd (upd H10 dxr (.own t)) t (.ins T.C_Ranked dxr [])) a → H10 a = none := fun f => s11.free f.h
      generalize upd (upd H10 dxr (.own t)) t (.ins T.C_Ranked dxr []) = H11 at s11 et11 tabF ⊢
      refine ⟨t, dxr, .ref fp, .ref fo, .ref fa, rfl, et11, fun o c l od hd rd H12 fo4 fc4 fl4 fod4 fhd4 frd4 k12 nlod noc et eo ec el eod ehd erd => ⟨rfl, pGN ?_⟩⟩
      simp only [List.set_cons_succ, List.set_cons_zero]
      have up12 : ∀ {a : Addr} {z : HO}, H10 a = some z → H12 a = some z := fun e => k12.at_ _ _ (s11 _ _ e) (not_cons (ne_of_none e nt) not_nil)
      have s1012 : Same H10 H12 := fun a z e => up12 e
      have far : ∀ {z : Addr}, H10 z = none → ∀ a ∈ [u, dp, dc, m] ++ ([p, hl] ++ av), a ≠ z := fun {z} hz a ma w => by
        obtain ⟨ob, e, _⟩ := so7.1 a ma
        rw [w, n710 hz] at e
        cases e
      have c3 : C3 ⟨u, dp, dc, m, fp, cp, fo, co, fa, ca, cp', co', ca', W⟩ H12 := ⟨⟨up12 c8, up12 d8⟩, ⟨up12 c9, up12 d9⟩, up12 hf10, up12 hc10⟩
      have r0 : R0 T.C_Unions ⟨u, dp, dc, m, fp, cp, fo, co, fa, ca, cp', co', ca', W⟩ ⟨fun _ => u, fun _ => (0, 0), 0, []⟩ [] H12 := ⟨un10.same s1012, fun _ hi => absurd hi (Nat.not_lt_zero _), fun _ z => nomatch z⟩
      obtain ⟨d1, eo⟩ := eo
      obtain ⟨d2, ec⟩ := ec
      have ho : H10 o = none := tabF fo4
      have hcc : H10 c = none := tabF fc4
      have hll : H10 l = none := tabF fl4
      have hod : H10 od = none := tabF fod4
      have hhd : H10 hd = none := tabF fhd4
      have hrd : H10 rd = none := tabF frd4
      have nto : t ≠ o := ne_of_none et11 fo4.h
      have ntc : t ≠ c := ne_of_none et11 fc4.h
      have k0 : K1 T (RC T.C_Unions ⟨u, dp, dc, m, fp, cp, fo, co, fa, ca, cp', co', ca', W⟩ ⟨fun _ => u, fun _ => (0, 0), 0, []⟩) ⟨u, dp, dc, m, fp, cp, fo, co, fa, ca, cp', co', ca', W⟩ ⟨fun _ => u, fun _ => (0, 0), 0, []⟩ Hz av ⟨t, o, c, l, p, hl⟩ (foot t o c l hd rd od [u, dp, dc, m]) ⟨[], 0, [], fun _ => 0, 0, []⟩ H12 := by
        refine ⟨tabs_same tb10 s1012, ⟨⟨dxr, hd, rd, od, rfl, et, ehd, erd, ?_, ?_, ⟨d1, eo⟩, ⟨d2, ec⟩, ⟨[], el, LogC.nil⟩, eod, ⟨c3, r0⟩, nlod, noc, fun a ma => ⟨far ho a (memL ma), far hcc a (memL ma), far hll a (memL ma), far hod a (memL ma)⟩⟩, .nil, .nil, (fun _ z => nomatch z), ⟨nto, ntc⟩, fun a ma => far nt a (memL ma)⟩, bag_kpR (kp_same (cs := []) s1012) not_nil b10, ⟨[], up12 ehl10, rfl, fun q z l a b => by cases q <;> cases a⟩, ez10.kp sav (kp_same (cs := []) s1012) (fun _ _ => not_nil), sav, fun a ma mF => ?_, fun z => ?_, fun a ma z => ?_⟩
        · exact not_cons (neO ehd et (fun z => nomatch z)) (not_cons (neO ehd eo (fun z => nomatch z)) (not_cons (neO ehd ec (fun z => nomatch z)) (not_cons (neO ehd el (fun z => nomatch z)) fun z => far hhd _ (memL z) rfl)))
        · exact not_cons (neO erd et (fun z => nomatch z)) (not_cons (neO erd eo (fun z => nomatch z)) (not_cons (neO erd ec (fun z => nomatch z)) (not_cons (neO erd el (fun z => nomatch z)) fun z => far hrd _ (memL z) rfl)))
        · have ma : a ∈ [p, hl] ++ av := ma
          rcases List.mem_cons.mp mF with e | mF
          · exact far nt a (memR ma) e
          rcases List.mem_cons.mp mF with e | mF
          · exact far ho a (memR ma) e
          rcases List.mem_cons.mp mF with e | mF
          · exact far hcc a (memR ma) e
          rcases List.mem_cons.mp mF with e | mF
          · exact far hll a (memR ma) e
          rcases List.mem_cons.mp mF with e | mF
          · exact far hhd a (memR ma) e
          rcases List.mem_cons.mp mF with e | mF
          · exact far hrd a (memR ma) e
          rcases List.mem_cons.mp mF with e | mF
          · exact far hod a (memR ma) e
          · rcases List.mem_cons.mp ma with e | ma
            · exact so3.1.fr (fuv a mF) (by rw [e]; exact memA)
            rcases List.mem_cons.mp ma with e | ma
            · exact nhu a mF e
            · exact so3.1.fr (fuv a mF) (memB ma)
        · have z : p = hl := z
          exact so3.1.fr fhl (by rw [← z]; exact memA)
        · have ma : a ∈ [p, hl] := ma
          rcases List.mem_cons.mp ma with rfl | ma
          · exact f_p z
          · rw [List.mem_singleton.mp ma] at z
            exact so3.1.fr fhl (memB z)
      obtain ⟨x, hx⟩ : ∃ x : LX, x = ⟨u, dp, dc, m, fp, cp, fo, co, fa, ca, cp', co', ca', W⟩ := ⟨_, rfl⟩
      obtain ⟨fx, hfx⟩ : ∃ fx : FX, fx = ⟨t, o, c, l, p, hl⟩ := ⟨_, rfl⟩
      rw [← hx, ← hfx] at k0
      have exu : u = x.s := by rw [hx]
      have exW : W = x.W := by rw [hx]
      have ext : t = fx.t := by rw [hfx]
      have exp : p = fx.p := by rw [hfx]
      have exh : hl = fx.hl := by rw [hfx]
      have ecp2 : x.cp' = cloFrom (cxOf CX0 P w K mg base n_law "law" (defScope s_law) f (Value.ref T.c_law) A_ outer s H E).env.cells (LP [] 0).scope.names [] := by rw [hx]; exact ecp
      have eco2 : x.co' = cloFrom (cxOf CX0 P w K mg base n_law "law" (defScope s_law) f (Value.ref T.c_law) A_ outer s H E).env.cells (LO [] 0).scope.names [] := by rw [hx]; exact eco
      have eca2 : x.ca' = cloFrom (cxOf CX0 P w K mg base n_law "law" (defScope s_law) f (Value.ref T.c_law) A_ outer s H E).env.cells (LA [] 0).scope.names [] := by rw [hx]; exact eca
      rw [exu, exW, ext, exp, exh]
      clear hx hfx r0 c3 far up12 s1012 un10 b10 ehl10 ez10 so7 nol k710 n710 c8 d8 c9 d9 hf10 hc10 un7 b7 ez7 ehl t7 so3 nhu fuv fhl ez3 t3 b3 eb3 et eo ec el eod ehd erd s37 s35 s57 ecp eco eca k12 s11 et11 tabF ho hcc hll hod hhd hrd nto ntc fo4 fc4 fl4 fod4 fhd4 frd4 tb8 tb9 tb10 n8 n9 n10 nf8 nf9 nf10 nt ndxr nxt ez2 t2 ez1 t1 s1 np f_p
      -- the turns
      have hWx : x.W ≤ 10000 := by omega
      have hW2 : ((x.W : Int)).natAbs < 2 ^ 200 := by omega
      refine ⟨_, rfl, fx.p, 51, rfl, k0.bg, by decide, by omega, fun rt Ht rt0 rt1 bt kt => ⟨_, _, rfl, rfl, _, rfl, by omega, by omega, ?_⟩⟩
      have kt0 := k0.take kitC kt bt
      refine for_range (n := ((10 : Int) + rt).toNat) (fun turn σ H' => ∃ (rd : Int) (y11 y12 y13 y14 y15 y16 : Option V), ∃ (F : List Addr) (y : PX) (v : VS) (A R : Nat), σ = [some (.ref a0), some (.int (0 + (i : Int))), some (.ref fx.p), some (.int (x.W : Int)), some (.int sp), some (.int rd), some (.ref x.s), some (.ref fx.hl), some (.int (A : Int)), some (.int (R : Int)), some (.ref fx.t), y11, y12, y13, y14, y15, y16] ∧ K1 T (RC T.C_Unions x y) x y Hz av fx F v H' ∧ RelB v turn A R ∧ v.L = v.M ∧ y.n = v.given ∧ y.qs = []) ⟨_, _, _, _, _, _, _, _, _, _, 0, 0, rfl, kt0, RelB.nil rfl rfl rfl rfl, rfl, rfl, rfl⟩ ?_ ?_
      · clear k0 kt0 kt bt
        rintro turn σ H' hturn ⟨rd, y11, y12, y13, y14, y15, y16, F, y, v, A, R, rfl, k, rl, hLM, hyn, hqs⟩
        have htu : turn ≤ 60 := by omega
        refine pGN ?_
        simp only [List.set_cons_succ, List.set_cons_zero]
        -- the road
        refine mid_seq (fun σ' H' => ∃ (rd : Int), σ' = [some (.ref a0), some (.int (0 + (i : Int))), some (.ref fx.p), some (.int (x.W : Int)), some (.int sp), some (.int rd), some (.ref x.s), some (.ref fx.hl), some (.int (A : Int)), some (.int (R : Int)), some (.ref fx.t), some (.int (0 + (turn : Int))), y12, y13, y14, y15, y16] ∧ K1 T (RC T.C_Unions x y) x y Hz av fx F v H') (fun N hN' => ?_) ?_
        · refine pIf (pTest (pOp ⟨_, rfl, fx.p, 6, rfl, k.bg, by decide, by omega, fun rr H1 _ _ b1 kk1 => ⟨rfl, _, rfl, ?_⟩⟩))
          have k1 := k.take kitC kk1 b1
          by_cases hc : V.int rr = V.int 0
          · refine ifT (decide_eq_true hc) (pAsg ⟨_, rfl, fx.p, 3, rfl, k1.bg, by decide, by omega, fun r2 H2 _ _ b2 kk2 => pGN ?_⟩)
            simp only [List.set_cons_succ, List.set_cons_zero]
            exact hN' _ _ ⟨r2, rfl, k1.take kitC kk2 b2⟩
          · exact ifF (decide_eq_false hc) (pNx (hN' _ _ ⟨rd, rfl, k1⟩))
        clear k
        rintro σ' H1 ⟨rd, rfl, k1⟩
        have hgv : v.given ≤ 70 := by
          have := rl.gv
          have := rl.at_
          omega
        have hml : v.M.length ≤ 70 := by
          have := rl.am
          have := rl.at_
          omega
        have htl := rl.tl
        have hMy : ∀ j ∈ v.M, j < y.n := fun j mj => by
          rw [hyn]
          exact rl.lt j mj
        -- the deed
        refine mid_seq (fun σ' H' => ∃ (y12 y13 y14 y15 y16 : Option V), ∃ (F : List Addr) (y : PX) (v : VS) (A R : Nat), σ' = [some (.ref a0), some (.int (0 + (i : Int))), some (.ref fx.p), some (.int (x.W : Int)), some (.int sp), some (.int rd), some (.ref x.s), some (.ref fx.hl), some (.int (A : Int)), some (.int (R : Int)), some (.ref fx.t), some (.int (0 + (turn : Int))), y12, y13, y14, y15, y16] ∧ K1 T (RC T.C_Unions x y) x y Hz av fx F v H' ∧ (∀ as : List V, as.length = 3 → RelB { v with tr := v.tr ++ as.map Ca.ask } (turn + 1) A R) ∧ v.L = v.M ∧ y.n = v.given ∧ y.qs = [] ∧ v.M.length ≤ 100 ∧ v.tr.length ≤ 50000) (fun N hN' => ?_) ?_
        · refine if_by2 (fun b H' => K1 T (RC T.C_Unions x y) x y Hz av fx F v H' ∧ (b = false → v.M ≠ [])) (fun Q hQ => ?_) (fun H4 h4 => ?_) (fun H4 h4 => ?_)
          · refine pOr (pTest (pOp ⟨_, rfl, _, _, rfl, rfl, _, rfl, ?_⟩))
            by_cases hc : rd < 2
            · exact ifT (decide_eq_true hc) (hQ true _ ⟨k1, fun z => nomatch z⟩)
            · refine ifF (decide_eq_false hc) (pTest (pOp ⟨_, rfl, Nat.zero_le _, fun q1 nq1 => ?_⟩))
              have k2 := k1.same kitC (same_newF (o := .lst []) (Fr.mk nq1))
              obtain ⟨xs, exs, tl⟩ := k2.hd
              refine ⟨fx.hl, q1, xs, rfl, rfl, sqlOf exs, sqlOf upd_same, _, rfl, hQ _ _ ⟨k2, fun z w => ?_⟩⟩
              have h1 := tl.len
              unfold heldL at h1
              rw [List.length_map, hLM, w] at h1
              have h1 : xs = [] := List.length_eq_zero_iff.mp h1
              rw [h1] at z
              cases z
          · obtain ⟨k4, _⟩ := h4
            have hLn : ∀ j ∈ v.L, j < v.given := fun j mj => rl.lt j (by rw [← hLM]; exact mj)
            refine pSeq ⟨_, rfl, _, rfl, fx.p, (x.W : Int), rfl, k4.bg, by omega, hW2, fun a H5 ha0 ha1 b5 kk5 => ⟨_, rfl, _, rfl, fx.p, (x.W : Int), rfl, b5, by omega, hW2, fun b H6 hb0 hb1 b6 kk6 => ⟨le2, fun q0 nq0 => ⟨_, rfl, _, rfl, fx.p, sp, rfl, bag_kpR (kp_same (cs := []) (same_newF (Fr.mk nq0))) not_nil b6, hsp1, hsp3, fun r3 H7 hr3 hr4 b7 kk7 => ⟨_, rfl, _, _, rfl, rfl, ⟨by decide, by decide⟩, _, _, rfl, rfl, _, _, rfl, ?_⟩⟩⟩⟩⟩
            simp only [List.set_cons_succ, List.set_cons_zero]
            obtain ⟨an, rfl⟩ : ∃ an : Nat, a = (an : Int) := ⟨a.toNat, by omega⟩
            obtain ⟨bn, rfl⟩ : ∃ bn : Nat, b = (bn : Int) := ⟨b.toNat, by omega⟩
            have k5 := k4.take kitC kk5 b5
            have k6 := k5.take kitC kk6 b6
            have s67 := same_newF (o := .tup [.int (an : Int), .int (bn : Int)]) (Fr.mk nq0)
            have k6' := k6.same kitC s67
            have eq7 := kp_tup kk7 (bag_mu k6'.bg) (upd_same (H := H6) (a := q0) (o := .tup [.int (an : Int), .int (bn : Int)]))
            have k7 := k6'.take kitC kk7 b7
            generalize hwt : r3 - sp / 2 = wt
            have k8 := k7.more (q := q0) (p := (an, bn)) eq7 (by show an < x.W; omega) (by show bn < x.W; omega) hMy (fun j mj => hMy j (by rw [← hLM]; exact mj)) (fun j mj => hMy j (rl.pm.mem_iff.mp mj))
            have hq0 : (y.more q0 (an, bn)).pa v.given = q0 := if_pos hyn.symm
            have hyn2 : (y.more q0 (an, bn)).n = v.given + 1 := congrArg (· + 1) hyn
            have hqs2 : (y.more q0 (an, bn)).qs = [] := hqs
            generalize y.more q0 (an, bn) = yq at k8 hq0 hyn2 hqs2
            clear k4 k5 k6 k6' k7 kk5 kk6 kk7 b5 b6 b7 s67
            -- the addition
            obtain ⟨dxr, hd8, rd8, eo8⟩ := k8.obj
            refine pSeq (pIf (pTest (pOp ⟨_, rfl, fx.t, dxr, _, rfl, eo8, rfl, _, rfl, _, rfl, rfl, rfl, fun cT HT tel => ?_⟩)))
            have l3 : L3 x HT := ⟨tel.lclo (F := LP x.cp' x.cp) (js := [6]) (ws := [.ref x.s]) scP ecp2 cellN rfl rfl k8.r.1.p.1 k8.r.1.p.2, tel.lclo (F := LO x.co' x.co) (js := [6]) (ws := [.ref x.s]) scO eco2 cellN rfl rfl k8.r.1.o.1 k8.r.1.o.2, tel.lclo (F := LA x.ca' x.ca) (js := [6]) (ws := [.ref x.s]) scA eca2 cellN rfl rfl k8.r.1.a.1 k8.r.1.a.2⟩
            have kT := k8.tell tel.same l3
            refine K1.add kT hq0 hWx (by omega) hLn (by omega) (by omega) fun H9 F9 kk9 k9 => ?_
            have mT : Mu HT (T.p_precedence :: F) := mu_app (mu_tabs kT.tb ⟨_, hm_precedence T, rfl⟩) (kT.solF kitF).1
            obtain ⟨t1, t3⟩ := tel_kp tel kk9 mT
            have cv := cv_tel tel t1
            have kb := k9.back k8.r.1 tel.no cv (tabs_cut tel t1 k9.tb) (fun a ma => by
              obtain ⟨o, h, _⟩ := sav.1 a ma
              rw [Inf.cut_out fun m => by rw [k8.ez a ma |>.symm.trans (tel.no a m)] at h; cases h]
              exact k9.ez a ma)
            refine ⟨t1, _, rfl, rfl, _, rfl, ifF ?_ (pNx ?_)⟩
            · rw [rl.gv, decide_eq_true rfl]
              rfl
            dsimp only []
            generalize cut cT H9 = H10 at kb ⊢
            clear k9 kT mT t1 t3 cv l3 tel kk9 k8 eo8
            -- the law's own list
            obtain ⟨xs, exs, tl⟩ := kb.hd
            have hxl := tl.len
            unfold heldL at hxl
            rw [List.length_map] at hxl
            have hvL : v.L.length ≤ 70 := by
              rw [hLM]
              exact hml
            have hxl2 : xs.length = v.L.length := hxl
            refine pSeq ⟨_, rfl, .inl ⟨rfl, _, sqlOf exs⟩, _, rfl, _, rfl, _, rfl, le3, fun p1 np1 => ?_⟩
            have s11 := same_newF (o := .tup [.int wt, .int (A : Int), .ref q0]) (Fr.mk np1)
            have kc := kb.same kitC s11
            refine ⟨fx.hl, _, _, rfl, rfl, s11 _ _ exs, by rw [sizeLine_eq]; omega, ?_⟩
            have hrow : heldL yq { v.add (.ref q0) wt with L := v.L ++ [v.given] } = heldL yq (v.add (.ref q0) wt) ++ [[V.int wt, V.int (A : Int), V.ref q0]] := by
              unfold heldL
              show (v.L ++ [v.given]).map _ = v.L.map _ ++ _
              rw [List.map_append]
              congr 1
              show [[V.int (if v.given = v.given then wt else v.rk v.given), V.int (v.given : Int), V.ref (yq.pa v.given)]] = _
              rw [if_pos rfl, hq0, rl.gv]
            have kd := kc.setL kitC (ys := xs ++ [.ref p1]) (L := v.L ++ [v.given]) (by
              rw [hrow]
              exact (tl.kp (cs := []) (kp_same s11) mu_nil).add upd_same)
            dsimp only []
            generalize upd (upd H10 p1 (.tup [.int wt, .int (A : Int), .ref q0])) fx.hl (.lst (xs ++ [.ref p1])) = H12 at kd ⊢
            refine pAsg ⟨_, rfl, _, _, rfl, rfl, pGN ?_⟩
            simp only [List.set_cons_succ, List.set_cons_zero]
            refine hN' _ _ ⟨_, _, _, _, _, F9, yq, { v.add (.ref q0) wt with L := v.L ++ [v.given] }, A + 1, R, rfl, kd, fun as has => RelB.setL (rl.add has), by show v.L ++ [v.given] = v.M ++ [v.given]; rw [hLM], hyn2, hqs2, ?_, ?_⟩
            · show (v.M ++ [v.given]).length ≤ 100
              rw [List.length_append]
              show v.M.length + 1 ≤ 100
              omega
            · show (v.tr ++ [Ca.push v.given (.ref q0)]).length ≤ 50000
              rw [List.length_append]
              show v.tr.length + 1 ≤ 50000
              omega
          · obtain ⟨k4, hA⟩ := h4
            have hne := hA rfl
            have hvL : v.L.length ≤ 70 := by
              rw [hLM]
              exact hml
            have hnd : v.M.Nodup := rl.srt.imp fun {a b} z => Nat.ne_of_lt z
            obtain ⟨j, N0, ep⟩ : ∃ j N0, precN v.rk v.M = j :: N0 := by
              cases h : precN v.rk v.M with
              | nil =>
                have := (prec_perm (rk := v.rk) (M := v.M)).length_eq
                rw [h] at this
                exact absurd (List.length_eq_zero_iff.mp this.symm) hne
              | cons a l => exact ⟨a, l, rfl⟩
            obtain ⟨hjM, hjall⟩ := prec_first ep
            have hjL : j ∈ v.L := by
              rw [hLM]
              exact hjM
            obtain ⟨xs, exs, tl⟩ := k4.hd
            -- the greatest rank
            refine pSeq (pAsg ?_)
            dsimp only [tCB, tCons, tNil]
            refine lc_w (K := K) exs tl (by omega) fun r1 H5 f1 s5 e5 => ⟨r1, v.L.map v.rk, rfl, sqlOf e5, by rw [List.length_map]; exact List.length_pos_of_mem hjL, fun g hg1 hg2 => pGN ?_⟩
            simp only [List.set_cons_succ, List.set_cons_zero]
            have hgj : g = v.rk j := by
              obtain ⟨j2, hj2, rfl⟩ := List.mem_map.mp hg1
              have h1 := hg2 (v.rk j) (List.mem_map.mpr ⟨j, hjL, rfl⟩)
              rw [hLM] at hj2
              rcases hjall j2 hj2 with h | h
              · omega
              · exact h.1
            subst hgj
            -- the first of them
            have k5 := k4.same kitC s5
            refine pSeq (pAsg (pOp (lc_f (K := K) (s5 _ _ exs) (tl.kp (cs := []) (kp_same s5) mu_nil) (by omega) fun r2 zs H6 f2 s6 e6 tz => ?_)))
            obtain ⟨lf, hlf⟩ : ∃ lf, (v.L.filter fun i => decide (v.rk i = v.rk j)) = j :: lf := by
              rw [hLM]
              refine fil_head rl.srt hjM (decide_eq_true rfl) fun j2 hj2 he => ?_
              have he := of_decide_eq_true he
              rcases hjall j2 hj2 with h | h
              · omega
              · exact h.2
            rw [hlf] at tz
            obtain ⟨p0, hz0, ep0⟩ : ∃ p0, zs[0]? = some (V.ref p0) ∧ H6 p0 = some (.tup [V.int (v.rk j), V.int (j : Int), V.ref (y.pa j)]) := by
              have h1 := tz.len
              rw [List.map_cons, List.length_cons] at h1
              obtain ⟨z0, hz⟩ : ∃ z0, zs[0]? = some z0 := ⟨_, List.getElem?_eq_getElem (by omega)⟩
              obtain ⟨p0, rfl, e⟩ := tz.at_ 0 z0 _ hz rfl
              exact ⟨p0, hz, e⟩
            refine ⟨r2, zs, 0, .ref p0, rfl, rfl, sqlOf e6, atI_nat (j := 0) hz0, pGN ?_⟩
            simp only [List.set_cons_succ, List.set_cons_zero]
            have k6 := k5.same kitC s6
            clear k4 k5 s5 s6 e5 e6 tz hz0 exs tl f1 f2 hg1 hg2
            -- first and remove_first name it
            obtain ⟨dxr, hd6, rd6, eo6⟩ := k6.obj
            refine pSeq (pIf (pOr (pTest (pOp ⟨_, rfl, fx.t, dxr, _, rfl, eo6, rfl, ?_⟩))))
            dsimp only [tNil, List.map, List.cons_append, List.nil_append]
            refine K1.fst k6 kitC hne (by omega) fun j1 N1 H7 ep1 kk7 k7 => ?_
            have ej1 : j1 = j := by
              rw [ep] at ep1
              exact (List.cons.inj ep1).1.symm
            have ep7 := kp_tup kk7 (mu_tabs k6.tb ⟨_, hm_precedence T, rfl⟩) ep0
            refine ⟨_, rfl, p0, _, 1, _, rfl, rfl, sqtOf ep7, atI_nat (j := 1) rfl, rfl, _, rfl, ifF ?_ ?_⟩
            · rw [ej1, decide_eq_true rfl]
              rfl
            clear ep1 ej1 k6 kk7 ep0 eo6
            obtain ⟨dxr7, hd7, rd7, eo7⟩ := k7.obj
            refine pTest (pOp ⟨_, rfl, fx.t, dxr7, _, rfl, eo7, rfl, fun cT HT tel => ?_⟩)
            have l3 : L3 x HT := ⟨tel.lclo (F := LP x.cp' x.cp) (js := [6]) (ws := [.ref x.s]) scP ecp2 cellN rfl rfl k7.r.1.p.1 k7.r.1.p.2, tel.lclo (F := LO x.co' x.co) (js := [6]) (ws := [.ref x.s]) scO eco2 cellN rfl rfl k7.r.1.o.1 k7.r.1.o.2, tel.lclo (F := LA x.ca' x.ca) (js := [6]) (ws := [.ref x.s]) scA eca2 cellN rfl rfl k7.r.1.a.1 k7.r.1.a.2⟩
            have kT := k7.tell tel.same l3
            refine K1.rmv kT hWx hne (by omega) fun j2 N2 H8 F8 ep2 kk8 k8 => ?_
            have ej2 : j2 = j := by
              rw [ep] at ep2
              exact (List.cons.inj ep2).1.symm
            subst ej2
            have mT : Mu HT (T.p_precedence :: F) := mu_app (mu_tabs kT.tb ⟨_, hm_precedence T, rfl⟩) (kT.solF kitF).1
            obtain ⟨t1, t3⟩ := tel_kp tel kk8 mT
            have cv := cv_tel tel t1
            have kb := k8.back k7.r.1 tel.no cv (tabs_cut tel t1 k8.tb) (fun a ma => by
              obtain ⟨o, h, _⟩ := sav.1 a ma
              rw [Inf.cut_out fun m => by rw [k7.ez a ma |>.symm.trans (tel.no a m)] at h; cases h]
              exact k8.ez a ma)
            have ep9 := cv _ _ (kp_tup kk8 mT (tel.same _ _ ep7)) (fun _ z => nomatch z)
            refine ⟨t1, _, rfl, p0, _, 1, _, rfl, rfl, sqtOf ep9, atI_nat (j := 1) rfl, rfl, _, rfl, ifF ?_ (pNx ?_)⟩
            · rw [decide_eq_true rfl]
              rfl
            dsimp only []
            generalize cut cT H8 = H9 at kb ep9 ⊢
            clear k8 kT mT t1 t3 cv l3 tel kk8 k7 eo7 ep7
            -- the law's own list
            obtain ⟨xs, exs, tl⟩ := kb.hd
            obtain ⟨idx, hidx⟩ : ∃ idx, v.L[idx]? = some j2 := List.mem_iff_getElem?.mp hjL
            have hndL : v.L.Nodup := by
              rw [hLM]
              exact hnd
            have hms : ∀ i ∈ v.L, H9 (y.pa i) = some (.tup (tupP (y.pr i))) := fun i mi => (kb.r.2.ms i (hMy i (by rw [← hLM]; exact mi))).1
            refine pSeq ⟨_, rfl, .inl ⟨rfl, _, sqlOf exs⟩, _, rfl, fx.hl, xs, .ref p0, _, rowD y v j2, idx, rfl, rfl, exs, dp_rows (v := v) tl hms, .tup (sqtOf ep9) (.cons (.int _) (.cons (.int _) (.cons (.tup (sqtOf (hms j2 hjL)) (.cons (.int _) (.cons (.int _) .nil))) .nil))), plain_rows, rfl, (show PyData.depth (rowD y v j2) ≤ 60 by simp [rowD, PyData.depth, PyData.depthAll]), find_row hndL hidx, ?_⟩
            have kd := kb.setL kitC (ys := xs.eraseIdx idx) (L := v.L.filter fun i => decide (i ≠ j2)) (by
              have e : heldL y { v.rmv y j2 with L := v.L.filter fun i => decide (i ≠ j2) } = (heldL y (v.rmv y j2)).eraseIdx idx := by
                unfold heldL
                rw [erase_map]
                show (v.L.filter fun i => decide (i ≠ j2)).map _ = (v.L.eraseIdx idx).map _
                rw [erase_fil hndL hidx]
              rw [e]
              exact tl.erase)
            dsimp only []
            generalize upd H9 fx.hl (.lst (xs.eraseIdx idx)) = H10 at kd ⊢
            refine pAsg ⟨_, rfl, _, _, rfl, rfl, pGN ?_⟩
            simp only [List.set_cons_succ, List.set_cons_zero]
            have hfl := List.length_filter_le (fun i => decide (i ≠ j2)) v.M
            obtain ⟨pl1, pl2⟩ := plan_len (rk := v.rk) (rem := v.rem) hnd rl.pm hne
            refine hN' _ _ ⟨_, _, _, _, _, F8, y, { v.rmv y j2 with L := v.L.filter fun i => decide (i ≠ j2) }, A, R + 1, rfl, kd, fun as has => RelB.setL (rl.rmv (by omega) ep has), by show (v.L.filter _) = v.M.filter _; rw [hLM], hyn, hqs, ?_, ?_⟩
            · show (v.M.filter fun i => decide (i ≠ j2)).length ≤ 100
              omega
            · show (v.tr ++ (planR v.rk v.rem v.M (stC [] v.tr)).map (caOf (mbP y))).length ≤ 50000
              rw [List.length_append, List.length_map]
              omega
        · clear k1 rl hLM hyn hqs hgv hml htl hMy
          rintro σ' H2 ⟨y12, y13, y14, y15, y16, F, y, v, A, R, rfl, k, rl, hLM, hyn, hqs, hml, htl⟩
          -- the answers are right
          refine pSeq (pIf ⟨_, rfl, _, rfl, _, rfl, _, rfl, fun cT HT tel => ?_⟩)
          have l3 : L3 x HT := ⟨tel.lclo (F := LP x.cp' x.cp) (js := [6]) (ws := [.ref x.s]) scP ecp2 cellN rfl rfl k.r.1.p.1 k.r.1.p.2, tel.lclo (F := LO x.co' x.co) (js := [6]) (ws := [.ref x.s]) scO eco2 cellN rfl rfl k.r.1.o.1 k.r.1.o.2, tel.lclo (F := LA x.ca' x.ca) (js := [6]) (ws := [.ref x.s]) scA eca2 cellN rfl rfl k.r.1.a.1 k.r.1.a.2⟩
          have kT := k.tell tel.same l3
          refine ⟨x, y, Hz, av, fx, F, v, rfl, kT, hqs, by omega, by omega, hml, htl, by omega, hLM, fun H3 F3 as has ek k3 => ?_⟩
          have t1 : ∀ b, b ∈ cT → H3 b = HT b := fun b hb => by
            obtain ⟨φ, e⟩ := tel.ext b hb
            rw [e]
            exact ek b φ e
          have kb := k3.back k.r.1 tel.no (cv_tel tel t1) (tabs_cut tel t1 k3.tb) (fun a ma => by
            obtain ⟨o, h, _⟩ := sav.1 a ma
            rw [Inf.cut_out fun m => by rw [k.ez a ma |>.symm.trans (tel.no a m)] at h; cases h]
            exact k3.ez a ma)
          refine ⟨t1, true, rfl, ifF rfl (pNx ?_)⟩
          dsimp only []
          have rl2 := rl as has
          generalize cut cT H3 = H4 at kb ⊢
          have hLM2 : VS.L { v with tr := v.tr ++ as.map Ca.ask } = VS.M { v with tr := v.tr ++ as.map Ca.ask } := hLM
          have hyn2 : y.n = VS.given { v with tr := v.tr ++ as.map Ca.ask } := hyn
          generalize ({ v with tr := v.tr ++ as.map Ca.ask } : VS) = v2 at kb rl2 hLM2 hyn2
          clear k3 kT t1 l3 tel k rl hLM hyn hml htl ek
          -- the bound
          obtain ⟨dxr, hd4, rd4, eo4⟩ := kb.obj
          refine pIf ⟨_, rfl, fx.t, dxr, _, rfl, eo4, rfl, ?_⟩
          dsimp only [tNil, List.map, List.cons_append, List.nil_append]
          refine K1.log kb kitC fun lg es H5 s5 fr5 er5 lg5 k5 => ?_
          obtain ⟨xs, exs, tl⟩ := k5.hd
          have hxl : xs.length = v2.M.length := by
            have := tl.len
            unfold heldL at this
            rw [List.length_map, hLM2] at this
            exact this
          obtain ⟨a2, bd2⟩ := rl2.bd
          have h1 := rl2.at_
          have h2 := rl2.tl
          refine ⟨_, rfl, _, rfl, _, rfl, fx.hl, xs, rfl, .inl (sqlOf exs), lg, es, v2.tr, A, R, v2.M.length, by rw [hxl]; rfl, er5, lg5, by omega, by omega, by omega, rl2.pu, bd2.le, fun hR => by subst hR; exact bd2.none, fun H6 s6 => ⟨true, rfl, ifF rfl (pNx ?_)⟩⟩
          exact ⟨_, _, _, _, _, _, _, F3, y, v2, A, R, rfl, k5.same kitC s6, rl2, hLM2, hyn2, hqs⟩
      · rintro σ H3 ⟨rd, y11, y12, y13, y14, y15, y16, F, y, v, A, R, rfl, k, _⟩
        exact ⟨_, _, _, _, _, _, _, _, _, _, _, _, _, _, _, _, rfl, k.tb, eav _ k.ez⟩
    · rintro σ H3 ⟨y1, y2, y3, y4, y5, y6, y7, y8, y9, y10, y11, y12, y13, y14, y15, y16, rfl, tz, sz⟩
      exact q H3
end
end Ob

set_option Elab.async false
set_option linter.all false
set_option maxRecDepth 100000
set_option maxHeartbeats 1000000
namespace Ob
open PySem PySem.Spec PyProof.Rows L2
open LamX (Tabs TabB TabS ExtN)

set_option hygiene false in
local macro_rules
  | `(tactic| kp_flats) => `(tactic| first
    | assumption
    | exact upd_same
    | (apply atNew; assumption; kp_flats)
    | (apply atNe; (next => kbo_bools); kp_flats)
    | (apply atSame; assumption; kp_flats)
    | (apply atKp; assumption; (next => kaf_pre); kp_flats))
set_option hygiene false in
local macro_rules
  | `(tactic| kaf_pre) => `(tactic| first
    | assumption
    | exact not_nil
    | (apply not_cons; (next => kbo_bools); kaf_pre)
    | (apply not_app; (next => kaf_pre); kaf_pre))
set_option hygiene false in
local macro_rules
  | `(tactic| kbo_bools) => `(tactic| first
    | assumption
    | (apply Ne.symm; assumption)
    | (apply neN; assumption; kp_flats)
    | (apply neN'; assumption; kp_flats))
set_option hygiene false in
local macro_rules
  | `(tactic| o_reads) => `(tactic| first
    | with_reducible rfl
    | assumption
    | rfl
    | kp_flats
    | (show SqL _ _ _ _; first | assumption | (apply sqlOf; kp_flats) | (apply sqlSame; assumption; o_reads))
    | (show SqT _ _ _ _; first | assumption | (apply sqtOf; kp_flats) | (apply sqtAll; assumption) | (apply sqtSame; assumption; o_reads))
    | (show Cls _ _; first | exact T.cl_Calls | exact T.cl_Outer | exact T.cl_Ranked | exact T.cl_Unions)
    | (show NoAttr _ _ _; first | exact T.n_Calls_entries | exact T.n_Calls_running | exact T.n_Outer_calls | exact T.n_Outer_push_call | exact T.n_Outer_pop_call | exact T.n_Outer_ask_call | exact T.n_Outer_order | exact T.n_Outer_broken | exact T.n_Ranked_outer | exact T.n_Ranked_given | exact T.n_Ranked_held | exact T.n_Ranked_ranks | exact T.n_Ranked_removals | exact T.n_Unions_groups | exact T.n_Unions_parents | exact T.n_Unions_counts | exact T.n_Unions_moved)
    | (apply Or.inl; o_reads)
    | (apply Or.inr; o_reads)
    | (apply And.intro; (next => o_reads); o_reads)
    | (apply Exists.intro; o_reads)
    | exact Nat.le_of_ble_eq_true rfl
    | exact Nat.succ_ne_zero _
    | (show Fr _ _; kba_ints)
    | (show Same _ _; kd_subs)
    | (show Kp _ _ _; kxs_still)
    | (show (_ : Nat) ≤ _; simp only [List.length_append, List.length_map, List.length_cons, List.length_nil, List.length_take, List.length_drop, List.length_replicate, List.length_range, sizeLine_eq]; omega)
    | (show _ = none; apply Fr.h; kba_ints)
    | (show Bag _ _; first | assumption | (apply bag_putF; assumption; o_reads) | (apply bag_neF; (next => kbo_bools); o_reads) | (apply bag_kpR; assumption; (next => kaf_pre); o_reads))
    | omega
    | decide)
local macro_rules
  | `(tactic| o_readsAll) => `(tactic| repeat (first
    | (refine fun (pNew : Addr) (nNew : _ = none) => ?_; replace nNew := Fr.mk nNew)
    | (refine fun (xNew dNew : Addr) (nNew : _ = none) (mNew : _ = none) (eNew : dNew ≠ xNew) => ?_; replace nNew := Fr.mk nNew; replace mNew := Fr.mk mNew)
    | (apply And.intro; next => o_reads)
    | apply Exists.intro (α := V)
    | apply Exists.intro (α := Addr)
    | apply Exists.intro (α := Int)
    | apply Exists.intro (α := Bool)
    | apply Exists.intro (α := List V)
    | apply Exists.intro (α := List Nat)
    | apply Exists.intro (α := List (Str × V))
    | apply Exists.intro (α := List _)
    | apply Exists.intro (α := Str)
    | apply Exists.intro (α := HO)
    | apply Exists.intro (α := Sp)
    | apply Exists.intro (α := VK)))
set_option hygiene false in
local macro_rules
  | `(tactic| kba_ints) => `(tactic| first
    | assumption
    | (apply frUp; (first | assumption | (apply Ne.symm; assumption)); kba_ints)
    | (apply noneOf; assumption; intro oF eF; apply Exists.intro; kp_flats)
    | (apply frUp; (next => kbo_bools); kba_ints))
set_option hygiene false in
local macro_rules
  | `(tactic| kxs_still) => `(tactic| first
    | assumption
    | exact kp_refl _ _
    | (apply kp_newF; assumption; kxs_still)
    | (apply kp_new; assumption; kxs_still)
    | (apply kp_up; (next => o_fieldsN); kxs_still)
    | (apply kp_new; (next => kba_ints); kxs_still)
    | (apply kp_sameR; assumption; kxs_still)
    | (apply kp_transR; assumption; kxs_still)
    | (apply kp_freshR; assumption; (next => kaf_suf); kxs_still))
set_option hygiene false in
local macro_rules
  | `(tactic| kaf_suf) => `(tactic| first
    | assumption
    | exact subNil
    | (apply subCons; (first | (apply Or.inl; o_fieldsN) | (apply Or.inr; kba_ints)); kaf_suf)
    | (apply subApp; (next => kaf_suf); kaf_suf))
set_option hygiene false in
local macro_rules
  | `(tactic| o_fieldsN) => `(tactic| first
    | assumption
    | exact memA
    | (apply memB; o_fieldsN)
    | (apply memL; o_fieldsN)
    | (apply memR; o_fieldsN))
set_option hygiene false in
local macro_rules
  | `(tactic| kd_subs) => `(tactic| first
    | assumption
    | exact Same.refl _
    | (apply same_putF; assumption; kd_subs)
    | (apply same_putG; assumption; kd_subs)
    | (apply same_putF; (next => kba_ints); kd_subs)
    | (apply same_transR; assumption; kd_subs))

open NdefX (TabsN)
set_option pp.maxSteps 700
theorem all_mk {QQ : Program} {l : PySem.W.OpenLaw} {w : World} {K : PySem.W.Frag} {h : Heap} {mg : Str → Option Value} {fa : Addr} (X : K.In h) (G : h.Ns mainGlobals mg) (hfa : mg "law" = some (.ref fa)) (tt : Inf.TopTabs QQ K mg h)
    {C_Calls : Addr} {C_Outer : Addr} {C_Ranked : Addr} {C_Unions : Addr} {a0 : Addr} {oc0 kV0 dc0 pm0 ct0 : Value} {od0 an0 : Option Addr} {sl0 : Array (Option Value)} {cd0 : Value} {a1 : Addr} {oc1 kV1 dc1 pm1 ct1 : Value} {od1 an1 : Option Addr} {sl1 : Array (Option Value)} {cd1 : Value} {a2 : Addr} {oc2 kV2 dc2 pm2 ct2 : Value} {od2 an2 : Option Addr} {sl2 : Array (Option Value)} {cd2 : Value} {a3 : Addr} {oc3 kV3 dc3 pm3 ct3 : Value} {od3 an3 : Option Addr} {sl3 : Array (Option Value)} {cd3 : Value} {a4 : Addr} {oc4 kV4 dc4 pm4 ct4 : Value} {od4 an4 : Option Addr} {sl4 : Array (Option Value)} {cd4 : Value} {a5 : Addr} {oc5 kV5 dc5 pm5 ct5 : Value} {od5 an5 : Option Addr} {sl5 : Array (Option Value)} {cd5 : Value} {a6 : Addr} {oc6 kV6 dc6 pm6 ct6 : Value} {od6 an6 : Option Addr} {sl6 : Array (Option Value)} {cd6 : Value} {a7 : Addr} {oc7 kV7 dc7 pm7 ct7 : Value} {od7 an7 : Option Addr} {sl7 : Array (Option Value)} {cd7 : Value} {a8 : Addr} {oc8 kV8 dc8 pm8 ct8 : Value} {od8 an8 : Option Addr} {sl8 : Array (Option Value)} {cd8 : Value} {a9 : Addr} {kd9 : Addr} {oc9 dc9 pm9 ct9 : Value} {od9 an9 : Option Addr} {sl9 : Array (Option Value)} {cd9 : Value} {kt9_0 : Tok} {a10 : Addr} {oc10 kV10 dc10 pm10 ct10 : Value} {od10 an10 : Option Addr} {sl10 : Array (Option Value)} {cd10 : Value} {a11 : Addr} {oc11 kV11 dc11 pm11 ct11 : Value} {od11 an11 : Option Addr} {sl11 : Array (Option Value)} {cd11 : Value} {a12 : Addr} {oc12 kV12 dc12 pm12 ct12 : Value} {od12 an12 : Option Addr} {sl12 : Array (Option Value)} {cd12 : Value} {a13 : Addr} {oc13 kV13 dc13 pm13 ct13 : Value} {od13 an13 : Option Addr} {sl13 : Array (Option Value)} {cd13 : Value} {a14 : Addr} {oc14 kV14 dc14 pm14 ct14 : Value} {od14 an14 : Option Addr} {sl14 : Array (Option Value)} {cd14 : Value} {a15 : Addr} {oc15 kV15 dc15 pm15 ct15 : Value} {od15 an15 : Option Addr} {sl15 : Array (Option Value)} {cd15 : Value} {a16 : Addr} {oc16 kV16 dc16 pm16 ct16 : Value} {od16 an16 : Option Addr} {sl16 : Array (Option Value)} {cd16 : Value} {a17 : Addr} {oc17 kV17 dc17 pm17 ct17 : Value} {od17 an17 : Option Addr} {sl17 : Array (Option Value)} {cd17 : Value} {a18 : Addr} {oc18 kV18 dc18 pm18 ct18 : Value} {od18 an18 : Option Addr} {sl18 : Array (Option Value)} {cd18 : Value} {a19 : Addr} {oc19 kV19 dc19 pm19 ct19 : Value} {od19 an19 : Option Addr} {sl19 : Array (Option Value)} {cd19 : Value} {a20 : Addr} {oc20 kV20 dc20 pm20 ct20 : Value} {od20 an20 : Option Addr} {sl20 : Array (Option Value)} {cd20 : Value} {a21 : Addr} {oc21 kV21 dc21 pm21 ct21 : Value} {od21 an21 : Option Addr} {sl21 : Array (Option Value)} {cd21 : Value} {a22 : Addr} {oc22 kV22 dc22 pm22 ct22 : Value} {od22 an22 : Option Addr} {sl22 : Array (Option Value)} {cd22 : Value} {a23 : Addr} {oc23 kV23 dc23 pm23 ct23 : Value} {od23 an23 : Option Addr} {sl23 : Array (Option Value)} {cd23 : Value} {a24 : Addr} {oc24 kV24 dc24 pm24 ct24 : Value} {od24 an24 : Option Addr} {sl24 : Array (Option Value)} {cd24 : Value} {a25 : Addr} {oc25 kV25 dc25 pm25 ct25 : Value} {od25 an25 : Option Addr} {sl25 : Array (Option Value)} {cd25 : Value} {a26 : Addr} {oc26 kV26 dc26 pm26 ct26 : Value} {od26 an26 : Option Addr} {sl26 : Array (Option Value)} {cd26 : Value} {a27 : Addr} {oc27 kV27 dc27 pm27 ct27 : Value} {od27 an27 : Option Addr} {sl27 : Array (Option Value)} {cd27 : Value} {a28 : Addr} {oc28 kV28 dc28 pm28 ct28 : Value} {od28 an28 : Option Addr} {sl28 : Array (Option Value)} {cd28 : Value} {a29 : Addr} {oc29 kV29 dc29 pm29 ct29 : Value} {od29 an29 : Option Addr} {sl29 : Array (Option Value)} {cd29 : Value} {a30 : Addr} {oc30 kV30 dc30 pm30 ct30 : Value} {od30 an30 : Option Addr} {sl30 : Array (Option Value)} {cd30 : Value} {a31 : Addr} {oc31 kV31 dc31 pm31 ct31 : Value} {od31 an31 : Option Addr} {sl31 : Array (Option Value)} {cc31 pp31 : Addr} {lv31 : Array Value} {lo31 : Value} {ld31 : Option Addr} {ls31 : Array (Option Value)} {a32 : Addr} {oc32 kV32 dc32 pm32 ct32 : Value} {od32 an32 : Option Addr} {sl32 : Array (Option Value)} {cd32 : Value} {a33 : Addr} {oc33 kV33 dc33 pm33 ct33 : Value} {od33 an33 : Option Addr} {sl33 : Array (Option Value)} {cd33 : Value} {a34 : Addr} {oc34 kV34 dc34 pm34 ct34 : Value} {od34 an34 : Option Addr} {sl34 : Array (Option Value)} {cd34 : Value} {a35 : Addr} {oc35 kV35 dc35 pm35 ct35 : Value} {od35 an35 : Option Addr} {sl35 : Array (Option Value)} {cd35 : Value} {a36 : Addr} {oc36 kV36 dc36 pm36 ct36 : Value} {od36 an36 : Option Addr} {sl36 : Array (Option Value)} {cd36 : Value} {a37 : Addr} {oc37 kV37 dc37 pm37 ct37 : Value} {od37 an37 : Option Addr} {sl37 : Array (Option Value)} {cd37 : Value} {a38 : Addr} {oc38 kV38 dc38 pm38 ct38 : Value} {od38 an38 : Option Addr} {sl38 : Array (Option Value)} {cd38 : Value} {a39 : Addr} {oc39 kV39 dc39 pm39 ct39 : Value} {od39 an39 : Option Addr} {sl39 : Array (Option Value)} {cc39 pp39 : Addr} {lv39 : Array Value} {lo39 : Value} {ld39 : Option Addr} {ls39 : Array (Option Value)} {t_GREATEST : Tok}
    (gc_Calls : PySem.W.nsIn K mainGlobals "Calls" = some (some (.ref C_Calls)))
    (gc_Outer : PySem.W.nsIn K mainGlobals "Outer" = some (some (.ref C_Outer)))
    (gc_Ranked : PySem.W.nsIn K mainGlobals "Ranked" = some (some (.ref C_Ranked)))
    (gc_Unions : PySem.W.nsIn K mainGlobals "Unions" = some (some (.ref C_Unions)))
    (ma0 : PySem.W.findIn K (.ref C_Calls) "__init__" = some (some (.ref a0)))
    (l0 : K.lookup a0 = some ⟨oc0, od0, .func (PySem.W.fnOf "__init__" "Calls.__init__" (defArgs s_Calls_init) (defBody s_Calls_init) (defScope s_Calls_init) .none kV0 dc0 pm0 an0 cd0 ct0), sl0⟩) (c0 : PySem.W.codeIn K cd0 "Calls.__init__" = true) (k0 : PySem.W.keepIn K (.ref a0) = true)
    (mt0 : PySem.W.isFn K (.ref a0) = true) (my0 : PySem.W.typeIn K (.ref a0) = some (.type "function"))
    (ma1 : PySem.W.findIn K (.ref C_Calls) "check" = some (some (.ref a1)))
    (l1 : K.lookup a1 = some ⟨oc1, od1, .func (PySem.W.fnOf "check" "Calls.check" (defArgs s_Calls_check) (defBody s_Calls_check) (defScope s_Calls_check) .none kV1 dc1 pm1 an1 cd1 ct1), sl1⟩) (c1 : PySem.W.codeIn K cd1 "Calls.check" = true) (k1 : PySem.W.keepIn K (.ref a1) = true)
    (mt1 : PySem.W.isFn K (.ref a1) = true) (my1 : PySem.W.typeIn K (.ref a1) = some (.type "function"))
    (ma2 : PySem.W.findIn K (.ref C_Calls) "run" = some (some (.ref a2)))
    (l2 : K.lookup a2 = some ⟨oc2, od2, .func (PySem.W.fnOf "run" "Calls.run" (defArgs s_Calls_run) (defBody s_Calls_run) (defScope s_Calls_run) .none kV2 dc2 pm2 an2 cd2 ct2), sl2⟩) (c2 : PySem.W.codeIn K cd2 "Calls.run" = true) (k2 : PySem.W.keepIn K (.ref a2) = true)
    (mt2 : PySem.W.isFn K (.ref a2) = true) (my2 : PySem.W.typeIn K (.ref a2) = some (.type "function"))
    (ma3 : PySem.W.findIn K (.ref C_Outer) "__init__" = some (some (.ref a3)))
    (l3 : K.lookup a3 = some ⟨oc3, od3, .func (PySem.W.fnOf "__init__" "Outer.__init__" (defArgs s_Outer_init) (defBody s_Outer_init) (defScope s_Outer_init) .none kV3 dc3 pm3 an3 cd3 ct3), sl3⟩) (c3 : PySem.W.codeIn K cd3 "Outer.__init__" = true) (k3 : PySem.W.keepIn K (.ref a3) = true)
    (mt3 : PySem.W.isFn K (.ref a3) = true) (my3 : PySem.W.typeIn K (.ref a3) = some (.type "function"))
    (ma4 : PySem.W.findIn K (.ref C_Outer) "check" = some (some (.ref a4)))
    (l4 : K.lookup a4 = some ⟨oc4, od4, .func (PySem.W.fnOf "check" "Outer.check" (defArgs s_Outer_check) (defBody s_Outer_check) (defScope s_Outer_check) .none kV4 dc4 pm4 an4 cd4 ct4), sl4⟩) (c4 : PySem.W.codeIn K cd4 "Outer.check" = true) (k4 : PySem.W.keepIn K (.ref a4) = true)
    (mt4 : PySem.W.isFn K (.ref a4) = true) (my4 : PySem.W.typeIn K (.ref a4) = some (.type "function"))
    (ma5 : PySem.W.findIn K (.ref C_Outer) "answer" = some (some (.ref a5)))
    (l5 : K.lookup a5 = some ⟨oc5, od5, .func (PySem.W.fnOf "answer" "Outer.answer" (defArgs s_Outer_answer) (defBody s_Outer_answer) (defScope s_Outer_answer) .none kV5 dc5 pm5 an5 cd5 ct5), sl5⟩) (c5 : PySem.W.codeIn K cd5 "Outer.answer" = true) (k5 : PySem.W.keepIn K (.ref a5) = true)
    (mt5 : PySem.W.isFn K (.ref a5) = true) (my5 : PySem.W.typeIn K (.ref a5) = some (.type "function"))
    (ma6 : PySem.W.findIn K (.ref C_Outer) "change" = some (some (.ref a6)))
    (l6 : K.lookup a6 = some ⟨oc6, od6, .func (PySem.W.fnOf "change" "Outer.change" (defArgs s_Outer_change) (defBody s_Outer_change) (defScope s_Outer_change) .none kV6 dc6 pm6 an6 cd6 ct6), sl6⟩) (c6 : PySem.W.codeIn K cd6 "Outer.change" = true) (k6 : PySem.W.keepIn K (.ref a6) = true)
    (mt6 : PySem.W.isFn K (.ref a6) = true) (my6 : PySem.W.typeIn K (.ref a6) = some (.type "function"))
    (ma7 : PySem.W.findIn K (.ref C_Outer) "follow" = some (some (.ref a7)))
    (l7 : K.lookup a7 = some ⟨oc7, od7, .func (PySem.W.fnOf "follow" "Outer.follow" (defArgs s_Outer_follow) (defBody s_Outer_follow) (defScope s_Outer_follow) .none kV7 dc7 pm7 an7 cd7 ct7), sl7⟩) (c7 : PySem.W.codeIn K cd7 "Outer.follow" = true) (k7 : PySem.W.keepIn K (.ref a7) = true)
    (mt7 : PySem.W.isFn K (.ref a7) = true) (my7 : PySem.W.typeIn K (.ref a7) = some (.type "function"))
    (ma8 : PySem.W.findIn K (.ref C_Ranked) "__init__" = some (some (.ref a8)))
    (l8 : K.lookup a8 = some ⟨oc8, od8, .func (PySem.W.fnOf "__init__" "Ranked.__init__" (defArgs s_Ranked_init) (defBody s_Ranked_init) (defScope s_Ranked_init) .none kV8 dc8 pm8 an8 cd8 ct8), sl8⟩) (c8 : PySem.W.codeIn K cd8 "Ranked.__init__" = true) (k8 : PySem.W.keepIn K (.ref a8) = true)
    (mt8 : PySem.W.isFn K (.ref a8) = true) (my8 : PySem.W.typeIn K (.ref a8) = some (.type "function"))
    (ma9 : PySem.W.findIn K (.ref C_Ranked) "add" = some (some (.ref a9)))
    (l9 : K.lookup a9 = some ⟨oc9, od9, .func (PySem.W.fnOf "add" "Ranked.add" (defArgs s_Ranked_add) (defBody s_Ranked_add) (defScope s_Ranked_add) .none (.ref kd9) dc9 pm9 an9 cd9 ct9), sl9⟩) (c9 : PySem.W.codeIn K cd9 "Ranked.add" = true) (k9 : PySem.W.keepIn K (.ref a9) = true)
    (kw9_0 : PySem.W.nsIn K kd9 "rank" = some (some (.int 0 kt9_0)))
    (mt9 : PySem.W.isFn K (.ref a9) = true) (my9 : PySem.W.typeIn K (.ref a9) = some (.type "function"))
    (ma10 : PySem.W.findIn K (.ref C_Ranked) "first" = some (some (.ref a10)))
    (l10 : K.lookup a10 = some ⟨oc10, od10, .func (PySem.W.fnOf "first" "Ranked.first" (defArgs s_Ranked_first) (defBody s_Ranked_first) (defScope s_Ranked_first) .none kV10 dc10 pm10 an10 cd10 ct10), sl10⟩) (c10 : PySem.W.codeIn K cd10 "Ranked.first" = true) (k10 : PySem.W.keepIn K (.ref a10) = true)
    (mt10 : PySem.W.isFn K (.ref a10) = true) (my10 : PySem.W.typeIn K (.ref a10) = some (.type "function"))
    (ma11 : PySem.W.findIn K (.ref C_Ranked) "remove_first" = some (some (.ref a11)))
    (l11 : K.lookup a11 = some ⟨oc11, od11, .func (PySem.W.fnOf "remove_first" "Ranked.remove_first" (defArgs s_Ranked_remove_first) (defBody s_Ranked_remove_first) (defScope s_Ranked_remove_first) .none kV11 dc11 pm11 an11 cd11 ct11), sl11⟩) (c11 : PySem.W.codeIn K cd11 "Ranked.remove_first" = true) (k11 : PySem.W.keepIn K (.ref a11) = true)
    (mt11 : PySem.W.isFn K (.ref a11) = true) (my11 : PySem.W.typeIn K (.ref a11) = some (.type "function"))
    (ma12 : PySem.W.findIn K (.ref C_Ranked) "query" = some (some (.ref a12)))
    (l12 : K.lookup a12 = some ⟨oc12, od12, .func (PySem.W.fnOf "query" "Ranked.query" (defArgs s_Ranked_query) (defBody s_Ranked_query) (defScope s_Ranked_query) .none kV12 dc12 pm12 an12 cd12 ct12), sl12⟩) (c12 : PySem.W.codeIn K cd12 "Ranked.query" = true) (k12 : PySem.W.keepIn K (.ref a12) = true)
    (mt12 : PySem.W.isFn K (.ref a12) = true) (my12 : PySem.W.typeIn K (.ref a12) = some (.type "function"))
    (ma13 : PySem.W.findIn K (.ref C_Ranked) "stack" = some (some (.ref a13)))
    (l13 : K.lookup a13 = some ⟨oc13, od13, .func (PySem.W.fnOf "stack" "Ranked.stack" (defArgs s_Ranked_stack) (defBody s_Ranked_stack) (defScope s_Ranked_stack) .none kV13 dc13 pm13 an13 cd13 ct13), sl13⟩) (c13 : PySem.W.codeIn K cd13 "Ranked.stack" = true) (k13 : PySem.W.keepIn K (.ref a13) = true)
    (mt13 : PySem.W.isFn K (.ref a13) = true) (my13 : PySem.W.typeIn K (.ref a13) = some (.type "function"))
    (ma14 : PySem.W.findIn K (.ref C_Ranked) "log" = some (some (.ref a14)))
    (l14 : K.lookup a14 = some ⟨oc14, od14, .func (PySem.W.fnOf "log" "Ranked.log" (defArgs s_Ranked_log) (defBody s_Ranked_log) (defScope s_Ranked_log) .none kV14 dc14 pm14 an14 cd14 ct14), sl14⟩) (c14 : PySem.W.codeIn K cd14 "Ranked.log" = true) (k14 : PySem.W.keepIn K (.ref a14) = true)
    (mt14 : PySem.W.isFn K (.ref a14) = true) (my14 : PySem.W.typeIn K (.ref a14) = some (.type "function"))
    (ma15 : PySem.W.findIn K (.ref C_Unions) "__init__" = some (some (.ref a15)))
    (l15 : K.lookup a15 = some ⟨oc15, od15, .func (PySem.W.fnOf "__init__" "Unions.__init__" (defArgs s_Unions_init) (defBody s_Unions_init) (defScope s_Unions_init) .none kV15 dc15 pm15 an15 cd15 ct15), sl15⟩) (c15 : PySem.W.codeIn K cd15 "Unions.__init__" = true) (k15 : PySem.W.keepIn K (.ref a15) = true)
    (mt15 : PySem.W.isFn K (.ref a15) = true) (my15 : PySem.W.typeIn K (.ref a15) = some (.type "function"))
    (ma16 : PySem.W.findIn K (.ref C_Unions) "push" = some (some (.ref a16)))
    (l16 : K.lookup a16 = some ⟨oc16, od16, .func (PySem.W.fnOf "push" "Unions.push" (defArgs s_Unions_push) (defBody s_Unions_push) (defScope s_Unions_push) .none kV16 dc16 pm16 an16 cd16 ct16), sl16⟩) (c16 : PySem.W.codeIn K cd16 "Unions.push" = true) (k16 : PySem.W.keepIn K (.ref a16) = true)
    (mt16 : PySem.W.isFn K (.ref a16) = true) (my16 : PySem.W.typeIn K (.ref a16) = some (.type "function"))
    (ma17 : PySem.W.findIn K (.ref C_Unions) "pop" = some (some (.ref a17)))
    (l17 : K.lookup a17 = some ⟨oc17, od17, .func (PySem.W.fnOf "pop" "Unions.pop" (defArgs s_Unions_pop) (defBody s_Unions_pop) (defScope s_Unions_pop) .none kV17 dc17 pm17 an17 cd17 ct17), sl17⟩) (c17 : PySem.W.codeIn K cd17 "Unions.pop" = true) (k17 : PySem.W.keepIn K (.ref a17) = true)
    (mt17 : PySem.W.isFn K (.ref a17) = true) (my17 : PySem.W.typeIn K (.ref a17) = some (.type "function"))
    (ma18 : PySem.W.findIn K (.ref C_Unions) "ask" = some (some (.ref a18)))
    (l18 : K.lookup a18 = some ⟨oc18, od18, .func (PySem.W.fnOf "ask" "Unions.ask" (defArgs s_Unions_ask) (defBody s_Unions_ask) (defScope s_Unions_ask) .none kV18 dc18 pm18 an18 cd18 ct18), sl18⟩) (c18 : PySem.W.codeIn K cd18 "Unions.ask" = true) (k18 : PySem.W.keepIn K (.ref a18) = true)
    (mt18 : PySem.W.isFn K (.ref a18) = true) (my18 : PySem.W.typeIn K (.ref a18) = some (.type "function"))
    (ma19 : PySem.W.findIn K (.ref C_Unions) "root_of" = some (some (.ref a19)))
    (l19 : K.lookup a19 = some ⟨oc19, od19, .func (PySem.W.fnOf "root_of" "Unions.root_of" (defArgs s_Unions_root_of) (defBody s_Unions_root_of) (defScope s_Unions_root_of) .none kV19 dc19 pm19 an19 cd19 ct19), sl19⟩) (c19 : PySem.W.codeIn K cd19 "Unions.root_of" = true) (k19 : PySem.W.keepIn K (.ref a19) = true)
    (mt19 : PySem.W.isFn K (.ref a19) = true) (my19 : PySem.W.typeIn K (.ref a19) = some (.type "function"))
    (ma20 : PySem.W.findIn K (.ref C_Unions) "count_of" = some (some (.ref a20)))
    (l20 : K.lookup a20 = some ⟨oc20, od20, .func (PySem.W.fnOf "count_of" "Unions.count_of" (defArgs s_Unions_count_of) (defBody s_Unions_count_of) (defScope s_Unions_count_of) .none kV20 dc20 pm20 an20 cd20 ct20), sl20⟩) (c20 : PySem.W.codeIn K cd20 "Unions.count_of" = true) (k20 : PySem.W.keepIn K (.ref a20) = true)
    (mt20 : PySem.W.isFn K (.ref a20) = true) (my20 : PySem.W.typeIn K (.ref a20) = some (.type "function"))
    (ga21 : PySem.W.nsIn K mainGlobals "check_filled" = some (some (.ref a21)))
    (l21 : K.lookup a21 = some ⟨oc21, od21, .func (PySem.W.fnOf "check_filled" "check_filled" (defArgs s_check_filled) (defBody s_check_filled) (defScope s_check_filled) .none kV21 dc21 pm21 an21 cd21 ct21), sl21⟩) (c21 : PySem.W.codeIn K cd21 "check_filled" = true) (k21 : PySem.W.keepIn K (.ref a21) = true)
    (ga22 : PySem.W.nsIn K mainGlobals "without" = some (some (.ref a22)))
    (l22 : K.lookup a22 = some ⟨oc22, od22, .func (PySem.W.fnOf "without" "without" (defArgs s_without) (defBody s_without) (defScope s_without) .none kV22 dc22 pm22 an22 cd22 ct22), sl22⟩) (c22 : PySem.W.codeIn K cd22 "without" = true) (k22 : PySem.W.keepIn K (.ref a22) = true)
    (ga23 : PySem.W.nsIn K mainGlobals "plan_pushes" = some (some (.ref a23)))
    (l23 : K.lookup a23 = some ⟨oc23, od23, .func (PySem.W.fnOf "plan_pushes" "plan_pushes" (defArgs s_plan_pushes) (defBody s_plan_pushes) (defScope s_plan_pushes) .none kV23 dc23 pm23 an23 cd23 ct23), sl23⟩) (c23 : PySem.W.codeIn K cd23 "plan_pushes" = true) (k23 : PySem.W.keepIn K (.ref a23) = true)
    (ga24 : PySem.W.nsIn K mainGlobals "plan_pops" = some (some (.ref a24)))
    (l24 : K.lookup a24 = some ⟨oc24, od24, .func (PySem.W.fnOf "plan_pops" "plan_pops" (defArgs s_plan_pops) (defBody s_plan_pops) (defScope s_plan_pops) .none kV24 dc24 pm24 an24 cd24 ct24), sl24⟩) (c24 : PySem.W.codeIn K cd24 "plan_pops" = true) (k24 : PySem.W.keepIn K (.ref a24) = true)
    (ga25 : PySem.W.nsIn K mainGlobals "changed_order" = some (some (.ref a25)))
    (l25 : K.lookup a25 = some ⟨oc25, od25, .func (PySem.W.fnOf "changed_order" "changed_order" (defArgs s_changed_order) (defBody s_changed_order) (defScope s_changed_order) .none kV25 dc25 pm25 an25 cd25 ct25), sl25⟩) (c25 : PySem.W.codeIn K cd25 "changed_order" = true) (k25 : PySem.W.keepIn K (.ref a25) = true)
    (ga26 : PySem.W.nsIn K mainGlobals "total_built" = some (some (.ref a26)))
    (l26 : K.lookup a26 = some ⟨oc26, od26, .func (PySem.W.fnOf "total_built" "total_built" (defArgs s_total_built) (defBody s_total_built) (defScope s_total_built) .none kV26 dc26 pm26 an26 cd26 ct26), sl26⟩) (c26 : PySem.W.codeIn K cd26 "total_built" = true) (k26 : PySem.W.keepIn K (.ref a26) = true)
    (ga27 : PySem.W.nsIn K mainGlobals "lowest_power" = some (some (.ref a27)))
    (l27 : K.lookup a27 = some ⟨oc27, od27, .func (PySem.W.fnOf "lowest_power" "lowest_power" (defArgs s_lowest_power) (defBody s_lowest_power) (defScope s_lowest_power) .none kV27 dc27 pm27 an27 cd27 ct27), sl27⟩) (c27 : PySem.W.codeIn K cd27 "lowest_power" = true) (k27 : PySem.W.keepIn K (.ref a27) = true)
    (ga28 : PySem.W.nsIn K mainGlobals "is_integer" = some (some (.ref a28)))
    (l28 : K.lookup a28 = some ⟨oc28, od28, .func (PySem.W.fnOf "is_integer" "is_integer" (defArgs s_is_integer) (defBody s_is_integer) (defScope s_is_integer) .none kV28 dc28 pm28 an28 cd28 ct28), sl28⟩) (c28 : PySem.W.codeIn K cd28 "is_integer" = true) (k28 : PySem.W.keepIn K (.ref a28) = true)
    (ga29 : PySem.W.nsIn K mainGlobals "check_integer" = some (some (.ref a29)))
    (l29 : K.lookup a29 = some ⟨oc29, od29, .func (PySem.W.fnOf "check_integer" "check_integer" (defArgs s_check_integer) (defBody s_check_integer) (defScope s_check_integer) .none kV29 dc29 pm29 an29 cd29 ct29), sl29⟩) (c29 : PySem.W.codeIn K cd29 "check_integer" = true) (k29 : PySem.W.keepIn K (.ref a29) = true)
    (ga30 : PySem.W.nsIn K mainGlobals "check_number" = some (some (.ref a30)))
    (l30 : K.lookup a30 = some ⟨oc30, od30, .func (PySem.W.fnOf "check_number" "check_number" (defArgs s_check_number) (defBody s_check_number) (defScope s_check_number) .none kV30 dc30 pm30 an30 cd30 ct30), sl30⟩) (c30 : PySem.W.codeIn K cd30 "check_number" = true) (k30 : PySem.W.keepIn K (.ref a30) = true)
    (ga31 : PySem.W.nsIn K mainGlobals "precedence" = some (some (.ref a31)))
    (l31 : K.lookup a31 = some ⟨oc31, od31, .func (PySem.W.fnOf "precedence" "precedence" (defArgs s_precedence) (defBody s_precedence) (defScope s_precedence) .none kV31 dc31 pm31 an31 (.ref cc31) ct31), sl31⟩) (c31 : PySem.W.codeIn K (.ref cc31) "precedence" = true) (k31 : PySem.W.keepIn K (.ref a31) = true)
    (tl31 : K.lookup cc31 = some ⟨lo31, ld31, .fields lv31, ls31⟩) (tp31 : lv31[11]? = some (.ref pp31)) (tn31 : K.lookup pp31 = none) (tr31 : (PyProof.Rows.recsOf QQ).any (fun d => d.name == "precedence") = true)
    (ga32 : PySem.W.nsIn K mainGlobals "plan_removal" = some (some (.ref a32)))
    (l32 : K.lookup a32 = some ⟨oc32, od32, .func (PySem.W.fnOf "plan_removal" "plan_removal" (defArgs s_plan_removal) (defBody s_plan_removal) (defScope s_plan_removal) .none kV32 dc32 pm32 an32 cd32 ct32), sl32⟩) (c32 : PySem.W.codeIn K cd32 "plan_removal" = true) (k32 : PySem.W.keepIn K (.ref a32) = true)
    (ga33 : PySem.W.nsIn K mainGlobals "_law_bag" = some (some (.ref a33)))
    (l33 : K.lookup a33 = some ⟨oc33, od33, .func (PySem.W.fnOf "_law_bag" "_law_bag" (defArgs s_l_bag) (defBody s_l_bag) (defScope s_l_bag) .none kV33 dc33 pm33 an33 cd33 ct33), sl33⟩) (c33 : PySem.W.codeIn K cd33 "_law_bag" = true) (k33 : PySem.W.keepIn K (.ref a33) = true)
    (ga34 : PySem.W.nsIn K mainGlobals "_law_take" = some (some (.ref a34)))
    (l34 : K.lookup a34 = some ⟨oc34, od34, .func (PySem.W.fnOf "_law_take" "_law_take" (defArgs s_l_take) (defBody s_l_take) (defScope s_l_take) .none kV34 dc34 pm34 an34 cd34 ct34), sl34⟩) (c34 : PySem.W.codeIn K cd34 "_law_take" = true) (k34 : PySem.W.keepIn K (.ref a34) = true)
    (ga35 : PySem.W.nsIn K mainGlobals "_law_component" = some (some (.ref a35)))
    (l35 : K.lookup a35 = some ⟨oc35, od35, .func (PySem.W.fnOf "_law_component" "_law_component" (defArgs s_l_component) (defBody s_l_component) (defScope s_l_component) .none kV35 dc35 pm35 an35 cd35 ct35), sl35⟩) (c35 : PySem.W.codeIn K cd35 "_law_component" = true) (k35 : PySem.W.keepIn K (.ref a35) = true)
    (ga36 : PySem.W.nsIn K mainGlobals "_law_answer" = some (some (.ref a36)))
    (l36 : K.lookup a36 = some ⟨oc36, od36, .func (PySem.W.fnOf "_law_answer" "_law_answer" (defArgs s_l_answer) (defBody s_l_answer) (defScope s_l_answer) .none kV36 dc36 pm36 an36 cd36 ct36), sl36⟩) (c36 : PySem.W.codeIn K cd36 "_law_answer" = true) (k36 : PySem.W.keepIn K (.ref a36) = true)
    (ga37 : PySem.W.nsIn K mainGlobals "_law_bound_right" = some (some (.ref a37)))
    (l37 : K.lookup a37 = some ⟨oc37, od37, .func (PySem.W.fnOf "_law_bound_right" "_law_bound_right" (defArgs s_l_bound_right) (defBody s_l_bound_right) (defScope s_l_bound_right) .none kV37 dc37 pm37 an37 cd37 ct37), sl37⟩) (c37 : PySem.W.codeIn K cd37 "_law_bound_right" = true) (k37 : PySem.W.keepIn K (.ref a37) = true)
    (ga38 : PySem.W.nsIn K mainGlobals "_law_right" = some (some (.ref a38)))
    (l38 : K.lookup a38 = some ⟨oc38, od38, .func (PySem.W.fnOf "_law_right" "_law_right" (defArgs s_l_right) (defBody s_l_right) (defScope s_l_right) .none kV38 dc38 pm38 an38 cd38 ct38), sl38⟩) (c38 : PySem.W.codeIn K cd38 "_law_right" = true) (k38 : PySem.W.keepIn K (.ref a38) = true)
    (ga39 : PySem.W.nsIn K mainGlobals "law" = some (some (.ref a39)))
    (l39 : K.lookup a39 = some ⟨oc39, od39, .func (PySem.W.fnOf "law" "law" (defArgs s_law) (defBody s_law) (defScope s_law) .none kV39 dc39 pm39 an39 (.ref cc39) ct39), sl39⟩) (c39 : PySem.W.codeIn K (.ref cc39) "law" = true) (k39 : PySem.W.keepIn K (.ref a39) = true)
    (tl39 : K.lookup cc39 = some ⟨lo39, ld39, .fields lv39, ls39⟩) (tp39 : lv39[11]? = some (.ref pp39)) (tn39 : K.lookup pp39 = none) (tr39 : (PyProof.Rows.recsOf QQ).any (fun d => d.name == "law") = true)
    (pne31_39 : pp31 ≠ pp39)
    (z_abs : PySem.W.nsIn K mainGlobals "abs" = some none)
    (z_any : PySem.W.nsIn K mainGlobals "any" = some none)
    (z_bool : PySem.W.nsIn K mainGlobals "bool" = some none)
    (z_int : PySem.W.nsIn K mainGlobals "int" = some none)
    (z_isinstance : PySem.W.nsIn K mainGlobals "isinstance" = some none)
    (z_len : PySem.W.nsIn K mainGlobals "len" = some none)
    (z_list : PySem.W.nsIn K mainGlobals "list" = some none)
    (z_max : PySem.W.nsIn K mainGlobals "max" = some none)
    (z_min : PySem.W.nsIn K mainGlobals "min" = some none)
    (z_property : PySem.W.nsIn K mainGlobals "property" = some none)
    (z_range : PySem.W.nsIn K mainGlobals "range" = some none)
    (z_reversed : PySem.W.nsIn K mainGlobals "reversed" = some none)
    (z_sorted : PySem.W.nsIn K mainGlobals "sorted" = some none)
    (v_GREATEST : PySem.W.nsIn K mainGlobals "GREATEST" = some (some (.int (10 ^ (30 : Nat)) t_GREATEST)))
    (pg_Calls : PySem.W.plainGet K C_Calls Str.empty = true)
    (hd_Calls : PySem.W.hasDictIn K C_Calls = true)
    (po_Calls : PySem.W.plainOver K C_Calls = true)
    (sa_Calls : PySem.W.findIn K (.ref C_Calls) "__setattr__" = some (some (.builtin "object.__setattr__")))
    (mk_Calls : PySem.W.makesIn K C_Calls = true)
    (kp_Calls : PySem.W.keepIn K (.ref C_Calls) = true)
    (n_Calls_entries : PySem.W.findIn K (.ref C_Calls) "entries" = some none)
    (n_Calls_running : PySem.W.findIn K (.ref C_Calls) "running" = some none)
    (pg_Outer : PySem.W.plainGet K C_Outer Str.empty = true)
    (hd_Outer : PySem.W.hasDictIn K C_Outer = true)
    (po_Outer : PySem.W.plainOver K C_Outer = true)
    (sa_Outer : PySem.W.findIn K (.ref C_Outer) "__setattr__" = some (some (.builtin "object.__setattr__")))
    (mk_Outer : PySem.W.makesIn K C_Outer = true)
    (kp_Outer : PySem.W.keepIn K (.ref C_Outer) = true)
    (n_Outer_calls : PySem.W.findIn K (.ref C_Outer) "calls" = some none)
    (n_Outer_push_call : PySem.W.findIn K (.ref C_Outer) "push_call" = some none)
    (n_Outer_pop_call : PySem.W.findIn K (.ref C_Outer) "pop_call" = some none)
    (n_Outer_ask_call : PySem.W.findIn K (.ref C_Outer) "ask_call" = some none)
    (n_Outer_order : PySem.W.findIn K (.ref C_Outer) "order" = some none)
    (n_Outer_broken : PySem.W.findIn K (.ref C_Outer) "broken" = some none)
    (pg_Ranked : PySem.W.plainGet K C_Ranked Str.empty = true)
    (hd_Ranked : PySem.W.hasDictIn K C_Ranked = true)
    (po_Ranked : PySem.W.plainOver K C_Ranked = true)
    (sa_Ranked : PySem.W.findIn K (.ref C_Ranked) "__setattr__" = some (some (.builtin "object.__setattr__")))
    (mk_Ranked : PySem.W.makesIn K C_Ranked = true)
    (kp_Ranked : PySem.W.keepIn K (.ref C_Ranked) = true)
    (n_Ranked_outer : PySem.W.findIn K (.ref C_Ranked) "outer" = some none)
    (n_Ranked_given : PySem.W.findIn K (.ref C_Ranked) "given" = some none)
    (n_Ranked_held : PySem.W.findIn K (.ref C_Ranked) "held" = some none)
    (n_Ranked_ranks : PySem.W.findIn K (.ref C_Ranked) "ranks" = some none)
    (n_Ranked_removals : PySem.W.findIn K (.ref C_Ranked) "removals" = some none)
    (pg_Unions : PySem.W.plainGet K C_Unions Str.empty = true)
    (hd_Unions : PySem.W.hasDictIn K C_Unions = true)
    (po_Unions : PySem.W.plainOver K C_Unions = true)
    (sa_Unions : PySem.W.findIn K (.ref C_Unions) "__setattr__" = some (some (.builtin "object.__setattr__")))
    (mk_Unions : PySem.W.makesIn K C_Unions = true)
    (kp_Unions : PySem.W.keepIn K (.ref C_Unions) = true)
    (n_Unions_groups : PySem.W.findIn K (.ref C_Unions) "groups" = some none)
    (n_Unions_parents : PySem.W.findIn K (.ref C_Unions) "parents" = some none)
    (n_Unions_counts : PySem.W.findIn K (.ref C_Unions) "counts" = some none)
    (n_Unions_moved : PySem.W.findIn K (.ref C_Unions) "moved" = some none) : Inf.LawAtG l w K CX0 40 63 "_law_script" mg fa h := by
  have e := hfa.symm.trans (PySem.W.mg_of X G ga39)
  cases e
  have F0 := fun_mk (st := s_Calls_init) l0 c0 k0
  have F1 := fun_mk (st := s_Calls_check) l1 c1 k1
  have F2 := fun_mk (st := s_Calls_run) l2 c2 k2
  have F3 := fun_mk (st := s_Outer_init) l3 c3 k3
  have F4 := fun_mk (st := s_Outer_check) l4 c4 k4
  have F5 := fun_mk (st := s_Outer_answer) l5 c5 k5
  have F6 := fun_mk (st := s_Outer_change) l6 c6 k6
  have F7 := fun_mk (st := s_Outer_follow) l7 c7 k7
  have F8 := fun_mk (st := s_Ranked_init) l8 c8 k8
  have F9 : FunD K "add" "Ranked.add" (defArgs s_Ranked_add) (defBody s_Ranked_add) (defScope s_Ranked_add) [] [("rank", V.int 0)] a9 _ := ⟨⟨_, _, _, _, _, _, _, _, _, _, rfl, l9, c9, .inl ⟨rfl, rfl⟩, .inr ⟨kd9, rfl, fun q hq => by
      rcases List.mem_singleton.mp hq with rfl
      exact ⟨_, kw9_0, ⟨_, rfl⟩⟩⟩⟩, k9⟩
  have F10 := fun_mk (st := s_Ranked_first) l10 c10 k10
  have F11 := fun_mk (st := s_Ranked_remove_first) l11 c11 k11
  have F12 := fun_mk (st := s_Ranked_query) l12 c12 k12
  have F13 := fun_mk (st := s_Ranked_stack) l13 c13 k13
  have F14 := fun_mk (st := s_Ranked_log) l14 c14 k14
  have F15 := fun_mk (st := s_Unions_init) l15 c15 k15
  have F16 := fun_mk (st := s_Unions_push) l16 c16 k16
  have F17 := fun_mk (st := s_Unions_pop) l17 c17 k17
  have F18 := fun_mk (st := s_Unions_ask) l18 c18 k18
  have F19 := fun_mk (st := s_Unions_root_of) l19 c19 k19
  have F20 := fun_mk (st := s_Unions_count_of) l20 c20 k20
  have F21 := fun_mk (st := s_check_filled) l21 c21 k21
  have F22 := fun_mk (st := s_without) l22 c22 k22
  have F23 := fun_mk (st := s_plan_pushes) l23 c23 k23
  have F24 := fun_mk (st := s_plan_pops) l24 c24 k24
  have F25 := fun_mk (st := s_changed_order) l25 c25 k25
  have F26 := fun_mk (st := s_total_built) l26 c26 k26
  have F27 := fun_mk (st := s_lowest_power) l27 c27 k27
  have F28 := fun_mk (st := s_is_integer) l28 c28 k28
  have F29 := fun_mk (st := s_check_integer) l29 c29 k29
  have F30 := fun_mk (st := s_check_number) l30 c30 k30
  have F31 : FunT K "precedence" "precedence" s_precedence a31 _ cc31 := ⟨⟨_, _, _, _, _, _, _, _, rfl, l31, c31⟩, k31⟩
  have B31 : Binds K _ ["ranked"] [] := .all (fd := PySem.W.fnOf "precedence" "precedence" (defArgs s_precedence) (defBody s_precedence) (defScope s_precedence) .none kV31 dc31 pm31 an31 (.ref cc31) ct31) fun us hl => match us, hl with | [_], _ => rfl
  have F32 := fun_mk (st := s_plan_removal) l32 c32 k32
  have F33 := fun_mk (st := s_l_bag) l33 c33 k33
  have F34 := fun_mk (st := s_l_take) l34 c34 k34
  have F35 := fun_mk (st := s_l_component) l35 c35 k35
  have F36 := fun_mk (st := s_l_answer) l36 c36 k36
  have F37 := fun_mk (st := s_l_bound_right) l37 c37 k37
  have F38 := fun_mk (st := s_l_right) l38 c38 k38
  have F39 : FunT K "law" "law" s_law fa _ cc39 := ⟨⟨_, _, _, _, _, _, _, _, rfl, l39, c39⟩, k39⟩
  have B39 : Binds K _ ["_law_script"] [] := .all (fd := PySem.W.fnOf "law" "law" (defArgs s_law) (defBody s_law) (defScope s_law) .none kV39 dc39 pm39 an39 (.ref cc39) ct39) fun us hl => match us, hl with | [_], _ => rfl
  have T31 := tt "precedence" a31 cc31 pp31 _ _ _ _ _ _ tr31 (PySem.W.mg_of X G ga31) l31 rfl rfl tl31 tp31
  have T39 := tt "law" fa cc39 pp39 _ _ _ _ _ _ tr39 hfa l39 rfl rfl tl39 tp39
  let T : Txt K mg := {
    C_Calls := C_Calls,
    gc_Calls := PySem.W.mg_of X G gc_Calls,
    C_Outer := C_Outer,
    gc_Outer := PySem.W.mg_of X G gc_Outer,
    C_Ranked := C_Ranked,
    gc_Ranked := PySem.W.mg_of X G gc_Ranked,
    C_Unions := C_Unions,
    gc_Unions := PySem.W.mg_of X G gc_Unions,
    f_Calls_init := a0,
    d_Calls_init := _,
    F_Calls_init := F0,
    b_Calls_init := (F0.binds (ps := ["self"]) fun _ _ _ _ _ _ us hl => match us, hl with | [_], _ => rfl),
    m_Calls_init := ma0,
    t_Calls_init := mt0,
    y_Calls_init := my0,
    k_Calls_init := k0,
    f_Calls_check := a1,
    d_Calls_check := _,
    F_Calls_check := F1,
    b_Calls_check := (F1.binds (ps := ["self"]) fun _ _ _ _ _ _ us hl => match us, hl with | [_], _ => rfl),
    m_Calls_check := ma1,
    t_Calls_check := mt1,
    y_Calls_check := my1,
    k_Calls_check := k1,
    f_Calls_run := a2,
    d_Calls_run := _,
    F_Calls_run := F2,
    m_Calls_run := ma2,
    t_Calls_run := mt2,
    y_Calls_run := my2,
    k_Calls_run := k2,
    f_Outer_init := a3,
    d_Outer_init := _,
    F_Outer_init := F3,
    b_Outer_init := (F3.binds (ps := ["self", "push", "pop", "ask"]) fun _ _ _ _ _ _ us hl => match us, hl with | [_, _, _, _], _ => rfl),
    m_Outer_init := ma3,
    t_Outer_init := mt3,
    y_Outer_init := my3,
    k_Outer_init := k3,
    f_Outer_check := a4,
    d_Outer_check := _,
    F_Outer_check := F4,
    b_Outer_check := (F4.binds (ps := ["self"]) fun _ _ _ _ _ _ us hl => match us, hl with | [_], _ => rfl),
    m_Outer_check := ma4,
    t_Outer_check := mt4,
    y_Outer_check := my4,
    k_Outer_check := k4,
    f_Outer_answer := a5,
    d_Outer_answer := _,
    F_Outer_answer := F5,
    b_Outer_answer := (F5.binds (ps := ["self", "question"]) fun _ _ _ _ _ _ us hl => match us, hl with | [_, _], _ => rfl),
    m_Outer_answer := ma5,
    t_Outer_answer := mt5,
    y_Outer_answer := my5,
    k_Outer_answer := k5,
    f_Outer_change := a6,
    d_Outer_change := _,
    F_Outer_change := F6,
    b_Outer_change := (F6.binds (ps := ["self", "entries", "held"]) fun _ _ _ _ _ _ us hl => match us, hl with | [_, _, _], _ => rfl),
    m_Outer_change := ma6,
    t_Outer_change := mt6,
    y_Outer_change := my6,
    k_Outer_change := k6,
    f_Outer_follow := a7,
    d_Outer_follow := _,
    F_Outer_follow := F7,
    b_Outer_follow := (F7.binds (ps := ["self", "entries", "held"]) fun _ _ _ _ _ _ us hl => match us, hl with | [_, _, _], _ => rfl),
    m_Outer_follow := ma7,
    t_Outer_follow := mt7,
    y_Outer_follow := my7,
    k_Outer_follow := k7,
    f_Ranked_init := a8,
    d_Ranked_init := _,
    F_Ranked_init := F8,
    b_Ranked_init := (F8.binds (ps := ["self", "push", "pop", "ask"]) fun _ _ _ _ _ _ us hl => match us, hl with | [_, _, _, _], _ => rfl),
    m_Ranked_init := ma8,
    t_Ranked_init := mt8,
    y_Ranked_init := my8,
    k_Ranked_init := k8,
    f_Ranked_add := a9,
    d_Ranked_add := _,
    F_Ranked_add := F9,
    m_Ranked_add := ma9,
    t_Ranked_add := mt9,
    y_Ranked_add := my9,
    k_Ranked_add := k9,
    f_Ranked_first := a10,
    d_Ranked_first := _,
    F_Ranked_first := F10,
    b_Ranked_first := (F10.binds (ps := ["self"]) fun _ _ _ _ _ _ us hl => match us, hl with | [_], _ => rfl),
    m_Ranked_first := ma10,
    t_Ranked_first := mt10,
    y_Ranked_first := my10,
    k_Ranked_first := k10,
    f_Ranked_remove_first := a11,
    d_Ranked_remove_first := _,
    F_Ranked_remove_first := F11,
    b_Ranked_remove_first := (F11.binds (ps := ["self"]) fun _ _ _ _ _ _ us hl => match us, hl with | [_], _ => rfl),
    m_Ranked_remove_first := ma11,
    t_Ranked_remove_first := mt11,
    y_Ranked_remove_first := my11,
    k_Ranked_remove_first := k11,
    f_Ranked_query := a12,
    d_Ranked_query := _,
    F_Ranked_query := F12,
    b_Ranked_query := (F12.binds (ps := ["self", "question"]) fun _ _ _ _ _ _ us hl => match us, hl with | [_, _], _ => rfl),
    m_Ranked_query := ma12,
    t_Ranked_query := mt12,
    y_Ranked_query := my12,
    k_Ranked_query := k12,
    f_Ranked_stack := a13,
    d_Ranked_stack := _,
    F_Ranked_stack := F13,
    b_Ranked_stack := (F13.binds (ps := ["self"]) fun _ _ _ _ _ _ us hl => match us, hl with | [_], _ => rfl),
    m_Ranked_stack := ma13,
    t_Ranked_stack := mt13,
    y_Ranked_stack := my13,
    k_Ranked_stack := k13,
    f_Ranked_log := a14,
    d_Ranked_log := _,
    F_Ranked_log := F14,
    b_Ranked_log := (F14.binds (ps := ["self"]) fun _ _ _ _ _ _ us hl => match us, hl with | [_], _ => rfl),
    m_Ranked_log := ma14,
    t_Ranked_log := mt14,
    y_Ranked_log := my14,
    k_Ranked_log := k14,
    f_Unions_init := a15,
    d_Unions_init := _,
    F_Unions_init := F15,
    b_Unions_init := (F15.binds (ps := ["self", "many"]) fun _ _ _ _ _ _ us hl => match us, hl with | [_, _], _ => rfl),
    m_Unions_init := ma15,
    t_Unions_init := mt15,
    y_Unions_init := my15,
    k_Unions_init := k15,
    f_Unions_push := a16,
    d_Unions_push := _,
    F_Unions_push := F16,
    b_Unions_push := (F16.binds (ps := ["self", "pair"]) fun _ _ _ _ _ _ us hl => match us, hl with | [_, _], _ => rfl),
    m_Unions_push := ma16,
    t_Unions_push := mt16,
    y_Unions_push := my16,
    k_Unions_push := k16,
    f_Unions_pop := a17,
    d_Unions_pop := _,
    F_Unions_pop := F17,
    b_Unions_pop := (F17.binds (ps := ["self"]) fun _ _ _ _ _ _ us hl => match us, hl with | [_], _ => rfl),
    m_Unions_pop := ma17,
    t_Unions_pop := mt17,
    y_Unions_pop := my17,
    k_Unions_pop := k17,
    f_Unions_ask := a18,
    d_Unions_ask := _,
    F_Unions_ask := F18,
    b_Unions_ask := (F18.binds (ps := ["self", "question"]) fun _ _ _ _ _ _ us hl => match us, hl with | [_, _], _ => rfl),
    m_Unions_ask := ma18,
    t_Unions_ask := mt18,
    y_Unions_ask := my18,
    k_Unions_ask := k18,
    f_Unions_root_of := a19,
    d_Unions_root_of := _,
    F_Unions_root_of := F19,
    b_Unions_root_of := (F19.binds (ps := ["self", "point"]) fun _ _ _ _ _ _ us hl => match us, hl with | [_, _], _ => rfl),
    m_Unions_root_of := ma19,
    t_Unions_root_of := mt19,
    y_Unions_root_of := my19,
    k_Unions_root_of := k19,
    f_Unions_count_of := a20,
    d_Unions_count_of := _,
    F_Unions_count_of := F20,
    b_Unions_count_of := (F20.binds (ps := ["self", "root"]) fun _ _ _ _ _ _ us hl => match us, hl with | [_, _], _ => rfl),
    m_Unions_count_of := ma20,
    t_Unions_count_of := mt20,
    y_Unions_count_of := my20,
    k_Unions_count_of := k20,
    f_check_filled := a21,
    d_check_filled := _,
    F_check_filled := F21,
    b_check_filled := (F21.binds (ps := ["held"]) fun _ _ _ _ _ _ us hl => match us, hl with | [_], _ => rfl),
    g_check_filled := PySem.W.mg_of X G ga21,
    f_without := a22,
    d_without := _,
    F_without := F22,
    b_without := (F22.binds (ps := ["held", "numbers"]) fun _ _ _ _ _ _ us hl => match us, hl with | [_, _], _ => rfl),
    g_without := PySem.W.mg_of X G ga22,
    f_plan_pushes := a23,
    d_plan_pushes := _,
    F_plan_pushes := F23,
    b_plan_pushes := (F23.binds (ps := ["numbers"]) fun _ _ _ _ _ _ us hl => match us, hl with | [_], _ => rfl),
    g_plan_pushes := PySem.W.mg_of X G ga23,
    f_plan_pops := a24,
    d_plan_pops := _,
    F_plan_pops := F24,
    b_plan_pops := (F24.binds (ps := ["numbers"]) fun _ _ _ _ _ _ us hl => match us, hl with | [_], _ => rfl),
    g_plan_pops := PySem.W.mg_of X G ga24,
    f_changed_order := a25,
    d_changed_order := _,
    F_changed_order := F25,
    b_changed_order := (F25.binds (ps := ["order", "entries"]) fun _ _ _ _ _ _ us hl => match us, hl with | [_, _], _ => rfl),
    g_changed_order := PySem.W.mg_of X G ga25,
    f_total_built := a26,
    d_total_built := _,
    F_total_built := F26,
    b_total_built := (F26.binds (ps := ["many"]) fun _ _ _ _ _ _ us hl => match us, hl with | [_], _ => rfl),
    g_total_built := PySem.W.mg_of X G ga26,
    f_lowest_power := a27,
    d_lowest_power := _,
    F_lowest_power := F27,
    b_lowest_power := (F27.binds (ps := ["number"]) fun _ _ _ _ _ _ us hl => match us, hl with | [_], _ => rfl),
    g_lowest_power := PySem.W.mg_of X G ga27,
    f_is_integer := a28,
    d_is_integer := _,
    F_is_integer := F28,
    b_is_integer := (F28.binds (ps := ["value"]) fun _ _ _ _ _ _ us hl => match us, hl with | [_], _ => rfl),
    g_is_integer := PySem.W.mg_of X G ga28,
    f_check_integer := a29,
    d_check_integer := _,
    F_check_integer := F29,
    b_check_integer := (F29.binds (ps := ["value"]) fun _ _ _ _ _ _ us hl => match us, hl with | [_], _ => rfl),
    g_check_integer := PySem.W.mg_of X G ga29,
    f_check_number := a30,
    d_check_number := _,
    F_check_number := F30,
    b_check_number := (F30.binds (ps := ["value"]) fun _ _ _ _ _ _ us hl => match us, hl with | [_], _ => rfl),
    g_check_number := PySem.W.mg_of X G ga30,
    f_precedence := a31,
    d_precedence := _,
    c_precedence := cc31,
    p_precedence := pp31,
    F_precedence := F31,
    b_precedence := B31,
    g_precedence := PySem.W.mg_of X G ga31,
    f_plan_removal := a32,
    d_plan_removal := _,
    F_plan_removal := F32,
    b_plan_removal := (F32.binds (ps := ["ranked"]) fun _ _ _ _ _ _ us hl => match us, hl with | [_], _ => rfl),
    g_plan_removal := PySem.W.mg_of X G ga32,
    f_l_bag := a33,
    d_l_bag := _,
    F_l_bag := F33,
    b_l_bag := (F33.binds (ps := ["_law_script", "_law_at"]) fun _ _ _ _ _ _ us hl => match us, hl with | [_, _], _ => rfl),
    g_l_bag := PySem.W.mg_of X G ga33,
    f_l_take := a34,
    d_l_take := _,
    F_l_take := F34,
    b_l_take := (F34.binds (ps := ["_law_bag_here", "_law_many"]) fun _ _ _ _ _ _ us hl => match us, hl with | [_, _], _ => rfl),
    g_l_take := PySem.W.mg_of X G ga34,
    f_l_component := a35,
    d_l_component := _,
    F_l_component := F35,
    b_l_component := (F35.binds (ps := ["_law_pairs", "_law_point"]) fun _ _ _ _ _ _ us hl => match us, hl with | [_, _], _ => rfl),
    g_l_component := PySem.W.mg_of X G ga35,
    f_l_answer := a36,
    d_l_answer := _,
    F_l_answer := F36,
    b_l_answer := (F36.binds (ps := ["_law_pairs", "_law_wide", "_law_question"]) fun _ _ _ _ _ _ us hl => match us, hl with | [_, _, _], _ => rfl),
    g_l_answer := PySem.W.mg_of X G ga36,
    f_l_bound_right := a37,
    d_l_bound_right := _,
    F_l_bound_right := F37,
    b_l_bound_right := (F37.binds (ps := ["_law_log", "_law_added", "_law_removed", "_law_present"]) fun _ _ _ _ _ _ us hl => match us, hl with | [_, _, _, _], _ => rfl),
    g_l_bound_right := PySem.W.mg_of X G ga37,
    f_l_right := a38,
    d_l_right := _,
    F_l_right := F38,
    b_l_right := (F38.binds (ps := ["_law_bag_here", "_law_ranked", "_law_held", "_law_wide"]) fun _ _ _ _ _ _ us hl => match us, hl with | [_, _, _, _], _ => rfl),
    g_l_right := PySem.W.mg_of X G ga38,
    c_law := cc39,
    p_law := pp39,
    pne_precedence_law := pne31_39,
    z_abs := PySem.W.mg_none_of X G z_abs,
    z_any := PySem.W.mg_none_of X G z_any,
    z_bool := PySem.W.mg_none_of X G z_bool,
    z_int := PySem.W.mg_none_of X G z_int,
    z_isinstance := PySem.W.mg_none_of X G z_isinstance,
    z_len := PySem.W.mg_none_of X G z_len,
    z_list := PySem.W.mg_none_of X G z_list,
    z_max := PySem.W.mg_none_of X G z_max,
    z_min := PySem.W.mg_none_of X G z_min,
    z_property := PySem.W.mg_none_of X G z_property,
    z_range := PySem.W.mg_none_of X G z_range,
    z_reversed := PySem.W.mg_none_of X G z_reversed,
    z_sorted := PySem.W.mg_none_of X G z_sorted,
    u_GREATEST := _,
    v_GREATEST := PySem.W.mg_of X G v_GREATEST,
    r_GREATEST := ⟨_, rfl⟩,
    cl_Calls := ⟨pg_Calls, hd_Calls, po_Calls, sa_Calls⟩,
    mk_Calls := mk_Calls,
    kp_Calls := kp_Calls,
    n_Calls_entries := n_Calls_entries,
    n_Calls_running := n_Calls_running,
    cl_Outer := ⟨pg_Outer, hd_Outer, po_Outer, sa_Outer⟩,
    mk_Outer := mk_Outer,
    kp_Outer := kp_Outer,
    n_Outer_calls := n_Outer_calls,
    n_Outer_push_call := n_Outer_push_call,
    n_Outer_pop_call := n_Outer_pop_call,
    n_Outer_ask_call := n_Outer_ask_call,
    n_Outer_order := n_Outer_order,
    n_Outer_broken := n_Outer_broken,
    cl_Ranked := ⟨pg_Ranked, hd_Ranked, po_Ranked, sa_Ranked⟩,
    mk_Ranked := mk_Ranked,
    kp_Ranked := kp_Ranked,
    n_Ranked_outer := n_Ranked_outer,
    n_Ranked_given := n_Ranked_given,
    n_Ranked_held := n_Ranked_held,
    n_Ranked_ranks := n_Ranked_ranks,
    n_Ranked_removals := n_Ranked_removals,
    cl_Unions := ⟨pg_Unions, hd_Unions, po_Unions, sa_Unions⟩,
    mk_Unions := mk_Unions,
    kp_Unions := kp_Unions,
    n_Unions_groups := n_Unions_groups,
    n_Unions_parents := n_Unions_parents,
    n_Unions_counts := n_Unions_counts,
    n_Unions_moved := n_Unions_moved }
  refine ⟨PySem.W.fnOf "law" "law" (defArgs s_law) (defBody s_law) (defScope s_law) .none kV39 dc39 pm39 an39 (.ref cc39) ct39, [(cc31, pp31), (cc39, pp39)], spLaw T, (all_cons T31.2 (all_cons T39.2 (fun _ z => nomatch z))), (all_cons tn31 (all_cons tn39 (fun _ z => nomatch z))), (all_cons T31.1 (all_cons T39.1 (fun _ z => nomatch z))), fun s v => .of_eq rfl, fun H a ns hl ht hS => ⟨a, ns, rfl, hS, hl, ht _ (List.mem_cons_self ..), ht _ (List.mem_cons_of_mem _ (List.mem_cons_self ..)), fun _ => rfl⟩, fun base _ _ tb => Inf.FnOkG.of (ok_law T (tb _ (List.mem_cons_self ..)) (tb _ (List.mem_cons_of_mem _ (List.mem_cons_self ..))) F39)⟩
end Ob
open PySem PySem.W PyProof.Rows
set_option maxHeartbeats 0 in
theorem PySem.Challenge.cw_oncebuilt_k83_whole_ranked_components_holds : PySem.Challenge.rw_oncebuilt_k83_whole_ranked_components.Holds := by
  w_on; o_law; k_head; (case hw => w_witness2)
  k_fill
  refine Inf.walk_topG (l := PySem.Challenge.rw_oncebuilt_k83_whole_ranked_components) (n := 63) (k := 40) (x := "_law_script") (YP := _) (CX := fun _ => L2.CX0) rfl (by decide) rfl ⟨rfl, by decide, by decide⟩ (fun w h Y => by first | exact PySem.W.kIn_of Y | exact PySem.W.km_in_of Y) ?F (fun _ _ _ _ _ h => h)
  case F =>
    intro w mg fa h Y KX G hmg tt
    refine' Ob.all_mk KX G hmg tt ?gc_Calls ?gc_Outer ?gc_Ranked ?gc_Unions ?ma0 ?l0 ?c0 ?k0 ?mt0 ?my0 ?ma1 ?l1 ?c1 ?k1 ?mt1 ?my1 ?ma2 ?l2 ?c2 ?k2 ?mt2 ?my2 ?ma3 ?l3 ?c3 ?k3 ?mt3 ?my3 ?ma4 ?l4 ?c4 ?k4 ?mt4 ?my4 ?ma5 ?l5 ?c5 ?k5 ?mt5 ?my5 ?ma6 ?l6 ?c6 ?k6 ?mt6 ?my6 ?ma7 ?l7 ?c7 ?k7 ?mt7 ?my7 ?ma8 ?l8 ?c8 ?k8 ?mt8 ?my8 ?ma9 ?l9 ?c9 ?k9 ?kw9_0 ?mt9 ?my9 ?ma10 ?l10 ?c10 ?k10 ?mt10 ?my10 ?ma11 ?l11 ?c11 ?k11 ?mt11 ?my11 ?ma12 ?l12 ?c12 ?k12 ?mt12 ?my12 ?ma13 ?l13 ?c13 ?k13 ?mt13 ?my13 ?ma14 ?l14 ?c14 ?k14 ?mt14 ?my14 ?ma15 ?l15 ?c15 ?k15 ?mt15 ?my15 ?ma16 ?l16 ?c16 ?k16 ?mt16 ?my16 ?ma17 ?l17 ?c17 ?k17 ?mt17 ?my17 ?ma18 ?l18 ?c18 ?k18 ?mt18 ?my18 ?ma19 ?l19 ?c19 ?k19 ?mt19 ?my19 ?ma20 ?l20 ?c20 ?k20 ?mt20 ?my20 ?ga21 ?l21 ?c21 ?k21 ?ga22 ?l22 ?c22 ?k22 ?ga23 ?l23 ?c23 ?k23 ?ga24 ?l24 ?c24 ?k24 ?ga25 ?l25 ?c25 ?k25 ?ga26 ?l26 ?c26 ?k26 ?ga27 ?l27 ?c27 ?k27 ?ga28 ?l28 ?c28 ?k28 ?ga29 ?l29 ?c29 ?k29 ?ga30 ?l30 ?c30 ?k30 ?ga31 ?l31 ?c31 ?k31 ?tl31 ?tp31 ?tn31 ?tr31 ?ga32 ?l32 ?c32 ?k32 ?ga33 ?l33 ?c33 ?k33 ?ga34 ?l34 ?c34 ?k34 ?ga35 ?l35 ?c35 ?k35 ?ga36 ?l36 ?c36 ?k36 ?ga37 ?l37 ?c37 ?k37 ?ga38 ?l38 ?c38 ?k38 ?ga39 ?l39 ?c39 ?k39 ?tl39 ?tp39 ?tn39 ?tr39 ?pne31_39 ?z_abs ?z_any ?z_bool ?z_int ?z_isinstance ?z_len ?z_list ?z_max ?z_min ?z_property ?z_range ?z_reversed ?z_sorted ?v_GREATEST ?pg_Calls ?hd_Calls ?po_Calls ?sa_Calls ?mk_Calls ?kp_Calls ?n_Calls_entries ?n_Calls_running ?pg_Outer ?hd_Outer ?po_Outer ?sa_Outer ?mk_Outer ?kp_Outer ?n_Outer_calls ?n_Outer_push_call ?n_Outer_pop_call ?n_Outer_ask_call ?n_Outer_order ?n_Outer_broken ?pg_Ranked ?hd_Ranked ?po_Ranked ?sa_Ranked ?mk_Ranked ?kp_Ranked ?n_Ranked_outer ?n_Ranked_given ?n_Ranked_held ?n_Ranked_ranks ?n_Ranked_removals ?pg_Unions ?hd_Unions ?po_Unions ?sa_Unions ?mk_Unions ?kp_Unions ?n_Unions_groups ?n_Unions_parents ?n_Unions_counts ?n_Unions_moved
    (case gc_Calls => k_is); (case gc_Outer => k_is); (case gc_Ranked => k_is); (case gc_Unions => k_is); (case ma0 => k_is); (case l0 => k_is); (case c0 => k_is); (case k0 => k_is); (case mt0 => k_is); (case my0 => k_is); (case ma1 => k_is); (case l1 => k_is); (case c1 => k_is); (case k1 => k_is); (case mt1 => k_is); (case my1 => k_is); (case ma2 => k_is); (case l2 => k_is); (case c2 => k_is); (case k2 => k_is); (case mt2 => k_is); (case my2 => k_is); (case ma3 => k_is); (case l3 => k_is); (case c3 => k_is); (case k3 => k_is); (case mt3 => k_is); (case my3 => k_is); (case ma4 => k_is); (case l4 => k_is); (case c4 => k_is); (case k4 => k_is); (case mt4 => k_is); (case my4 => k_is); (case ma5 => k_is); (case l5 => k_is); (case c5 => k_is); (case k5 => k_is); (case mt5 => k_is); (case my5 => k_is); (case ma6 => k_is); (case l6 => k_is); (case c6 => k_is); (case k6 => k_is); (case mt6 => k_is); (case my6 => k_is); (case ma7 => k_is); (case l7 => k_is); (case c7 => k_is); (case k7 => k_is); (case mt7 => k_is); (case my7 => k_is); (case ma8 => k_is); (case l8 => k_is); (case c8 => k_is); (case k8 => k_is); (case mt8 => k_is); (case my8 => k_is); (case ma9 => k_is); (case l9 => k_is); (case c9 => k_is); (case k9 => k_is); (case kw9_0 => k_is); (case mt9 => k_is); (case my9 => k_is); (case ma10 => k_is); (case l10 => k_is); (case c10 => k_is); (case k10 => k_is); (case mt10 => k_is); (case my10 => k_is); (case ma11 => k_is); (case l11 => k_is); (case c11 => k_is); (case k11 => k_is); (case mt11 => k_is); (case my11 => k_is); (case ma12 => k_is); (case l12 => k_is); (case c12 => k_is); (case k12 => k_is); (case mt12 => k_is); (case my12 => k_is); (case ma13 => k_is); (case l13 => k_is); (case c13 => k_is); (case k13 => k_is); (case mt13 => k_is); (case my13 => k_is); (case ma14 => k_is); (case l14 => k_is); (case c14 => k_is); (case k14 => k_is); (case mt14 => k_is); (case my14 => k_is); (case ma15 => k_is); (case l15 => k_is); (case c15 => k_is); (case k15 => k_is); (case mt15 => k_is); (case my15 => k_is); (case ma16 => k_is); (case l16 => k_is); (case c16 => k_is); (case k16 => k_is); (case mt16 => k_is); (case my16 => k_is); (case ma17 => k_is); (case l17 => k_is); (case c17 => k_is); (case k17 => k_is); (case mt17 => k_is); (case my17 => k_is); (case ma18 => k_is); (case l18 => k_is); (case c18 => k_is); (case k18 => k_is); (case mt18 => k_is); (case my18 => k_is); (case ma19 => k_is); (case l19 => k_is); (case c19 => k_is); (case k19 => k_is); (case mt19 => k_is); (case my19 => k_is); (case ma20 => k_is); (case l20 => k_is); (case c20 => k_is); (case k20 => k_is); (case mt20 => k_is); (case my20 => k_is); (case ga21 => k_is); (case l21 => k_is); (case c21 => k_is); (case k21 => k_is); (case ga22 => k_is); (case l22 => k_is); (case c22 => k_is); (case k22 => k_is); (case ga23 => k_is); (case l23 => k_is); (case c23 => k_is); (case k23 => k_is); (case ga24 => k_is); (case l24 => k_is); (case c24 => k_is); (case k24 => k_is); (case ga25 => k_is); (case l25 => k_is); (case c25 => k_is); (case k25 => k_is); (case ga26 => k_is); (case l26 => k_is); (case c26 => k_is); (case k26 => k_is); (case ga27 => k_is); (case l27 => k_is); (case c27 => k_is); (case k27 => k_is); (case ga28 => k_is); (case l28 => k_is); (case c28 => k_is); (case k28 => k_is); (case ga29 => k_is); (case l29 => k_is); (case c29 => k_is); (case k29 => k_is); (case ga30 => k_is); (case l30 => k_is); (case c30 => k_is); (case k30 => k_is); (case ga31 => k_is); (case l31 => k_is); (case c31 => k_is); (case k31 => k_is); (case tl31 => k_is); (case tp31 => rfl); (case tn31 => kernel_rfl); (case tr31 => rfl); (case ga32 => k_is); (case l32 => k_is); (case c32 => k_is); (case k32 => k_is); (case ga33 => k_is); (case l33 => k_is); (case c33 => k_is); (case k33 => k_is); (case ga34 => k_is); (case l34 => k_is); (case c34 => k_is); (case k34 => k_is); (case ga35 => k_is); (case l35 => k_is); (case c35 => k_is); (case k35 => k_is); (case ga36 => k_is); (case l36 => k_is); (case c36 => k_is); (case k36 => k_is); (case ga37 => k_is); (case l37 => k_is); (case c37 => k_is); (case k37 => k_is); (case ga38 => k_is); (case l38 => k_is); (case c38 => k_is); (case k38 => k_is); (case ga39 => k_is); (case l39 => k_is); (case c39 => k_is); (case k39 => k_is); (case tl39 => k_is); (case tp39 => rfl); (case tn39 => kernel_rfl); (case tr39 => rfl); (case pne31_39 => decide); (case z_abs => k_is); (case z_any => k_is); (case z_bool => k_is); (case z_int => k_is); (case z_isinstance => k_is); (case z_len => k_is); (case z_list => k_is); (case z_max => k_is); (case z_min => k_is); (case z_property => k_is); (case z_range => k_is); (case z_reversed => k_is); (case z_sorted => k_is); (case v_GREATEST => k_is); (case pg_Calls => k_is); (case hd_Calls => k_is); (case po_Calls => k_is); (case sa_Calls => k_is); (case mk_Calls => k_is); (case kp_Calls => k_is); (case n_Calls_entries => k_is); (case n_Calls_running => k_is); (case pg_Outer => k_is); (case hd_Outer => k_is); (case po_Outer => k_is); (case sa_Outer => k_is); (case mk_Outer => k_is); (case kp_Outer => k_is); (case n_Outer_calls => k_is); (case n_Outer_push_call => k_is); (case n_Outer_pop_call => k_is); (case n_Outer_ask_call => k_is); (case n_Outer_order => k_is); (case n_Outer_broken => k_is); (case pg_Ranked => k_is); (case hd_Ranked => k_is); (case po_Ranked => k_is); (case sa_Ranked => k_is); (case mk_Ranked => k_is); (case kp_Ranked => k_is); (case n_Ranked_outer => k_is); (case n_Ranked_given => k_is); (case n_Ranked_held => k_is); (case n_Ranked_ranks => k_is); (case n_Ranked_removals => k_is); (case pg_Unions => k_is); (case hd_Unions => k_is); (case po_Unions => k_is); (case sa_Unions => k_is); (case mk_Unions => k_is); (case kp_Unions => k_is); (case n_Unions_groups => k_is); (case n_Unions_parents => k_is); (case n_Unions_counts => k_is); (case n_Unions_moved => k_is)


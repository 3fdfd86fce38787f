import PyProof.Rows.All
import Wide.All
import OpenK.AllK
import Wide.FinOn
import HandS.ForMost
import HandS.ForExc
import HandS.Nested
import HandS.Star
import HandS.Finally
import HandS.EndTab
import HandS.Replace
import HandS.Defaults
import HandS.Wide
import HandS.WideBits
import HandS.IsInst
import HandS.Codes
import HandS.Comp
import HandS.Conv
import HandS.MakeKwOnly
import HandS.SortInts
import HandS.MethStar
import PySem.Challenge.RW_oncebuilt_k81_whole_undone_step_by_step
import HandS.Style
set_option Elab.async false
set_option linter.all false
set_option maxRecDepth 100000
set_option maxHeartbeats 4000000
namespace Inf
open PySem PySem.Spec PyProof.Rows L2 NdefX LamX
/-! ### a cell that is told -/
def CellO (c : Addr) (v : V) : HO := .ext fun h => ∃ u, L2.RelV v u ∧ h.IsCell c (some u)
theorem cellO_at {P : Program} {w : World} {H : Hp} {h : Heap} {c : Addr} {v : V} (hok : HOk P w H h) (e : H c = some (CellO c v)) : ∃ u, L2.RelV v u ∧ h.IsCell c (some u) := by
  obtain ⟨z, _, _⟩ := hok c _ e
  exact z
theorem cellO_ok {P : Program} {w : World} {H : Hp} {h : Heap} {c : Addr} {v : V} (x : ∃ u, L2.RelV v u ∧ h.IsCell c (some u)) : ObjOk P w H h c (CellO c v) := by
  refine ⟨x, ?_, fun h1 h2 ⟨u, r, o, e, d⟩ k => ⟨u, r, o, k o e, d⟩⟩
  obtain ⟨u, _, o, e, _⟩ := x
  exact ⟨o, e⟩
/-! ### cells left out, and put back -/
def cut (cs : List Addr) (H : Hp) : Hp := fun b => if b ∈ cs then Option.none else H b
def mend (cs : List Addr) (H H1 : Hp) : Hp := fun b => if b ∈ cs then H b else H1 b
theorem cut_in {cs : List Addr} {H : Hp} {b : Addr} (h : b ∈ cs) : cut cs H b = Option.none := if_pos h
theorem cut_out {cs : List Addr} {H : Hp} {b : Addr} (h : b ∉ cs) : cut cs H b = H b := if_neg h
theorem mend_in {cs : List Addr} {H H1 : Hp} {b : Addr} (h : b ∈ cs) : mend cs H H1 b = H b := if_pos h
theorem mend_out {cs : List Addr} {H H1 : Hp} {b : Addr} (h : b ∉ cs) : mend cs H H1 b = H1 b := if_neg h
def cellsOf (F : NF) (fr : List Str) : List Addr := fr.filterMap fun y => F.cl.lookup y
theorem mem_cells {F : NF} {fr : List Str} {c : Addr} : c ∈ cellsOf F fr ↔ ∃ y ∈ fr, F.cl.lookup y = some c := List.mem_filterMap
/-- the function F stands at f, and its captured cells hold ws -/
structure Clo (H : Hp) (f : Addr) (F : NF) (fr : List Str) (ws : List V) : Prop where
  fn : H f = some (FnO f F)
  code : H F.c = some (CodeO F.c F.qual)
  len : ws.length = fr.length
  dom : ∀ y c, F.cl.lookup y = some c → y ∈ fr
  inj : ∀ x y c, F.cl.lookup x = some c → F.cl.lookup y = some c → x = y
  at_ : ∀ (i : Nat) (y : Str), fr[i]? = some y → ∃ c v, F.cl.lookup y = some c ∧ ws[i]? = some v ∧ H c = some (CellO c v)
theorem Clo.same {H H1 : Hp} {f : Addr} {F : NF} {fr : List Str} {ws : List V} (h : Clo H f F fr ws) (s : Same H H1) : Clo H1 f F fr ws :=
  ⟨s _ _ h.fn, s _ _ h.code, h.len, h.dom, h.inj, fun i y e => by
    obtain ⟨c, v, a, b, d⟩ := h.at_ i y e
    exact ⟨c, v, a, b, s _ _ d⟩⟩
theorem Clo.cell {H : Hp} {f : Addr} {F : NF} {fr : List Str} {ws : List V} (h : Clo H f F fr ws) {b : Addr} (hb : b ∈ cellsOf F fr) : ∃ v, H b = some (CellO b v) := by
  obtain ⟨y, hy, e⟩ := mem_cells.mp hb
  obtain ⟨i, hi⟩ := List.mem_iff_getElem?.mp hy
  obtain ⟨c, v, a, _, d⟩ := h.at_ i y hi
  rw [e] at a
  cases a
  exact ⟨v, d⟩
/-- what is no thing by a word of its own is no cell -/
theorem Clo.out {H : Hp} {f : Addr} {F : NF} {fr : List Str} {ws : List V} (h : Clo H f F fr ws) {b : Addr} {o : HO} (e : H b = some o) (n : ∀ φ, o ≠ .ext φ) : b ∉ cellsOf F fr := fun hb => by
  obtain ⟨v, d⟩ := h.cell hb
  rw [e] at d
  exact n _ (Option.some.inj d)
section
variable {P : Program} {w : World} {K : PySem.W.Frag} {mg : Str → Option Value} {base : Heap} {k : Nat} {f : Addr} {F : NF} {ps fr : List Str} {sp : List (Option V) → Sp}
/-- A FUNCTION THAT WAS MADE IN A DEF, called from anywhere: its cells are told; while it runs they are left out, behind it they are put back -/
theorem clo_fnR (N : NOk P w K mg base CX0 k f F ps fr sp) :
    FnR P w K mg base CX0 k f (fun vs H Q E => ∃ ws, Clo H f F fr ws ∧ sp (ws.map some) vs (cut (cellsOf F fr) H) (fun v H1 => (∀ b, b ∈ cellsOf F fr → H1 b = Option.none) → Q v (mend (cellsOf F fr) H H1)) E) := by
  intro A outer s H us vs Q E hr e0 r hsp
  obtain ⟨ws, hc, hsp⟩ := hsp
  have cellAt : ∀ b, b ∈ cellsOf F fr → ∃ v, H b = some (CellO b v) := fun b hb => hc.cell hb
  have fnout : f ∉ cellsOf F fr := fun hb => by
    obtain ⟨v, e⟩ := cellAt f hb
    obtain ⟨u, _, o, e1, e2⟩ := cellO_at e0.hok e
    obtain ⟨od, sl, doc, pm, ctv, e3⟩ := fnO_at e0.hok hc.fn
    rw [e1] at e3
    cases e3
    cases e2
  have cout : F.c ∉ cellsOf F fr := fun hb => by
    obtain ⟨v, e⟩ := cellAt F.c hb
    obtain ⟨u, _, o, e1, e2⟩ := cellO_at e0.hok e
    obtain ⟨⟨oc, vs', t, h1, h2, h3⟩, _, _⟩ := e0.hok F.c _ hc.code
    rw [e1] at h1
    cases h1
    rw [e2] at h2
    cases h2
  have hokc : HOk P w (cut (cellsOf F fr) H) s.heap := fun b o e => by
    by_cases hb : b ∈ cellsOf F fr
    · rw [cut_in hb] at e
      cases e
    · rw [cut_out hb] at e
      refine (e0.hok b o e).stay (fun c u _ q => q) (fun c q => ?_) fun c xs q => ?_
      · rw [cut_out (hc.out q (fun φ z => nomatch z))]
        exact q
      · rw [cut_out (hc.out q (fun φ z => nomatch z))]
        exact q
  have noneC : ∀ b, H b = Option.none → cut (cellsOf F fr) H b = Option.none := fun b e => by
    by_cases hb : b ∈ cellsOf F fr
    · exact cut_in hb
    · rw [cut_out hb]
      exact e
  have e1 : Env0 P w K mg base A outer s (cut (cellsOf F fr) H) := ⟨e0.frames, e0.mod, fun b o q => ⟨(e0.bs b o q).1, noneC b (e0.bs b o q).2⟩, e0.bsz, e0.funs, fun b hb => noneC b (e0.frf b hb), hokc, e0.bare⟩
  have C : CellsAt F.cl fr (ws.map some) s.heap (cut (cellsOf F fr) H) := by
    refine ⟨by rw [List.length_map]; exact hc.len, fun y c e => ?_, hc.inj, fun i y e => ?_⟩
    · have hb : c ∈ cellsOf F fr := mem_cells.mpr ⟨y, hc.dom y c e, e⟩
      obtain ⟨v, d⟩ := cellAt c hb
      obtain ⟨u, _, z⟩ := cellO_at e0.hok d
      exact ⟨cut_in hb, _, z⟩
    · obtain ⟨c, v, a, b, d⟩ := hc.at_ i y e
      refine ⟨c, a, fun v' e' => ?_⟩
      rw [List.getElem?_map, b] at e'
      cases e'
      obtain ⟨u, r', z⟩ := cellO_at e0.hok d
      exact ⟨u, r', z⟩
  refine codeAny_mono (N.run A outer s (cut (cellsOf F fr) H) us vs (ws.map some) _ E hr e1 (by rw [cut_out fnout]; exact hc.fn) (by rw [cut_out cout]; exact hc.code) C r hsp) fun res s' hq => ?_
  cases res with
  | error e => exact hq
  | ok fl =>
    cases fl with
    | next => exact hq
    | brk => exact hq
    | cont => exact hq
    | ret u =>
      obtain ⟨v, H1, os, bare, un, hok1, rv, q⟩ := hq
      have gone : ∀ b, b ∈ cellsOf F fr → H1 b = Option.none := fun b hb => by
        obtain ⟨v, d⟩ := cellAt b hb
        obtain ⟨u, _, o, z1, z2⟩ := cellO_at e0.hok d
        exact un.free b o z1 (cut_in hb) (by simp)
      have notfr : ∀ b, b ∈ cellsOf F fr → b ∉ frs outer := fun b hb z => by
        obtain ⟨v, d⟩ := cellAt b hb
        rw [e0.frf b z] at d
        cases d
      refine ⟨v, mend (cellsOf F fr) H H1, os, bare, ⟨fun b o a n h1 h2 => un.keep b o a (noneC b n) h1 h2, fun b o a n h1 h2 => un.slot b o a (noneC b n) h1 h2, fun b o a n h2 => ?_, un.there, fun b xs e => ?_, fun b o u e => ?_, fun b ps e => ?_⟩, fun b o e => ?_, rv, q gone⟩
      · by_cases hb : b ∈ cellsOf F fr
        · rw [mend_in hb]
          exact n
        · rw [mend_out hb]
          exact un.free b o a (noneC b n) h2
      · have hb := hc.out e (fun φ z => nomatch z)
        rw [mend_out hb]
        exact un.tups b xs (by rw [cut_out hb]; exact e)
      · have hb := hc.out e (fun φ z => nomatch z)
        rw [mend_out hb]
        exact un.frzs b o u (by rw [cut_out hb]; exact e)
      · have hb := hc.out e (fun φ z => nomatch z)
        rw [mend_out hb]
        exact un.tbls b ps (by rw [cut_out hb]; exact e)
      · by_cases hb : b ∈ cellsOf F fr
        · rw [mend_in hb] at e
          obtain ⟨v', d⟩ := cellAt b hb
          rw [d] at e
          cases e
          obtain ⟨u', r', o', z1, z2⟩ := cellO_at e0.hok d
          exact cellO_ok ⟨u', r', o', un.keep b o' z1 (cut_in hb) (notfr b hb) (by simp), z2⟩
        · rw [mend_out hb] at e
          refine (hok1 b o e).stay (fun c u _ q => q) (fun c q => ?_) fun c xs q => ?_
          · have hb' : c ∉ cellsOf F fr := fun z => by
              rw [gone c z] at q
              cases q
            rw [mend_out hb']
            exact q
          · have hb' : c ∉ cellsOf F fr := fun z => by
              rw [gone c z] at q
              cases q
            rw [mend_out hb']
            exact q
end
theorem mend_at {cs : List Addr} {H H1 : Hp} {a : Addr} {o : HO} (g : ∀ b, b ∈ cs → H1 b = Option.none) (e : H1 a = some o) : mend cs H H1 a = some o := by
  rw [mend_out fun z => by rw [g a z] at e; cases e]
  exact e
theorem cut_at {cs : List Addr} {H : Hp} {a : Addr} {o : HO} (n : a ∉ cs) (e : H a = some o) : cut cs H a = some o := (cut_out n).trans e
end Inf

set_option Elab.async false
set_option linter.all false
set_option maxRecDepth 100000
set_option maxHeartbeats 4000000
namespace Inf
open PySem PySem.Spec PyProof.Rows L2 NdefX LamX
/-! ### a body that ends in a return: what its names hold there is told -/
abbrev TSR := (L2.St → V → Hp → Prop) → L2.St → Hp → Prop
structure PSsR (X : Cx) (ss : List Stmt) (t : TSR) : Prop where
  run : ∀ (pins : List (Addr × Obj)) (s : Shared) (σ : L2.St) (H : Hp) (R : L2.St → V → Hp → Prop), Inv X pins σ H s → t R σ H →
    wpAny (model X.prog X.w) X.A (execs ss X.env) (fun fl s' => ∃ u v σ' H', fl = .ret u ∧ Inv X pins σ' H' s' ∧ L2.RelV v u ∧ R σ' v H') X.xe s
theorem psr_cons {X : Cx} {st : Stmt} {rest : List Stmt} {t : TS} {u : TSR} (h1 : PS X st t) (h2 : PSsR X rest u) : PSsR X (st :: rest) (fun R σ H => t { nx := fun σ' H' => u R σ' H', rt := fun _ _ => False } σ H) := by
  refine ⟨fun pins s σ H R I h => ?_⟩
  refine wpAny_execs_cons (thn (h1.run pins s σ H { nx := fun σ' H' => u R σ' H', rt := fun _ _ => False } I h) fun fl s1 q => ?_)
  cases fl with
  | next =>
    obtain ⟨σ1, H1, I1, q1⟩ := q
    exact h2.run pins s1 σ1 H1 R I1 q1
  | brk =>
    obtain ⟨_, _, _, q1⟩ := q
    exact False.elim q1
  | cont =>
    obtain ⟨_, _, _, q1⟩ := q
    exact False.elim q1
  | ret v =>
    obtain ⟨_, _, _, _, _, q1⟩ := q
    exact False.elim q1
theorem psr_ret {X : Cx} {e : Expr} {pos : Pos} {te : TE} (he : PE X e te) : PSsR X [.Return (some e) pos] (fun R σ H => te σ H (R σ)) := by
  refine ⟨fun pins s σ H R I h => ?_⟩
  refine wpAny_execs_cons (wpAny_Return_some (thn (he.run pins s σ H _ I h) fun v s1 ⟨x, H1, I1, r1, q1⟩ => ?_))
  exact ⟨v, x, σ, H1, rfl, I1, r1, q1⟩
/-! ### a def that returns things that hold its names -/
/-- the heap behind the return: the def's cells are told -/
structure Fin (cells : List (Str × Addr)) (names : List (Str × NameKind)) (N : List Str) (σ : L2.St) (H H' : Hp) : Prop where
  same : Same H H'
  gone : ∀ b, H' b = Option.none → H b = Option.none
  inj : ∀ x y c, cells.lookup x = some c → cells.lookup y = some c → x = y
  at_ : ∀ (i : Nat) (y : Str) (c : Addr) (v : V), N[i]? = some y → names.lookup y = some .cell → cells.lookup y = some c → σ[i]? = some (some v) → H' c = some (CellO c v)
theorem cells_big : ∀ (names : List (Str × NameKind)) (n lo : Nat) (acc : List (Str × Addr)), (∀ p ∈ acc, lo ≤ p.2) → lo ≤ n → ∀ p ∈ cellsFrom n names acc, lo ≤ p.2
  | [], n, lo, acc, h, _ => h
  | (x, kd) :: r, n, lo, acc, h, hn => by
    unfold cellsFrom
    split
    · exact cells_big r (n + 1) lo _ (fun p hp => by
        rcases List.mem_cons.mp hp with rfl | hp
        · exact hn
        · exact h p hp) (by omega)
    · exact cells_big r n lo acc h hn
section
variable {CX : CXT} {P : Program} {w : World} {K : PySem.W.Frag} {mg : Str → Option Value} {base : Heap} {N ps : List Str} {qual : Str} {scope : Scope} {f : Addr} {cdv : Value} {A : Around} {outer : List Env} {s s' : Shared} {H H' : Hp} {E : XK} {σ : L2.St} {Q : VK}
open Classical in
theorem fin_make (nd : N.Nodup) (J : Inv (cxOf CX P w K mg base N qual scope f cdv A outer s H E) [] σ H' s') :
    ∃ H'', Fin (envOfC qual scope s.heap.objs.size f cdv).cells scope.names N σ H' H'' ∧ Un (frs outer) [] H H'' s.heap s'.heap ∧ HOk P w H'' s'.heap := by
  have ge : ∀ (y : Str) (c : Addr), (envOfC qual scope s.heap.objs.size f cdv).cells.lookup y = some c → s.heap.objs.size ≤ c := fun y c e =>
    cells_big scope.names (s.heap.objs.size + 1) s.heap.objs.size [] (fun p hp => by cases hp) (Nat.le_succ _) (y, c) (PySem.mem_of_lookup e)
  have J0 : Un (frs outer) [] H H' s.heap s'.heap := J.base
  have inj := J.ok.inj
  let Pr : Addr → V → Prop := fun b v => ∃ (i : Nat) (y : Str), N[i]? = some y ∧ scope.names.lookup y = some .cell ∧ (envOfC qual scope s.heap.objs.size f cdv).cells.lookup y = some b ∧ σ[i]? = some (some v)
  have gone : ∀ b v, Pr b v → H' b = Option.none := fun b v ⟨i, y, _, _, e, _⟩ => J.freeC y b e
  have uniq : ∀ b v u, Pr b v → Pr b u → v = u := fun b v u ⟨i, y, a1, a2, a3, a4⟩ ⟨j, z, b1, b2, b3, b4⟩ => by
    have e1 : y = z := inj y z b a3 b3
    subst e1
    have e2 : i = j := by
      obtain ⟨h1, g1⟩ := List.getElem?_eq_some_iff.mp a1
      obtain ⟨h2, g2⟩ := List.getElem?_eq_some_iff.mp b1
      exact (List.getElem_inj nd).mp (g1.trans g2.symm)
    subst e2
    rw [a4] at b4
    exact Option.some.inj (Option.some.inj b4)
  let H'' : Hp := fun b => if h : ∃ v, Pr b v then some (CellO b (Classical.choose h)) else H' b
  have inC : ∀ b v, Pr b v → H'' b = some (CellO b v) := fun b v h => by
    have hx : ∃ v, Pr b v := ⟨v, h⟩
    show (if h : ∃ v, Pr b v then some (CellO b (Classical.choose h)) else H' b) = _
    rw [dif_pos hx, uniq b _ v (Classical.choose_spec hx) h]
  have outC : ∀ b, (¬ ∃ v, Pr b v) → H'' b = H' b := fun b h => dif_neg h
  have known : ∀ b o, H' b = some o → H'' b = some o := fun b o e => by
    rw [outC b fun ⟨v, h⟩ => by rw [gone b v h] at e; cases e]
    exact e
  refine ⟨H'', ⟨known, fun b e => ?_, inj, fun i y c v h1 h2 h3 h4 => inC c v ⟨i, y, h1, h2, h3, h4⟩⟩, ⟨J0.keep, J0.slot, fun b o a n h2 => ?_, J0.there, fun b xs e => known _ _ (J0.tups b xs e), fun b o u e => known _ _ (J0.frzs b o u e), fun b ps' e => ?_⟩, fun b o e => ?_⟩
  · by_cases hb : ∃ v, Pr b v
    · obtain ⟨v, h⟩ := hb
      rw [inC b v h] at e
      cases e
    · rw [outC b hb] at e
      exact e
  · rw [outC b fun ⟨v, i, y, _, _, e, _⟩ => by
      exact absurd (Heap.lt_size a) (Nat.not_lt.mpr (ge y b e))]
    exact J0.free b o a n h2
  · obtain ⟨more, e2⟩ := J0.tbls b ps' e
    exact ⟨more, known _ _ e2⟩
  · by_cases hb : ∃ v, Pr b v
    · obtain ⟨v, h⟩ := hb
      rw [inC b v h] at e
      cases e
      obtain ⟨i, y, a1, a2, a3, a4⟩ := h
      obtain ⟨m, hn, hl⟩ := J.loc
      obtain ⟨u, ru, lk⟩ := hl i y v a1 a4 (.inr (.inl a2))
      refine cellO_ok ⟨u, ru, ?_⟩
      rcases lk with ⟨z, _⟩ | ⟨_, c', hc', hcell⟩
      · have z' : scope.names.lookup y = some .local := z
        rw [a2] at z'
        cases z'
      · have hc2 : (envOfC qual scope s.heap.objs.size f cdv).cells.lookup y = some c' := hc'
        rw [a3] at hc2
        cases hc2
        exact hcell
    · rw [outC b hb] at e
      exact (J.hok b o e).stay (fun c u _ q => q) (fun c q => known _ _ q) fun c xs q => known _ _ q
end
/-- THE RULE for such a def -/
theorem Fun.okC {P : Program} {w : World} {K : PySem.W.Frag} {mg : Str → Option Value} {base : Heap} {x qual : Str} {st : Stmt} {f : Addr} {fd : FuncData} {N ps : List Str} {k : Nat} {sp : Sp} (F : L2.Fun K x qual st f fd) (S : FnScope N ps (defScope st)) (len : ∀ vs H Q E, sp vs H Q E → vs.length = ps.length)
    (hbody : ∀ (cdv : Value) (A : Around) (outer : List Env) (s : Shared) (H : Hp) (vs : List V) (Q : VK) (E : XK), Room k (A.deeper (envOfC qual (defScope st) s.heap.objs.size f cdv)) → PySem.W.codeIn K cdv qual = true → sp vs H Q E →
      ∃ t, PSsR (cxOf CX0 P w K mg base N qual (defScope st) f cdv A outer s H E).nox (defBody st) t ∧
        t (fun σ v H' => ∀ H'', Fin (envOfC qual (defScope st) s.heap.objs.size f cdv).cells (defScope st).names N σ H' H'' → Q v H'') (start N vs) H) : FnOk P w K mg base CX0 (k + 1) f fd ps sp := by
  obtain ⟨oc, od, kV, doc, pm, an, cdv, ct, osl, rfl, lk, hcd⟩ := F.ex
  refine ⟨len, fun A outer s H args us vs Q E hr e0 hb r hsp => ?_⟩
  have hl := len _ _ _ _ hsp
  have KX : K.In s.heap := e0.mod.kin.keeps fun b o e => (e0.bs b o e).1
  have lim : s.heap.NoLimit := e0.mod.nolimit.keeps fun b o e => (e0.bs b o e).1
  have hkind : ∀ y ∈ ps.zip us, (defScope st).names.lookup y.1 = some .local ∨ ((defScope st).names.lookup y.1 = some .cell ∧ ((cellsFrom (s.heap.objs.size + 1) (defScope st).names []).lookup y.1).isSome = true) := fun ⟨n, v⟩ hy => by
    rcases S.par n (List.of_mem_zip hy).1 with q | q
    · exact .inl q
    · exact .inr ⟨q, PySem.W.cellsFrom_some _ _ _ (.inl q)⟩
  refine codeAny_call_function hr.depth (KX _ _ lk) rfl S.co S.gen rfl (PySem.W.codeRec_of KX hcd) (hb _ _ _ _ ?_)
  refine wpAny_newFunctionEnv_cells S.kind hkind fun env he s1 xx => ?_
  subst he
  refine ⟨lim.keeps xx.toInCall.keep, codeAny_func ?_⟩
  obtain ⟨t, ht, hq⟩ := hbody cdv A outer s H vs Q E (hr.deeper _) hcd hsp
  have I : Inv (cxOf CX0 P w K mg base N qual (defScope st) f cdv A outer s H E) [] (start N vs) H s1 := inv_start S hr.hd e0 hl r xx
  refine wpAny_mono (ht.run [] s1 (start N vs) H _ (I.wish _) hq) (fun fl s' hs => ?_) fun e s' hs => False.elim hs
  obtain ⟨u, v, σ', H', rfl, J', rv, q⟩ := hs
  have J : Inv (cxOf CX0 P w K mg base N qual (defScope st) f cdv A outer s H E) [] σ' H' s' := J'.unwish
  obtain ⟨H'', hF, hU, hO⟩ := fin_make S.nd J
  exact ⟨v, H'', J.os, J.bare, hU, hO, rv, q H'' hF⟩
end Inf

set_option Elab.async false
set_option linter.all false
set_option maxRecDepth 100000
set_option maxHeartbeats 4000000
namespace Inf
open PySem PySem.Spec PyProof.Rows L2 NdefX LamX
/-! ### f( *values), f a name that holds a function that was made in a def -/
/-- such a thing is a function object -/
def FnHO (f : Addr) (o : HO) : Prop := ∀ (P : Program) (w : World) (H : Hp) (h : Heap), HOk P w H h → H f = some o → PySem.W.FnAt f h
theorem fnHO_of {f : Addr} {F : NF} : FnHO f (FnO f F) := fun P w H h hok e => by
  obtain ⟨od, sl, doc, pm, ctv, z⟩ := fnO_at hok e
  exact ⟨_, od, _, sl, z⟩
def tAct (P : Program) (w : World) (K : PySem.W.Frag) (mg : Str → Option Value) (base : Heap) (CX : CXT) (k i : Nat) (E : L2.St → XK) (te : TE) : TE := fun σ H Q => ∃ f, σ[i]? = some (some (.ref f)) ∧ te σ H fun y H1 => ∃ a xs o sp, y = V.ref a ∧ (SqT K H1 a xs ∨ SqL K H1 a xs) ∧ H1 f = some o ∧ FnHO f o ∧
  FnR P w K mg base CX k f sp ∧ sp xs H1 Q (E σ)
section
variable {X : Cx} {CX : CXT} {k i : Nat} {E : L2.St → XK} {x : Str} {e : Expr} {te : TE} {p sp_ pos : Pos}
theorem run_fnE {pins : List (Addr × Obj)} {σ : L2.St} {H : Hp} {s : Shared} {f : Addr} {sp : Sp} {Q : VK} {us : List Value} {vs : List V} (F : FnR X.prog X.w X.K X.mg X.base CX k f sp) (hr : Room k X.A) (hx : PassesAt CX X σ (E σ)) (I : Inv X pins σ H s) (r : Vals vs us) (h : sp vs H Q (E σ)) :
    wpAny (model X.prog X.w) X.A (call (.ref f) us) (EP X pins σ Q) X.xe s := by
  refine wpAny_call (codeAny_mono (F X.A X.stack s H us vs Q (E σ) hr I.env0 r h) fun r s' hq => ?_)
  match r, hq with
  | .error e, hq => exact hx pins H s e s' I hq
  | .ok (.ret u), hq => exact I.after hq
  | .ok .next, hq => exact False.elim hq
  | .ok .brk, hq => exact False.elim hq
  | .ok .cont, hq => exact False.elim hq
theorem pe_act (hN : X.N[i]? = some x) (hv : Vis X.env.scope x) (hr : Room k X.A) (hx : ∀ σ, PassesAt CX X σ (E σ)) (he : PE X e te) (hd : (x == ("__debug__" : Str)) = false := by decide) (hcd : (x == ("__classdict__" : Str)) = false := by decide)
    (hst : starEach [.Starred e sp_] X.env = [(true, eval e X.env)] := by rfl) : PE X (.Call (.Name x p) [.Starred e sp_] [] pos) (tAct X.prog X.w X.K X.mg X.base CX k i E te) := by
  refine ⟨fun pins s σ H Q I h => ?_⟩
  obtain ⟨f, hs, h⟩ := h
  refine wpAny_Call_Name_kw (thn ((pe_var (pos := p) hN hv hd hcd).run pins s σ H (fun v H1 => v = .ref f ∧ H1 = H) I ⟨.ref f, hs, rfl, rfl⟩) fun u s1 ⟨v, H1, I1, r1, ev, eH⟩ => ?_)
  subst ev
  rw [eH] at I1
  obtain rfl : u = Value.ref f := r1
  rw [show backTo pos (starEach [.Starred e sp_] X.env) = [(true, (do let v ← eval e X.env; standAt pos; pure v))] by rw [hst]; rfl]
  refine PySem.W.ks_call (P := PySem.W.FnAt f) rfl PySem.W.keeps_F (PySem.W.ks_lone ?_)
  refine thn (he.run pins s1 σ H _ I1 h) fun v s2 ⟨y, H2, I2, ry, a, xs, o, sp, ey, hxs, hf, ho, hF, q⟩ => ?_
  subst ey
  obtain rfl : v = Value.ref a := ry
  exact StX.star_any I2 hxs fun us s3 I3 rv => ⟨ho _ _ _ _ I3.hok hf, run_fnE hF hr (hx σ) I3 rv q⟩
end
/-! ### try: body finally: suite, where nothing is raised -/
section
variable {X : Cx} {body : List Stmt} {f₀ : Stmt} {fs : List Stmt} {pos : Pos} {tb tf : TS}
def tFin0 (tb tf : TS) : TS := fun D σ H => tb { nx := fun σ1 H1 => tf D σ1 H1, rt := fun _ _ => False } σ H
theorem ps_fin0 (hb : PSs X.nox body tb) (hf : PSs X.nox (f₀ :: fs) tf) : PS X (.Try body [] [] (f₀ :: fs) pos) (tFin0 tb tf) := by
  refine ⟨fun pins s σ H D I h => wpAny_Try_finally (wpAny_mono (hb.run pins s σ H _ (I.wish _) h) (fun g s1 z => ?_) fun _ _ z => False.elim z)⟩
  match g, z with
  | .ret u, z => exact (z.elim fun _ z => z.elim fun _ z => z.elim fun _ z => z.2.2).elim
  | .brk, z => exact (z.elim fun _ z => z.elim fun _ z => z.2).elim
  | .cont, z => exact (z.elim fun _ z => z.elim fun _ z => z.2).elim
  | .next, z =>
    obtain ⟨σ1, H1, J1, q1⟩ := z
    refine wpAny_execs_nil (wpAny_mono (hf.run pins s1 σ1 H1 D (J1.unwish.wish _) q1) (fun g2 s2 q2 => ?_) fun _ _ e => False.elim e)
    have q3 : SP X pins D g2 s2 := q2.unwish
    cases g2 <;> exact q3
end
end Inf

set_option Elab.async false
set_option linter.all false
set_option maxRecDepth 100000
set_option maxHeartbeats 4000000
namespace Inf
open PySem PySem.Spec PyProof.Rows L2 NdefX LamX
/-- the tables of the code objects of the top's defs, as the written part and the head tell them -/
def TopTabs (q : Program) (K : PySem.W.Frag) (mg : Str → Option Value) (h : Heap) : Prop := ∀ (x : Str) (f c P : Addr) (o1 : Obj) (fd1 : FuncData) (e : Value) (dd : Option Addr) (vs1 : Array Value) (sl : Array (Option Value)),
  (recsOf q).any (fun d => d.name == x) = true → mg x = some (.ref f) → K.lookup f = some o1 → o1.data = .func fd1 → fd1.code = .ref c → K.lookup c = some ⟨e, dd, .fields vs1, sl⟩ → vs1[11]? = some (.ref P) →
    PySem.W.CodeHd h c P ∧ h.get? P = some { cls := .none, data := .fields #[] }
theorem walk_top {l : PySem.W.OpenLaw} {n k : Nat} {q : Program} {loose : List Str} {XP : (Str → Option Value) → Heap → Prop} {YP : World → Heap → Prop} {d : DefRec} {K : Params → PySem.W.Frag} {CX : World → CXT} {x : Str}
    (hn : l.most = some n) (hn2 : n ≤ sizeLine) (hdf : d.params.defaults = []) (hr : Room k callerA) (hY : ∀ (w : World) (h : Heap), YP w h → (K w.params).In h)
    (F : ∀ (w : World) (mg : Str → Option Value) (fa : Addr) (h : Heap), YP w h → (K w.params).In h → h.Ns mainGlobals mg → mg d.name = some (.ref fa) → TopTabs q (K w.params) mg h → LawAtS l w (K w.params) (CX w) k n x mg fa h)
    (hCX : ∀ (w : World) (H : Hp) (s : Shared) (e : Value) (s' : Shared), CX w [] H s (fun _ _ _ => False) e s' → False) :
    PySem.W.WalkO q loose XP YP l.row.toRowW d [] (fun f vs => PySem.call f vs) :=
  Att.attach_callB hn hdf fun w s₀ s₁ mg mb fa o pm cd doc a vs ns G Y ho hd hcd hmg hobj hints hlen hbits hg => by
    have KX := hY w _ Y
    have tabs : TopTabs q (K w.params) mg s₁.heap := fun x f c P o1 fd1 e dd vs1 sl hrec hx k1 k2 k3 k4 k5 => by
      obtain ⟨dL, hm, hn1⟩ := List.any_eq_true.mp hrec
      have hn2 : dL.name = x := beq_iff_eq.mp hn1
      obtain ⟨a', o', fd', c', P', h1, h2, h3, h4, h5, h6⟩ := G.T.tab dL hm
      rw [hn2, hx] at h1
      cases h1
      have g1 := KX _ _ k1
      rw [g1] at h2
      cases h2
      rw [k2] at h3
      cases h3
      rw [k3] at h4
      cases h4
      have hC := PySem.W.CodeHd.of h5 h6
      obtain ⟨⟨oc, vc, e1, _, e3, e4⟩, hP⟩ := h6
      have g2 := KX _ _ k4
      rw [g2] at e1
      cases e1
      cases e3
      rw [k5] at e4
      cases e4
      exact ⟨hC, hP⟩
    obtain ⟨fd, cs, sp, hT, nT, C, hb, hsp, hF⟩ := F w mg fa _ Y KX G.T.g hmg tabs
    exact law_callTs KX G.T.g G.T.b G.T.builtins G.T.nolimit hg hT nT C G.T.bmain hobj hints (Nat.le_trans hlen hn2) hr hF hb (fun H hH hS => hsp H a ns hlen hbits hH hS) fun H e s' => hCX w H s₁ e s'
end Inf

set_option Elab.async false
set_option linter.all false
set_option maxRecDepth 100000
set_option maxHeartbeats 4000000
namespace Inf
open PySem PySem.Spec PyProof.Rows L2 NdefX LamX
/-! ### promises of defs that are called where no repr is under way -/
structure FnOkG (P : Program) (w : World) (K : PySem.W.Frag) (mg : Str → Option Value) (base : Heap) (CX : CXT) (k : Nat) (f : Addr) (fd : FuncData) (ps : List Str) (sp : Sp) : Prop where
  len : ∀ vs H Q E, sp vs H Q E → vs.length = ps.length
  run : ∀ (A : Around) (outer : List Env) (s : Shared) (H : Hp) (args : Args) (us : List Value) (vs : List V) (Q : VK) (E : XK), A.guards = some [] → Room k A → Env0 P w K mg base A outer s H → BindsTo s fd args (ps.zip us) → Vals vs us → sp vs H Q E →
    codeAny (model P w) A (.call (.ref f) args) (CR CX outer P w H s Q E) s
theorem FnOkG.of {P : Program} {w : World} {K : PySem.W.Frag} {mg : Str → Option Value} {base : Heap} {CX : CXT} {k : Nat} {f : Addr} {fd : FuncData} {ps : List Str} {sp : Sp} (F : FnOk P w K mg base CX k f fd ps sp) : FnOkG P w K mg base CX k f fd ps sp :=
  ⟨F.len, fun A outer s H args us vs Q E _ => F.run A outer s H args us vs Q E⟩
section
variable {P : Program} {w : World} {K : PySem.W.Frag} {mg mb : Str → Option Value} {CX : CXT} {k : Nat} {fa a : Addr} {cs : List (Addr × Addr)} {fd : FuncData} {x : Str} {sp : Sp} {s₁ : Shared} {vs : List Value} {ns : List Int}
/-- the law's call, from such a promise -/
theorem call_lawG (KX : K.In s₁.heap) (hns : s₁.heap.Ns mainGlobals mg) (hb : s₁.heap.Ns builtinsNs mb) (hbb : ∀ x : Str, x ≠ "__name__" → mb x = bootBuiltins x) (hlim : s₁.heap.NoLimit) (hg : s₁.gens = #[])
    (hT : ∀ p ∈ cs, s₁.heap.get? p.2 = some { cls := .none, data := .fields #[] }) (nT : ∀ p ∈ cs, K.lookup p.2 = none) (C : ∀ p ∈ cs, PySem.W.CodeHd s₁.heap p.1 p.2)
    (hbm : ∃ (bm : Addr) (ob : Obj), mg "__builtins__" = some (.ref bm) ∧ bm ≠ builtinsNs ∧ s₁.heap.get? bm = some ob ∧ ob.cls = .type "module" ∧ ob.dict = some builtinsNs ∧ ob.data = .plain)
    (ha : s₁.heap.get? a = some { cls := .type "list", data := .seq vs.toArray }) (hi : IntsAre vs ns) (hl : ns.length ≤ sizeLine) (hr : Room k callerA)
    (F : ∀ base : Heap, K.In base → base.Ns mainGlobals mg → (∀ p ∈ cs, TabB base mg p.1 p.2) → FnOkG P w K mg base CX k fa fd [x] sp) (hbind : ∀ (s : Shared) (u : Value), BindsTo s fd ⟨[u], []⟩ [(x, u)])
    (hsp : ∀ H : Hp, (∀ p ∈ cs, H p.2 = some (.tbl #[])) → SqL K H a (ns.map V.int) → sp [.ref a] H (fun v _ => v = .bl true) fun _ _ _ => False)
    (hCX : ∀ H e s', CX [] H s₁ (fun _ _ _ => False) e s' → False) :
    codeAny (model P w) callerA (.call (.ref fa) ⟨[.ref a], []⟩) (fun r s' => r = .ok (.ret (.bool true)) ∧ OldK s₁.heap s'.heap ∧ s'.os = s₁.os ∧ AllBare s'.gens) s₁ := by
  have tabAt : ∀ b, b ∈ cs.map (·.2) → s₁.heap.get? b = some { cls := .none, data := .fields #[] } := fun b hb => (List.mem_map.mp hb).elim fun p hp => hp.2 ▸ hT p hp.1
  have tabK : ∀ b, b ∈ cs.map (·.2) → K.lookup b = none := fun b hb => (List.mem_map.mp hb).elim fun p hp => hp.2 ▸ nT p hp.1
  -- the abstract heap: the tables, and the script where the written part doesn't hold it
  let H : Hp := fun b => if b ∈ cs.map (·.2) then some (.tbl #[]) else if b = a ∧ K.lookup a = none then some (.frz { cls := .type "list", data := .seq vs.toArray } (.lst (ns.map V.int))) else none
  have aNot : a ∉ cs.map (·.2) := fun z => by
    have := tabAt a z
    rw [ha] at this
    cases this
  have Htab : ∀ b, b ∈ cs.map (·.2) → H b = some (.tbl #[]) := fun b hb => if_pos hb
  have Hcase : ∀ b u, H b = some u → (b ∈ cs.map (·.2) ∧ u = .tbl #[]) ∨ (b = a ∧ K.lookup a = none ∧ u = .frz { cls := .type "list", data := .seq vs.toArray } (.lst (ns.map V.int))) := fun b u e => by
    by_cases h1 : b ∈ cs.map (·.2)
    · exact .inl ⟨h1, Option.some.inj (e.symm.trans (Htab b h1))⟩
    · by_cases h2 : b = a ∧ K.lookup a = none
      · exact .inr ⟨h2.1, h2.2, Option.some.inj (e.symm.trans ((if_neg h1).trans (if_pos h2)))⟩
      · exact absurd (e.symm.trans ((if_neg h1).trans (if_neg h2))) (fun z => nomatch z)
  have other : ∀ b o, s₁.heap.get? b = some o → (∀ its n, o.data ≠ .seq its n) → o.data ≠ .fields #[] → H b = none := fun b o e n1 n2 => by
    match q : H b with
    | none => rfl
    | some u =>
      rcases Hcase b u q with ⟨z, _⟩ | ⟨z, _, _⟩
      · rw [tabAt b z] at e
        exact absurd (by cases e; rfl) n2
      · rw [z, ha] at e
        exact absurd (by cases e; rfl) (n1 vs.toArray 0)
  have hok : HOk P w H s₁.heap := fun b u e => by
    rcases Hcase b u e with ⟨z, rfl⟩ | ⟨rfl, _, rfl⟩
    · exact tabAt b z
    · exact ⟨ha, by rw [List.length_map]; exact hl, vs, _, vals_ints hi, ha⟩
  have hS : SqL K H a (ns.map V.int) := by
    match hk : K.lookup a with
    | none => exact .inl (.inr ⟨_, (if_neg aNot).trans (if_pos ⟨rfl, hk⟩)⟩)
    | some o =>
      have e := KX a o hk
      rw [ha] at e
      cases e
      have lenV := hi.length
      exact .inr ⟨_, vs.toArray, _, hk, rfl, rfl, rfl, by rw [List.size_toArray, lenV]; exact hl, by simpa using vals_ints hi⟩
  have low : ∀ b o, s₁.heap.get? b = some o → H b = none → (hidT s₁.heap H).get? b = some o := fun b o e n => hidT_get e n
  have lowNs : ∀ {b : Addr} {m : Str → Option Value}, s₁.heap.Ns b m → (hidT s₁.heap H).Ns b m := fun {b m} h => by
    obtain ⟨o, es, ep, e, d, r⟩ := h
    exact ⟨o, es, ep, low b o e (other b o e (fun its n z => by rw [d] at z; cases z) fun z => by rw [d] at z; cases z), d, r⟩
  have lowK : K.In (hidT s₁.heap H) := fun b o e => low b o (KX b o e) (by
    match q : H b with
    | none => rfl
    | some u =>
      rcases Hcase b u q with ⟨z, _⟩ | ⟨rfl, z, _⟩
      · rw [tabK b z] at e
        cases e
      · rw [z] at e
        cases e)
  have notG : ∀ b o, s₁.heap.get? b = some o → (∀ es ep, o.data ≠ .dict es ep) → b ≠ mainGlobals := fun b o e n z => by
    obtain ⟨o', es, ep, e', d, _⟩ := hns
    rw [z, e'] at e
    cases e
    exact n es ep d
  have lowT : ∀ p ∈ cs, TabB (hidT s₁.heap H) mg p.1 p.2 := fun p hp => by
    refine ⟨?_, ?_, Ne.symm (notG p.2 _ (hT p hp) (fun es ep z => nomatch z))⟩
    · obtain ⟨o, us, file, tf, flags, tg, inF, text, tt, e1, r1, r2, r3, rest⟩ := C p hp
      refine ⟨o, us, file, tf, flags, tg, inF, text, tt, low _ o e1 (other _ o e1 (fun its n z => by rw [r2] at z; cases z) fun z => ?_), r1, r2, r3, rest⟩
      rw [r2] at z
      cases z
      simp at r3
    · obtain ⟨bm, ob, b1, b2, b3, b4, b5, b6⟩ := hbm
      refine ⟨bm, ob, b1, b2, notG bm ob b3 (fun es ep z => by rw [b6] at z; cases z), fun z => ?_, low bm ob b3 (other bm ob b3 (fun its n z => by rw [b6] at z; cases z) fun z => by rw [b6] at z; cases z), b4, b5, b6⟩
      rw [z, hT p hp] at b3
      cases b3
      cases b6
  have lowM : L2.Mod K mg (hidT s₁.heap H) := ⟨lowK, lowNs hns, ⟨mb, lowNs hb, hbb⟩, hlim.elim fun mc h => ⟨mc, lowNs h.1, h.2⟩⟩
  have e0 : Env0 P w K mg (hidT s₁.heap H) callerA [] s₁ H := ⟨rfl, lowM, fun b o e => of_hidT e, Nat.le_of_eq (hidT_size _ _), trivial, fun b hb => absurd (show b ∈ ([] : List Addr) from hb) (List.not_mem_nil), hok, .of_eq hg⟩
  refine codeAny_mono ((F _ lowK (lowNs hns) lowT).run callerA [] s₁ H ⟨[.ref a], []⟩ [.ref a] [.ref a] _ _ rfl hr e0 (hbind s₁ (.ref a)) (.cons rfl .nil) (hsp H (fun p hp => Htab _ (List.mem_map.mpr ⟨p, hp, rfl⟩)) hS)) fun r s' h => ?_
  match r, h with
  | .error e, h => exact (hCX H e s' h).elim
  | .ok .next, h => exact False.elim h
  | .ok .brk, h => exact False.elim h
  | .ok .cont, h => exact False.elim h
  | .ok (.ret u), h =>
    obtain ⟨v, H', os, bare, un, hok', r', q⟩ := h
    have q2 : v = .bl true := q
    subst q2
    obtain rfl : u = Value.bool true := r'
    have stays : ∀ b o, b ∉ cs.map (·.2) → s₁.heap.get? b = some o → s'.heap.get? b = some o := fun b o nb e => by
      match z : H b with
      | none => exact un.keep b o e z (fun z => nomatch z) (fun z => nomatch z)
      | some u =>
        rcases Hcase b u z with ⟨y, _⟩ | ⟨rfl, _, rfl⟩
        · exact absurd y nb
        · obtain ⟨e1, _⟩ := hok' b _ (un.frzs b _ _ z)
          rw [ha] at e
          cases e
          exact e1
    have tabs : ∀ p ∈ cs, ∃ more : Array Value, s'.heap.get? p.2 = some { cls := .none, data := .fields more } := fun p hp =>
      (un.tbls p.2 #[] (Htab _ (List.mem_map.mpr ⟨p, hp, rfl⟩))).elim fun more z => ⟨_, hok' p.2 _ z⟩
    refine ⟨rfl, ⟨fun b o e => ?_, fun b o e => ?_⟩, os, bare⟩
    · by_cases nb : b ∈ cs.map (·.2)
      · obtain ⟨p, hp, rfl⟩ := List.mem_map.mp nb
        rw [hT p hp] at e
        cases e
        exact (tabs p hp).elim fun more hm => .inr (.inl ⟨((C p hp).tab (hT p hp)).isCodeTable, rfl, #[], more, rfl, hm.trans (by rw [Array.empty_append])⟩)
      · exact .inl (stays b o nb e)
    · by_cases nb : b ∈ cs.map (·.2)
      · obtain ⟨p, hp, rfl⟩ := List.mem_map.mp nb
        exact (tabs p hp).elim fun more hm => ⟨_, hm⟩
      · exact ⟨o, stays b o nb e⟩
end
/-- what is known of the law's promise at the head's heap, where no repr is under way -/
def LawAtG (l : PySem.W.OpenLaw) (w : World) (K : PySem.W.Frag) (CX : CXT) (k n : Nat) (x : Str) (mg : Str → Option Value) (fa : Addr) (h : Heap) : Prop :=
  ∃ (fd : FuncData) (cs : List (Addr × Addr)) (sp : Sp), (∀ p ∈ cs, h.get? p.2 = some { cls := .none, data := .fields #[] }) ∧ (∀ p ∈ cs, K.lookup p.2 = none) ∧ (∀ p ∈ cs, PySem.W.CodeHd h p.1 p.2) ∧ (∀ (s : Shared) (u : Value), BindsTo s fd ⟨[u], []⟩ [(x, u)]) ∧
    (∀ (H : Hp) (a : Addr) (ns : List Int), ns.length ≤ n → (∀ p ∈ cs, H p.2 = some (.tbl #[])) → SqL K H a (ns.map V.int) → sp [.ref a] H (fun v _ => v = .bl true) fun _ _ _ => False) ∧
    ∀ base : Heap, K.In base → base.Ns mainGlobals mg → (∀ p ∈ cs, TabB base mg p.1 p.2) → FnOkG l.prog w K mg base CX k fa fd [x] sp
theorem walk_topG {l : PySem.W.OpenLaw} {n k : Nat} {q : Program} {loose : List Str} {XP : (Str → Option Value) → Heap → Prop} {YP : World → Heap → Prop} {d : DefRec} {K : Params → PySem.W.Frag} {CX : World → CXT} {x : Str}
    (hn : l.most = some n) (hn2 : n ≤ sizeLine) (hdf : d.params.defaults = []) (hr : Room k callerA) (hY : ∀ (w : World) (h : Heap), YP w h → (K w.params).In h)
    (F : ∀ (w : World) (mg : Str → Option Value) (fa : Addr) (h : Heap), YP w h → (K w.params).In h → h.Ns mainGlobals mg → mg d.name = some (.ref fa) → TopTabs q (K w.params) mg h → LawAtG l w (K w.params) (CX w) k n x mg fa h)
    (hCX : ∀ (w : World) (H : Hp) (s : Shared) (e : Value) (s' : Shared), CX w [] H s (fun _ _ _ => False) e s' → False) :
    PySem.W.WalkO q loose XP YP l.row.toRowW d [] (fun f vs => PySem.call f vs) :=
  Att.attach_callB hn hdf fun w s₀ s₁ mg mb fa o pm cd doc a vs ns G Y ho hd hcd hmg hobj hints hlen hbits hg => by
    have KX := hY w _ Y
    have tabs : TopTabs q (K w.params) mg s₁.heap := fun x f c P o1 fd1 e dd vs1 sl hrec hx k1 k2 k3 k4 k5 => by
      obtain ⟨dL, hm, hn1⟩ := List.any_eq_true.mp hrec
      have hn2 : dL.name = x := beq_iff_eq.mp hn1
      obtain ⟨a', o', fd', c', P', h1, h2, h3, h4, h5, h6⟩ := G.T.tab dL hm
      rw [hn2, hx] at h1
      cases h1
      have g1 := KX _ _ k1
      rw [g1] at h2
      cases h2
      rw [k2] at h3
      cases h3
      rw [k3] at h4
      cases h4
      have hC := PySem.W.CodeHd.of h5 h6
      obtain ⟨⟨oc, vc, e1, _, e3, e4⟩, hP⟩ := h6
      have g2 := KX _ _ k4
      rw [g2] at e1
      cases e1
      cases e3
      rw [k5] at e4
      cases e4
      exact ⟨hC, hP⟩
    obtain ⟨fd, cs, sp, hT, nT, C, hb, hsp, hF⟩ := F w mg fa _ Y KX G.T.g hmg tabs
    exact call_lawG KX G.T.g G.T.b G.T.builtins G.T.nolimit hg hT nT C G.T.bmain hobj hints (Nat.le_trans hlen hn2) hr hF hb (fun H hH hS => hsp H a ns hlen hH hS) fun H e s' => hCX w H s₁ e s'
/-! ### bodies and calls of such defs -/
theorem okG {P : Program} {w : World} {K : PySem.W.Frag} {mg : Str → Option Value} {base : Heap} {x qual : Str} {st : Stmt} {f : Addr} {fd : FuncData} {N ps : List Str} {k : Nat} {sp : Sp} (F : L2.Fun K x qual st f fd) (S : FnScope N ps (defScope st)) (len : ∀ vs H Q E, sp vs H Q E → vs.length = ps.length)
    (hbody : ∀ (cdv : Value) (A : Around) (outer : List Env) (s : Shared) (H : Hp) (vs : List V) (Q : VK) (E : XK), (A.deeper (envOfC qual (defScope st) s.heap.objs.size f cdv)).guards = some [] → Room k (A.deeper (envOfC qual (defScope st) s.heap.objs.size f cdv)) → sp vs H Q E →
      ∃ t, PSs (cxOf CX0 P w K mg base N qual (defScope st) f cdv A outer s H E).nox (defBody st) t ∧ t { nx := fun _ H' => Q .non H', rt := Q } (start N vs) H) : FnOkG P w K mg base CX0 (k + 1) f fd ps sp := by
  obtain ⟨oc, od, kV, doc, pm, an, cdv, ct, osl, rfl, lk, hcd⟩ := F.ex
  refine ⟨len, fun A outer s H args us vs Q E hga hr e0 hb r hsp => ?_⟩
  have KX : K.In s.heap := e0.mod.kin.keeps fun b o e => (e0.bs b o e).1
  have lim : s.heap.NoLimit := e0.mod.nolimit.keeps fun b o e => (e0.bs b o e).1
  have hl := len _ _ _ _ hsp
  have hkind : ∀ y ∈ ps.zip us, (defScope st).names.lookup y.1 = some .local ∨ ((defScope st).names.lookup y.1 = some .cell ∧ ((cellsFrom (s.heap.objs.size + 1) (defScope st).names []).lookup y.1).isSome = true) := fun ⟨n, v⟩ hy =>
    (S.par n (List.of_mem_zip hy).1).elim .inl fun q => .inr ⟨q, PySem.W.cellsFrom_some _ _ _ (.inl q)⟩
  refine codeAny_call_function hr.depth (KX _ _ lk) rfl S.co S.gen rfl (PySem.W.codeRec_of KX hcd) (hb _ _ _ _ (wpAny_newFunctionEnv_cells S.kind hkind fun env he s1 xx => ?_))
  subst he
  obtain ⟨t, ht, hq⟩ := hbody cdv A outer s H vs Q E hga (hr.deeper _) hsp
  have I : Inv (cxOf CX0 P w K mg base N qual (defScope st) f cdv A outer s H E) [] (start N vs) H s1 := inv_start S hr.hd e0 hl r xx
  refine ⟨lim.keeps xx.toInCall.keep, codeAny_func (wpAny_mono (ht.run [] s1 (start N vs) H _ (I.wish _) hq) (fun fl s' hs => ?_) fun e s' hs => False.elim hs)⟩
  have fin : ∀ {σ' : L2.St} {H' : Hp} {v : V} {u : Value}, Inv (cxOf CX0 P w K mg base N qual (defScope st) f cdv A outer s H E).nox [] σ' H' s' → L2.RelV v u → Q v H' → CE outer P w H s Q u s' :=
    fun {σ' H' v u} J rv q => ⟨v, H', J.os, J.bare, J.base, J.hok, rv, q⟩
  match fl, hs with
  | .ret u, hs => exact hs.elim fun v z => z.elim fun σ' z => z.elim fun H' z => fin z.1 z.2.1 z.2.2
  | .next, hs => exact hs.elim fun σ' z => z.elim fun H' z => fin (v := V.non) (u := Value.none) z.1 rfl z.2
  | .brk, hs => exact hs.elim fun _ z => z.elim fun _ z => False.elim z.2
  | .cont, hs => exact hs.elim fun _ z => z.elim fun _ z => False.elim z.2
section
variable {X : Cx} {CX : CXT} {k : Nat} {f : Addr} {fd : FuncData} {ps : List Str} {sp : Sp} {E : XK} {x : Str} {p pos : Pos} {e : Expr} {es : List Expr} {t : TA}
/-- f(e, ..), f such a def -/
theorem pe_callG (F : FnOkG X.prog X.w X.K X.mg X.base CX k f fd ps sp) (hG : X.A.guards = some []) (hr : Room k X.A) (hg : Gl X x) (hm : X.mg x = some (.ref f)) (hk : PySem.W.keepIn X.K (.ref f) = true) (hb : L2.Binds X.K fd ps []) (hx : Passes CX X E)
    (ha : PA X (e :: es) t) (hdb : (x == ("__debug__" : Str)) = false := by decide) (he : starEach (e :: es) X.env = (false, eval e X.env) :: starEach es X.env := by rfl) (hpl : (backTo pos (starEach es X.env)).any (·.1) = false := by rfl) :
    PE X (.Call (.Name x p) (e :: es) [] pos) (fun σ H Q => t σ H fun vs H1 => sp vs H1 Q E) := by
  refine ⟨fun pins s σ H Q I h => wpAny_Call_Name_kw (ld_glob I hg hm (PySem.W.callWith_K (h₀ := X.base) I.ok.mod.kin hk (thn (ha.run pos pins s σ H _ I h) fun us s1 ⟨vs, H1, I1, r, q⟩ => ⟨I1.kIn, ?_⟩) he hpl) hdb)⟩
  have hl : us.length = ps.length := r.length.symm.trans (F.len _ _ _ _ q)
  have hb2 : BindsTo s1 fd ⟨us, []⟩ (ps.zip us) := by
    have := hb s1 us I1.kIn (by rw [List.append_nil]; exact hl)
    rwa [List.append_nil] at this
  refine wpAny_call (codeAny_mono (F.run X.A X.stack s1 H1 ⟨us, []⟩ us vs Q E hG hr I1.env0 hb2 r q) fun res s' hq => ?_)
  match res, hq with
  | .error er, hq => exact hx pins σ H1 s1 er s' I1 hq
  | .ok (.ret u), hq => exact I1.after hq
  | .ok .next, hq => exact False.elim hq
  | .ok .brk, hq => exact False.elim hq
  | .ok .cont, hq => exact False.elim hq
/-- repr of data: what PyData.shown says -/
theorem call_reprD (hG : X.A.guards = some []) (hu : X.A.units + 64 + 16 < cLine) : CallR X (.builtin "repr") (fun xs H Q => ∃ (v : V) (d : PyData), xs = [v] ∧ Dp X.K H v d ∧ d.showable = true ∧ d.hasDict = false ∧ d.depth ≤ 64 ∧ d.shown.length ≤ sizeLine ∧ (∀ i, v = .int i → i.natAbs.log2 < 1920) ∧ Q (.str d.shown) H) := by
  intro pins s σ H xs us Q I r h
  obtain ⟨v, d, rfl, hd, hs, hnd, hdp, hsz, hi, q⟩ := h
  obtain ⟨u, rfl, ru⟩ := vals1 r
  have txt : ∀ tk, ∃ (y : V) (H1 : Hp), Inv X pins σ H1 { s with toks := tk } ∧ L2.RelV y (.str d.shown s.toks) ∧ Q y H1 := fun tk => ⟨.str d.shown, H, I.kept (t' := tk) fun _ _ z => z, ⟨_, rfl⟩, q⟩
  have obj : ∀ (a : Addr), u = .ref a → wpAny (model X.prog X.w) X.A (call (.builtin "repr") [u]) (EP X pins σ Q) X.xe s := fun a e => by
    subst e
    obtain ⟨as, rd⟩ := Dp.reads I _ _ _ hd ru
    exact repr_of_reads' rd hs (fun z => by rw [hnd] at z; cases z) hG (by omega) (fun _ _ z => z) (fun h' u tk hk => ⟨.str d.shown, H, I.kept (h' := h') (t' := tk) hk, ⟨_, rfl⟩, q⟩) hsz
  cases hd with
  | non =>
    obtain rfl : u = Value.none := ru
    exact P.repr_of_none (txt _)
  | bl b =>
    obtain rfl : u = Value.bool b := ru
    exact P.repr_of_bool (by cases b <;> exact txt _)
  | int i =>
    obtain ⟨t, rfl⟩ := ru
    exact P.repr_of_int (hi i rfl) (txt _)
  | str y =>
    obtain ⟨t, rfl⟩ := ru
    exact P.repr_of_str (txt _) hsz
  | lst h1 h2 => exact obj _ ru
  | tup h1 h2 => exact obj _ ru
end
end Inf

set_option Elab.async false
set_option linter.all false
set_option maxRecDepth 100000
set_option maxHeartbeats 4000000
namespace Inf
open PySem PySem.Spec PyProof.Rows L2 NdefX LamX
/-! ### a lambda as a value: a function that stands where it was made -/
/-- its words, the cells that it captured, its code object -/
structure LF where
  qual : Str
  params : Arguments
  body : Expr
  scope : Scope
  cl : List (Str × Addr)
  c : Addr
def LamO (f : Addr) (F : LF) : HO := .ext fun h => ∃ (pm ctv : Value), h.get? f = some (PySem.W.kla_obj "<lambda>" F.qual F.params F.body F.scope F.cl pm F.c ctv)
theorem lamO_at {P : Program} {w : World} {H : Hp} {h : Heap} {f : Addr} {F : LF} (hok : HOk P w H h) (e : H f = some (LamO f F)) : ∃ (pm ctv : Value), h.get? f = some (PySem.W.kla_obj "<lambda>" F.qual F.params F.body F.scope F.cl pm F.c ctv) := by
  obtain ⟨z, _, _⟩ := hok f _ e
  exact z
theorem lamO_ok {P : Program} {w : World} {H : Hp} {h : Heap} {f : Addr} {F : LF} (e : ∃ (pm ctv : Value), h.get? f = some (PySem.W.kla_obj "<lambda>" F.qual F.params F.body F.scope F.cl pm F.c ctv)) : ObjOk P w H h f (LamO f F) := by
  refine ⟨e, ?_, fun h1 h2 ⟨pm, ctv, z⟩ k => ⟨pm, ctv, k _ z⟩⟩
  obtain ⟨pm, ctv, z⟩ := e
  exact ⟨_, z⟩
theorem lamHO {f : Addr} {F : LF} : FnHO f (LamO f F) := fun P w H h hok e => by
  obtain ⟨pm, ctv, z⟩ := lamO_at hok e
  exact ⟨_, _, _, _, z⟩
section
variable {X : Cx} {pins : List (Addr × Obj)} {σ : L2.St} {H : Hp} {s : Shared}
/-- the lambda is made and told where it stands; its code object is new, or found in the table -/
theorem lam_told {T : List (Addr × Str)} {c P : Addr} {params : Arguments} {body : Expr} {scope : Scope} {pos : Pos} {E : Value → Shared → Prop} {Q : Value → Shared → Prop} (I : Inv X pins σ H s) (TB : TabB X.base X.mg c P) (hcode : X.env.code = .ref c)
    (hm : (P, X.env.qual ++ "<lambda>") ∈ T) (hu : ∀ p ∈ T, p.1 = P → p.2 = X.env.qual ++ "<lambda>") (hT : Tabs T H) (hdef : defaultsOf params X.env = ([], [])) (hfree : ∀ y ∈ scope.names, y.2 = .free → ∃ c, X.env.cells.lookup y.1 = some c)
    (h : ∀ (f c' : Addr) (H1 : Hp) (s' : Shared), Inv X pins σ (upd H1 f (LamO f ⟨X.env.qual ++ "<lambda>", params, body, scope, cloFrom X.env.cells scope.names [], c'⟩)) s' → (∀ b o, H b = some o → b ≠ P → H1 b = some o) → (∀ b, H1 b = none → H b = none) → Tabs T H1 → H1 f = none → H1 c' = some (CodeO c' (X.env.qual ++ "<lambda>")) → Q (.ref f) s') :
    wpAny (model X.prog X.w) X.A (eval (.Lambda params body scope pos) X.env) Q E s := by
  obtain ⟨ps, tP, tO, tA⟩ := hT _ hm
  have bP := TB.bm.keeps (h' := s.heap) I.bk
  have gP : s.heap.get? P = some { cls := .none, data := .fields ps } := I.hok P _ tP
  refine PySem.W.kla_eval hdef ?_
  cases cd : codeAmong pos ps.toList with
  | none =>
    refine PySem.W.kla_makeFunction (mg := X.mg) (c := c) (P := P) (ps := ps) (closure_ok hfree) I.ok.glob (I.mod.glob.keeps I.bk) hcode (TB.code.keeps I.bk) gP tO cd TB.gP bP fun c' ctv h' tk hx hge hlt hrec htb => ?_
    obtain ⟨c2, oc, vs, t, e2, hoc, hd, hv⟩ := hrec
    cases e2
    have nC : H c' = none := I.hok.fresh hge
    have I0 := inv_table (q := X.env.qual ++ "<lambda>") (t' := tk) (more := #[rawInt pos.line, rawInt pos.col, .ref c']) (h' := h') I tP hx htb hge ⟨oc, vs, t, hoc, hd, hv⟩
    have I1 := I0.laid (a := h'.objs.size) (o := LamO h'.objs.size ⟨X.env.qual ++ "<lambda>", params, body, scope, cloFrom X.env.cells scope.names [], c'⟩) (h' := h'.push (PySem.W.kla_obj "<lambda>" (X.env.qual ++ "<lambda>") params body scope (cloFrom X.env.cells scope.names []) ((X.mg "__name__").getD .none) c' ctv)) (t' := tk)
      (fun b u z => Heap.get?_push_of_some _ z) (Nat.le_refl _) (lamO_ok ⟨_, _, Heap.get?_push_size _ rfl⟩)
    have stays : ∀ b o, H b = some o → b ≠ P → (upd (upd H P (.tbl (ps ++ #[rawInt pos.line, rawInt pos.col, .ref c']))) c' (CodeO c' (X.env.qual ++ "<lambda>"))) b = some o := fun b o e n => by
      rw [upd_ne (ne_of_none e nC), upd_ne n]
      exact e
    have neP : ∀ {b : Addr} {c2 : Addr} {q : Str}, H b = some (CodeO c2 q) → b ≠ P := fun e z => by
      rw [z, tP] at e
      exact codeO_ne _ (Option.some.inj e).symm
    refine h _ c' _ _ I1 stays (fun b z => ?_) (fun p hp => ?_) (I0.hok.fresh (Nat.le_refl _)) upd_same
    · by_cases b1 : b = c'
      · rw [b1]
        exact nC
      · rw [upd_ne b1] at z
        by_cases b2 : b = P
        · rw [b2, upd_same] at z
          cases z
        · rw [upd_ne b2] at z
          exact z
    · obtain ⟨qs, a1, a2, a3⟩ := hT p hp
      by_cases hb : p.1 = P
      · have eL : (ps ++ #[rawInt pos.line, rawInt pos.col, .ref c']).toList = ps.toList ++ [rawInt pos.line, rawInt pos.col, .ref c'] := by simp
        refine ⟨_, by rw [hb, upd_ne (ne_of_none tP nC), upd_same], ?_, fun p' cv y => ?_⟩
        · rw [eL]
          exact PySem.TriplesOk_snoc _ _ _ _ tO
        · rw [eL] at y
          rw [hu p hp hb]
          rcases among_app _ tO y with z | z
          · obtain ⟨c0, k1, k2⟩ := tA p' cv z
            exact ⟨c0, k1, stays _ _ k2 (neP k2)⟩
          · exact ⟨c', z, upd_same⟩
      · refine ⟨qs, ?_, a2, fun p' cv y => ?_⟩
        · rw [upd_ne (ne_of_none a1 nC), upd_ne hb]
          exact a1
        · obtain ⟨c0, k1, k2⟩ := a3 p' cv y
          exact ⟨c0, k1, stays _ _ k2 (neP k2)⟩
  | some cv =>
    obtain ⟨c', e, hco⟩ := tA pos cv cd
    subst e
    refine PySem.W.kla_makeFunctionHit (mg := X.mg) (c := c) (P := P) (ps := ps) (closure_ok hfree) I.ok.glob (I.mod.glob.keeps I.bk) hcode (TB.code.keeps I.bk) gP tO cd bP fun ctv h' tk hx hsz => ?_
    have I0 : Inv X pins σ H { s with heap := h', toks := tk } := I.kept hx
    have I1 := I0.laid (a := h'.objs.size) (o := LamO h'.objs.size ⟨X.env.qual ++ "<lambda>", params, body, scope, cloFrom X.env.cells scope.names [], c'⟩) (h' := h'.push (PySem.W.kla_obj "<lambda>" (X.env.qual ++ "<lambda>") params body scope (cloFrom X.env.cells scope.names []) ((X.mg "__name__").getD .none) c' ctv)) (t' := tk)
      (fun b u z => Heap.get?_push_of_some _ z) (Nat.le_refl _) (lamO_ok ⟨_, _, Heap.get?_push_size _ rfl⟩)
    exact h _ c' H _ I1 (fun _ _ e _ => e) (fun _ z => z) hT (I0.hok.fresh (Nat.le_refl _)) hco
end
def tLamO (T : List (Addr × Str)) (P : Addr) (F : Addr → LF) : TE := fun σ H Q => Tabs T H ∧ ∀ (f c' : Addr) (H1 : Hp), (∀ b o, H b = some o → b ≠ P → H1 b = some o) → (∀ b, H1 b = none → H b = none) → Tabs T H1 → H1 f = none → H1 c' = some (CodeO c' (F c').qual) → Q (.ref f) (upd H1 f (LamO f (F c')))
theorem pe_lamO {X : Cx} {T : List (Addr × Str)} {c P : Addr} {params : Arguments} {body : Expr} {scope : Scope} {pos : Pos} (TB : TabB X.base X.mg c P) (hcode : X.env.code = .ref c) (hm : (P, X.env.qual ++ "<lambda>") ∈ T) (hu : ∀ p ∈ T, p.1 = P → p.2 = X.env.qual ++ "<lambda>")
    (hdef : defaultsOf params X.env = ([], [])) (hfree : ∀ y ∈ scope.names, y.2 = .free → X.env.scope.names.lookup y.1 = some .cell ∨ X.env.scope.names.lookup y.1 = some .free) :
    PE X (.Lambda params body scope pos) (tLamO T P fun c' => ⟨X.env.qual ++ "<lambda>", params, body, scope, cloFrom X.env.cells scope.names [], c'⟩) := by
  refine ⟨fun pins s σ H Q I h => ?_⟩
  obtain ⟨hT, q⟩ := h
  exact lam_told I TB hcode hm hu hT hdef (fun y hy e => (hfree y hy e).elim (fun z => I.ok.has _ (.inl z)) fun z => I.ok.has _ (.inr z)) fun f c' H1 s' I1 e1 n1 t1 nf hc => ⟨.ref f, _, I1, rfl, q f c' H1 e1 n1 t1 nf hc⟩
end Inf

set_option Elab.async false
set_option linter.all false
set_option maxRecDepth 100000
set_option maxHeartbeats 4000000
namespace Inf
open PySem PySem.Spec PyProof.Rows L2 NdefX LamX
/-- its words as those of a function: for the frame alone -/
def LF.nf (F : LF) : NF := ⟨"<lambda>", F.qual, F.params, [], F.scope, F.cl, F.c⟩
section
variable {P : Program} {w : World} {K : PySem.W.Frag} {mg : Str → Option Value} {base : Heap} {k : Nat} {f : Addr} {F : LF} {N ps : List Str} {sp : Sp}
/-- a lambda that captures nothing, called from anywhere -/
theorem lam_fnR (S : NScope N ps [] F.scope) (hcl : F.cl = []) (hb : ∀ (pm ctv : Value) (us : List Value), us.length = ps.length → bindArgs (PySem.W.kla_fn "<lambda>" F.qual F.params F.body F.scope F.cl pm (.ref F.c) ctv) ⟨us, []⟩ = pure (ps.zip us))
    (len : ∀ vs H Q E, sp vs H Q E → vs.length = ps.length)
    (hbody : ∀ (A : Around) (outer : List Env) (s : Shared) (H : Hp) (vs : List V) (Q : VK) (E : XK), Room k (A.deeper (envF F.nf f s.heap.objs.size)) → sp vs H Q E → ∃ te, PE (ncx CX0 P w K mg base N F.nf f A outer s H E) F.body te ∧ te (startF N vs []) H Q) :
    FnR P w K mg base CX0 (k + 1) f (fun vs H Q E => H f = some (LamO f F) ∧ H F.c = some (CodeO F.c F.qual) ∧ sp vs H Q E) := by
  intro A outer s H us vs Q E hr e0 r hsp
  obtain ⟨hf, hc, hsp⟩ := hsp
  have hl := len _ _ _ _ hsp
  have lim : s.heap.NoLimit := e0.mod.nolimit.keeps fun b o e => (e0.bs b o e).1
  obtain ⟨pm, ctv, ho⟩ := lamO_at e0.hok hf
  have C : CellsAt F.nf.cl [] [] s.heap H := by
    show CellsAt F.cl [] [] s.heap H
    rw [hcl]
    exact ⟨rfl, (fun y c e => nomatch e), (fun x y c e => nomatch e), (fun i y e => nomatch e)⟩
  refine PySem.W.kla_callFunE hr.depth ho rfl S.co S.gen rfl (codeO_at e0.hok hc) ?_
  rw [hb pm ctv us (by rw [← r.length]; exact hl)]
  refine wpAny_pure (wpAny_newFunctionEnv S.nocell (fun ⟨n, _⟩ hy => S.par n (List.of_mem_zip hy).1) (fun h₁ hns hsb => ⟨lim.fresh _ hsb, ?_⟩) S.kind)
  obtain ⟨te, ht, hq⟩ := hbody A outer s H vs Q E (hr.deeper _) hsp
  have kp : ∀ b o, s.heap.get? b = some o → h₁.get? b = some o := fun b o e => hsb.extBut b o (Nat.ne_of_lt (Heap.lt_size e)) (Heap.get?_push_of_some _ e)
  have I := inv_startN (CX := CX0) (P := P) (w := w) (K := K) (mg := mg) (base := base) (F := F.nf) (f := f) (A := A) (outer := outer) (E := E) (tk := s.toks + (ps.zip us).length) S hr.hd e0 hl r C hns kp
  refine PySem.W.kla_codeExpr (wpAny_mono (ht.run [] _ (startF N vs []) H Q I hq) (fun u s' hs => ?_) fun e s' hs => hs)
  obtain ⟨v, H', J, rv, q⟩ := hs
  exact ⟨v, H', J.os, J.bare, J.base, J.hok, rv, q⟩
end
end Inf

set_option Elab.async false
set_option linter.all false
set_option maxRecDepth 100000
set_option maxHeartbeats 4000000
namespace Inf
open PySem PySem.Spec PyProof.Rows L2 NdefX LamX
/-- a def that returns things that hold its names, by what K knows of it -/
theorem okC_of {P : Program} {w : World} {K : PySem.W.Frag} {mg : Str → Option Value} {base : Heap} {x qual : Str} {st : Stmt} {f : Addr} {N ps : List Str} {k : Nat} {sp : Sp} {oc : Value} {od : Option Addr} {kV doc pm cdv ct : Value} {an : Option Addr} {osl : Array (Option Value)}
    (lk : K.lookup f = some ⟨oc, od, .func (PySem.W.fnOf x qual (defArgs st) (defBody st) (defScope st) .none kV doc pm an cdv ct), osl⟩) (hcd : PySem.W.codeIn K cdv qual = true) (S : FnScope N ps (defScope st)) (len : ∀ vs H Q E, sp vs H Q E → vs.length = ps.length)
    (hbody : ∀ (A : Around) (outer : List Env) (s : Shared) (H : Hp) (vs : List V) (Q : VK) (E : XK), Room k (A.deeper (envOfC qual (defScope st) s.heap.objs.size f cdv)) → sp vs H Q E →
      ∃ t, PSsR (cxOf CX0 P w K mg base N qual (defScope st) f cdv A outer s H E).nox (defBody st) t ∧
        t (fun σ v H' => ∀ H'', Fin (envOfC qual (defScope st) s.heap.objs.size f cdv).cells (defScope st).names N σ H' H'' → Q v H'') (start N vs) H) :
    FnOk P w K mg base CX0 (k + 1) f (PySem.W.fnOf x qual (defArgs st) (defBody st) (defScope st) .none kV doc pm an cdv ct) ps sp := by
  refine ⟨len, fun A outer s H args us vs Q E hr e0 hb r hsp => ?_⟩
  have hl := len _ _ _ _ hsp
  have KX : K.In s.heap := e0.mod.kin.keeps fun b o e => (e0.bs b o e).1
  have lim : s.heap.NoLimit := e0.mod.nolimit.keeps fun b o e => (e0.bs b o e).1
  have hkind : ∀ y ∈ ps.zip us, (defScope st).names.lookup y.1 = some .local ∨ ((defScope st).names.lookup y.1 = some .cell ∧ ((cellsFrom (s.heap.objs.size + 1) (defScope st).names []).lookup y.1).isSome = true) := fun ⟨n, v⟩ hy => by
    rcases S.par n (List.of_mem_zip hy).1 with q | q
    · exact .inl q
    · exact .inr ⟨q, PySem.W.cellsFrom_some _ _ _ (.inl q)⟩
  refine codeAny_call_function hr.depth (KX _ _ lk) rfl S.co S.gen rfl (PySem.W.codeRec_of KX hcd) (hb _ _ _ _ ?_)
  refine wpAny_newFunctionEnv_cells S.kind hkind fun env he s1 xx => ?_
  subst he
  refine ⟨lim.keeps xx.toInCall.keep, codeAny_func ?_⟩
  obtain ⟨t, ht, hq⟩ := hbody A outer s H vs Q E (hr.deeper _) hsp
  have I : Inv (cxOf CX0 P w K mg base N qual (defScope st) f cdv A outer s H E) [] (start N vs) H s1 := inv_start S hr.hd e0 hl r xx
  refine wpAny_mono (ht.run [] s1 (start N vs) H _ (I.wish _) hq) (fun fl s' hs => ?_) fun e s' hs => False.elim hs
  obtain ⟨u, v, σ', H', rfl, J', rv, q⟩ := hs
  have J : Inv (cxOf CX0 P w K mg base N qual (defScope st) f cdv A outer s H E) [] σ' H' s' := J'.unwish
  obtain ⟨H'', hF, hU, hO⟩ := fin_make S.nd J
  exact ⟨v, H'', J.os, J.bare, hU, hO, rv, q H'' hF⟩
/-- a function that the def made, behind its return: its captured cells are told -/
theorem clo_fin {cells : List (Str × Addr)} {names nn : List (Str × NameKind)} {N fr : List Str} {σ : L2.St} {H H' : Hp} {f : Addr} {F : NF} {ws : List V} (X : Fin cells names N σ H H') (hc : ∀ y, names.lookup y = some .cell → (cells.lookup y).isSome = true) (hcl : F.cl = cloFrom cells nn []) (hcel : ∀ y ∈ nn, y.2 = .free → names.lookup y.1 = some .cell)
    (hfr : ∀ y ∈ fr, (y, NameKind.free) ∈ nn) (hrf : ∀ y ∈ nn, y.2 = .free → y.1 ∈ fr) (hf : H f = some (FnO f F)) (hco : H F.c = some (CodeO F.c F.qual)) (len : ws.length = fr.length) (at_ : ∀ (i : Nat) (y : Str), fr[i]? = some y → ∃ (j : Nat) (v : V), N[j]? = some y ∧ ws[i]? = some v ∧ σ[j]? = some (some v)) : Clo H' f F fr ws := by
  have hfree : ∀ y ∈ nn, y.2 = .free → ∃ c, cells.lookup y.1 = some c := fun y hy e => Option.isSome_iff_exists.mp (hc _ (hcel y hy e))
  refine ⟨X.same _ _ hf, X.same _ _ hco, len, fun y c e => ?_, fun x y c e1 e2 => ?_, fun i y e => ?_⟩
  · rw [hcl] at e
    have m := PySem.mem_of_lookup e
    rcases cloFrom_mem m with q | ⟨q, _⟩
    · cases q
    · exact hrf _ q rfl
  · rw [hcl] at e1 e2
    exact X.inj x y c (clo_cm hfree e1) (clo_cm hfree e2)
  · have hy : y ∈ fr := List.mem_of_getElem? e
    have hm := hfr y hy
    have hn := hcel _ hm rfl
    obtain ⟨c, hcc⟩ := Option.isSome_iff_exists.mp (hc y hn)
    obtain ⟨j, v, h1, h2, h3⟩ := at_ i y e
    refine ⟨c, v, ?_, h2, X.at_ j y c v h1 hn hcc h3⟩
    rw [hcl]
    exact clo_has hfree hm hcc
end Inf

set_option Elab.async false
set_option linter.all false
set_option maxRecDepth 100000
set_option maxHeartbeats 4000000
namespace Inf
open PySem PySem.Spec PyProof.Rows L2
section
variable {X : Cx}
/-- o.replace(str(e), "c"), a token out: what is struck is not c -/
def tStrike (to tt : TE) (c : Str) : TE := fun σ H Q => to σ H fun x H1 => ∃ a, x = V.str a ∧ tt σ H1 fun y H2 => ∃ i : Int, y = .int i ∧ i.natAbs.log2 < 1920 ∧ (Str.ofString (toString i) == c) = false ∧ a.length + (a.length + 1) * c.length ≤ 16777216 ∧ Q (.str (Txt.replace a (Str.ofString (toString i)) c)) H2
theorem pet_strike {o e : Expr} {to tt : TE} {c : Str} {ck : Nat} {apos np cp ccp pos : Pos} (ho : PE X o to) (he : PE X e tt) (hg : Gl X "str") (hm : X.mg "str" = none)
    (hbase : attributeBase o "replace" X.env (eval o X.env) = eval o X.env := by rfl)
    (hfew : ((backTo pos (starEach [.Call (.Name "str" np) [e] [] cp, .Constant (.str c) ck ccp] X.env)).all (fun x => !x.1) && (backToKw pos (keywordEach [] X.env)).all (fun x => x.1.isSome)
      && decide (([.Call (.Name "str" np) [e] [] cp, .Constant (.str c) ck ccp] : List Expr).length + ([] : List Keyword).length + (if ([] : List Keyword).isEmpty then 0 else 1) < 30)) = true := by rfl)
    (hline : (apos.endLine == pos.line) = true := by rfl) (hs : starEach [e] X.env = [(false, eval e X.env)] := by rfl) (hpl : (backTo cp (starEach [] X.env)).any (·.1) = false := by rfl) :
    PET X (.Call (.Attribute o "replace" apos) [.Call (.Name "str" np) [e] [] cp, .Constant (.str c) ck ccp] [] pos) (tStrike to tt c) := by
  intro pins s σ H Q h0 I h
  refine wpAny_Call_method_late hbase hfew hline rfl (wpAny_mono (PySem.wpAny_toks (ho.run pins s σ H _ I h)) (fun v s1 q => ?_) fun _ _ z => z.2)
  obtain ⟨hk1, x, H1, I1, r1, a, rfl, q⟩ := q
  obtain ⟨t, rfl⟩ := _root_.id r1
  refine ⟨"str", _, F.plainAttrs_str, F.slot_str_replace, F.type_str_replace, typeIs_str _ _ _, (fun _ e => nomatch e), ?_⟩
  refine Calls.callWith_builtin rfl (Calls.evalArgs_plain ?_)
  show wpAny _ _ (spliced ((false, eval (.Call (.Name "str" np) [e] [] cp) X.env) :: backTo pos (starEach [.Constant (.str c) ck ccp] X.env))) _ _ s1
  refine Calls.spliced_cons ?_
  refine wpAny_Call_Name_kw (ld_blt I1 hg hm (show bootBuiltins "str" = some (.type "str") by decide +kernel) ?_ (by decide) (by decide))
  refine PyProof.Rows.callWith_type1 (wpAny_mono (PySem.wpAny_toks ((pa_cons he pa_nil hs).run cp pins s1 σ H1 (fun vs H2 => match vs with
    | [y] => ∃ i : Int, y = V.int i ∧ i.natAbs.log2 < 1920 ∧ (Str.ofString (toString i) == c) = false ∧ a.length + (a.length + 1) * c.length ≤ 16777216 ∧ Q (.str (Txt.replace a (Str.ofString (toString i)) c)) H2
    | _ => False) I1 q)) (fun us s2 q2 => ?_) fun _ _ z => z.2) hs hpl
  obtain ⟨hk2, vs, H2, I2, r2, q2⟩ := q2
  match vs, r2, q2 with
  | [y], r2, ⟨i, ey, hz, hne, hb, q3⟩ =>
    subst ey
    obtain ⟨u, rfl, t2, rfl⟩ := vals1 r2
    have h2 : 1 ≤ s2.toks := Nat.le_trans h0 (Nat.le_trans hk1 hk2)
    refine PySem.P.str_of_int hz ?_
    refine Calls.spliced_cons (Calls.Constant_str (k := ck) (pos := ccp) (Calls.spliced_nil ?_))
    refine SC.replace (u := s2.toks) (v := s2.toks + 1) (Nat.ne_of_gt h2) (Nat.succ_ne_zero _) (Nat.ne_of_lt (Nat.lt_succ_self _)) hne hb fun t' k => ?_
    exact ⟨.str _, H2, I2.tok _, ⟨_, rfl⟩, q3⟩
/-- one token out: a return -/
theorem pst_ret {e : Expr} {te : TE} {pos : Pos} (he : PET X e te) : PST X (.Return (some e) pos) (tRet te) := fun pins s σ H D h0 I h =>
  wpAny_Return_some (thn (he pins s σ H _ h0 I h) fun v s1 ⟨x, H1, I1, r1, q1⟩ => ⟨x, σ, H1, I1, r1, q1⟩)
theorem psst_one {st : Stmt} {t : TS} (h1 : PST X st t) : PSsT X [st] t := by
  intro pins s σ H D h0 I h
  refine wpAny_execs_cons (thn (h1 pins s σ H D h0 I h) fun f s1 q => ?_)
  cases f with
  | next => exact wpAny_execs_nil q
  | ret v => exact q
  | brk => exact q
  | cont => exact q
/-- if x op 3: behind the test a token is out -/
theorem ps_ifC {a : Expr} {op : CmpOp} {r : R2} {ta : TE} {j : Int} {k : Nat} {cpos cp pos : Pos} {A B : List Stmt} {t u : TS} (ho : OpR X (compareOp op) r) (ha : PE X a ta) (hm : behindInMarks op (.Constant (.int j) k cpos) = false) (hA : PSsT X A t) (hB : PSs X B u) :
    PS X (.If (.Compare a [op] [.Constant (.int j) k cpos] cp) A B pos) (tIfS (tTest (tOp r ta (tC (.int j)))) t u) := by
  refine ⟨fun pins s σ H D I h => ?_⟩
  refine wpAny_If (wpAny_mono (Q := fun d s' => 1 ≤ s'.toks ∧ TP X pins σ (fun b H1 => if b = true then t D σ H1 else u D σ H1) d s') (E := X.xe) ?_ (fun d s1 q => ?_) fun _ _ z => z)
  · refine wpAny_isTrue_Compare1 (thn (ha.run pins s σ H _ I h) fun v s1 ⟨x, H1, I1, r1, q1⟩ => ?_) hm
    refine wpAny_Constant_int ?_
    refine wpAny_mono (PySem.wpAny_toks (ho pins _ σ H1 x (.int j) v (.int j s1.toks) _ (I1.tok _) r1 ⟨_, rfl⟩ q1)) (fun c s3 q3 => ?_) fun _ _ z => z.2
    obtain ⟨hk, z, H3, I3, r3, b, e, q3⟩ := q3
    subst e
    cases r3
    exact wpAny_truthy_bool ⟨Nat.le_trans (Nat.le_add_left 1 _) hk, H3, I3, q3⟩
  · obtain ⟨hk, H1, I1, q1⟩ := q
    cases d with
    | true => exact hA pins s1 σ H1 D hk I1 q1
    | false => exact hB.run pins s1 σ H1 D I1 q1
end
end Inf

set_option Elab.async false
set_option linter.all false
set_option maxRecDepth 100000
set_option maxHeartbeats 4000000
namespace Inf
open PySem PySem.Spec PyProof.Rows L2
section
variable {X : Cx} {CX : CXT} {k n : Nat} {f C : Addr} {fd : FuncData} {ps ks : List Str} {sp : Sp} {E : XK} {m : Str} {pos apos : Pos} {e o : Expr} {es : List Expr} {kws : List Keyword} {ta : TE} {t tk : TA} {g : List Value → List Value → List Value} {gV : List V → List V → List V}
/-- a method called with keywords: n values are written, then j keywords -/
def tMethN (C : Addr) (m : Str) (n j : Nat) (sp : Sp) (gV : List V → List V → List V) (E : XK) (ta : TE) (t tk : TA) : TE := fun σ H Q => ta σ H fun x H1 => ∃ a dx fs, x = V.ref a ∧ H1 a = some (.ins C dx fs) ∧ fs.lookup m = none ∧ t σ H1 fun vs H2 => tk σ H2 fun zs H3 => vs.length = n ∧ zs.length = j ∧ sp (gV (.ref a :: vs) zs) H3 Q E
theorem pe_methK0 {pl : Sem Bool} (he : PE X o ta) (c : Cls X.K C) (hm : Meth X.K C m f) (F : FnOk X.prog X.w X.K X.mg X.base CX k f fd ps sp) (hr : Room k X.A) (hb : KBn X.K fd ps 1 ks g gV) (hx : Passes CX X E) (hkw : PK X kws tk)
    (hall : (backToKw pos (keywordEach kws X.env)).all (·.1.isSome) = true := by rfl) (hks : (backToKw pos (keywordEach kws X.env)).filterMap (·.1) = ks := by rfl)
    (hpl : ((backTo pos (starEach [] X.env)).any (·.1) || (backToKw pos (keywordEach kws X.env)).any (·.1.isNone)) = false := by rfl)
    (ht : eval (.Call (.Attribute o m apos) [] kws pos) X.env = (do
      let ov ← eval o X.env
      standAt apos.atName
      let (f, first) ← holding [ov] (getMethod ov m pl)
      callWith pos f first (backTo pos (starEach [] X.env)) (backToKw pos (keywordEach kws X.env))) := by rfl) :
    PE X (.Call (.Attribute o m apos) [] kws pos) (tMethN C m 0 ks.length sp gV E ta tNil tk) := by
  refine ⟨fun pins s σ H Q I h => ?_⟩
  refine PySem.W.methodCall_KW (pl := pl) (thn (he.run pins s σ H _ I h) fun u s1 ⟨x, H1, I1, rx, a, dx, fs, ex, ea, l, q⟩ => ?_) ht
  subst ex
  obtain rfl : u = Value.ref a := rx
  refine getmeth_ok I1 ea c hm l ?_
  refine PySem.W.callWith_KW0 (first := [.ref a]) (h₀ := X.base) I.ok.mod.kin hm.kp hall (thn (hkw.run pos pins s1 σ H1 _ I1 q) fun ws s2 ⟨zs, H2, I2, rz, l1, l2, q2⟩ => ⟨I2.kIn, ?_⟩) hpl
  rw [hks]
  exact run_fnN (us := [.ref a]) (vs := [.ref a]) F hr hb hx I2 (.cons rfl .nil) rz rfl l2 q2
theorem pe_methK {pl : Sem Bool} (he : PE X o ta) (c : Cls X.K C) (hm : Meth X.K C m f) (F : FnOk X.prog X.w X.K X.mg X.base CX k f fd ps sp) (hr : Room k X.A) (hb : KBn X.K fd ps (n + 1) ks g gV) (hx : Passes CX X E) (ha : PA X (e :: es) t) (hkw : PK X kws tk)
    (hall : (backToKw pos (keywordEach kws X.env)).all (·.1.isSome) = true := by rfl) (hks : (backToKw pos (keywordEach kws X.env)).filterMap (·.1) = ks := by rfl)
    (hst : starEach (e :: es) X.env = (false, eval e X.env) :: starEach es X.env := by rfl)
    (hpl : ((backTo pos (starEach (e :: es) X.env)).any (·.1) || (backToKw pos (keywordEach kws X.env)).any (·.1.isNone)) = false := by rfl)
    (ht : eval (.Call (.Attribute o m apos) (e :: es) kws pos) X.env = (do
      let ov ← eval o X.env
      standAt apos.atName
      let (f, first) ← holding [ov] (getMethod ov m pl)
      callWith pos f first (backTo pos (starEach (e :: es) X.env)) (backToKw pos (keywordEach kws X.env))) := by rfl) :
    PE X (.Call (.Attribute o m apos) (e :: es) kws pos) (tMethN C m n ks.length sp gV E ta t tk) := by
  refine ⟨fun pins s σ H Q I h => ?_⟩
  refine PySem.W.methodCall_KW (pl := pl) (thn (he.run pins s σ H _ I h) fun u s1 ⟨x, H1, I1, rx, a, dx, fs, ex, ea, l, q⟩ => ?_) ht
  subst ex
  obtain rfl : u = Value.ref a := rx
  refine getmeth_ok I1 ea c hm l ?_
  refine PySem.W.callWith_KW (first := [.ref a]) (h₀ := X.base) I.ok.mod.kin hm.kp hall (thn (ha.run pos pins s1 σ H1 _ I1 q) fun us s2 ⟨vs, H2, I2, r, q2⟩ => ?_) hpl hst
  refine thn (hkw.run pos pins s2 σ H2 _ I2 q2) fun ws s3 ⟨zs, H3, I3, rz, l1, l2, q3⟩ => ⟨I3.kIn, ?_⟩
  rw [hks]
  exact run_fnN (us := .ref a :: us) (vs := .ref a :: vs) F hr hb hx I3 (.cons rfl r) rz (congrArg Nat.succ l1) l2 q3
end
end Inf

set_option Elab.async false
set_option linter.all false
set_option maxRecDepth 100000
set_option maxHeartbeats 4000000
namespace Ob
open PySem PySem.Spec PyProof.Rows L2
/-! ### a def whose code object is named: it makes functions -/
structure FunT (K : PySem.W.Frag) (x qual : Str) (st : Stmt) (f : Addr) (fd : FuncData) (c : Addr) : Prop where
  ex : ∃ (oc : Value) (od : Option Addr) (kV doc pm : Value) (an : Option Addr) (ct : Value) (osl : Array (Option Value)),
    fd = PySem.W.fnOf x qual (defArgs st) (defBody st) (defScope st) .none kV doc pm an (.ref c) ct ∧ K.lookup f = some ⟨oc, od, .func fd, osl⟩ ∧ PySem.W.codeIn K (.ref c) qual = true
  kp : PySem.W.keepIn K (.ref f) = true
theorem FunT.ok {P : Program} {w : World} {K : PySem.W.Frag} {mg : Str → Option Value} {base : Heap} {x qual : Str} {st : Stmt} {f c : Addr} {fd : FuncData} {CX : CXT} {N ps : List Str} {k : Nat} {sp : Sp} (F : FunT K x qual st f fd c) (S : FnScope N ps (defScope st)) (len : ∀ vs H Q E, sp vs H Q E → vs.length = ps.length)
    (hbody : ∀ (A : Around) (outer : List Env) (s : Shared) (H : Hp) (vs : List V) (Q : VK) (E : XK), Room k (A.deeper (envOfC qual (defScope st) s.heap.objs.size f (.ref c))) → sp vs H Q E →
      ∃ t, PSs (cxOf CX P w K mg base N qual (defScope st) f (.ref c) A outer s H E) (defBody st) t ∧ t { nx := fun _ H' => Q .non H', rt := Q } (L2.start N vs) H) : FnOk P w K mg base CX (k + 1) f fd ps sp := by
  obtain ⟨oc, od, kV, doc, pm, an, ct, osl, rfl, lk, hcd⟩ := F.ex
  exact fn_of lk hcd S len fun A outer s H vs Q E hr hsp => hbody A outer s H vs Q E hr hsp
theorem FunT.okC {P : Program} {w : World} {K : PySem.W.Frag} {mg : Str → Option Value} {base : Heap} {x qual : Str} {st : Stmt} {f c : Addr} {fd : FuncData} {N ps : List Str} {k : Nat} {sp : Sp} (F : FunT K x qual st f fd c) (S : FnScope N ps (defScope st)) (len : ∀ vs H Q E, sp vs H Q E → vs.length = ps.length)
    (hbody : ∀ (A : Around) (outer : List Env) (s : Shared) (H : Hp) (vs : List V) (Q : VK) (E : XK), Room k (A.deeper (envOfC qual (defScope st) s.heap.objs.size f (.ref c))) → sp vs H Q E →
      ∃ t, Inf.PSsR (cxOf CX0 P w K mg base N qual (defScope st) f (.ref c) A outer s H E).nox (defBody st) t ∧
        t (fun σ v H' => ∀ H'', Inf.Fin (envOfC qual (defScope st) s.heap.objs.size f (.ref c)).cells (defScope st).names N σ H' H'' → Q v H'') (L2.start N vs) H) : FnOk P w K mg base CX0 (k + 1) f fd ps sp := by
  obtain ⟨oc, od, kV, doc, pm, an, ct, osl, rfl, lk, hcd⟩ := F.ex
  exact Inf.okC_of lk hcd S len hbody
theorem all_cons {α : Type} {P : α → Prop} {a : α} {l : List α} (h : P a) (t : ∀ x ∈ l, P x) : ∀ x ∈ a :: l, P x := fun x m => (List.mem_cons.mp m).elim (fun e => by rw [e]; exact h) (t x)

/-! ### the text -/
def topS (i : Nat) : Stmt := PySem.Challenge.pw_oncebuilt_k81_whole_undone_step_by_step.main.body.getD i (.Pass ⟨0, 0, 0, 0⟩)
abbrev s_Unions_init : Stmt := inClass (topS 1) 0
abbrev n_Unions_init : List Str := ["self", "many"]
theorem sc_Unions_init : FnScope n_Unions_init ["self", "many"] (defScope s_Unions_init) := ⟨rfl, rfl, rfl, by decide +kernel, rfl, by decide +kernel, by decide +kernel⟩
abbrev s_Unions_push : Stmt := inClass (topS 1) 1
abbrev n_Unions_push : List Str := ["self", "pair", "upper", "lower"]
theorem sc_Unions_push : FnScope n_Unions_push ["self", "pair"] (defScope s_Unions_push) := ⟨rfl, rfl, rfl, by decide +kernel, rfl, by decide +kernel, by decide +kernel⟩
abbrev s_Unions_pop : Stmt := inClass (topS 1) 2
abbrev n_Unions_pop : List Str := ["self", "lower", "upper"]
theorem sc_Unions_pop : FnScope n_Unions_pop ["self"] (defScope s_Unions_pop) := ⟨rfl, rfl, rfl, by decide +kernel, rfl, by decide +kernel, by decide +kernel⟩
abbrev s_Unions_ask : Stmt := inClass (topS 1) 3
abbrev n_Unions_ask : List Str := ["self", "question"]
theorem sc_Unions_ask : FnScope n_Unions_ask ["self", "question"] (defScope s_Unions_ask) := ⟨rfl, rfl, rfl, by decide +kernel, rfl, by decide +kernel, by decide +kernel⟩
abbrev s_Unions_root_of : Stmt := inClass (topS 1) 4
abbrev n_Unions_root_of : List Str := ["self", "point", "root"]
theorem sc_Unions_root_of : FnScope n_Unions_root_of ["self", "point"] (defScope s_Unions_root_of) := ⟨rfl, rfl, rfl, by decide +kernel, rfl, by decide +kernel, by decide +kernel⟩
abbrev s_Unions_count_of : Stmt := inClass (topS 1) 5
abbrev n_Unions_count_of : List Str := ["self", "root"]
theorem sc_Unions_count_of : FnScope n_Unions_count_of ["self", "root"] (defScope s_Unions_count_of) := ⟨rfl, rfl, rfl, by decide +kernel, rfl, by decide +kernel, by decide +kernel⟩
abbrev s_Span_init : Stmt := inClass (topS 2) 0
abbrev n_Span_init : List Str := ["self"]
theorem sc_Span_init : FnScope n_Span_init ["self"] (defScope s_Span_init) := ⟨rfl, rfl, rfl, by decide +kernel, rfl, by decide +kernel, by decide +kernel⟩
abbrev s_Span_push : Stmt := inClass (topS 2) 1
abbrev n_Span_push : List Str := ["self", "integer", "rest"]
theorem sc_Span_push : FnScope n_Span_push ["self", "integer"] (defScope s_Span_push) := ⟨rfl, rfl, rfl, by decide +kernel, rfl, by decide +kernel, by decide +kernel⟩
abbrev s_Span_pop : Stmt := inClass (topS 2) 2
abbrev n_Span_pop : List Str := ["self", "length"]
theorem sc_Span_pop : FnScope n_Span_pop ["self"] (defScope s_Span_pop) := ⟨rfl, rfl, rfl, by decide +kernel, rfl, by decide +kernel, by decide +kernel⟩
abbrev s_Span_ask : Stmt := inClass (topS 2) 3
abbrev n_Span_ask : List Str := ["self", "question"]
theorem sc_Span_ask : FnScope n_Span_ask ["self", "question"] (defScope s_Span_ask) := ⟨rfl, rfl, rfl, by decide +kernel, rfl, by decide +kernel, by decide +kernel⟩
abbrev s_Span_reduced : Stmt := inClass (topS 2) 4
abbrev n_Span_reduced : List Str := ["self", "integer", "rest"]
theorem sc_Span_reduced : FnScope n_Span_reduced ["self", "integer"] (defScope s_Span_reduced) := ⟨rfl, rfl, rfl, by decide +kernel, rfl, by decide +kernel, by decide +kernel⟩
abbrev s_l_bag : Stmt := topS 4
abbrev n_l_bag : List Str := ["_law_script", "_law_at", "_law_cell", "_law_great", "_law_primes"]
theorem sc_l_bag : FnScope n_l_bag ["_law_script", "_law_at"] (defScope s_l_bag) := ⟨rfl, rfl, rfl, by decide +kernel, rfl, by decide +kernel, by decide +kernel⟩
abbrev s_l_take : Stmt := topS 5
abbrev n_l_take : List Str := ["_law_bag_here", "_law_many", "_law_digit"]
theorem sc_l_take : FnScope n_l_take ["_law_bag_here", "_law_many"] (defScope s_l_take) := ⟨rfl, rfl, rfl, by decide +kernel, rfl, by decide +kernel, by decide +kernel⟩
abbrev s_l_made : Stmt := topS 6
abbrev n_l_made : List Str := ["_law_form"]
theorem sc_l_made : FnScope n_l_made ["_law_form"] (defScope s_l_made) := ⟨rfl, rfl, rfl, by decide +kernel, rfl, by decide +kernel, by decide +kernel⟩
abbrev s_l_answers : Stmt := topS 7
abbrev n_l_answers : List Str := ["_law_structure", "_law_form", "_law_found", "_law_other", "_law_integer", "_law_one"]
theorem sc_l_answers : FnScope n_l_answers ["_law_structure", "_law_form"] (defScope s_l_answers) := ⟨rfl, rfl, rfl, by decide +kernel, rfl, by decide +kernel, by decide +kernel⟩
abbrev s_law : Stmt := topS 8
abbrev n_law : List Str := ["_law_script", "_law_at", "_law_bag_here", "_law_form", "_law_structure", "_law_members", "_law_noted_ones", "_law_turn", "_law_k", "_law_member", "_law_other"]
theorem sc_law : FnScope n_law ["_law_script"] (defScope s_law) := ⟨rfl, rfl, rfl, by decide +kernel, rfl, by decide +kernel, by decide +kernel⟩
structure Txt (K : PySem.W.Frag) (mg : Str → Option Value) where
  C_Unions : Addr
  gc_Unions : mg "Unions" = some (.ref C_Unions)
  C_Span : Addr
  gc_Span : mg "Span" = some (.ref C_Span)
  f_Unions_init : Addr
  d_Unions_init : FuncData
  -- 
  F_Unions_init : Fun K "__init__" "Unions.__init__" s_Unions_init f_Unions_init d_Unions_init
  b_Unions_init : Binds K d_Unions_init ["self", "many"] []
  m_Unions_init : PySem.W.findIn K (.ref C_Unions) "__init__" = some (some (.ref f_Unions_init))
  t_Unions_init : PySem.W.isFn K (.ref f_Unions_init) = true
  y_Unions_init : PySem.W.typeIn K (.ref f_Unions_init) = some (.type "function")
  k_Unions_init : PySem.W.keepIn K (.ref f_Unions_init) = true
  f_Unions_push : Addr
  d_Unions_push : FuncData
  -- 
  F_Unions_push : Fun K "push" "Unions.push" s_Unions_push f_Unions_push d_Unions_push
  b_Unions_push : Binds K d_Unions_push ["self", "pair"] []
  m_Unions_push : PySem.W.findIn K (.ref C_Unions) "push" = some (some (.ref f_Unions_push))
  t_Unions_push : PySem.W.isFn K (.ref f_Unions_push) = true
  y_Unions_push : PySem.W.typeIn K (.ref f_Unions_push) = some (.type "function")
  k_Unions_push : PySem.W.keepIn K (.ref f_Unions_push) = true
  f_Unions_pop : Addr
  d_Unions_pop : FuncData
  -- 
  F_Unions_pop : Fun K "pop" "Unions.pop" s_Unions_pop f_Unions_pop d_Unions_pop
  b_Unions_pop : Binds K d_Unions_pop ["self"] []
  m_Unions_pop : PySem.W.findIn K (.ref C_Unions) "pop" = some (some (.ref f_Unions_pop))
  t_Unions_pop : PySem.W.isFn K (.ref f_Unions_pop) = true
  y_Unions_pop : PySem.W.typeIn K (.ref f_Unions_pop) = some (.type "function")
  k_Unions_pop : PySem.W.keepIn K (.ref f_Unions_pop) = true
  f_Unions_ask : Addr
  d_Unions_ask : FuncData
  -- 
  F_Unions_ask : Fun K "ask" "Unions.ask" s_Unions_ask f_Unions_ask d_Unions_ask
  b_Unions_ask : Binds K d_Unions_ask ["self", "question"] []
  m_Unions_ask : PySem.W.findIn K (.ref C_Unions) "ask" = some (some (.ref f_Unions_ask))
  t_Unions_ask : PySem.W.isFn K (.ref f_Unions_ask) = true
  y_Unions_ask : PySem.W.typeIn K (.ref f_Unions_ask) = some (.type "function")
  k_Unions_ask : PySem.W.keepIn K (.ref f_Unions_ask) = true
  f_Unions_root_of : Addr
  d_Unions_root_of : FuncData
  -- 
  F_Unions_root_of : Fun K "root_of" "Unions.root_of" s_Unions_root_of f_Unions_root_of d_Unions_root_of
  b_Unions_root_of : Binds K d_Unions_root_of ["self", "point"] []
  m_Unions_root_of : PySem.W.findIn K (.ref C_Unions) "root_of" = some (some (.ref f_Unions_root_of))
  t_Unions_root_of : PySem.W.isFn K (.ref f_Unions_root_of) = true
  y_Unions_root_of : PySem.W.typeIn K (.ref f_Unions_root_of) = some (.type "function")
  k_Unions_root_of : PySem.W.keepIn K (.ref f_Unions_root_of) = true
  f_Unions_count_of : Addr
  d_Unions_count_of : FuncData
  -- 
  F_Unions_count_of : Fun K "count_of" "Unions.count_of" s_Unions_count_of f_Unions_count_of d_Unions_count_of
  b_Unions_count_of : Binds K d_Unions_count_of ["self", "root"] []
  m_Unions_count_of : PySem.W.findIn K (.ref C_Unions) "count_of" = some (some (.ref f_Unions_count_of))
  t_Unions_count_of : PySem.W.isFn K (.ref f_Unions_count_of) = true
  y_Unions_count_of : PySem.W.typeIn K (.ref f_Unions_count_of) = some (.type "function")
  k_Unions_count_of : PySem.W.keepIn K (.ref f_Unions_count_of) = true
  f_Span_init : Addr
  d_Span_init : FuncData
  -- 
  F_Span_init : Fun K "__init__" "Span.__init__" s_Span_init f_Span_init d_Span_init
  b_Span_init : Binds K d_Span_init ["self"] []
  m_Span_init : PySem.W.findIn K (.ref C_Span) "__init__" = some (some (.ref f_Span_init))
  t_Span_init : PySem.W.isFn K (.ref f_Span_init) = true
  y_Span_init : PySem.W.typeIn K (.ref f_Span_init) = some (.type "function")
  k_Span_init : PySem.W.keepIn K (.ref f_Span_init) = true
  f_Span_push : Addr
  d_Span_push : FuncData
  -- 
  F_Span_push : Fun K "push" "Span.push" s_Span_push f_Span_push d_Span_push
  b_Span_push : Binds K d_Span_push ["self", "integer"] []
  m_Span_push : PySem.W.findIn K (.ref C_Span) "push" = some (some (.ref f_Span_push))
  t_Span_push : PySem.W.isFn K (.ref f_Span_push) = true
  y_Span_push : PySem.W.typeIn K (.ref f_Span_push) = some (.type "function")
  k_Span_push : PySem.W.keepIn K (.ref f_Span_push) = true
  f_Span_pop : Addr
  d_Span_pop : FuncData
  -- 
  F_Span_pop : Fun K "pop" "Span.pop" s_Span_pop f_Span_pop d_Span_pop
  b_Span_pop : Binds K d_Span_pop ["self"] []
  m_Span_pop : PySem.W.findIn K (.ref C_Span) "pop" = some (some (.ref f_Span_pop))
  t_Span_pop : PySem.W.isFn K (.ref f_Span_pop) = true
  y_Span_pop : PySem.W.typeIn K (.ref f_Span_pop) = some (.type "function")
  k_Span_pop : PySem.W.keepIn K (.ref f_Span_pop) = true
  f_Span_ask : Addr
  d_Span_ask : FuncData
  -- 
  F_Span_ask : Fun K "ask" "Span.ask" s_Span_ask f_Span_ask d_Span_ask
  b_Span_ask : Binds K d_Span_ask ["self", "question"] []
  m_Span_ask : PySem.W.findIn K (.ref C_Span) "ask" = some (some (.ref f_Span_ask))
  t_Span_ask : PySem.W.isFn K (.ref f_Span_ask) = true
  y_Span_ask : PySem.W.typeIn K (.ref f_Span_ask) = some (.type "function")
  k_Span_ask : PySem.W.keepIn K (.ref f_Span_ask) = true
  f_Span_reduced : Addr
  d_Span_reduced : FuncData
  -- 
  F_Span_reduced : Fun K "reduced" "Span.reduced" s_Span_reduced f_Span_reduced d_Span_reduced
  b_Span_reduced : Binds K d_Span_reduced ["self", "integer"] []
  m_Span_reduced : PySem.W.findIn K (.ref C_Span) "reduced" = some (some (.ref f_Span_reduced))
  t_Span_reduced : PySem.W.isFn K (.ref f_Span_reduced) = true
  y_Span_reduced : PySem.W.typeIn K (.ref f_Span_reduced) = some (.type "function")
  k_Span_reduced : PySem.W.keepIn K (.ref f_Span_reduced) = true
  f_l_bag : Addr
  d_l_bag : FuncData
  F_l_bag : Fun K "_law_bag" "_law_bag" s_l_bag f_l_bag d_l_bag
  b_l_bag : Binds K d_l_bag ["_law_script", "_law_at"] []
  g_l_bag : mg "_law_bag" = some (.ref f_l_bag)
  f_l_take : Addr
  d_l_take : FuncData
  F_l_take : Fun K "_law_take" "_law_take" s_l_take f_l_take d_l_take
  b_l_take : Binds K d_l_take ["_law_bag_here", "_law_many"] []
  g_l_take : mg "_law_take" = some (.ref f_l_take)
  f_l_made : Addr
  d_l_made : FuncData
  F_l_made : Fun K "_law_made" "_law_made" s_l_made f_l_made d_l_made
  b_l_made : Binds K d_l_made ["_law_form"] []
  g_l_made : mg "_law_made" = some (.ref f_l_made)
  f_l_answers : Addr
  d_l_answers : FuncData
  F_l_answers : Fun K "_law_answers" "_law_answers" s_l_answers f_l_answers d_l_answers
  b_l_answers : Binds K d_l_answers ["_law_structure", "_law_form"] []
  g_l_answers : mg "_law_answers" = some (.ref f_l_answers)
  z_abs : mg "abs" = none
  z_len : mg "len" = none
  z_list : mg "list" = none
  z_max : mg "max" = none
  z_min : mg "min" = none
  z_range : mg "range" = none
  z_repr : mg "repr" = none
  z_sorted : mg "sorted" = none
  cl_Unions : Cls K C_Unions
  mk_Unions : PySem.W.makesIn K C_Unions = true
  kp_Unions : PySem.W.keepIn K (.ref C_Unions) = true
  n_Unions_groups : NoAttr K C_Unions "groups"
  n_Unions_parents : NoAttr K C_Unions "parents"
  n_Unions_counts : NoAttr K C_Unions "counts"
  n_Unions_moved : NoAttr K C_Unions "moved"
  cl_Span : Cls K C_Span
  mk_Span : PySem.W.makesIn K C_Span = true
  kp_Span : PySem.W.keepIn K (.ref C_Span) = true
  n_Span_basis : NoAttr K C_Span "basis"
  n_Span_lengths : NoAttr K C_Span "lengths"

theorem log_lo {n : Nat} (h : n ≠ 0) : 2 ^ n.log2 ≤ n := Nat.log2_self_le h
theorem log_hi {n : Nat} : n < 2 ^ (n.log2 + 1) := Nat.lt_log2_self
theorem log_lt {n f : Nat} (h : n ≠ 0) (hf : n < 2 ^ f) : n.log2 < f := (Nat.log2_lt h).mpr hf
theorem rest_lt {n : Nat} (h : n ≠ 0) : n - 2 ^ n.log2 < 2 ^ n.log2 := by
  have a := log_hi (n := n)
  have b := log_lo h
  rw [Nat.pow_succ] at a
  omega
theorem rest_lt' {n f : Nat} (h : n ≠ 0) (hf : n < 2 ^ (f + 1)) : n - 2 ^ n.log2 < 2 ^ f := by
  have a := rest_lt h
  have b := log_lt h hf
  have c : 2 ^ n.log2 ≤ 2 ^ f := Nat.pow_le_pow_right (by decide) (by omega)
  omega
/-- the lowest power -/
def low (n : Nat) : Nat := if h : n = 0 then 1 else if n % 2 = 0 then 2 * low (n / 2) else 1
termination_by n
decreasing_by omega
theorem low_even {n : Nat} (h : n ≠ 0) (e : n % 2 = 0) : low n = 2 * low (n / 2) := by
  rw [low, dif_neg h, if_pos e]
theorem low_odd {n : Nat} (e : n % 2 = 1) : low n = 1 := by
  rw [low, dif_neg (by omega), if_neg (by omega)]
theorem low_is : ∀ (j n : Nat), n ≠ 0 → n % 2 ^ j = 0 → ¬ n % 2 ^ (j + 1) = 0 → low n = 2 ^ j
  | 0, n, h, _, e => by
    rw [Nat.zero_add, Nat.pow_one] at e
    exact low_odd (by omega)
  | j + 1, n, h, a, b => by
    have e2 : n % 2 = 0 := by
      rw [Nat.pow_succ] at a
      have := Nat.mod_mod_of_dvd n (show 2 ∣ 2 ^ j * 2 from ⟨2 ^ j, Nat.mul_comm _ _⟩)
      rw [a] at this
      omega
    obtain ⟨m, rfl⟩ : ∃ m, n = 2 * m := ⟨n / 2, by omega⟩
    have hm : m ≠ 0 := by omega
    rw [low_even h e2, Nat.mul_div_cancel_left _ (by decide), Nat.pow_succ, Nat.mul_comm]
    have a' : m % 2 ^ j = 0 := by
      rw [Nat.pow_succ, Nat.mul_comm (2 ^ j) 2, Nat.mul_mod_mul_left] at a
      omega
    have b' : ¬ m % 2 ^ (j + 1) = 0 := fun z => by
      rw [Nat.pow_succ, Nat.mul_comm (2 ^ (j + 1)) 2, Nat.mul_mod_mul_left, z] at b
      exact b rfl
    rw [low_is j m hm a' b']
theorem low_pow (j : Nat) : low (2 ^ j) = 2 ^ j := by
  refine low_is j _ (Nat.pos_iff_ne_zero.mp (Nat.two_pow_pos j)) (Nat.mod_self _) fun z => ?_
  rw [Nat.mod_eq_of_lt (Nat.pow_lt_pow_right (by decide) (by omega))] at z
  have := Nat.two_pow_pos j
  omega

theorem ifT {c : Bool} {A B : Prop} (hc : c = true) (h : A) : if c = true then A else B := by
  rw [if_pos hc]
  exact h
theorem ifF {c : Bool} {A B : Prop} (hc : c = false) (h : B) : if c = true then A else B := by
  rw [hc, if_neg Bool.false_ne_true]
  exact h
theorem dF {p : Prop} [Decidable p] (h : ¬ p) : decide p = false := decide_eq_false h
theorem dT {p : Prop} [Decidable p] (h : p) : decide p = true := decide_eq_true h
theorem bits_nat {n : Nat} (h : n ≠ 0) : (Builtin.Int.intBits (n : Int) : Nat) = n.log2 + 1 := by
  unfold Builtin.Int.intBits
  rw [if_neg (show ¬ ((n : Int) == 0) = true by simpa using (show (n : Int) ≠ 0 by omega))]
  rfl
theorem gp_eq {n : Nat} (h : n ≠ 0) : (1 : Int) * 2 ^ (((Builtin.Int.intBits (n : Int) : Nat) : Int) - 1).toNat = ((2 ^ n.log2 : Nat) : Int) := by
  rw [bits_nat h, show (((n.log2 + 1 : Nat) : Int) - 1).toNat = n.log2 by omega, Int.one_mul]
  exact (PySem.W.kbt_cast _).symm
theorem gp_ok {n : Nat} (h : n ≠ 0) (hn : n < 2 ^ 200) : CShl 1 (((Builtin.Int.intBits (n : Int) : Nat) : Int) - 1) := by
  have a := log_lt h hn
  rw [bits_nat h, show (((n.log2 + 1 : Nat) : Int) - 1) = (n.log2 : Int) by omega]
  exact shl_ok (n := 1) (by decide) (by omega)
theorem nat_cast_lt {a : Nat} {n : Nat} (h : n < 2 ^ a) : (n : Int).natAbs < 2 ^ a := h
theorem pow_nat (k : Nat) : (2 : Int) ^ k = ((2 ^ k : Nat) : Int) := (PySem.W.kbt_cast k).symm
theorem p10 : (10 : Int) ^ Int.toNat 30 = ((10 ^ 30 : Nat) : Int) := by decide +kernel
theorem le6 : 6 ≤ sizeLine := by decide
theorem p100 : (10 ^ 30 : Nat) < 2 ^ 100 := by decide +kernel
def intAt (σ : L2.St) (i : Nat) : Nat := match σ[i]? with
  | some (some (V.int r)) => r.toNat
  | _ => 0
theorem le2 : 2 ≤ sizeLine := by decide
theorem cdiv_nat (a b : Nat) : ((a : Int) / (b : Int)) = ((a / b : Nat) : Int) := rfl

/-! ### heaps -/
theorem same_put {H H1 : Hp} {p : Addr} {o : HO} (h : Same H H1) (n : H p = none) : Same H (upd H1 p o) := fun b u e => by
  rw [upd_ne (ne_of_none e n)]
  exact h b u e
theorem same_new {H : Hp} {p : Addr} {o : HO} (n : H p = none) : Same H (upd H p o) := same_put (Same.refl H) n
theorem same_no {H H1 : Hp} {p : Addr} (h : Same H H1) (n : H1 p = none) : H p = none := h.free n
/-- all but p is as it was -/
def But (p : Addr) (H H' : Hp) : Prop := ∀ b o, H b = some o → b ≠ p → H' b = some o
theorem but_refl (p : Addr) (H : Hp) : But p H H := fun _ _ h _ => h
theorem but_trans {p : Addr} {H H1 H2 : Hp} (a : But p H H1) (b : But p H1 H2) : But p H H2 := fun c o h n => b c o (a c o h n) n
theorem but_of_same {p : Addr} {H H1 : Hp} (a : Same H H1) : But p H H1 := fun c o h _ => a c o h
theorem but_upd (p : Addr) (H : Hp) (o : HO) : But p H (upd H p o) := fun b u e n => by
  rw [upd_ne n]
  exact e
theorem but_fresh {p : Addr} {H0 H H1 : Hp} (s : Same H0 H) (n : H0 p = none) (b : But p H H1) : Same H0 H1 := fun c o e => b c o (s c o e) (ne_of_none e n)
/-! ### a bag of digits -/
def Bag (H : Hp) (p : Addr) : Prop := ∃ g m c : Int, H p = some (.lst [.int g, .int m, .int c]) ∧ 0 ≤ g ∧ 0 ≤ m ∧ m < 2147483648
theorem fm0 {a b : Int} (h : 0 < b) : 0 ≤ a.fmod b := by
  rw [Int.fmod_eq_emod_of_nonneg a (by omega)]
  exact Int.emod_nonneg a (by omega)
theorem fm1 {a b : Int} (h : 0 < b) : a.fmod b < b := by
  rw [Int.fmod_eq_emod_of_nonneg a (by omega)]
  exact Int.emod_lt_of_pos a h
theorem nz1 : (2147483647 : Int) ≠ 0 := by decide
theorem nz2 : (2147483629 : Int) ≠ 0 := by decide
section
variable {P : Program} {w : World} {K : PySem.W.Frag} {mg : Str → Option Value} {base : Heap}
def spTake : Sp := fun vs H Q _ => ∃ (p : Addr) (n : Int), vs = [.ref p, .int n] ∧ Bag H p ∧ 0 < n ∧ n.natAbs < 2 ^ 200 ∧
  ∀ r H', 0 ≤ r → r < n → Bag H' p → But p H H' → Q (.int r) H'
theorem ok_take (T : Txt K mg) : FnOk P w K mg base CX0 1 T.f_l_take T.d_l_take ["_law_bag_here", "_law_many"] spTake := by
  refine T.F_l_take.ok sc_l_take (fun vs H Q E h => ?_) (fun cdv A outer s H vs Q E hr h => ?_)
  · obtain ⟨p, n, rfl, _⟩ := h
    rfl
  · obtain ⟨p, n, rfl, ⟨g, m, c, hb, g0, m0, m1⟩, n0, n1, q⟩ := h
    refine ⟨_, (pss_cons (ps_if (pt_cmpR op_gt (pe_ix (r := rIxL K) ix_list (pv 0) pe_int (fun _ _ => rfl)) pe_int (nomark _)) (pss_cons (ps_set (i := 2) sc_l_take.nd rfl (.inl rfl) (pe_op op_modN (pe_ix (r := rIxL K) ix_list (pv 0) pe_int (fun _ _ => rfl)) (pv 1)))
        (pss_cons (ps_asg (pe_op op_fdivW (pe_ix (r := rIxL K) ix_list (pv 0) pe_int (fun _ _ => rfl)) (pv 1)) (pg_sub (pv 0) pe_int set_list))
        (pss_one (ps_ret (pv 2))))) pss_nil)
      (pss_cons (ps_asg (pe_op op_add (pe_ix (r := rIxL K) ix_list (pv 0) pe_int (fun _ _ => rfl)) pe_int) (pg_sub (pv 0) pe_int set_list))
      (pss_cons (ps_asg (pe_op op_modN (pe_op op_add (pe_op op_add (pe_op op_mul (pe_ix (r := rIxL K) ix_list (pv 0) pe_int (fun _ _ => rfl)) pe_int) (pe_op op_mul pe_int (pe_ix (r := rIxL K) ix_list (pv 0) pe_int (fun _ _ => rfl)))) pe_int) pe_int) (pg_sub (pv 0) pe_int set_list))
      (pss_one (ps_ret (pe_op op_modN (pe_op op_modN (pe_op op_pow (pe_op op_fdivW (pe_ix (r := rIxL K) ix_list (pv 0) pe_int (fun _ _ => rfl)) pe_int) pe_int) pe_int) (pv 1))))))), ?_⟩
    have hB : SqL K H p [.int g, .int m, .int c] := .inl (.inl hb)
    refine ⟨_, rfl, p, _, 0, .int g, rfl, rfl, hB, atI_nat (j := 0) rfl, _, _, rfl, rfl, _, rfl, ite2 (fun e => ?_) (fun e => ?_)⟩
    · refine ⟨_, rfl, p, _, 0, .int g, rfl, rfl, hB, atI_nat (j := 0) rfl, _, rfl, _, _, rfl, rfl, (by omega), ?_⟩
      refine ⟨_, rfl, p, _, 0, .int g, rfl, rfl, hB, atI_nat (j := 0) rfl, _, rfl, _, _, rfl, rfl, wide_div n0 n1 (by decide) (by decide), ?_⟩
      refine ⟨_, rfl, p, _, _, 0, rfl, rfl, hb, rfl, ?_⟩
      refine ⟨_, rfl, ?_⟩
      exact q _ _ (fm0 n0) (fm1 n0) ⟨g / n, m, c, upd_same, Int.ediv_nonneg g0 (by omega), m0, m1⟩ (but_upd _ _ _)
    · refine ⟨_, rfl, p, _, 2, .int c, rfl, rfl, hB, atI_nat (j := 2) rfl, _, _, rfl, rfl, ?_⟩
      refine ⟨_, rfl, p, _, _, 2, rfl, rfl, hb, rfl, ?_⟩
      have h2 : upd H p (.lst [.int g, .int m, .int (c + 1)]) p = some (.lst [.int g, .int m, .int (c + 1)]) := upd_same
      have hB2 : SqL K (upd H p (.lst [.int g, .int m, .int (c + 1)])) p [.int g, .int m, .int (c + 1)] := .inl (.inl h2)
      refine ⟨_, rfl, p, _, 1, .int m, rfl, rfl, hB2, atI_nat (j := 1) rfl, _, _, rfl, rfl, .inr ⟨by decide, by decide⟩, _, rfl, p, _, 2, .int (c + 1), rfl, rfl, hB2, atI_nat (j := 2) rfl, _, _, rfl, rfl, .inl ⟨by decide, by decide⟩, _, _, rfl, rfl, _, _, rfl, rfl, _, _, rfl, rfl, nz1, ?_⟩
      refine ⟨_, rfl, p, _, _, 1, rfl, rfl, h2, rfl, ?_⟩
      have m0' := fm0 (a := m * 48271 + 6661 * (c + 1) + 17) (show (0 : Int) < 2147483647 by decide)
      have m1' := fm1 (a := m * 48271 + 6661 * (c + 1) + 17) (show (0 : Int) < 2147483647 by decide)
      refine ⟨_, rfl, p, _, 1, _, rfl, rfl, .inl (.inl upd_same), atI_nat (j := 1) rfl, _, _, rfl, rfl, ⟨by decide, by decide⟩, _, _, rfl, rfl, ⟨by decide, by decide, ?_⟩, _, _, rfl, rfl, nz2, _, rfl, _, _, rfl, rfl, (by omega), ?_⟩
      · omega
      exact q _ _ (fm0 n0) (fm1 n0) ⟨g, _, c + 1, upd_same, g0, m0', by omega⟩ (but_trans (but_upd _ _ _) (but_upd _ _ _))
theorem le3 : 3 ≤ sizeLine := by decide
theorem nz3 : (8 : Int) ≠ 0 := by decide
theorem primes_at (k : Nat) : ∃ v : Int, 0 < v ∧ v < 2147483648 ∧ atI [V.int 2147483629, V.int 2147483587, V.int 2147483579, V.int 2147483563, V.int 2147483549, V.int 2147483543, V.int 2147483497, V.int 2147483489] ((k : Int).fmod 8) = some (.int v) := by
  have e : (k : Int).fmod 8 = ((k % 8 : Nat) : Int) := by
    rw [Int.fmod_eq_emod_of_nonneg _ (by decide)]
    rfl
  have h : k % 8 < 8 := Nat.mod_lt _ (by decide)
  rw [e]
  generalize k % 8 = j at h
  match j, h with
  | 0, _ => exact ⟨_, by decide, by decide, atI_nat (j := 0) rfl⟩
  | 1, _ => exact ⟨_, by decide, by decide, atI_nat (j := 1) rfl⟩
  | 2, _ => exact ⟨_, by decide, by decide, atI_nat (j := 2) rfl⟩
  | 3, _ => exact ⟨_, by decide, by decide, atI_nat (j := 3) rfl⟩
  | 4, _ => exact ⟨_, by decide, by decide, atI_nat (j := 4) rfl⟩
  | 5, _ => exact ⟨_, by decide, by decide, atI_nat (j := 5) rfl⟩
  | 6, _ => exact ⟨_, by decide, by decide, atI_nat (j := 6) rfl⟩
  | 7, _ => exact ⟨_, by decide, by decide, atI_nat (j := 7) rfl⟩
  | n + 8, h => exact absurd h (by omega)
def spBag (K : PySem.W.Frag) : Sp := fun vs H Q _ => ∃ (a : Addr) (ns : List Int) (k : Nat), vs = [.ref a, .int (k : Int)] ∧ SqL K H a (ns.map V.int) ∧ k ≤ 1000 ∧
  ∀ p H', H p = none → Same H H' → Bag H' p → Q (.ref p) H'
theorem ok_bag (T : Txt K mg) : FnOk P w K mg base CX0 1 T.f_l_bag T.d_l_bag ["_law_script", "_law_at"] (spBag K) := by
  refine T.F_l_bag.ok sc_l_bag (fun vs H Q E h => ?_) (fun cdv A outer s H vs Q E hr h => ?_)
  · obtain ⟨a, ns, k, rfl, _⟩ := h
    rfl
  · obtain ⟨a, ns, k, rfl, hS, hk, q⟩ := h
    refine ⟨_, (pss_cons (ps_set (i := 2) sc_l_bag.nd rfl (.inl rfl) pe_int)
      (C8.pss_cut (ps_if (pt_cmpR op_lt (pv 1) (pe_callB call_len_seq (by rfl) T.z_len (by decide +kernel) (pa_cons (pv 0) pa_nil)) (nomark _)) (pss_one (ps_set (i := 2) sc_l_bag.nd rfl (.inl rfl) (pe_ix (r := rIxL K) ix_list (pv 0) (pv 1) (fun _ _ => rfl)))) pss_nil)
      (pss_cons (ps_set (i := 3) sc_l_bag.nd rfl (.inl rfl) pe_int)
      (C8.pss_cut (ps_if (pt_cmpR op_ge (pe_callB call_abs (by rfl) T.z_abs (by decide +kernel) (pa_cons (pv 2) pa_nil)) (pe_op op_pow pe_int pe_int) (nomark _)) (pss_one (ps_set (i := 3) sc_l_bag.nd rfl (.inl rfl) (pe_callB call_abs (by rfl) T.z_abs (by decide +kernel) (pa_cons (pv 2) pa_nil)))) pss_nil)
      (pss_cons (ps_set (i := 4) sc_l_bag.nd rfl (.inl rfl) (pe_lst (pa_cons pe_int (pa_cons pe_int (pa_cons pe_int (pa_cons pe_int (pa_cons pe_int (pa_cons pe_int (pa_cons pe_int (pa_cons pe_int pa_nil))))))))))
      (pss_one (ps_ret (pe_lst (pa_cons (pv 3) (pa_cons (pe_op op_modN (pe_op op_pow (pe_op op_add (pe_op op_add (pe_op op_modN (pv 2) pe_int) (pe_op op_mul pe_int (pv 1))) pe_int) pe_int) (pe_ix (r := rIxL K) ix_list (pv 4) (pe_op op_modN (pv 1) pe_int) (fun _ _ => rfl))) (pa_cons pe_int pa_nil))))))))))), ?_⟩
    refine ⟨fun σ' H' => H' = H ∧ ∃ c : Int, σ' = [some (.ref a), some (.int (k : Int)), some (.int c), none, none], ?_, fun σ' H' hM => ?_⟩
    · refine ⟨_, rfl, _, rfl, a, _, rfl, .inl hS, _, _, rfl, rfl, _, rfl, ite2 (fun e => ?_) (fun e => ?_)⟩
      · have e2 := of_decide_eq_true e
        have e3 : k < ns.length := by
          rw [List.length_map] at e2
          omega
        have e4 : (ns.map V.int)[k]? = some (.int ns[k]) := by
          rw [List.getElem?_map, List.getElem?_eq_getElem e3]
          rfl
        exact ⟨_, rfl, _, rfl, a, _, _, _, rfl, rfl, hS, atI_nat e4, rfl, _, rfl⟩
      · exact ⟨rfl, _, rfl⟩
    · obtain ⟨rfl, c, rfl⟩ := hM
      refine ⟨fun σ'' H'' => H'' = H' ∧ ∃ g : Int, σ'' = [some (.ref a), some (.int (k : Int)), some (.int c), some (.int g), none] ∧ 0 ≤ g, ?_, fun σ'' H'' hM => ?_⟩
      · refine ⟨_, rfl, _, rfl, _, _, rfl, rfl, ⟨by decide, by decide, by decide⟩, _, _, rfl, rfl, _, rfl, ite2 (fun e => ?_) (fun e => ?_)⟩
        · refine ⟨_, rfl, _, rfl, rfl, _, rfl, ?_⟩
          split <;> omega
        · exact ⟨rfl, _, rfl, by decide⟩
      · obtain ⟨rfl, g, rfl, g0⟩ := hM
        refine ⟨by decide, fun o no => ?_⟩
        obtain ⟨v, v0, v1, hv⟩ := primes_at k
        have h0 := fm0 (a := c) (show (0 : Int) < 2147483647 by decide)
        have h1 := fm1 (a := c) (show (0 : Int) < 2147483647 by decide)
        refine ⟨_, rfl, _, rfl, _, _, rfl, rfl, nz1, _, rfl, _, _, rfl, rfl, .inl ⟨by decide, by decide⟩, _, _, rfl, rfl, _, _, rfl, rfl, _, _, rfl, rfl, ⟨by decide, by decide, by omega⟩, _, rfl, _, rfl, _, _, rfl, rfl, nz3, o, _, _, _, rfl, rfl, .inl (.inl upd_same), hv, _, _, rfl, rfl, by omega, ?_⟩
        refine ⟨le3, fun p np => ?_⟩
        have np' : H'' p = none := (same_new no).free np
        exact q _ _ np' (same_put (same_new no) np') ⟨g, _, 0, upd_same, g0, fm0 v0, by have := fm1 (a := (c.fmod 2147483647 + 104717 * (k : Int) + 13) ^ Int.toNat 5) v0; omega⟩
end
theorem but_put {p q : Addr} {H H1 : Hp} {o : HO} (b : But p H H1) (n : H1 q = none) : But p H (upd H1 q o) := fun c u e nc => by
  have e1 := b c u e nc
  rw [upd_ne (ne_of_none e1 n)]
  exact e1
theorem bag_put {p q : Addr} {H : Hp} {o : HO} (b : Bag H p) (n : H q = none) : Bag (upd H q o) p := by
  obtain ⟨g, m, c, e, r⟩ := b
  exact ⟨g, m, c, by rw [upd_ne (ne_of_none e n)]; exact e, r⟩
theorem bag_same {p : Addr} {H H1 : Hp} (b : Bag H p) (s : Same H H1) : Bag H1 p := by
  obtain ⟨g, m, c, e, r⟩ := b
  exact ⟨g, m, c, s _ _ e, r⟩
theorem bag_ne {p q : Addr} {H : Hp} (b : Bag H p) (n : H q = none) : q ≠ p := by
  obtain ⟨g, m, c, e, r⟩ := b
  exact (ne_of_none e n).symm

end Ob

set_option Elab.async false
set_option linter.all false
set_option maxRecDepth 100000
set_option maxHeartbeats 1000000
namespace Ob
open PySem PySem.Spec PyProof.Rows L2
open LamX (Tabs TabB TabS ExtN)

/-! ### connected components -/
theorem app_ind {α : Type} {P : List α → Prop} (h0 : P []) (hs : ∀ l x, P l → P (l ++ [x])) (l : List α) : P l := by
  have : ∀ r : List α, P r.reverse := by
    intro r
    induction r with
    | nil => exact h0
    | cons x r ih =>
      rw [List.reverse_cons]
      exact hs _ _ ih
  have h := this l.reverse
  rwa [List.reverse_reverse] at h
theorem nd_le {α : Type} [DecidableEq α] : ∀ {a b : List α}, a.Nodup → (∀ x ∈ a, x ∈ b) → a.length ≤ b.length
  | [], _, _, _ => Nat.zero_le _
  | x :: a, b, h, s => by
    obtain ⟨h1, h2⟩ := List.nodup_cons.mp h
    have hx := s x (List.mem_cons_self ..)
    have i := nd_le (b := b.erase x) h2 fun y hy => (List.mem_erase_of_ne (fun e => h1 (by rw [← e]; exact hy))).mpr (s y (List.mem_cons_of_mem _ hy))
    rw [List.length_erase_of_mem hx] at i
    have := List.length_pos_of_mem hx
    rw [List.length_cons]
    omega
/-- connected by pairs -/
inductive Cn (ps : List (Nat × Nat)) (x : Nat) : Nat → Prop where
  | refl : Cn ps x x
  | fwd {a b : Nat} (h : Cn ps x a) (m : (a, b) ∈ ps) : Cn ps x b
  | bwd {a b : Nat} (h : Cn ps x b) (m : (a, b) ∈ ps) : Cn ps x a
theorem Cn.trans {ps : List (Nat × Nat)} {x y z : Nat} (h : Cn ps x y) (k : Cn ps y z) : Cn ps x z := by
  induction k with
  | refl => exact h
  | fwd _ m ih => exact .fwd ih m
  | bwd _ m ih => exact .bwd ih m
theorem Cn.symm {ps : List (Nat × Nat)} {x y : Nat} (h : Cn ps x y) : Cn ps y x := by
  induction h with
  | refl => exact .refl
  | fwd _ m ih => exact Cn.trans (.bwd .refl m) ih
  | bwd _ m ih => exact Cn.trans (.fwd .refl m) ih
theorem Cn.more {ps qs : List (Nat × Nat)} {x y : Nat} (s : ∀ p ∈ ps, p ∈ qs) (h : Cn ps x y) : Cn qs x y := by
  induction h with
  | refl => exact .refl
  | fwd _ m ih => exact .fwd ih (s _ m)
  | bwd _ m ih => exact .bwd ih (s _ m)
/-- the root of a point after the links (lower, upper) -/
def rootF (x : Nat) (L : List (Nat × Nat)) : Nat := L.foldl (fun r p => if r = p.1 then p.2 else r) x
theorem root_app (x : Nat) (L : List (Nat × Nat)) (p : Nat × Nat) : rootF x (L ++ [p]) = if rootF x L = p.1 then p.2 else rootF x L := by
  unfold rootF
  rw [List.foldl_append]
  rfl
/-- how many points stand below -/
def subF (L : List (Nat × Nat)) : Nat → Nat := L.foldl (fun s p => fun x => if x = p.2 then s p.2 + s p.1 else s x) (fun _ => 1)
theorem sub_app (L : List (Nat × Nat)) (p : Nat × Nat) (x : Nat) : subF (L ++ [p]) x = if x = p.2 then subF L p.2 + subF L p.1 else subF L x := by
  unfold subF
  rw [List.foldl_append]
  rfl
def depF (x : Nat) (L : List (Nat × Nat)) : Nat := (L.foldl (fun (q : Nat × Nat) p => if q.1 = p.1 then (p.2, q.2 + 1) else q) (x, 0)).2
theorem dep_fst (x : Nat) (L : List (Nat × Nat)) : (L.foldl (fun (q : Nat × Nat) p => if q.1 = p.1 then (p.2, q.2 + 1) else q) (x, 0)).1 = rootF x L := by
  refine app_ind (P := fun L => (L.foldl (fun (q : Nat × Nat) p => if q.1 = p.1 then (p.2, q.2 + 1) else q) (x, 0)).1 = rootF x L) rfl (fun l p ih => ?_) L
  rw [root_app, List.foldl_append, ← ih]
  show (if _ = p.1 then _ else _ : Nat × Nat).1 = _
  split
  · rfl
  · rfl
theorem dep_app (x : Nat) (L : List (Nat × Nat)) (p : Nat × Nat) : depF x (L ++ [p]) = if rootF x L = p.1 then depF x L + 1 else depF x L := by
  rw [← dep_fst]
  unfold depF
  rw [List.foldl_append]
  show (if _ = p.1 then _ else _ : Nat × Nat).2 = _
  split
  · rfl
  · rfl
/-- links of roots -/
inductive OkL (W : Nat) : List (Nat × Nat) → Prop where
  | nil : OkL W []
  | add {L : List (Nat × Nat)} {lo up : Nat} (h : OkL W L) (h1 : rootF lo L = lo) (h2 : rootF up L = up) (ne : lo ≠ up) (l1 : lo < W) (l2 : up < W) : OkL W (L ++ [(lo, up)])
theorem root_lt {W : Nat} {L : List (Nat × Nat)} (h : OkL W L) {x : Nat} (hx : x < W) : rootF x L < W := by
  induction h with
  | nil => exact hx
  | add _ _ _ _ _ l2 ih =>
    rw [root_app]
    split
    · exact l2
    · exact ih
theorem root_root {W : Nat} {L : List (Nat × Nat)} (h : OkL W L) (x : Nat) : rootF (rootF x L) L = rootF x L := by
  induction h with
  | nil => rfl
  | add h h1 h2 ne l1 l2 ih =>
    rename_i L lo up
    rw [root_app x]
    by_cases e : rootF x L = lo
    · rw [if_pos e, root_app, h2, if_neg fun z => ne z.symm]
    · rw [if_neg e, root_app, ih, if_neg e]
/-- the parent, as it is written down -/
def parL (L : List (Nat × Nat)) (x : Nat) : Option Nat := (L.find? fun p => p.1 == x).map (·.2)
theorem par_app (L : List (Nat × Nat)) (p : Nat × Nat) (x : Nat) : parL (L ++ [p]) x = match parL L x with
  | some u => some u
  | none => if p.1 = x then some p.2 else none := by
  unfold parL
  rw [List.find?_append]
  cases L.find? fun p => p.1 == x with
  | some q => rfl
  | none =>
    show ([p].find? fun p => p.1 == x).map (·.2) = if p.1 = x then some p.2 else none
    by_cases e : p.1 = x
    · rw [List.find?_cons_of_pos (p := fun q : Nat × Nat => q.1 == x) (beq_iff_eq.mpr e), if_pos e]
      rfl
    · rw [List.find?_cons_of_neg (p := fun q : Nat × Nat => q.1 == x) (by simpa using e), if_neg e]
      rfl
theorem par_none {W : Nat} {L : List (Nat × Nat)} (h : OkL W L) : ∀ x, parL L x = none ↔ rootF x L = x := by
  induction h with
  | nil => exact fun x => ⟨fun _ => rfl, fun _ => rfl⟩
  | add h h1 h2 ne l1 l2 ih =>
    rename_i L lo up
    intro x
    rw [par_app, root_app]
    cases hp : parL L x with
    | some u =>
      have hx : rootF x L ≠ x := fun z => by
        rw [(ih x).mpr z] at hp
        cases hp
      constructor
      · intro z
        cases z
      · intro z
        by_cases e : rootF x L = lo
        · rw [if_pos e] at z
          rw [← z, h2] at e
          exact absurd e.symm ne
        · rw [if_neg e] at z
          exact absurd z hx
    | none =>
      have hx := (ih x).mp hp
      show (if lo = x then some up else none) = none ↔ _
      by_cases e : lo = x
      · rw [if_pos e, hx, if_pos e.symm]
        constructor
        · intro z
          cases z
        · intro z
          exact absurd (e.trans z.symm) ne
      · rw [if_neg e, hx, if_neg fun z => e z.symm]
        exact ⟨fun _ => rfl, fun _ => rfl⟩
theorem par_some {W : Nat} {L : List (Nat × Nat)} (h : OkL W L) : ∀ {x u}, parL L x = some u → rootF x L = rootF u L ∧ depF x L = depF u L + 1 := by
  induction h with
  | nil => exact fun h => nomatch h
  | add h h1 h2 ne l1 l2 ih =>
    rename_i L lo up
    intro x u hp
    rw [par_app] at hp
    rw [root_app, root_app, dep_app, dep_app]
    cases hq : parL L x with
    | some v =>
      rw [hq] at hp
      cases hp
      obtain ⟨a, b⟩ := ih hq
      rw [a, b]
      refine ⟨rfl, ?_⟩
      split <;> rfl
    | none =>
      rw [hq] at hp
      replace hp : (if lo = x then some up else none) = some u := hp
      by_cases e : lo = x
      · rw [if_pos e] at hp
        cases hp
        subst e
        have hl := (par_none h lo).mp hq
        have d0 : ∀ {x}, rootF x L = x → depF x L = 0 → True := fun _ _ => trivial
        rw [h1, if_pos rfl, h2, if_neg (fun z => ne z.symm), if_pos rfl, if_neg (fun z => ne z.symm)]
        refine ⟨rfl, ?_⟩
        have dz : ∀ {L : List (Nat × Nat)}, OkL W L → ∀ {x}, rootF x L = x → depF x L = 0 := by
          intro L h
          induction h with
          | nil => exact fun _ => rfl
          | add h h1 h2 ne l1 l2 ih =>
            rename_i L lo up
            intro x hx
            rw [root_app] at hx
            rw [dep_app]
            by_cases e : rootF x L = lo
            · rw [if_pos e] at hx
              rw [← hx, h2] at e
              exact absurd e.symm ne
            · rw [if_neg e] at hx ⊢
              exact ih hx
        rw [dz h h1, dz h h2]
      · rw [if_neg e] at hp
        cases hp
/-- how many points have this root -/
def cntF (W : Nat) (L : List (Nat × Nat)) (r : Nat) : Nat := ((List.range W).filter fun y => rootF y L == r).length
theorem fil_or {α : Type} (p q : α → Bool) : ∀ (l : List α), (∀ x ∈ l, p x = true → q x = false) → (l.filter fun x => p x || q x).length = (l.filter p).length + (l.filter q).length
  | [], _ => rfl
  | x :: l, h => by
    have i := fil_or p q l fun y m => h y (List.mem_cons_of_mem _ m)
    have hx := h x (List.mem_cons_self ..)
    cases hp : p x with
    | true =>
      rw [List.filter_cons_of_pos (by simp [hp]), List.filter_cons_of_pos hp, List.filter_cons_of_neg (by simp [hx hp]), List.length_cons, List.length_cons, i]
      omega
    | false =>
      cases hq : q x with
      | true =>
        rw [List.filter_cons_of_pos (by simp [hp, hq]), List.filter_cons_of_neg (by simp [hp]), List.filter_cons_of_pos hq, List.length_cons, List.length_cons, i]
        omega
      | false => rw [List.filter_cons_of_neg (by simp [hp, hq]), List.filter_cons_of_neg (by simp [hp]), List.filter_cons_of_neg (by simp [hq]), i]
theorem fil_eq {α : Type} {p q : α → Bool} {l : List α} (h : ∀ x ∈ l, p x = q x) : l.filter p = l.filter q := List.filter_congr h
theorem sub_cnt {W : Nat} {L : List (Nat × Nat)} (h : OkL W L) : ∀ {r}, r < W → rootF r L = r → subF L r = cntF W L r := by
  induction h with
  | nil =>
    intro r hr _
    show 1 = ((List.range W).filter fun y => y == r).length
    have key : ∀ (n : Nat), r < n → ((List.range n).filter fun y => y == r).length = 1 := by
      intro n
      induction n with
      | zero => exact fun z => absurd z (Nat.not_lt_zero _)
      | succ n ih =>
        intro z
        rw [List.range_succ, List.filter_append, List.length_append]
        by_cases e : r < n
        · rw [ih e, List.filter_cons_of_neg (by simp; omega)]
          rfl
        · have : n = r := by omega
          subst this
          rw [List.filter_cons_of_pos (by simp)]
          have : (List.range n).filter (fun y => y == n) = [] := List.filter_eq_nil_iff.mpr fun y hy => by
            have := List.mem_range.mp hy
            simp
            omega
          rw [this]
          rfl
    exact (key W hr).symm
  | add h h1 h2 ne l1 l2 ih =>
    rename_i L lo up
    intro r hr hroot
    rw [sub_app]
    have hne : r ≠ lo := fun z => by
      rw [root_app, z, h1, if_pos rfl] at hroot
      exact ne hroot.symm
    have hrL : rootF r L = r := by
      rw [root_app] at hroot
      by_cases e : rootF r L = lo
      · rw [if_pos e] at hroot
        rw [← hroot, h2] at e
        exact absurd e.symm ne
      · rwa [if_neg e] at hroot
    by_cases e : r = up
    · subst e
      rw [if_pos rfl, ih l2 h2, ih l1 h1]
      show _ = ((List.range W).filter fun y => rootF y (L ++ [(lo, r)]) == r).length
      rw [show ((List.range W).filter fun y => rootF y (L ++ [(lo, r)]) == r) = (List.range W).filter fun y => (rootF y L == r) || (rootF y L == lo) from fil_eq fun y _ => by
        rw [root_app]
        by_cases z : rootF y L = lo
        · rw [if_pos z, z]
          simp
        · rw [if_neg z]
          simp [z]]
      exact (fil_or _ _ _ fun y _ z => by
        have := beq_iff_eq.mp z
        rw [this]
        simpa using fun w => ne w.symm).symm
    · rw [if_neg e, ih hr hrL]
      unfold cntF
      rw [fil_eq (q := fun y => rootF y (L ++ [(lo, up)]) == r) fun y _ => by
        rw [root_app]
        by_cases z : rootF y L = lo
        · rw [if_pos z, z]
          have a : (lo == r) = false := by simpa using fun w => hne w.symm
          have b : (up == r) = false := by simpa using fun w => e w.symm
          rw [a]
          exact b.symm
        · rw [if_neg z]]
/-- how many roots there are -/
theorem roots_len {W : Nat} {L : List (Nat × Nat)} (h : OkL W L) : ((List.range W).filter fun y => rootF y L == y).length + L.length = W := by
  induction h with
  | nil =>
    have e : ((List.range W).filter fun y => rootF y [] == y) = List.range W := List.filter_eq_self.mpr fun y _ => beq_iff_eq.mpr rfl
    rw [e, List.length_range]
    rfl
  | add h h1 h2 ne l1 l2 ih =>
    rename_i L lo up
    have e : ((List.range W).filter fun y => rootF y L == y) = (List.range W).filter fun y => (rootF y (L ++ [(lo, up)]) == y) || (y == lo) := fil_eq fun y _ => by
      rw [root_app]
      by_cases z : y = lo
      · subst z
        rw [h1]
        simp
      · by_cases w : rootF y L = lo
        · rw [if_pos w, w]
          have a : (lo == y) = false := by simpa using fun q => z q.symm
          have b : (up == y) = false := by
            simp
            intro q
            rw [← q, h2] at w
            exact ne w.symm
          have c : (y == lo) = false := by simpa using z
          rw [a, b, c]
          rfl
        · rw [if_neg w]
          have c : (y == lo) = false := by simpa using z
          rw [c, Bool.or_false]
    have e2 := fil_or (fun y => rootF y (L ++ [(lo, up)]) == y) (fun y => y == lo) (List.range W) fun y _ z => by
      have := beq_iff_eq.mp z
      simp
      intro w
      rw [w, root_app, h1, if_pos rfl] at this
      exact ne this.symm
    have e3 : ((List.range W).filter fun y => y == lo).length = 1 := by
      have := sub_cnt (OkL.nil (W := W)) l1 rfl
      exact this.symm
    rw [e, e2, e3] at ih
    rw [List.length_append]
    show _ + (L.length + 1) = W
    omega
/-! the links of pushed pairs -/
def linkOf (L : List (Nat × Nat)) (p : Nat × Nat) : Option (Nat × Nat) :=
  if rootF p.1 L = rootF p.2 L then none else if subF L (rootF p.1 L) < subF L (rootF p.2 L) then some (rootF p.1 L, rootF p.2 L) else some (rootF p.2 L, rootF p.1 L)
def stepL (L : List (Nat × Nat)) (p : Nat × Nat) : List (Nat × Nat) := match linkOf L p with
  | none => L
  | some q => L ++ [q]
def linksOf (ps : List (Nat × Nat)) : List (Nat × Nat) := ps.foldl stepL []
theorem links_app (ps : List (Nat × Nat)) (p : Nat × Nat) : linksOf (ps ++ [p]) = stepL (linksOf ps) p := by
  unfold linksOf
  rw [List.foldl_append]
  rfl
def movesF : List (Nat × Nat) → List (Nat × Nat) → List (Option Nat)
  | _, [] => []
  | L, p :: ps => (linkOf L p).map (·.1) :: movesF (stepL L p) ps
def movesOf (ps : List (Nat × Nat)) : List (Option Nat) := movesF [] ps
theorem moves_app (ps : List (Nat × Nat)) (p : Nat × Nat) : movesOf (ps ++ [p]) = movesOf ps ++ [(linkOf (linksOf ps) p).map (·.1)] := by
  have key : ∀ (ps L : List (Nat × Nat)), movesF L (ps ++ [p]) = movesF L ps ++ [(linkOf (ps.foldl stepL L) p).map (·.1)] := by
    intro ps
    induction ps with
    | nil => exact fun _ => rfl
    | cons q ps ih => exact fun L => congrArg _ (ih (stepL L q))
  exact key ps []
theorem moves_len (ps : List (Nat × Nat)) : (movesOf ps).length = ps.length := by
  refine app_ind (P := fun ps => (movesOf ps).length = ps.length) rfl (fun l x ih => ?_) ps
  rw [moves_app, List.length_append, List.length_append, ih]
  rfl
theorem links_len (ps : List (Nat × Nat)) : (linksOf ps).length ≤ ps.length := by
  refine app_ind (P := fun ps => (linksOf ps).length ≤ ps.length) (Nat.le_refl _) (fun l x ih => ?_) ps
  rw [links_app, List.length_append]
  unfold stepL
  cases linkOf (linksOf l) x with
  | none => exact Nat.le_succ_of_le ih
  | some q =>
    show (linksOf l ++ [q]).length ≤ _
    rw [List.length_append]
    exact Nat.succ_le_succ ih
def InW (W : Nat) (ps : List (Nat × Nat)) : Prop := ∀ p ∈ ps, p.1 < W ∧ p.2 < W
theorem InW.init {W : Nat} {ps : List (Nat × Nat)} {p : Nat × Nat} (h : InW W (ps ++ [p])) : InW W ps ∧ p.1 < W ∧ p.2 < W := ⟨fun q m => h q (List.mem_append.mpr (.inl m)), h p (List.mem_append.mpr (.inr (List.mem_singleton.mpr rfl)))⟩
theorem InW.add {W : Nat} {ps : List (Nat × Nat)} {p : Nat × Nat} (h : InW W ps) (h1 : p.1 < W) (h2 : p.2 < W) : InW W (ps ++ [p]) := fun q m => (List.mem_append.mp m).elim (h q) fun m => by rw [List.mem_singleton.mp m]; exact ⟨h1, h2⟩
theorem link_ok {W : Nat} {L : List (Nat × Nat)} (h : OkL W L) {p : Nat × Nat} (h1 : p.1 < W) (h2 : p.2 < W) {q : Nat × Nat} (e : linkOf L p = some q) : rootF q.1 L = q.1 ∧ rootF q.2 L = q.2 ∧ q.1 ≠ q.2 ∧ q.1 < W ∧ q.2 < W ∧ ((q.1 = rootF p.1 L ∧ q.2 = rootF p.2 L) ∨ (q.1 = rootF p.2 L ∧ q.2 = rootF p.1 L)) := by
  unfold linkOf at e
  by_cases c : rootF p.1 L = rootF p.2 L
  · rw [if_pos c] at e
    cases e
  · rw [if_neg c] at e
    split at e
    · cases e
      exact ⟨root_root h _, root_root h _, c, root_lt h h1, root_lt h h2, .inl ⟨rfl, rfl⟩⟩
    · cases e
      exact ⟨root_root h _, root_root h _, fun z => c z.symm, root_lt h h2, root_lt h h1, .inr ⟨rfl, rfl⟩⟩
theorem ok_links {W : Nat} (ps : List (Nat × Nat)) : InW W ps → OkL W (linksOf ps) := by
  refine app_ind (P := fun ps => InW W ps → OkL W (linksOf ps)) (fun _ => .nil) (fun l p ih h => ?_) ps
  obtain ⟨hl, h1, h2⟩ := h.init
  rw [links_app]
  unfold stepL
  cases e : linkOf (linksOf l) p with
  | none => exact ih hl
  | some q =>
    obtain ⟨a, b, c, d, f, _⟩ := link_ok (ih hl) h1 h2 e
    exact .add (ih hl) a b c d f
theorem link_none {L : List (Nat × Nat)} {p : Nat × Nat} : linkOf L p = none ↔ rootF p.1 L = rootF p.2 L := by
  unfold linkOf
  by_cases c : rootF p.1 L = rootF p.2 L
  · rw [if_pos c]
    exact ⟨fun _ => c, fun _ => rfl⟩
  · rw [if_neg c]
    constructor
    · intro z
      split at z <;> cases z
    · intro z
      exact absurd z c
theorem root_cn {W : Nat} (ps : List (Nat × Nat)) : InW W ps → ∀ x, Cn ps x (rootF x (linksOf ps)) := by
  refine app_ind (P := fun ps => InW W ps → ∀ x, Cn ps x (rootF x (linksOf ps))) (fun _ x => .refl) (fun l p ih h x => ?_) ps
  obtain ⟨hl, h1, h2⟩ := h.init
  have i : ∀ x, Cn (l ++ [p]) x (rootF x (linksOf l)) := fun x => (ih hl x).more fun q m => List.mem_append.mpr (.inl m)
  have hp : (p.1, p.2) ∈ l ++ [p] := List.mem_append.mpr (.inr (List.mem_singleton.mpr rfl))
  have hok := ok_links l hl
  rw [links_app]
  unfold stepL
  cases e : linkOf (linksOf l) p with
  | none => exact i x
  | some q =>
    obtain ⟨_, _, _, _, _, f⟩ := link_ok hok h1 h2 e
    show Cn (l ++ [p]) x (rootF x (linksOf l ++ [q]))
    rw [root_app]
    by_cases z : rootF x (linksOf l) = q.1
    · rw [if_pos z]
      have hx := i x
      rw [z] at hx
      rcases f with ⟨f1, f2⟩ | ⟨f1, f2⟩
      · rw [f2]
        rw [f1] at hx
        exact ((hx.trans (i p.1).symm).fwd hp).trans (i p.2)
      · rw [f2]
        rw [f1] at hx
        exact ((hx.trans (i p.2).symm).bwd hp).trans (i p.1)
    · rw [if_neg z]
      exact i x
theorem root_more {L : List (Nat × Nat)} {p : Nat × Nat} {x y : Nat} (h : rootF x L = rootF y L) : rootF x (stepL L p) = rootF y (stepL L p) := by
  unfold stepL
  cases linkOf L p with
  | none => exact h
  | some q =>
    show rootF x (L ++ [q]) = rootF y (L ++ [q])
    rw [root_app, root_app, h]
theorem root_edge {W : Nat} (ps : List (Nat × Nat)) : InW W ps → ∀ p ∈ ps, rootF p.1 (linksOf ps) = rootF p.2 (linksOf ps) := by
  refine app_ind (P := fun ps => InW W ps → ∀ p ∈ ps, rootF p.1 (linksOf ps) = rootF p.2 (linksOf ps)) (fun _ _ m => nomatch m) (fun l p ih h q m => ?_) ps
  obtain ⟨hl, h1, h2⟩ := h.init
  rw [links_app]
  rcases List.mem_append.mp m with m | m
  · exact root_more (ih hl q m)
  · rw [List.mem_singleton.mp m]
    have hok := ok_links l hl
    unfold stepL
    cases e : linkOf (linksOf l) p with
    | none => exact link_none.mp e
    | some r =>
      obtain ⟨a, b, c, _, _, f⟩ := link_ok hok h1 h2 e
      show rootF p.1 (linksOf l ++ [r]) = rootF p.2 (linksOf l ++ [r])
      rw [root_app, root_app]
      rcases f with ⟨f1, f2⟩ | ⟨f1, f2⟩
      · rw [← f1, ← f2, if_pos rfl, if_neg fun z => c z.symm]
      · rw [← f1, ← f2, if_pos rfl, if_neg fun z => c z.symm]
theorem root_iff {W : Nat} {ps : List (Nat × Nat)} (h : InW W ps) {x y : Nat} : rootF x (linksOf ps) = rootF y (linksOf ps) ↔ Cn ps x y := by
  constructor
  · intro e
    have := root_cn ps h x
    rw [e] at this
    exact this.trans (root_cn ps h y).symm
  · intro c
    induction c with
    | refl => rfl
    | fwd _ m ih => exact ih.trans (root_edge ps h _ m)
    | bwd _ m ih => exact ih.trans (root_edge ps h _ m).symm
theorem range_nd (n : Nat) : (List.range n).Nodup := List.nodup_range
theorem fil_nd {l : List Nat} {p : Nat → Bool} (h : l.Nodup) : (l.filter p).Nodup := h.filter p
theorem cn_lt {W : Nat} {ps : List (Nat × Nat)} (h : InW W ps) {x y : Nat} (hx : x < W) (c : Cn ps x y) : y < W := by
  induction c with
  | refl => exact hx
  | fwd _ m _ => exact (h _ m).2
  | bwd _ m _ => exact (h _ m).1
/-- a list of just the points that are connected with x -/
theorem size_of {W : Nat} {ps : List (Nat × Nat)} (h : InW W ps) {x : Nat} (hx : x < W) {F : List Nat} (nd : F.Nodup) (m : ∀ y, y ∈ F ↔ Cn ps x y) : subF (linksOf ps) (rootF x (linksOf ps)) = F.length := by
  have hok := ok_links ps h
  rw [sub_cnt hok (root_lt hok hx) (root_root hok x)]
  refine Nat.le_antisymm (nd_le (fil_nd (range_nd W)) fun y hy => ?_) (nd_le nd fun y hy => ?_)
  · obtain ⟨_, e⟩ := List.mem_filter.mp hy
    exact (m y).mpr ((root_iff h).mp (beq_iff_eq.mp e).symm)
  · have c := (m y).mp hy
    exact List.mem_filter.mpr ⟨List.mem_range.mpr (cn_lt h hx c), beq_iff_eq.mpr ((root_iff h).mpr c).symm⟩
/-- the least ones of the components are as many as the roots -/
theorem groups_of {W : Nat} {ps : List (Nat × Nat)} (h : InW W ps) {M : List Nat} (nd : M.Nodup) (m : ∀ y, y ∈ M ↔ y < W ∧ ∀ z, Cn ps y z → y ≤ z) : M.length + (linksOf ps).length = W := by
  have hok := ok_links ps h
  rw [← roots_len hok]
  congr 1
  have inj : ∀ {l : List Nat} {f : Nat → Nat}, (∀ a ∈ l, ∀ b ∈ l, f a = f b → a = b) → l.Nodup → (l.map f).Nodup := by
    intro l
    induction l with
    | nil => exact fun _ _ => List.nodup_nil
    | cons x l ih =>
      intro f hf h
      obtain ⟨h1, h2⟩ := List.nodup_cons.mp h
      refine List.nodup_cons.mpr ⟨fun q => ?_, ih (fun a ha b hb => hf a (List.mem_cons_of_mem _ ha) b (List.mem_cons_of_mem _ hb)) h2⟩
      obtain ⟨y, hy, e⟩ := List.mem_map.mp q
      rw [hf y (List.mem_cons_of_mem _ hy) x (List.mem_cons_self ..) e] at hy
      exact h1 hy
  refine Nat.le_antisymm ?_ ?_
  · have := nd_le (a := M.map fun y => rootF y (linksOf ps)) (b := (List.range W).filter fun y => rootF y (linksOf ps) == y) (inj (fun a ha b hb e => ?_) nd) (fun y hy => ?_)
    · rwa [List.length_map] at this
    · have c := (root_iff h).mp e
      have := ((m a).mp ha).2 b c
      have := ((m b).mp hb).2 a c.symm
      omega
    · obtain ⟨z, hz, rfl⟩ := List.mem_map.mp hy
      exact List.mem_filter.mpr ⟨List.mem_range.mpr (root_lt hok ((m z).mp hz).1), beq_iff_eq.mpr (root_root hok z)⟩
  · -- the least one of a component
    have least : ∀ r, r < W → ∃ y, y < W ∧ rootF y (linksOf ps) = rootF r (linksOf ps) ∧ ∀ z, rootF z (linksOf ps) = rootF r (linksOf ps) → y ≤ z := by
      intro r
      induction r using Nat.strongRecOn with
      | _ r ih =>
        intro hr
        by_cases c : ∃ z, z < r ∧ rootF z (linksOf ps) = rootF r (linksOf ps)
        · obtain ⟨z, hz, e⟩ := c
          obtain ⟨y, y1, y2, y3⟩ := ih z hz (by omega)
          exact ⟨y, y1, y2.trans e, fun w hw => y3 w (hw.trans e.symm)⟩
        · refine ⟨r, hr, rfl, fun z hz => ?_⟩
          refine Nat.le_of_not_lt fun lt => c ⟨z, lt, hz⟩
    have pick : ∀ r, ∃ y, r < W → y < W ∧ rootF y (linksOf ps) = rootF r (linksOf ps) ∧ ∀ z, rootF z (linksOf ps) = rootF r (linksOf ps) → y ≤ z := fun r => by
      by_cases hr : r < W
      · obtain ⟨y, hy⟩ := least r hr
        exact ⟨y, fun _ => hy⟩
      · exact ⟨0, fun z => absurd z hr⟩
    have := nd_le (a := ((List.range W).filter fun y => rootF y (linksOf ps) == y).map fun r => Classical.choose (pick r)) (b := M) (inj (fun a ha b hb e => ?_) (fil_nd (range_nd W))) (fun y hy => ?_)
    · rwa [List.length_map] at this
    · obtain ⟨a1, a2⟩ := List.mem_filter.mp ha
      obtain ⟨b1, b2⟩ := List.mem_filter.mp hb
      have sa := Classical.choose_spec (pick a) (List.mem_range.mp a1)
      have sb := Classical.choose_spec (pick b) (List.mem_range.mp b1)
      have e : Classical.choose (pick a) = Classical.choose (pick b) := e
      rw [e] at sa
      have := sa.2.1.symm.trans sb.2.1
      rw [beq_iff_eq.mp a2, beq_iff_eq.mp b2] at this
      exact this
    · obtain ⟨r, hr, rfl⟩ := List.mem_map.mp hy
      obtain ⟨a1, a2⟩ := List.mem_filter.mp hr
      have sa := Classical.choose_spec (pick r) (List.mem_range.mp a1)
      exact (m _).mpr ⟨sa.1, fun z c => sa.2.2 z (((root_iff h).mpr c).symm.trans sa.2.1)⟩

end Ob

set_option Elab.async false
set_option linter.all false
set_option maxRecDepth 100000
set_option maxHeartbeats 1000000
namespace Ob
open PySem PySem.Spec PyProof.Rows L2
open LamX (Tabs TabB TabS ExtN)

namespace Sn
/-! ### sums without carry -/
/-- n is the sum of some of l -/
def Spn : List Nat → Nat → Prop
  | [], n => n = 0
  | x :: l, n => Spn l n ∨ Spn l (n ^^^ x)
theorem x3 (a b c : Nat) : a ^^^ b ^^^ c = a ^^^ c ^^^ b := by rw [Nat.xor_assoc, Nat.xor_comm b c, ← Nat.xor_assoc]
theorem xx (a b : Nat) : a ^^^ b ^^^ b = a := by rw [Nat.xor_assoc, Nat.xor_self, Nat.xor_zero]
theorem spn_zero : ∀ l, Spn l 0
  | [] => rfl
  | _ :: l => .inl (spn_zero l)
theorem spn_app (x : Nat) : ∀ (l : List Nat) (n : Nat), Spn (l ++ [x]) n ↔ Spn l n ∨ Spn l (n ^^^ x)
  | [], n => by
    show (n = 0 ∨ n ^^^ x = 0) ↔ (n = 0 ∨ n ^^^ x = 0)
    exact Iff.rfl
  | y :: l, n => by
    show (Spn (l ++ [x]) n ∨ Spn (l ++ [x]) (n ^^^ y)) ↔ ((Spn l n ∨ Spn l (n ^^^ y)) ∨ (Spn l (n ^^^ x) ∨ Spn l (n ^^^ x ^^^ y)))
    rw [spn_app x l n, spn_app x l (n ^^^ y), x3 n y x]
    constructor
    · rintro ((h | h) | (h | h))
      · exact .inl (.inl h)
      · exact .inr (.inl h)
      · exact .inl (.inr h)
      · exact .inr (.inr h)
    · rintro ((h | h) | (h | h))
      · exact .inl (.inl h)
      · exact .inr (.inl h)
      · exact .inl (.inr h)
      · exact .inr (.inr h)
theorem spn_xor : ∀ (l : List Nat) {a b : Nat}, Spn l a → Spn l b → Spn l (a ^^^ b)
  | [], a, b, ha, hb => by
    have ha : a = 0 := ha
    have hb : b = 0 := hb
    rw [ha, hb]
    rfl
  | x :: l, a, b, ha, hb => by
    rcases ha with ha | ha
    · rcases hb with hb | hb
      · exact .inl (spn_xor l ha hb)
      · refine .inr ?_
        rw [Nat.xor_assoc]
        exact spn_xor l ha hb
    · rcases hb with hb | hb
      · refine .inr ?_
        rw [x3]
        exact spn_xor l ha hb
      · refine .inl ?_
        have h := spn_xor l ha hb
        rwa [show a ^^^ x ^^^ (b ^^^ x) = a ^^^ b by rw [x3 a x, ← Nat.xor_assoc, xx]] at h
theorem spn_mem : ∀ {l : List Nat} {x : Nat}, x ∈ l → Spn l x
  | y :: l, x, h => by
    rcases List.mem_cons.mp h with rfl | h
    · refine .inr ?_
      rw [Nat.xor_self]
      exact spn_zero l
    · exact .inl (spn_mem h)
/-! the greatest bit -/
theorem lg_at {n : Nat} (h : n ≠ 0) : n.testBit n.log2 = true := by
  obtain ⟨a, b⟩ := (Nat.log2_eq_iff h).mp rfl
  rw [Nat.testBit_eq_decide_div_mod_eq]
  refine decide_eq_true ?_
  have h1 : n / 2 ^ n.log2 = 1 := by
    refine Nat.div_eq_of_lt_le (by omega) ?_
    rw [Nat.pow_succ] at b
    omega
  rw [h1]
theorem lg_lt (n : Nat) : n < 2 ^ (n.log2 + 1) := Nat.lt_log2_self
theorem xor_low {a b : Nat} (ha : a ≠ 0) (hb : b ≠ 0) (h : a.log2 = b.log2) : a ^^^ b < 2 ^ a.log2 := by
  refine Nat.lt_pow_two_of_testBit _ fun i hi => ?_
  rw [Nat.testBit_xor]
  by_cases e : i = a.log2
  · rw [e, lg_at ha, h, lg_at hb]
    rfl
  · have h1 : a.testBit i = false := Nat.testBit_lt_two_pow (Nat.lt_of_lt_of_le (lg_lt a) (Nat.pow_le_pow_right (by decide) (by omega)))
    have h2 : b.testBit i = false := Nat.testBit_lt_two_pow (Nat.lt_of_lt_of_le (lg_lt b) (Nat.pow_le_pow_right (by decide) (by omega)))
    rw [h1, h2]
    rfl
theorem xor_high {a b : Nat} (hb : b ≠ 0) (h : a < 2 ^ b.log2) : (a ^^^ b).log2 = b.log2 ∧ a ^^^ b ≠ 0 := by
  have h1 : (a ^^^ b).testBit b.log2 = true := by
    rw [Nat.testBit_xor, lg_at hb, Nat.testBit_lt_two_pow h]
    rfl
  have h2 : 2 ^ b.log2 ≤ a ^^^ b := Nat.ge_two_pow_of_testBit h1
  have h3 : a ^^^ b < 2 ^ (b.log2 + 1) := Nat.xor_lt_two_pow (Nat.lt_of_lt_of_le h (Nat.pow_le_pow_right (by decide) (by omega))) (lg_lt b)
  have h0 : a ^^^ b ≠ 0 := fun z => by
    rw [z] at h2
    have := Nat.two_pow_pos b.log2
    omega
  exact ⟨(Nat.log2_eq_iff h0).mpr ⟨h2, h3⟩, h0⟩
/-- different greatest bits, no zero -/
def Ech (B : List Nat) : Prop := (∀ b ∈ B, b ≠ 0) ∧ (B.map Nat.log2).Nodup
theorem ech_nil : Ech [] := ⟨fun _ h => (nomatch h), List.nodup_nil⟩
theorem Ech.tl {b : Nat} {B : List Nat} (h : Ech (b :: B)) : Ech B := ⟨fun x m => h.1 x (List.mem_cons_of_mem _ m), (List.nodup_cons.mp h.2).2⟩
theorem ech_lg : ∀ {B : List Nat}, Ech B → ∀ {n : Nat}, Spn B n → n ≠ 0 → n.log2 ∈ B.map Nat.log2
  | [], _, n, h, h0 => absurd h h0
  | b :: B, E, n, h, h0 => by
    rcases h with h | h
    · exact List.mem_cons_of_mem _ (ech_lg E.tl h h0)
    · have hb : b ≠ 0 := E.1 b (List.mem_cons_self ..)
      by_cases z : n ^^^ b = 0
      · have : n = b := by
          have := congrArg (· ^^^ b) z
          simpa [xx] using this
        rw [this]
        exact List.mem_cons_self ..
      · have i := ech_lg E.tl h z
        have hn : n = n ^^^ b ^^^ b := (xx n b).symm
        have ne : (n ^^^ b).log2 ≠ b.log2 := fun e => by
          rw [e] at i
          exact (List.nodup_cons.mp E.2).1 i
        by_cases lt : (n ^^^ b).log2 < b.log2
        · have h1 : n ^^^ b < 2 ^ b.log2 := Nat.lt_of_lt_of_le (lg_lt _) (Nat.pow_le_pow_right (by decide) (by omega))
          have := (xor_high hb h1).1
          rw [← hn] at this
          rw [this]
          exact List.mem_cons_self ..
        · have h1 : b < 2 ^ (n ^^^ b).log2 := Nat.lt_of_lt_of_le (lg_lt _) (Nat.pow_le_pow_right (by decide) (by omega))
          have := (xor_high z h1).1
          rw [Nat.xor_comm, ← hn] at this
          rw [this]
          exact List.mem_cons_of_mem _ i
/-- what is left of x when the basis is taken out -/
def redF (B : List Nat) : Nat → Nat → Nat
  | 0, x => x
  | k + 1, x => if x = 0 then 0 else match B.find? (fun b => b.log2 == x.log2) with
    | none => x
    | some b => redF B k (x ^^^ b)
theorem redF_zero (B : List Nat) : ∀ k, redF B k 0 = 0
  | 0 => rfl
  | _ + 1 => rfl
theorem redF_spec (B : List Nat) (E : ∀ b ∈ B, b ≠ 0) : ∀ (k x : Nat), x < 2 ^ k → Spn B (redF B k x ^^^ x) ∧ (redF B k x = 0 ∨ (redF B k x).log2 ∉ B.map Nat.log2)
  | 0, x, h => by
    have : x = 0 := by
      have : (2 : Nat) ^ 0 = 1 := rfl
      omega
    subst this
    exact ⟨by rw [show redF B 0 0 = 0 from rfl, Nat.xor_self]; exact spn_zero B, .inl rfl⟩
  | k + 1, x, h => by
    unfold redF
    by_cases h0 : x = 0
    · rw [if_pos h0]
      subst h0
      exact ⟨spn_zero B, .inl rfl⟩
    · rw [if_neg h0]
      cases hf : B.find? (fun b => b.log2 == x.log2) with
      | none =>
        refine ⟨by rw [Nat.xor_self]; exact spn_zero B, .inr fun m => ?_⟩
        obtain ⟨b, hb, e⟩ := List.mem_map.mp m
        have := List.find?_eq_none.mp hf b hb
        exact this (beq_iff_eq.mpr e)
      | some b =>
        have hb := List.mem_of_find?_eq_some hf
        have he : b.log2 = x.log2 := beq_iff_eq.mp (List.find?_some (p := fun b : Nat => b.log2 == x.log2) hf)
        have lt := xor_low h0 (E b hb) he.symm
        have lx : x.log2 ≤ k := by
          have := (Nat.log2_lt h0).mpr h
          omega
        obtain ⟨i1, i2⟩ := redF_spec B E k (x ^^^ b) (Nat.lt_of_lt_of_le lt (Nat.pow_le_pow_right (by decide) lx))
        refine ⟨?_, i2⟩
        have := spn_xor B i1 (spn_mem hb)
        rwa [← Nat.xor_assoc, xx] at this
def red (B : List Nat) (x : Nat) : Nat := redF B (x.log2 + 1) x
theorem redF_more (B : List Nat) (E : ∀ b ∈ B, b ≠ 0) : ∀ (k j x : Nat), x < 2 ^ k → x < 2 ^ j → redF B k x = redF B j x
  | 0, j, x, h, _ => by
    have : x = 0 := by
      have : (2 : Nat) ^ 0 = 1 := rfl
      omega
    rw [this, redF_zero, redF_zero]
  | k + 1, 0, x, _, h => by
    have : x = 0 := by
      have : (2 : Nat) ^ 0 = 1 := rfl
      omega
    rw [this, redF_zero, redF_zero]
  | k + 1, j + 1, x, h1, h2 => by
    unfold redF
    by_cases h0 : x = 0
    · rw [if_pos h0, if_pos h0]
    · rw [if_neg h0, if_neg h0]
      cases hf : B.find? (fun b => b.log2 == x.log2) with
      | none => rfl
      | some b =>
        have hb := List.mem_of_find?_eq_some hf
        have he : b.log2 = x.log2 := beq_iff_eq.mp (List.find?_some (p := fun b : Nat => b.log2 == x.log2) hf)
        have lt := xor_low h0 (E b hb) he.symm
        have l1 := (Nat.log2_lt h0).mpr h1
        have l2 := (Nat.log2_lt h0).mpr h2
        exact redF_more B E k j _ (Nat.lt_of_lt_of_le lt (Nat.pow_le_pow_right (by decide) (by omega))) (Nat.lt_of_lt_of_le lt (Nat.pow_le_pow_right (by decide) (by omega)))
theorem red_zero (B : List Nat) : red B 0 = 0 := redF_zero B _
theorem red_none {B : List Nat} {x : Nat} (h : B.find? (fun b => b.log2 == x.log2) = none) : red B x = x := by
  unfold red redF
  by_cases h0 : x = 0
  · rw [if_pos h0, h0]
  · rw [if_neg h0, h]
theorem red_some {B : List Nat} (E : ∀ b ∈ B, b ≠ 0) {x b : Nat} (h0 : x ≠ 0) (h : B.find? (fun b => b.log2 == x.log2) = some b) : red B x = red B (x ^^^ b) ∧ x ^^^ b < x := by
  have hb := List.mem_of_find?_eq_some h
  have he : b.log2 = x.log2 := beq_iff_eq.mp (List.find?_some (p := fun b : Nat => b.log2 == x.log2) h)
  have lt := xor_low h0 (E b hb) he.symm
  have e1 : red B x = redF B x.log2 (x ^^^ b) := by
    unfold red
    rw [redF, if_neg h0, h]
  rw [e1]
  refine ⟨redF_more B E _ _ _ lt (lg_lt _), Nat.lt_of_lt_of_le lt (Nat.log2_self_le h0)⟩
theorem red_spn {B : List Nat} (E : ∀ b ∈ B, b ≠ 0) (x : Nat) : Spn B (red B x ^^^ x) := (redF_spec B E _ x (lg_lt x)).1
theorem red_iff {B : List Nat} (E : Ech B) (x : Nat) : red B x = 0 ↔ Spn B x := by
  obtain ⟨a, b⟩ := redF_spec B E.1 _ x (lg_lt x)
  constructor
  · intro h
    have a : Spn B (red B x ^^^ x) := a
    rw [h, Nat.zero_xor] at a
    exact a
  · intro h
    rcases b with b | b
    · exact b
    · refine Decidable.byContradiction fun z => b (ech_lg E ?_ z)
      have := spn_xor B a h
      rwa [xx] at this
/-! the basis of what was pushed -/
def stepB (B : List Nat) (x : Nat) : List Nat := if red B x = 0 then B else B ++ [red B x]
def basisOf (l : List Nat) : List Nat := l.foldl stepB []
def bitsN (n : Nat) : Nat := if n = 0 then 0 else n.log2 + 1
def lensF : List Nat → List Nat → List Nat
  | _, [] => []
  | B, x :: l => bitsN (red B x) :: lensF (stepB B x) l
def lensOf (l : List Nat) : List Nat := lensF [] l
theorem basis_app (l : List Nat) (x : Nat) : basisOf (l ++ [x]) = stepB (basisOf l) x := by
  unfold basisOf
  rw [List.foldl_append]
  rfl
theorem lensF_app (x : Nat) : ∀ (l B : List Nat), lensF B (l ++ [x]) = lensF B l ++ [bitsN (red (l.foldl stepB B) x)]
  | [], _ => rfl
  | y :: l, B => congrArg _ (lensF_app x l (stepB B y))
theorem lens_app (l : List Nat) (x : Nat) : lensOf (l ++ [x]) = lensOf l ++ [bitsN (red (basisOf l) x)] := lensF_app x l []
theorem lens_len (l : List Nat) : (lensOf l).length = l.length := by
  have key : ∀ (l B : List Nat), (lensF B l).length = l.length := by
    intro l
    induction l with
    | nil => exact fun _ => rfl
    | cons x l ih => exact fun B => congrArg Nat.succ (ih _)
  exact key l []
theorem ech_step {B : List Nat} (E : Ech B) (x : Nat) : Ech (stepB B x) := by
  unfold stepB
  by_cases h : red B x = 0
  · rw [if_pos h]
    exact E
  · rw [if_neg h]
    have b := ((redF_spec B E.1 _ x (lg_lt x)).2).resolve_left h
    refine ⟨fun y m => (List.mem_append.mp m).elim (E.1 y) fun m => by rw [List.mem_singleton.mp m]; exact h, ?_⟩
    rw [List.map_append]
    exact nd_snoc E.2 b
theorem ech_fold : ∀ (l B : List Nat), Ech B → Ech (l.foldl stepB B)
  | [], _, E => E
  | x :: l, _, E => ech_fold l _ (ech_step E x)
theorem ech_basis (l : List Nat) : Ech (basisOf l) := ech_fold l [] ech_nil
theorem app_ind {P : List Nat → Prop} (h0 : P []) (hs : ∀ l x, P l → P (l ++ [x])) (l : List Nat) : P l := by
  have : ∀ r : List Nat, P r.reverse := by
    intro r
    induction r with
    | nil => exact h0
    | cons x r ih =>
      rw [List.reverse_cons]
      exact hs _ _ ih
  have h := this l.reverse
  rwa [List.reverse_reverse] at h
theorem spn_basis (l : List Nat) : ∀ n, Spn (basisOf l) n ↔ Spn l n := by
  refine app_ind (P := fun l => ∀ n, Spn (basisOf l) n ↔ Spn l n) (fun n => Iff.rfl) (fun l x ih n => ?_) l
  have E := ech_basis l
  rw [basis_app, spn_app, ← ih n, ← ih (n ^^^ x)]
  have hr := red_spn E.1 x
  unfold stepB
  by_cases h : red (basisOf l) x = 0
  · rw [if_pos h]
    have hx := (red_iff E x).mp h
    refine ⟨.inl, fun z => z.elim id fun z => ?_⟩
    have := spn_xor _ z hx
    rwa [xx] at this
  · rw [if_neg h, spn_app]
    have key : Spn (basisOf l) (n ^^^ red (basisOf l) x) ↔ Spn (basisOf l) (n ^^^ x) := by
      constructor
      · intro z
        have := spn_xor _ z hr
        rwa [← Nat.xor_assoc, xx] at this
      · intro z
        have := spn_xor _ z hr
        rwa [Nat.xor_comm (red (basisOf l) x) x, ← Nat.xor_assoc, xx] at this
    rw [key]
theorem basis_len (l : List Nat) : (basisOf l).length ≤ l.length := by
  refine app_ind (P := fun l => (basisOf l).length ≤ l.length) (Nat.le_refl _) (fun l x ih => ?_) l
  rw [basis_app, List.length_append]
  unfold stepB
  split
  · exact Nat.le_succ_of_le ih
  · rw [List.length_append]
    exact Nat.succ_le_succ ih
/-! all sums, each once -/
def spl (B : List Nat) : List Nat := B.foldl (fun acc b => acc ++ acc.map (· ^^^ b)) [0]
theorem spl_app (B : List Nat) (b : Nat) : spl (B ++ [b]) = spl B ++ (spl B).map (· ^^^ b) := by
  unfold spl
  rw [List.foldl_append]
  rfl
theorem spl_len (B : List Nat) : (spl B).length = 2 ^ B.length := by
  refine app_ind (P := fun B => (spl B).length = 2 ^ B.length) rfl (fun l x ih => ?_) B
  rw [spl_app, List.length_append, List.length_map, ih, List.length_append]
  show _ = 2 ^ (l.length + 1)
  rw [Nat.pow_succ]
  omega
theorem spl_mem (B : List Nat) : ∀ n, n ∈ spl B ↔ Spn B n := by
  refine app_ind (P := fun B => ∀ n, n ∈ spl B ↔ Spn B n) (fun n => ?_) (fun l x ih n => ?_) B
  · show n ∈ [0] ↔ n = 0
    exact List.mem_singleton
  · rw [spl_app, spn_app, List.mem_append, ih]
    refine or_congr Iff.rfl ?_
    rw [List.mem_map]
    constructor
    · rintro ⟨m, hm, rfl⟩
      rw [xx]
      exact (ih m).mp hm
    · intro h
      exact ⟨n ^^^ x, (ih _).mpr h, xx n x⟩
theorem nd_app {l m : List Nat} (h1 : l.Nodup) (h2 : m.Nodup) (h3 : ∀ x ∈ l, x ∉ m) : (l ++ m).Nodup := List.nodup_append.mpr ⟨h1, h2, fun a ha b hb e => h3 a ha (by rw [e]; exact hb)⟩
theorem nd_map {f : Nat → Nat} (hf : ∀ a b, f a = f b → a = b) : ∀ {l : List Nat}, l.Nodup → (l.map f).Nodup
  | [], _ => List.nodup_nil
  | x :: l, h => by
    obtain ⟨h1, h2⟩ := List.nodup_cons.mp h
    refine List.nodup_cons.mpr ⟨fun m => ?_, nd_map hf h2⟩
    obtain ⟨y, hy, e⟩ := List.mem_map.mp m
    rw [hf _ _ e] at hy
    exact h1 hy
theorem xor_inj {b : Nat} : ∀ a c, a ^^^ b = c ^^^ b → a = c := fun a c h => by
  have := congrArg (· ^^^ b) h
  simpa [xx] using this
theorem spl_nd (l : List Nat) : (spl (basisOf l)).Nodup := by
  refine app_ind (P := fun l => (spl (basisOf l)).Nodup) (by decide) (fun l x ih => ?_) l
  rw [basis_app]
  unfold stepB
  by_cases h : red (basisOf l) x = 0
  · rw [if_pos h]
    exact ih
  · rw [if_neg h, spl_app]
    refine nd_app ih (nd_map xor_inj ih) fun y hy m => ?_
    obtain ⟨z, hz, e⟩ := List.mem_map.mp m
    have E := ech_basis l
    have h1 := spn_xor _ ((spl_mem _ _).mp hy) ((spl_mem _ _).mp hz)
    rw [← e, x3, Nat.xor_self, Nat.zero_xor] at h1
    have b := ((redF_spec (basisOf l) E.1 _ x (lg_lt x)).2).resolve_left h
    exact b (ech_lg E h1 h)
theorem nd_le : ∀ {a b : List Nat}, a.Nodup → (∀ x ∈ a, x ∈ b) → a.length ≤ b.length
  | [], _, _, _ => Nat.zero_le _
  | x :: a, b, h, s => by
    obtain ⟨h1, h2⟩ := List.nodup_cons.mp h
    have hx := s x (List.mem_cons_self ..)
    have i := nd_le (b := b.erase x) h2 fun y hy => (List.mem_erase_of_ne (fun e => h1 (by rw [← e]; exact hy))).mpr (s y (List.mem_cons_of_mem _ hy))
    rw [List.length_erase_of_mem hx] at i
    have := List.length_pos_of_mem hx
    rw [List.length_cons]
    omega
theorem spn_count {ks l : List Nat} (h : ks.Nodup) (m : ∀ n, n ∈ ks ↔ Spn l n) : ks.length = 2 ^ (basisOf l).length := by
  rw [← spl_len]
  refine Nat.le_antisymm (nd_le h fun x hx => ?_) (nd_le (spl_nd l) fun x hx => ?_)
  · exact (spl_mem _ _).mpr ((spn_basis l x).mpr ((m x).mp hx))
  · exact (m x).mpr ((spn_basis l x).mp ((spl_mem _ _).mp hx))
/-! shifted -/
theorem spn_shl (s : Nat) : ∀ (l : List Nat) (n : Nat), Spn (l.map (· <<< s)) (n <<< s) ↔ Spn l n
  | [], n => by
    show n <<< s = 0 ↔ n = 0
    rw [Nat.shiftLeft_eq]
    have := Nat.two_pow_pos s
    constructor
    · intro h
      exact (Nat.mul_eq_zero.mp h).resolve_right (by omega)
    · intro h
      rw [h, Nat.zero_mul]
  | x :: l, n => by
    show (Spn (l.map (· <<< s)) (n <<< s) ∨ Spn (l.map (· <<< s)) (n <<< s ^^^ x <<< s)) ↔ (Spn l n ∨ Spn l (n ^^^ x))
    rw [← Nat.shiftLeft_xor_distrib, spn_shl s l n, spn_shl s l (n ^^^ x)]
theorem spn_even : ∀ {l : List Nat}, (∀ x ∈ l, x.testBit 0 = false) → ∀ {n : Nat}, Spn l n → n.testBit 0 = false
  | [], _, n, h => by
    have h : n = 0 := h
    rw [h]
    rfl
  | x :: l, hl, n, h => by
    rcases h with h | h
    · exact spn_even (fun y m => hl y (List.mem_cons_of_mem _ m)) h
    · have i := spn_even (fun y m => hl y (List.mem_cons_of_mem _ m)) h
      rw [Nat.testBit_xor, hl x (List.mem_cons_self ..)] at i
      simpa using i
/-- the count does not see the shift -/
theorem basis_shl (s : Nat) (l : List Nat) : (basisOf (l.map (· <<< s))).length = (basisOf l).length := by
  have e1 := spn_count (ks := (spl (basisOf l)).map (· <<< s)) (l := l.map (· <<< s)) (nd_map (fun a b h => ?_) (spl_nd l)) (fun n => ?_)
  · rw [List.length_map, spl_len] at e1
    exact (Nat.pow_right_inj (by decide) |>.mp e1).symm
  · have h : a <<< s = b <<< s := h
    rw [Nat.shiftLeft_eq, Nat.shiftLeft_eq] at h
    exact Nat.eq_of_mul_eq_mul_right (Nat.two_pow_pos s) h
  · rw [List.mem_map]
    constructor
    · rintro ⟨m, hm, rfl⟩
      exact (spn_shl s l m).mpr ((spn_basis l m).mp ((spl_mem _ _).mp hm))
    · intro h
      have : ∃ m, n = m <<< s := by
        have key : ∀ (l : List Nat) (n : Nat), Spn (l.map (· <<< s)) n → ∃ m, n = m <<< s := by
          intro l
          induction l with
          | nil =>
            intro n h
            have h : n = 0 := h
            exact ⟨0, by rw [h, Nat.zero_shiftLeft]⟩
          | cons x l ih =>
            intro n h
            rcases h with h | h
            · exact ih n h
            · obtain ⟨m, hm⟩ := ih _ h
              refine ⟨m ^^^ x, ?_⟩
              rw [Nat.shiftLeft_xor_distrib, ← hm, xx]
        exact key l n h
      obtain ⟨m, rfl⟩ := this
      exact ⟨m, (spl_mem _ _).mpr ((spn_basis l m).mpr ((spn_shl s l m).mp h)), rfl⟩

end Sn
end Ob

set_option Elab.async false
set_option linter.all false
set_option maxRecDepth 100000
set_option maxHeartbeats 1000000
namespace Ob
open PySem PySem.Spec PyProof.Rows L2
open LamX (Tabs TabB TabS ExtN)

/-- nothing stands there -/
structure Fr (H : Hp) (p : Addr) : Prop where
  h : H p = none
theorem neN {H : Hp} {a b : Addr} {o : HO} (h' : Fr H b) (h : H a = some o) : a ≠ b := ne_of_none h h'.h
theorem neN' {H : Hp} {a b : Addr} {o : HO} (h' : Fr H a) (h : H b = some o) : a ≠ b := (ne_of_none h h'.h).symm
theorem atNew {H : Hp} {a p : Addr} {o u : HO} (n : Fr H p) (h : H a = some o) : upd H p u a = some o := (upd_ne (ne_of_none h n.h)).trans h
theorem atNe {H : Hp} {a p : Addr} {o u : HO} (n : a ≠ p) (h : H a = some o) : upd H p u a = some o := (upd_ne n).trans h
theorem atSame {H H1 : Hp} {a : Addr} {o : HO} (s : Same H H1) (h : H a = some o) : H1 a = some o := s _ _ h
/-- all is kept but what stands in cs -/
structure Kp (cs : List Addr) (H H' : Hp) : Prop where
  at_ : ∀ b o, H b = some o → b ∉ cs → H' b = some o
theorem kp_refl (cs : List Addr) (H : Hp) : Kp cs H H := ⟨fun _ _ e _ => e⟩
theorem kp_trans {cs : List Addr} {H H1 H2 : Hp} (a : Kp cs H H1) (b : Kp cs H1 H2) : Kp cs H H2 := ⟨fun c o e n => b.at_ c o (a.at_ c o e n) n⟩
theorem kp_up {cs : List Addr} {H H1 : Hp} {a : Addr} {o : HO} (m : a ∈ cs) (h : Kp cs H H1) : Kp cs H (upd H1 a o) := ⟨fun b u e n => by
  rw [upd_ne (show b ≠ a from fun z => n (by rw [z]; exact m))]
  exact h.at_ b u e n⟩
theorem kp_new {cs : List Addr} {H H1 : Hp} {a : Addr} {o : HO} (m : Fr H1 a) (h : Kp cs H H1) : Kp cs H (upd H1 a o) := ⟨fun b u e n => by
  rw [upd_ne (ne_of_none (h.at_ b u e n) m.h)]
  exact h.at_ b u e n⟩
theorem kp_newF {cs : List Addr} {H H1 : Hp} {a : Addr} {o : HO} (m : Fr H a) (h : Kp cs H H1) : Kp cs H (upd H1 a o) := ⟨fun b u e n => by
  rw [upd_ne (ne_of_none e m.h)]
  exact h.at_ b u e n⟩
theorem kp_same {cs : List Addr} {H H1 : Hp} (s : Same H H1) : Kp cs H H1 := ⟨fun b o e _ => s b o e⟩
theorem kp_more {cs ds : List Addr} {H H1 : Hp} (h : Kp cs H H1) (m : ∀ a ∈ cs, a ∈ ds) : Kp ds H H1 := ⟨fun b o e n => h.at_ b o e fun z => n (m b z)⟩
/-- what is changed is new, as H sees it -/
theorem kp_fresh {cs ds : List Addr} {H H1 H2 : Hp} (a : Kp cs H H1) (b : Kp ds H1 H2) (n : ∀ x ∈ ds, x ∈ cs ∨ Fr H x) : Kp cs H H2 := ⟨fun x o e m => b.at_ x o (a.at_ x o e m) fun z => (n x z).elim m fun f => ne_of_none e f.h rfl⟩
theorem atKp {cs : List Addr} {H H1 : Hp} {a : Addr} {o : HO} (s : Kp cs H H1) (n : a ∉ cs) (h : H a = some o) : H1 a = some o := s.at_ _ _ h n
theorem not_nil {a : Addr} : a ∉ ([] : List Addr) := fun z => nomatch z
theorem not_cons {a b : Addr} {l : List Addr} (h : a ≠ b) (t : a ∉ l) : a ∉ b :: l := fun z => (List.mem_cons.mp z).elim h t
theorem not_app {a : Addr} {l m : List Addr} (h : a ∉ l) (t : a ∉ m) : a ∉ l ++ m := fun z => (List.mem_append.mp z).elim h t
theorem sqlOf {K : PySem.W.Frag} {H : Hp} {a : Addr} {xs : List V} (h : H a = some (.lst xs)) : SqL K H a xs := .inl (.inl h)
theorem sqtOf {K : PySem.W.Frag} {H : Hp} {a : Addr} {xs : List V} (h : H a = some (.tup xs)) : SqT K H a xs := .inl (.inl h)
theorem sqlSame {K : PySem.W.Frag} {H H1 : Hp} {a : Addr} {xs : List V} (s : Same H H1) (h : SqL K H a xs) : SqL K H1 a xs := s.seq h
theorem neO {H : Hp} {a b : Addr} {x y : HO} (ha : H a = some x) (hb : H b = some y) (n : x ≠ y) : a ≠ b := fun z => by
  rw [z, hb] at ha
  exact n (Option.some.inj ha).symm
theorem noneOf {H H1 : Hp} {p : Addr} (h : Fr H1 p) (k : ∀ o, H p = some o → ∃ u, H1 p = some u) : Fr H p := ⟨by
  cases e : H p with
  | none => rfl
  | some o =>
    obtain ⟨u, z⟩ := k o e
    rw [h.h] at z
    cases z⟩
theorem same_newF {H : Hp} {p : Addr} {o : HO} (n : Fr H p) : Same H (upd H p o) := same_new n.h
theorem same_putF {H H1 : Hp} {p : Addr} {o : HO} (n : Fr H1 p) (h : Same H H1) : Same H (upd H1 p o) := h.trans (same_new n.h)
theorem same_putG {H H1 : Hp} {p : Addr} {o : HO} (n : Fr H p) (h : Same H H1) : Same H (upd H1 p o) := same_put h n.h
theorem memA {a : Addr} {l : List Addr} : a ∈ a :: l := List.mem_cons_self ..
theorem memB {a b : Addr} {l : List Addr} (h : a ∈ l) : a ∈ b :: l := List.mem_cons_of_mem _ h
theorem memL {a : Addr} {l m : List Addr} (h : a ∈ l) : a ∈ l ++ m := List.mem_append.mpr (.inl h)
theorem memR {a : Addr} {l m : List Addr} (h : a ∈ m) : a ∈ l ++ m := List.mem_append.mpr (.inr h)
theorem kp_transR {cs : List Addr} {H H1 H2 : Hp} (b : Kp cs H1 H2) (a : Kp cs H H1) : Kp cs H H2 := kp_trans a b
theorem kp_sameR {cs : List Addr} {H H1 H2 : Hp} (b : Same H1 H2) (a : Kp cs H H1) : Kp cs H H2 := kp_trans a (kp_same b)
theorem kp_freshR {cs ds : List Addr} {H H1 H2 : Hp} (b : Kp ds H1 H2) (n : ∀ x ∈ ds, x ∈ cs ∨ Fr H x) (a : Kp cs H H1) : Kp cs H H2 := kp_fresh a b n
theorem same_transR {H H1 H2 : Hp} (b : Same H1 H2) (a : Same H H1) : Same H H2 := a.trans b
theorem subNil {P : Addr → Prop} : ∀ x ∈ ([] : List Addr), P x := fun _ h => nomatch h
theorem subCons {P : Addr → Prop} {a : Addr} {l : List Addr} (h : P a) (t : ∀ x ∈ l, P x) : ∀ x ∈ a :: l, P x := fun x m => (List.mem_cons.mp m).elim (fun e => by rw [e]; exact h) (t x)
theorem subApp {P : Addr → Prop} {l m : List Addr} (h : ∀ x ∈ l, P x) (t : ∀ x ∈ m, P x) : ∀ x ∈ l ++ m, P x := fun x e => (List.mem_append.mp e).elim (h x) (t x)
theorem sqtAll {K : PySem.W.Frag} {H : Hp} {a : Addr} {xs : List V} (h : ∀ H, SqT K H a xs) : SqT K H a xs := h H
theorem sqtSame {K : PySem.W.Frag} {H H1 : Hp} {a : Addr} {xs : List V} (s : Same H H1) (h : SqT K H a xs) : SqT K H1 a xs := by
  rcases h with (h | ⟨o, h⟩) | h
  · exact .inl (.inl (s _ _ h))
  · exact .inl (.inr ⟨o, s _ _ h⟩)
  · exact .inr h
theorem frUp {H : Hp} {a p : Addr} {o : HO} (n : p ≠ a) (h : Fr H p) : Fr (upd H a o) p := ⟨by rw [upd_ne n]; exact h.h⟩
theorem bag_putF {p q : Addr} {H : Hp} {o : HO} (n : Fr H q) (b : Bag H p) : Bag (upd H q o) p := bag_put b n.h
theorem bag_kpR {p : Addr} {cs : List Addr} {H H1 : Hp} (k : Kp cs H H1) (n : p ∉ cs) (h : Bag H p) : Bag H1 p := by
  obtain ⟨g, m, c, e, z⟩ := h
  exact ⟨g, m, c, k.at_ _ _ e n, z⟩

/-- a promise that a run does not open by itself -/
structure Bx (p : Prop) : Prop where
  h : p
def bx (sp : Sp) : Sp := fun vs H Q E => Bx (sp vs H Q E)
theorem fnBx {P : Program} {w : World} {K : PySem.W.Frag} {mg : Str → Option Value} {base : Heap} {CX : CXT} {k : Nat} {f : Addr} {fd : FuncData} {ps : List Str} {sp : Sp} (F : FnOk P w K mg base CX k f fd ps sp) : FnOk P w K mg base CX k f fd ps (bx sp) := F.imp fun _ _ _ _ h => h.h

set_option hygiene false in
local macro_rules
  | `(tactic| kp_flats) => `(tactic| first
    | assumption
    | exact upd_same
    | (apply atNew; assumption; kp_flats)
    | (apply atNe; (next => kbo_bools); kp_flats)
    | (apply atSame; assumption; kp_flats)
    | (apply atKp; assumption; (next => kaf_pre); kp_flats))
set_option hygiene false in
local macro_rules
  | `(tactic| kaf_pre) => `(tactic| first
    | assumption
    | exact not_nil
    | (apply not_cons; (next => kbo_bools); kaf_pre)
    | (apply not_app; (next => kaf_pre); kaf_pre))
set_option hygiene false in
local macro_rules
  | `(tactic| kbo_bools) => `(tactic| first
    | assumption
    | (apply Ne.symm; assumption)
    | (apply neN; assumption; kp_flats)
    | (apply neN'; assumption; kp_flats))
set_option hygiene false in
local macro_rules
  | `(tactic| o_reads) => `(tactic| first
    | with_reducible rfl
    | assumption
    | rfl
    | kp_flats
    | (show SqL _ _ _ _; first | assumption | (apply sqlOf; kp_flats) | (apply sqlSame; assumption; o_reads))
    | (show SqT _ _ _ _; first | assumption | (apply sqtOf; kp_flats) | (apply sqtAll; assumption) | (apply sqtSame; assumption; o_reads))
    | (show Cls _ _; first | exact T.cl_Unions | exact T.cl_Span)
    | (show NoAttr _ _ _; first | exact T.n_Unions_groups | exact T.n_Unions_parents | exact T.n_Unions_counts | exact T.n_Unions_moved | exact T.n_Span_basis | exact T.n_Span_lengths)
    | (apply Or.inl; o_reads)
    | (apply Or.inr; o_reads)
    | (apply And.intro; (next => o_reads); o_reads)
    | (apply Exists.intro; o_reads)
    | exact Nat.le_of_ble_eq_true rfl
    | exact Nat.succ_ne_zero _
    | (show Fr _ _; kba_ints)
    | (show Same _ _; kd_subs)
    | (show Kp _ _ _; kxs_still)
    | (show (_ : Nat) ≤ _; simp only [List.length_append, List.length_map, List.length_cons, List.length_nil, List.length_take, List.length_drop, List.length_replicate, List.length_range, sizeLine_eq]; omega)
    | (show _ = none; apply Fr.h; kba_ints)
    | (show Bag _ _; first | assumption | (apply bag_putF; assumption; o_reads) | (apply bag_neF; (next => kbo_bools); o_reads) | (apply bag_kpR; assumption; (next => kaf_pre); o_reads))
    | omega
    | decide)
local macro_rules
  | `(tactic| o_readsAll) => `(tactic| repeat (first
    | (refine fun (pNew : Addr) (nNew : _ = none) => ?_; replace nNew := Fr.mk nNew)
    | (refine fun (xNew dNew : Addr) (nNew : _ = none) (mNew : _ = none) (eNew : dNew ≠ xNew) => ?_; replace nNew := Fr.mk nNew; replace mNew := Fr.mk mNew)
    | (apply And.intro; next => o_reads)
    | apply Exists.intro (α := V)
    | apply Exists.intro (α := Addr)
    | apply Exists.intro (α := Int)
    | apply Exists.intro (α := Bool)
    | apply Exists.intro (α := List V)
    | apply Exists.intro (α := List Nat)
    | apply Exists.intro (α := List (Str × V))
    | apply Exists.intro (α := List _)
    | apply Exists.intro (α := Str)
    | apply Exists.intro (α := HO)
    | apply Exists.intro (α := Sp)
    | apply Exists.intro (α := VK)))
set_option hygiene false in
local macro_rules
  | `(tactic| kba_ints) => `(tactic| first
    | assumption
    | (apply frUp; (first | assumption | (apply Ne.symm; assumption)); kba_ints)
    | (apply noneOf; assumption; intro oF eF; apply Exists.intro; kp_flats)
    | (apply frUp; (next => kbo_bools); kba_ints))
set_option hygiene false in
local macro_rules
  | `(tactic| kxs_still) => `(tactic| first
    | assumption
    | exact kp_refl _ _
    | (apply kp_newF; assumption; kxs_still)
    | (apply kp_new; assumption; kxs_still)
    | (apply kp_up; (next => o_fieldsN); kxs_still)
    | (apply kp_new; (next => kba_ints); kxs_still)
    | (apply kp_sameR; assumption; kxs_still)
    | (apply kp_transR; assumption; kxs_still)
    | (apply kp_freshR; assumption; (next => kaf_suf); kxs_still))
set_option hygiene false in
local macro_rules
  | `(tactic| kaf_suf) => `(tactic| first
    | assumption
    | exact subNil
    | (apply subCons; (first | (apply Or.inl; o_fieldsN) | (apply Or.inr; kba_ints)); kaf_suf)
    | (apply subApp; (next => kaf_suf); kaf_suf))
set_option hygiene false in
local macro_rules
  | `(tactic| o_fieldsN) => `(tactic| first
    | assumption
    | exact memA
    | (apply memB; o_fieldsN)
    | (apply memL; o_fieldsN)
    | (apply memR; o_fieldsN))
set_option hygiene false in
local macro_rules
  | `(tactic| kd_subs) => `(tactic| first
    | assumption
    | exact Same.refl _
    | (apply same_putF; assumption; kd_subs)
    | (apply same_putG; assumption; kd_subs)
    | (apply same_putF; (next => kba_ints); kd_subs)
    | (apply same_transR; assumption; kd_subs))

def nV (k : Nat) : V := .int (k : Int)
def kvL (L : List (Nat × Nat)) : List (Key × V) := L.map fun p : Nat × Nat => (Sum.inl (p.1 : Int), V.int (p.2 : Int))
theorem kvL_app (a b : List (Nat × Nat)) : kvL (a ++ b) = kvL a ++ kvL b := List.map_append ..
theorem kvL_val (x : Nat) : ∀ L : List (Nat × Nat), valV (kvL L) (Sum.inl (x : Int)) = (parL L x).map fun u : Nat => V.int (u : Int)
  | [] => rfl
  | p :: L => by
    show valV ((Sum.inl (p.1 : Int), V.int (p.2 : Int)) :: kvL L) _ = _
    unfold parL
    by_cases e : p.1 = x
    · rw [valV_pos (by rw [e]), List.find?_cons_of_pos (p := fun q : Nat × Nat => q.1 == x) (beq_iff_eq.mpr e)]
      rfl
    · rw [valV_neg (fun z => e (by injection z with z; omega)), List.find?_cons_of_neg (p := fun q : Nat × Nat => q.1 == x) (by simpa using e)]
      exact kvL_val x L
theorem kvL_key {x : Nat} : ∀ {L : List (Nat × Nat)}, parL L x = none → ¬ (Sum.inl (x : Int) : Key) ∈ (kvL L).map (·.1) := fun {L} h m => by
  obtain ⟨q, hq, e⟩ := List.mem_map.mp m
  obtain ⟨p, hp, rfl⟩ := List.mem_map.mp hq
  unfold parL at h
  rw [Option.map_eq_none_iff] at h
  have := List.find?_eq_none.mp h p hp
  injection e with e
  exact this (beq_iff_eq.mpr (by omega))
def mV : Option Nat → V
  | none => .non
  | some x => .int (x : Int)
structure CntOk (W : Nat) (L : List (Nat × Nat)) (cs : List (Key × V)) : Prop where
  v : ∀ x : Nat, (valV cs (Sum.inl (x : Int))).getD (.int 1) = .int (subF L x : Nat)
  nd : (cs.map (·.1)).Nodup
  k : ∀ k ∈ cs.map (·.1), ∃ x, x < W ∧ k = Sum.inl ((x : Nat) : Int)
theorem CntOk.len {W : Nat} {L : List (Nat × Nat)} {cs : List (Key × V)} (h : CntOk W L cs) : cs.length ≤ W := by
  have := nd_le (a := cs.map (·.1)) (b := (List.range W).map fun x : Nat => (Sum.inl (x : Int) : Key)) h.nd fun k m => by
    obtain ⟨x, hx, e⟩ := h.k k m
    exact List.mem_map.mpr ⟨x, List.mem_range.mpr hx, e.symm⟩
  rw [List.length_map, List.length_map, List.length_range] at this
  exact this
theorem keys_map (cs : List (Key × V)) (k : Key) (y : V) : (cs.map fun kv => if kv.1 = k then (kv.1, y) else kv).map (·.1) = cs.map (·.1) := by
  rw [List.map_map]
  refine List.map_congr_left fun p _ => ?_
  show (if p.1 = k then (p.1, y) else p).1 = p.1
  split <;> rfl
theorem CntOk.put {W : Nat} {L L' : List (Nat × Nat)} {cs : List (Key × V)} (h : CntOk W L cs) {x n : Nat} (hx : x < W) (hn : subF L' x = n) (ho : ∀ y, y ≠ x → subF L' y = subF L y) : CntOk W L' (putK cs (Sum.inl (x : Int)) (.int (n : Int))) := by
  refine ⟨fun y => ?_, ?_, ?_⟩
  · rw [valV_put]
    by_cases e : y = x
    · subst e
      rw [if_pos rfl, hn]
      rfl
    · rw [if_neg (fun z => e (by injection z with z; omega)), h.v, ho y e]
  · cases q : valV cs (Sum.inl (x : Int)) with
    | none => exact nd_putK _ h.nd q
    | some v =>
      unfold putK
      rw [valV_any, q, if_pos (show (some v).isSome = true from rfl), keys_map]
      exact h.nd
  · intro k m
    cases q : valV cs (Sum.inl (x : Int)) with
    | none =>
      rw [putK_new _ q, List.map_append] at m
      rcases List.mem_append.mp m with m | m
      · exact h.k k m
      · exact ⟨x, hx, List.mem_singleton.mp m⟩
    | some v =>
      unfold putK at m
      rw [valV_any, q, if_pos (show (some v).isSome = true from rfl), keys_map] at m
      exact h.k k m
structure UnAt (C : Addr) (H : Hp) (s dp dc m : Addr) (W : Nat) (ps : List (Nat × Nat)) : Prop where
  s : ∃ dx, H s = some (.ins C dx [("groups", .int ((W : Int) - ((linksOf ps).length : Nat))), ("parents", .ref dp), ("counts", .ref dc), ("moved", .ref m)])
  p : H dp = some (.dK (kvL (linksOf ps)))
  c : ∃ cs, H dc = some (.dK cs) ∧ CntOk W (linksOf ps) cs
  m : H m = some (.lst ((movesOf ps).map mV))
  w : InW W ps
  n : dp ≠ dc
theorem UnAt.kp {C s dp dc m : Addr} {H H1 : Hp} {W : Nat} {ps : List (Nat × Nat)} {cs : List Addr} (h : UnAt C H s dp dc m W ps) (k : Kp cs H H1) (n1 : s ∉ cs) (n2 : dp ∉ cs) (n3 : dc ∉ cs) (n4 : m ∉ cs) : UnAt C H1 s dp dc m W ps := by
  obtain ⟨⟨dx, e⟩, e2, ⟨c, e3, e4⟩, e5, e6, e7⟩ := h
  exact ⟨⟨dx, k.at_ _ _ e n1⟩, k.at_ _ _ e2 n2, ⟨c, k.at_ _ _ e3 n3, e4⟩, k.at_ _ _ e5 n4, e6, e7⟩
theorem UnAt.same {C s dp dc m : Addr} {H H1 : Hp} {W : Nat} {ps : List (Nat × Nat)} (h : UnAt C H s dp dc m W ps) (k : Same H H1) : UnAt C H1 s dp dc m W ps := h.kp (cs := []) (kp_same k) not_nil not_nil not_nil not_nil
theorem UnAt.ne {C s dp dc m : Addr} {H : Hp} {W : Nat} {ps : List (Nat × Nat)} (h : UnAt C H s dp dc m W ps) : s ≠ dp ∧ s ≠ dc ∧ s ≠ m ∧ dp ≠ dc ∧ dp ≠ m ∧ dc ≠ m := by
  obtain ⟨⟨dx, e⟩, e2, ⟨c, e3, e4⟩, e5, e6, e7⟩ := h
  exact ⟨neO e e2 (fun z => nomatch z), neO e e3 (fun z => nomatch z), neO e e5 (fun z => nomatch z), e7, neO e2 e5 (fun z => nomatch z), neO e3 e5 (fun z => nomatch z)⟩
section
variable {P : Program} {w : World} {K : PySem.W.Frag} {mg : Str → Option Value} {base : Heap}
def spRoot (C : Addr) : Sp := fun vs H Q _ => ∃ (s dp dc m : Addr) (W : Nat) (ps : List (Nat × Nat)) (x : Nat), vs = [.ref s, .int (x : Int)] ∧ UnAt C H s dp dc m W ps ∧ Q (.int (rootF x (linksOf ps) : Nat)) H
theorem ok_root (T : Txt K mg) : FnOk P w K mg base CX0 1 T.f_Unions_root_of T.d_Unions_root_of ["self", "point"] (spRoot T.C_Unions) := by
  refine T.F_Unions_root_of.ok sc_Unions_root_of (fun vs H Q E h => ?_) (fun cdv A outer s H vs Q E hr h => ?_)
  · obtain ⟨s, dp, dc, m, W, ps, x, rfl, _⟩ := h
    rfl
  · obtain ⟨s, dp, dc, m, W, ps, x, rfl, ⟨⟨dx, hs⟩, hp, ⟨cs, hc, hcs⟩, hm, hw, hn⟩, q⟩ := h
    refine ⟨_, (pss_cons (ps_set (i := 2) sc_Unions_root_of.nd rfl (.inl rfl) (pv 1))
      (pss_cons (ps_while PassesOwn.never (pt_cmp (pc_din (hu_of hr) (pv 2) (pe_fld (pv 0) rfl))) (pss_one (ps_set (i := 2) sc_Unions_root_of.nd rfl (.inl rfl) (pe_dget (hu_of hr) (pe_fld (pv 0) rfl) (pv 2) (fun _ _ => rfl)))))
      (pss_one (ps_ret (pv 2))))), ?_⟩
    have hok := ok_links ps hw
    refine ⟨_, rfl, ?_⟩
    refine while_by (fun σ H' => H' = H ∧ ∃ r : Nat, σ = [some (.ref s), some (.int (x : Int)), some (.int (r : Int))] ∧ rootF r (linksOf ps) = rootF x (linksOf ps)) (fun σ _ => match σ[2]? with
      | some (some (V.int r)) => depF r.toNat (linksOf ps)
      | _ => 0) ⟨rfl, x, rfl, rfl⟩ ?_ ?_
    · rintro σ H' ⟨rfl, r, rfl, he⟩
      have hg : DGet H' dp (.int (r : Int)) (valV (kvL (linksOf ps)) (Sum.inl (r : Int))) := DGet.k (k := Sum.inl (r : Int)) hp
      rw [kvL_val] at hg
      refine ⟨_, rfl, _, rfl, s, _, dx, _, _, rfl, hs, T.cl_Unions, T.n_Unions_parents, rfl, dp, _, rfl, hg, _, rfl, ?_⟩
      cases hf : parL (linksOf ps) r with
      | none =>
        refine ifF rfl ?_
        o_readsAll
        rw [(par_none hok r).mp hf] at he
        rw [← he] at q
        exact q
      | some u =>
        refine ifT rfl ?_
        rw [hf] at hg
        obtain ⟨e1, e2⟩ := par_some hok hf
        have e3 : rootF u (linksOf ps) = rootF x (linksOf ps) := e1.symm.trans he
        o_readsAll
        show depF ((u : Int)).toNat _ < depF ((r : Int)).toNat _
        rw [Int.toNat_natCast, Int.toNat_natCast, e2]
        exact Nat.lt_succ_self _
    · rintro σ H' Q1 Q2 m h
      dsimp only [tB, tDIn, tVar, tFld] at h ⊢
      obtain ⟨v, a1, v', a3, a, C, dx', fs, v1, a4, a5, a6, a7, a8, a', o, a9, a10, c', a11, h⟩ := h
      exact ⟨v, a1, v', a3, a, C, dx', fs, v1, a4, a5, a6, a7, a8, a', o, a9, a10, c', a11, m _ _ h⟩
def spCount (C : Addr) : Sp := fun vs H Q _ => ∃ (s dc : Addr) (dx : Addr) (fs : List (Str × V)) (x : Nat) (cs : List (Key × V)) (n : Nat), vs = [.ref s, .int (x : Int)] ∧ H s = some (.ins C dx fs) ∧ fs.lookup ("counts" : Str) = some (V.ref dc) ∧ H dc = some (.dK cs) ∧ (valV cs (Sum.inl (x : Int))).getD (.int 1) = .int (n : Int) ∧ Q (.int (n : Int)) H
theorem ok_count (T : Txt K mg) : FnOk P w K mg base CX0 1 T.f_Unions_count_of T.d_Unions_count_of ["self", "root"] (spCount T.C_Unions) := by
  refine T.F_Unions_count_of.ok sc_Unions_count_of (fun vs H Q E h => ?_) (fun cdv A outer s H vs Q E hr h => ?_)
  · obtain ⟨s, dc, dx, fs, x, cs, n, rfl, _⟩ := h
    rfl
  · obtain ⟨s, dc, dx, fs, x, cs, n, rfl, hs, hl, hc, hv, q⟩ := h
    refine ⟨_, (pss_one (ps_ret (pe_dget2 (hu_of hr) (pe_fld (pv 0) rfl) (pv 1) pe_int ⟨rfl, rfl, rfl, rfl⟩))), ?_⟩
    refine ⟨_, rfl, s, _, dx, fs, _, rfl, hs, T.cl_Unions, T.n_Unions_counts, hl, dc, rfl, .inl ⟨cs, .inl hc⟩, _, rfl, _, DGet.k (k := Sum.inl (x : Int)) hc, ?_⟩
    show Q ((valV cs (Sum.inl (x : Int))).getD (.int 1)) H
    rw [hv]
    exact q
def spUI (C : Addr) : Sp := fun vs H Q _ => ∃ (s dx : Addr) (W : Nat), vs = [.ref s, .int (W : Int)] ∧ H s = some (.ins C dx []) ∧ ∀ dp dc m H', Fr H dp → Fr H dc → Fr H m → Kp [s] H H' → UnAt C H' s dp dc m W [] → Q .non H'
theorem ok_ui (T : Txt K mg) : FnOk P w K mg base CX0 1 T.f_Unions_init T.d_Unions_init ["self", "many"] (spUI T.C_Unions) := by
  refine T.F_Unions_init.ok sc_Unions_init (fun vs H Q E h => ?_) (fun cdv A outer s H vs Q E hr h => ?_)
  · obtain ⟨s, dx, W, rfl, _⟩ := h
    rfl
  · obtain ⟨s, dx, W, rfl, hs, q⟩ := h
    refine ⟨_, (pss_cons (ps_fld (pv 0) (pv 1) rfl)
      (pss_cons (ps_fld (pv 0) pe_dnewK rfl)
      (pss_cons (ps_fld (pv 0) pe_dnewK rfl)
      (pss_one (ps_fld (pv 0) (pe_lst pa_nil) rfl))))), ?_⟩
    have e0 : ((W : Int) - ((linksOf []).length : Nat)) = (W : Int) := by
      show (W : Int) - ((0 : Nat) : Int) = W
      omega
    o_readsAll
    rename_i dp ndp dc ndc m ndm
    have nds : dp ≠ s := by kbo_bools
    have n1 : dp ≠ dc := neN (o := .dK []) ndc (by rw [upd_ne nds]; exact upd_same)
    have fdp : Fr H dp := by kba_ints
    have fdc : Fr H dc := by kba_ints
    have fm : Fr H m := by kba_ints
    refine q dp dc m _ fdp fdc fm (by kxs_still) ⟨⟨dx, ?_⟩, by kp_flats, ⟨[], by kp_flats, fun _ => rfl, List.nodup_nil, fun _ z => nomatch z⟩, by kp_flats, (fun _ z => nomatch z), n1⟩
    rw [e0]
    exact upd_same
end
end Ob

set_option Elab.async false
set_option linter.all false
set_option maxRecDepth 100000
set_option maxHeartbeats 1000000
namespace Ob
open PySem PySem.Spec PyProof.Rows L2
open LamX (Tabs TabB TabS ExtN)

set_option hygiene false in
local macro_rules
  | `(tactic| kp_flats) => `(tactic| first
    | assumption
    | exact upd_same
    | (apply atNew; assumption; kp_flats)
    | (apply atNe; (next => kbo_bools); kp_flats)
    | (apply atSame; assumption; kp_flats)
    | (apply atKp; assumption; (next => kaf_pre); kp_flats))
set_option hygiene false in
local macro_rules
  | `(tactic| kaf_pre) => `(tactic| first
    | assumption
    | exact not_nil
    | (apply not_cons; (next => kbo_bools); kaf_pre)
    | (apply not_app; (next => kaf_pre); kaf_pre))
set_option hygiene false in
local macro_rules
  | `(tactic| kbo_bools) => `(tactic| first
    | assumption
    | (apply Ne.symm; assumption)
    | (apply neN; assumption; kp_flats)
    | (apply neN'; assumption; kp_flats))
set_option hygiene false in
local macro_rules
  | `(tactic| o_reads) => `(tactic| first
    | with_reducible rfl
    | assumption
    | rfl
    | kp_flats
    | (show SqL _ _ _ _; first | assumption | (apply sqlOf; kp_flats) | (apply sqlSame; assumption; o_reads))
    | (show SqT _ _ _ _; first | assumption | (apply sqtOf; kp_flats) | (apply sqtAll; assumption) | (apply sqtSame; assumption; o_reads))
    | (show Cls _ _; first | exact T.cl_Unions | exact T.cl_Span)
    | (show NoAttr _ _ _; first | exact T.n_Unions_groups | exact T.n_Unions_parents | exact T.n_Unions_counts | exact T.n_Unions_moved | exact T.n_Span_basis | exact T.n_Span_lengths)
    | (apply Or.inl; o_reads)
    | (apply Or.inr; o_reads)
    | (apply And.intro; (next => o_reads); o_reads)
    | (apply Exists.intro; o_reads)
    | exact Nat.le_of_ble_eq_true rfl
    | exact Nat.succ_ne_zero _
    | (show Fr _ _; kba_ints)
    | (show Same _ _; kd_subs)
    | (show Kp _ _ _; kxs_still)
    | (show (_ : Nat) ≤ _; simp only [List.length_append, List.length_map, List.length_cons, List.length_nil, List.length_take, List.length_drop, List.length_replicate, List.length_range, sizeLine_eq]; omega)
    | (show _ = none; apply Fr.h; kba_ints)
    | (show Bag _ _; first | assumption | (apply bag_putF; assumption; o_reads) | (apply bag_neF; (next => kbo_bools); o_reads) | (apply bag_kpR; assumption; (next => kaf_pre); o_reads))
    | omega
    | decide)
local macro_rules
  | `(tactic| o_readsAll) => `(tactic| repeat (first
    | (refine fun (pNew : Addr) (nNew : _ = none) => ?_; replace nNew := Fr.mk nNew)
    | (refine fun (xNew dNew : Addr) (nNew : _ = none) (mNew : _ = none) (eNew : dNew ≠ xNew) => ?_; replace nNew := Fr.mk nNew; replace mNew := Fr.mk mNew)
    | (apply And.intro; next => o_reads)
    | apply Exists.intro (α := V)
    | apply Exists.intro (α := Addr)
    | apply Exists.intro (α := Int)
    | apply Exists.intro (α := Bool)
    | apply Exists.intro (α := List V)
    | apply Exists.intro (α := List Nat)
    | apply Exists.intro (α := List (Str × V))
    | apply Exists.intro (α := List _)
    | apply Exists.intro (α := Str)
    | apply Exists.intro (α := HO)
    | apply Exists.intro (α := Sp)
    | apply Exists.intro (α := VK)))
set_option hygiene false in
local macro_rules
  | `(tactic| kba_ints) => `(tactic| first
    | assumption
    | (apply frUp; (first | assumption | (apply Ne.symm; assumption)); kba_ints)
    | (apply noneOf; assumption; intro oF eF; apply Exists.intro; kp_flats)
    | (apply frUp; (next => kbo_bools); kba_ints))
set_option hygiene false in
local macro_rules
  | `(tactic| kxs_still) => `(tactic| first
    | assumption
    | exact kp_refl _ _
    | (apply kp_newF; assumption; kxs_still)
    | (apply kp_new; assumption; kxs_still)
    | (apply kp_up; (next => o_fieldsN); kxs_still)
    | (apply kp_new; (next => kba_ints); kxs_still)
    | (apply kp_sameR; assumption; kxs_still)
    | (apply kp_transR; assumption; kxs_still)
    | (apply kp_freshR; assumption; (next => kaf_suf); kxs_still))
set_option hygiene false in
local macro_rules
  | `(tactic| kaf_suf) => `(tactic| first
    | assumption
    | exact subNil
    | (apply subCons; (first | (apply Or.inl; o_fieldsN) | (apply Or.inr; kba_ints)); kaf_suf)
    | (apply subApp; (next => kaf_suf); kaf_suf))
set_option hygiene false in
local macro_rules
  | `(tactic| o_fieldsN) => `(tactic| first
    | assumption
    | exact memA
    | (apply memB; o_fieldsN)
    | (apply memL; o_fieldsN)
    | (apply memR; o_fieldsN))
set_option hygiene false in
local macro_rules
  | `(tactic| kd_subs) => `(tactic| first
    | assumption
    | exact Same.refl _
    | (apply same_putF; assumption; kd_subs)
    | (apply same_putG; assumption; kd_subs)
    | (apply same_putF; (next => kba_ints); kd_subs)
    | (apply same_transR; assumption; kd_subs))

/-- an if, when its test is answered: I holds behind it, F where it was false -/
theorem if_by {c : TT} {t u : TS} {D : Ends} {σ : L2.St} {H : Hp} (I : Hp → Prop) (F : Prop) (hT : ∀ H', I H' → t D σ H') (hF : ∀ H', I H' → F → u D σ H') (h : ∀ Q : Bool → Hp → Prop, (∀ b H', I H' → (b = false → F) → Q b H') → c σ H Q) : tIfS c t u D σ H :=
  h (fun b H' => if b = true then t D σ H' else u D σ H') fun b H' i f => by
    cases b with
    | true => exact (if_pos rfl).mpr (hT H' i)
    | false => exact (if_neg (fun z => nomatch z)).mpr (hF H' i (f rfl))

set_option pp.maxSteps 900
theorem last_at {α : Type} (xs : List α) (v : α) : (xs ++ [v])[(xs ++ [v]).length - 1]? = some v := by
  rw [List.length_append]
  exact List.getElem?_concat_length ..
theorem dropK_last {kvs : List (Key × V)} {k : Key} {v : V} (h : ¬ k ∈ kvs.map (·.1)) : dropK (kvs ++ [(k, v)]) k = kvs := by
  have e : dropK (kvs ++ [(k, v)]) k = dropK kvs k ++ dropK [(k, v)] k := by
    unfold dropK
    exact List.filter_append ..
  rw [e, dropK_no h, dropK_pos rfl]
  exact List.append_nil _
theorem dec_nat (a b : Nat) : decide (V.int (a : Int) = V.int (b : Int)) = decide (a = b) := by
  by_cases e : a = b
  · rw [dT e, e, dT rfl]
  · rw [dF e, dF fun z => e (by injection z with z; omega)]
theorem sub_pos (L : List (Nat × Nat)) : ∀ x, 1 ≤ subF L x := by
  refine app_ind (P := fun L => ∀ x, 1 ≤ subF L x) (fun _ => Nat.le_refl _) (fun l p ih x => ?_) L
  rw [sub_app]
  have := ih p.2
  have := ih x
  split <;> omega
section
variable {P : Program} {w : World} {K : PySem.W.Frag} {mg : Str → Option Value} {base : Heap}
def spPush (C : Addr) : Sp := fun vs H Q _ => ∃ (s dp dc m q : Addr) (W : Nat) (ps : List (Nat × Nat)) (a b : Nat), vs = [.ref s, .ref q] ∧ UnAt C H s dp dc m W ps ∧ H q = some (.tup [.int (a : Int), .int (b : Int)]) ∧ a < W ∧ b < W ∧ W ≤ 10000 ∧ ps.length ≤ 10000 ∧ ∀ H', Kp [s, dp, dc, m] H H' → UnAt C H' s dp dc m W (ps ++ [(a, b)]) → Q .non H'
theorem ok_push (T : Txt K mg) : FnOk P w K mg base CX0 2 T.f_Unions_push T.d_Unions_push ["self", "pair"] (spPush T.C_Unions) := by
  have G_Unions_root_of := ok_root (P := P) (w := w) (base := base) T
  have G_Unions_count_of := ok_count (P := P) (w := w) (base := base) T
  refine T.F_Unions_push.ok sc_Unions_push (fun vs H Q E h => ?_) (fun cdv A outer s H vs Q E hr h => ?_)
  · obtain ⟨s, dp, dc, m, q, W, ps, a, b, rfl, _⟩ := h
    rfl
  · obtain ⟨s, dp, dc, m, q, W, ps, a, b, rfl, hU, hq, la, lb, lW, ll, k⟩ := h
    refine ⟨_, (pss_cons (ps_set (i := 2) sc_Unions_push.nd rfl (.inl rfl) (pe_meth (pv 0) T.cl_Unions ⟨T.m_Unions_root_of, T.t_Unions_root_of, T.k_Unions_root_of⟩ G_Unions_root_of (hr.mono (by omega)) T.b_Unions_root_of .nil pass0 (pa_cons (pe_ix (r := rIxT K) ix_tup (pv 1) pe_int (fun _ _ => rfl)) pa_nil)))
      (pss_cons (ps_set (i := 3) sc_Unions_push.nd rfl (.inl rfl) (pe_meth (pv 0) T.cl_Unions ⟨T.m_Unions_root_of, T.t_Unions_root_of, T.k_Unions_root_of⟩ G_Unions_root_of (hr.mono (by omega)) T.b_Unions_root_of .nil pass0 (pa_cons (pe_ix (r := rIxT K) ix_tup (pv 1) pe_int (fun _ _ => rfl)) pa_nil)))
      (pss_cons (ps_if (pt_cmpR op_eq (pv 2) (pv 3) (nomark _)) (pss_cons (ps_expr (pe_bm PySem.F.plainAttrs_list PySem.F.slot_list_append PySem.F.type_list_append mt_append (pe_fld (pv 0) rfl) (pa_cons pe_non pa_nil)))
        (pss_one ps_retN)) pss_nil)
      (C8.pss_cut (ps_if (pt_cmpR op_lt (pe_meth (pv 0) T.cl_Unions ⟨T.m_Unions_count_of, T.t_Unions_count_of, T.k_Unions_count_of⟩ G_Unions_count_of (hr.mono (by omega)) T.b_Unions_count_of .nil pass0 (pa_cons (pv 2) pa_nil)) (pe_meth (pv 0) T.cl_Unions ⟨T.m_Unions_count_of, T.t_Unions_count_of, T.k_Unions_count_of⟩ G_Unions_count_of (hr.mono (by omega)) T.b_Unions_count_of .nil pass0 (pa_cons (pv 3) pa_nil)) (nomark _)) (pss_one (ps_par (i := 2) (j := 3) (by rfl) sc_Unions_push.nd rfl rfl (by decide) rfl rfl (pa_cons (pv 3) (pa_cons (pv 2) pa_nil)) (by rfl))) pss_nil)
      (pss_cons (ps_dput (hu_of hr) (pe_fld (pv 0) rfl) (pv 2) (pe_op op_add (pe_meth (pv 0) T.cl_Unions ⟨T.m_Unions_count_of, T.t_Unions_count_of, T.k_Unions_count_of⟩ G_Unions_count_of (hr.mono (by omega)) T.b_Unions_count_of .nil pass0 (pa_cons (pv 2) pa_nil)) (pe_meth (pv 0) T.cl_Unions ⟨T.m_Unions_count_of, T.t_Unions_count_of, T.k_Unions_count_of⟩ G_Unions_count_of (hr.mono (by omega)) T.b_Unions_count_of .nil pass0 (pa_cons (pv 3) pa_nil))) rfl)
      (pss_cons (ps_dput (hu_of hr) (pe_fld (pv 0) rfl) (pv 3) (pv 2) rfl)
      (pss_cons (ps_fldaug (pv 0) pe_int in_sub)
      (pss_one (ps_expr (pe_bm PySem.F.plainAttrs_list PySem.F.slot_list_append PySem.F.type_list_append mt_append (pe_fld (pv 0) rfl) (pa_cons (pv 3) pa_nil))))))))))), ?_⟩
    obtain ⟨n1, n2, n3, n4, n5, n6⟩ := hU.ne
    have hU' := hU
    obtain ⟨⟨dx, hs⟩, hp, ⟨cs, hc, hcs⟩, hm, hw, hn⟩ := hU'
    have hok := ok_links ps hw
    have lk := links_len ps
    have lm := moves_len ps
    have ha : atI [V.int (a : Int), V.int (b : Int)] 0 = some (.int (a : Int)) := atI_nat (j := 0) rfl
    have hb : atI [V.int (a : Int), V.int (b : Int)] 1 = some (.int (b : Int)) := atI_nat (j := 1) rfl
    have ea : links_app ps (a, b) = links_app ps (a, b) := rfl
    have lmv : ((movesOf ps).map mV).length = ps.length := by rw [List.length_map, lm]
    refine ⟨_, rfl, s, dx, _, rfl, hs, rfl, _, rfl, q, _, 0, _, rfl, rfl, sqtOf hq, ha, s, dp, dc, m, W, ps, a, rfl, hU, ?_⟩
    refine ⟨_, rfl, s, dx, _, rfl, hs, rfl, _, rfl, q, _, 1, _, rfl, rfl, sqtOf hq, hb, s, dp, dc, m, W, ps, b, rfl, hU, ?_⟩
    refine ⟨_, rfl, _, rfl, rfl, _, rfl, ?_⟩
    have hw' : InW W (ps ++ [(a, b)]) := hw.add la lb
    refine ite2 (fun e => ?_) (fun e => ?_)
    · have er : rootF a (linksOf ps) = rootF b (linksOf ps) := by
        rw [dec_nat] at e
        exact of_decide_eq_true e
      have el : linkOf (linksOf ps) (a, b) = none := link_none.mpr er
      have e1 : linksOf (ps ++ [(a, b)]) = linksOf ps := by
        rw [links_app]
        unfold stepL
        rw [el]
      have e2 : (movesOf (ps ++ [(a, b)])).map mV = (movesOf ps).map mV ++ [V.non] := by
        rw [moves_app, el, List.map_append]
        rfl
      o_readsAll
      exact k _ (by kxs_still) ⟨⟨dx, by rw [e1]; kp_flats⟩, by rw [e1]; kp_flats, ⟨cs, by kp_flats, by rw [e1]; exact hcs⟩, by rw [e2]; exact upd_same, hw', hn⟩
    · have er : rootF a (linksOf ps) ≠ rootF b (linksOf ps) := fun z => e (by rw [dec_nat]; exact dT z)
      refine ⟨fun σ H' => H' = H ∧ ∃ lo up : Nat, σ = [some (.ref s), some (.ref q), some (.int (up : Int)), some (.int (lo : Int))] ∧ linkOf (linksOf ps) (a, b) = some (lo, up), ?_, ?_⟩
      · refine ⟨_, rfl, s, dx, _, rfl, hs, rfl, _, rfl, s, dc, dx, _, _, cs, _, rfl, hs, rfl, hc, hcs.v _, ?_⟩
        refine ⟨_, rfl, s, dx, _, rfl, hs, rfl, _, rfl, s, dc, dx, _, _, cs, _, rfl, hs, rfl, hc, hcs.v _, ?_⟩
        refine ⟨_, _, rfl, rfl, _, rfl, ?_⟩
        refine ite2 (fun f => ?_) (fun f => ?_)
        · refine ⟨_, rfl, _, rfl, _, _, rfl, rfl, _, _, rfl, ?_⟩
          unfold linkOf
          have f1 := of_decide_eq_true f
          rw [if_neg er, if_pos (show subF (linksOf ps) (rootF a (linksOf ps)) < subF (linksOf ps) (rootF b (linksOf ps)) by omega)]
        · refine ⟨rfl, _, _, rfl, ?_⟩
          unfold linkOf
          rw [if_neg er, if_neg (fun (z : subF (linksOf ps) (rootF a (linksOf ps)) < subF (linksOf ps) (rootF b (linksOf ps))) => f (dT (by omega)))]
      · rintro σ H' ⟨rfl, lo, up, rfl, el⟩
        obtain ⟨r1, r2, r3, r4, r5, _⟩ := link_ok hok (p := (a, b)) la lb el
        replace r1 : rootF lo (linksOf ps) = lo := r1
        replace r2 : rootF up (linksOf ps) = up := r2
        replace r3 : lo ≠ up := r3
        replace r4 : lo < W := r4
        replace r5 : up < W := r5
        have e1 : linksOf (ps ++ [(a, b)]) = linksOf ps ++ [(lo, up)] := by
          rw [links_app]
          unfold stepL
          rw [el]
        have e2 : (movesOf (ps ++ [(a, b)])).map mV = (movesOf ps).map mV ++ [V.int (lo : Int)] := by
          rw [moves_app, el, List.map_append]
          rfl
        have lc := hcs.len
        have hcs' : CntOk W (linksOf ps ++ [(lo, up)]) (putK cs (Sum.inl (up : Int)) (.int ((subF (linksOf ps) up + subF (linksOf ps) lo : Nat) : Int))) := hcs.put r5 (by rw [sub_app, if_pos rfl]) fun y hy => by rw [sub_app, if_neg hy]
        have ev : (((subF (linksOf ps) up : Nat) : Int) + ((subF (linksOf ps) lo : Nat) : Int)) = ((subF (linksOf ps) up + subF (linksOf ps) lo : Nat) : Int) := by omega
        have pn : parL (linksOf ps) lo = none := (par_none hok lo).mpr r1
        have hP1 : DPut H' dc (.int (up : Int)) (.int (((subF (linksOf ps) up : Nat) : Int) + ((subF (linksOf ps) lo : Nat) : Int))) (upd H' dc (.dK (putK cs (Sum.inl (up : Int)) (.int ((subF (linksOf ps) up + subF (linksOf ps) lo : Nat) : Int))))) := by
          rw [ev]
          exact DPut.k (k := Sum.inl (up : Int)) hc (by rw [sizeLine_eq]; omega)
        have hp1 : upd H' dc (.dK (putK cs (Sum.inl (up : Int)) (.int ((subF (linksOf ps) up + subF (linksOf ps) lo : Nat) : Int)))) dp = some (.dK (kvL (linksOf ps))) := by kp_flats
        have hs1 : upd H' dc (.dK (putK cs (Sum.inl (up : Int)) (.int ((subF (linksOf ps) up + subF (linksOf ps) lo : Nat) : Int)))) s = _ := atNe n2 hs
        have hP2 : DPut (upd H' dc (.dK (putK cs (Sum.inl (up : Int)) (.int ((subF (linksOf ps) up + subF (linksOf ps) lo : Nat) : Int))))) dp (.int (lo : Int)) (.int (up : Int)) (upd (upd H' dc (.dK (putK cs (Sum.inl (up : Int)) (.int ((subF (linksOf ps) up + subF (linksOf ps) lo : Nat) : Int))))) dp (.dK (kvL (linksOf ps ++ [(lo, up)])))) := by
          have := DPut.k (k := Sum.inl (lo : Int)) (v := .int (up : Int)) hp1 (by
            show ((linksOf ps).map _).length < sizeLine
            rw [List.length_map, sizeLine_eq]
            omega)
          rw [putK_new (kvs := kvL (linksOf ps)) _ (by rw [kvL_val, pn]; rfl)] at this
          rw [kvL_app]
          exact this
        refine ⟨_, rfl, s, dx, _, rfl, hs, rfl, _, rfl, s, dc, dx, _, _, cs, _, rfl, hs, rfl, hc, hcs.v _, ?_⟩
        refine ⟨_, rfl, s, dx, _, rfl, hs, rfl, _, rfl, s, dc, dx, _, _, cs, _, rfl, hs, rfl, hc, hcs.v _, ?_⟩
        refine ⟨_, _, rfl, rfl, ?_⟩
        refine ⟨_, rfl, s, _, dx, _, _, rfl, hs, T.cl_Unions, T.n_Unions_counts, rfl, _, rfl, dc, _, rfl, hP1, ?_⟩
        refine ⟨_, rfl, _, rfl, s, _, dx, _, _, rfl, hs1, T.cl_Unions, T.n_Unions_parents, rfl, _, rfl, dp, _, rfl, hP2, ?_⟩
        o_readsAll
        have eg : ((W : Int) - ((linksOf (ps ++ [(a, b)])).length : Nat)) = (W : Int) - ((linksOf ps).length : Nat) - 1 := by
          rw [e1, List.length_append]
          show (W : Int) - (((linksOf ps).length + 1 : Nat) : Int) = _
          omega
        refine k _ (by kxs_still) ⟨⟨dx, ?_⟩, by rw [e1]; kp_flats, ⟨_, by kp_flats, by rw [e1]; exact hcs'⟩, by rw [e2]; exact upd_same, hw', hn⟩
        rw [eg]
        kp_flats
def spPop (C : Addr) : Sp := fun vs H Q _ => ∃ (s dp dc m : Addr) (W : Nat) (ps : List (Nat × Nat)) (p : Nat × Nat), vs = [.ref s] ∧ UnAt C H s dp dc m W (ps ++ [p]) ∧ W ≤ 10000 ∧ ps.length ≤ 10000 ∧ ∀ H', Kp [s, dp, dc, m] H H' → UnAt C H' s dp dc m W ps → Q .non H'
theorem ok_pop (T : Txt K mg) : FnOk P w K mg base CX0 2 T.f_Unions_pop T.d_Unions_pop ["self"] (spPop T.C_Unions) := by
  have G_Unions_count_of := ok_count (P := P) (w := w) (base := base) T
  refine T.F_Unions_pop.ok sc_Unions_pop (fun vs H Q E h => ?_) (fun cdv A outer s H vs Q E hr h => ?_)
  · obtain ⟨s, dp, dc, m, W, ps, p, rfl, _⟩ := h
    rfl
  · obtain ⟨s, dp, dc, m, W, ps, p, rfl, hU, lW, ll, k⟩ := h
    refine ⟨_, (pss_cons (ps_set (i := 1) sc_Unions_pop.nd rfl (.inl rfl) (pe_bm0 PySem.F.plainAttrs_list PySem.F.slot_list_pop PySem.F.type_list_pop mt_pop (pe_fld (pv 0) rfl)))
      (pss_cons (ps_if (pt_cmpR op_isN (pv 1) pe_non (nomark _)) (pss_one ps_retN) pss_nil)
      (pss_cons (ps_set (i := 2) sc_Unions_pop.nd rfl (.inl rfl) (pe_dget (hu_of hr) (pe_fld (pv 0) rfl) (pv 1) (fun _ _ => rfl)))
      (pss_cons (ps_ddel (pe_fld (pv 0) rfl) (pv 1))
      (pss_cons (ps_daug (hu_of hr) (pe_fld (pv 0) rfl) (pv 2) (pe_meth (pv 0) T.cl_Unions ⟨T.m_Unions_count_of, T.t_Unions_count_of, T.k_Unions_count_of⟩ G_Unions_count_of (hr.mono (by omega)) T.b_Unions_count_of .nil pass0 (pa_cons (pv 1) pa_nil)) in_sub (fun _ _ _ => rfl))
      (pss_one (ps_fldaug (pv 0) pe_int in_add))))))), ?_⟩
    obtain ⟨n1, n2, n3, n4, n5, n6⟩ := hU.ne
    obtain ⟨⟨dx, hs⟩, hp, ⟨cs, hc, hcs⟩, hm, hw, hn⟩ := hU
    obtain ⟨hw0, lp1, lp2⟩ := hw.init
    have hok := ok_links ps hw0
    have lk := links_len ps
    have lm := moves_len ps
    have hm2 : H m = some (.lst ((movesOf ps).map mV ++ [mV ((linkOf (linksOf ps) p).map (·.1))])) := by
      rw [hm, moves_app, List.map_append]
      rfl
    o_readsAll
    refine ⟨last_at _ _, ?_⟩
    rw [List.dropLast_concat]
    have hm1 : upd H m (.lst ((movesOf ps).map mV)) m = some (.lst ((movesOf ps).map mV)) := upd_same
    have e1 : linksOf (ps ++ [p]) = stepL (linksOf ps) p := links_app ps p
    cases el : linkOf (linksOf ps) p with
    | none =>
      have e2 : linksOf (ps ++ [p]) = linksOf ps := by
        rw [e1]
        unfold stepL
        rw [el]
      rw [e2] at hs hp hcs
      refine ⟨_, rfl, rfl, _, rfl, ?_⟩
      refine ifT rfl ?_
      exact k _ (by kxs_still) ⟨⟨dx, by kp_flats⟩, by kp_flats, ⟨cs, by kp_flats, hcs⟩, upd_same, hw0, hn⟩
    | some q =>
      obtain ⟨lo, up⟩ := q
      obtain ⟨r1, r2, r3, r4, r5, _⟩ := link_ok hok lp1 lp2 el
      replace r1 : rootF lo (linksOf ps) = lo := r1
      replace r3 : lo ≠ up := r3
      replace r5 : up < W := r5
      have e2 : linksOf (ps ++ [p]) = linksOf ps ++ [(lo, up)] := by
        rw [e1]
        unfold stepL
        rw [el]
      rw [e2] at hs hp hcs
      have pn : parL (linksOf ps) lo = none := (par_none hok lo).mpr r1
      have hv : valV (kvL (linksOf ps ++ [(lo, up)])) (Sum.inl (lo : Int)) = some (.int (up : Int)) := by
        rw [kvL_val, par_app, pn]
        show ((if lo = lo then some up else none : Option Nat)).map _ = _
        rw [if_pos rfl]
        rfl
      have hp0 : upd H m (.lst ((movesOf ps).map mV)) dp = some (.dK (kvL (linksOf ps ++ [(lo, up)]))) := by kp_flats
      have hs0 : upd H m (.lst ((movesOf ps).map mV)) s = some (.ins T.C_Unions dx [("groups", .int ((W : Int) - ((linksOf ps ++ [(lo, up)]).length : Nat))), ("parents", .ref dp), ("counts", .ref dc), ("moved", .ref m)]) := by kp_flats
      have hg : DGet (upd H m (.lst ((movesOf ps).map mV))) dp (.int (lo : Int)) (some (.int (up : Int))) := by
        rw [← hv]
        exact DGet.k (k := Sum.inl (lo : Int)) hp0
      refine ⟨_, rfl, rfl, _, rfl, ?_⟩
      refine ifF rfl ?_
      refine ⟨_, rfl, s, _, dx, _, _, rfl, hs0, T.cl_Unions, T.n_Unions_parents, rfl, _, rfl, dp, _, rfl, hg, ?_⟩
      refine ⟨_, rfl, s, _, dx, _, _, rfl, hs0, T.cl_Unions, T.n_Unions_parents, rfl, _, rfl, dp, _, (Sum.inl (lo : Int) : Key), rfl, hp0, rfl, by rw [hv]; rfl, ?_⟩
      have ek : dropK (kvL (linksOf ps ++ [(lo, up)])) (Sum.inl (lo : Int)) = kvL (linksOf ps) := by
        rw [kvL_app]
        exact dropK_last (kvL_key pn)
      rw [ek]
      have su : subF (linksOf ps ++ [(lo, up)]) up = subF (linksOf ps) up + subF (linksOf ps) lo := by rw [sub_app, if_pos rfl]
      have sl : subF (linksOf ps ++ [(lo, up)]) lo = subF (linksOf ps) lo := by rw [sub_app, if_neg r3]
      have p1 := sub_pos (linksOf ps) up
      have p2 := sub_pos (linksOf ps) lo
      have hvu : valV cs (Sum.inl (up : Int)) = some (.int (subF (linksOf ps) up + subF (linksOf ps) lo : Nat)) := by
        have := hcs.v up
        rw [su] at this
        cases z : valV cs (Sum.inl (up : Int)) with
        | none =>
          rw [z] at this
          replace this : V.int 1 = V.int (subF (linksOf ps) up + subF (linksOf ps) lo : Nat) := this
          injection this with this
          omega
        | some v =>
          rw [z] at this
          exact congrArg some this
      have hs1 : upd (upd H m (.lst ((movesOf ps).map mV))) dp (.dK (kvL (linksOf ps))) s = some (.ins T.C_Unions dx [("groups", .int ((W : Int) - ((linksOf ps ++ [(lo, up)]).length : Nat))), ("parents", .ref dp), ("counts", .ref dc), ("moved", .ref m)]) := by kp_flats
      have hc1 : upd (upd H m (.lst ((movesOf ps).map mV))) dp (.dK (kvL (linksOf ps))) dc = some (.dK cs) := atNe hn.symm (atNe n6 hc)
      have hg1 : DGet (upd (upd H m (.lst ((movesOf ps).map mV))) dp (.dK (kvL (linksOf ps)))) dc (.int (up : Int)) (some (.int (subF (linksOf ps) up + subF (linksOf ps) lo : Nat))) := by
        rw [← hvu]
        exact DGet.k (k := Sum.inl (up : Int)) hc1
      have hcs' : CntOk W (linksOf ps) (putK cs (Sum.inl (up : Int)) (.int (subF (linksOf ps) up : Nat))) := hcs.put r5 rfl fun y hy => by rw [sub_app, if_neg hy]
      have ev : (((subF (linksOf ps) up + subF (linksOf ps) lo : Nat) : Int) - ((subF (linksOf ps ++ [(lo, up)]) lo : Nat) : Int)) = ((subF (linksOf ps) up : Nat) : Int) := by
        rw [sl]
        omega
      have lc := hcs.len
      have hP : DPut (upd (upd H m (.lst ((movesOf ps).map mV))) dp (.dK (kvL (linksOf ps)))) dc (.int (up : Int)) (.int (((subF (linksOf ps) up + subF (linksOf ps) lo : Nat) : Int) - ((subF (linksOf ps ++ [(lo, up)]) lo : Nat) : Int))) (upd (upd (upd H m (.lst ((movesOf ps).map mV))) dp (.dK (kvL (linksOf ps)))) dc (.dK (putK cs (Sum.inl (up : Int)) (.int (subF (linksOf ps) up : Nat))))) := by
        rw [ev]
        exact DPut.k (k := Sum.inl (up : Int)) hc1 (by rw [sizeLine_eq]; omega)
      refine ⟨_, rfl, s, _, dx, _, _, rfl, hs1, T.cl_Unions, T.n_Unions_counts, rfl, _, rfl, dc, _, rfl, hg1, ?_⟩
      refine ⟨_, rfl, s, dx, _, rfl, hs1, rfl, _, rfl, s, dc, dx, _, _, cs, _, rfl, hs1, rfl, hc1, hcs.v _, ?_⟩
      refine ⟨_, _, rfl, rfl, _, hP, ?_⟩
      o_readsAll
      have eg : ((W : Int) - ((linksOf ps ++ [(lo, up)]).length : Nat)) + 1 = (W : Int) - ((linksOf ps).length : Nat) := by
        rw [List.length_append]
        show (W : Int) - (((linksOf ps).length + 1 : Nat) : Int) + 1 = _
        omega
      refine k _ (by kxs_still) ⟨⟨dx, ?_⟩, by kp_flats, ⟨_, by kp_flats, hcs'⟩, by kp_flats, hw0, hn⟩
      rw [← eg]
      exact upd_same
inductive Qn where
  | same (a b : Nat) | size (a : Nat) | groups
def Qn.tup : Qn → List V
  | .same a b => [.str "same", .int (a : Int), .int (b : Int)]
  | .size a => [.str "size", .int (a : Int)]
  | .groups => [.str "groups"]
def Qn.ans (W : Nat) (ps : List (Nat × Nat)) : Qn → V
  | .same a b => .bl (decide (rootF a (linksOf ps) = rootF b (linksOf ps)))
  | .size a => .int (subF (linksOf ps) (rootF a (linksOf ps)) : Nat)
  | .groups => .int ((W : Int) - ((linksOf ps).length : Nat))
def spAsk (C : Addr) : Sp := fun vs H Q _ => ∃ (s dp dc m q : Addr) (W : Nat) (ps : List (Nat × Nat)) (qn : Qn), vs = [.ref s, .ref q] ∧ UnAt C H s dp dc m W ps ∧ H q = some (.tup qn.tup) ∧ Q (qn.ans W ps) H
theorem ok_ask (T : Txt K mg) : FnOk P w K mg base CX0 2 T.f_Unions_ask T.d_Unions_ask ["self", "question"] (spAsk T.C_Unions) := by
  have G_Unions_root_of := ok_root (P := P) (w := w) (base := base) T
  have G_Unions_count_of := ok_count (P := P) (w := w) (base := base) T
  refine T.F_Unions_ask.ok sc_Unions_ask (fun vs H Q E h => ?_) (fun cdv A outer s H vs Q E hr h => ?_)
  · obtain ⟨s, dp, dc, m, q, W, ps, qn, rfl, _⟩ := h
    rfl
  · obtain ⟨s, dp, dc, m, q, W, ps, qn, rfl, hU, hq, k⟩ := h
    refine ⟨_, (pss_cons (ps_if (pt_cmpR op_eq (pe_ix (r := rIxT K) ix_tup (pv 1) pe_int (fun _ _ => rfl)) pe_str (nomark _)) (pss_one (ps_ret (pe_cmpR op_eq (pe_meth (pv 0) T.cl_Unions ⟨T.m_Unions_root_of, T.t_Unions_root_of, T.k_Unions_root_of⟩ G_Unions_root_of (hr.mono (by omega)) T.b_Unions_root_of .nil pass0 (pa_cons (pe_ix (r := rIxT K) ix_tup (pv 1) pe_int (fun _ _ => rfl)) pa_nil)) (pe_meth (pv 0) T.cl_Unions ⟨T.m_Unions_root_of, T.t_Unions_root_of, T.k_Unions_root_of⟩ G_Unions_root_of (hr.mono (by omega)) T.b_Unions_root_of .nil pass0 (pa_cons (pe_ix (r := rIxT K) ix_tup (pv 1) pe_int (fun _ _ => rfl)) pa_nil)) (nomark _)))) pss_nil)
      (pss_cons (ps_if (pt_cmpR op_eq (pe_ix (r := rIxT K) ix_tup (pv 1) pe_int (fun _ _ => rfl)) pe_str (nomark _)) (pss_one (ps_ret (pe_meth (pv 0) T.cl_Unions ⟨T.m_Unions_count_of, T.t_Unions_count_of, T.k_Unions_count_of⟩ G_Unions_count_of (hr.mono (by omega)) T.b_Unions_count_of .nil pass0 (pa_cons (pe_meth (pv 0) T.cl_Unions ⟨T.m_Unions_root_of, T.t_Unions_root_of, T.k_Unions_root_of⟩ G_Unions_root_of (hr.mono (by omega)) T.b_Unions_root_of .nil pass0 (pa_cons (pe_ix (r := rIxT K) ix_tup (pv 1) pe_int (fun _ _ => rfl)) pa_nil)) pa_nil)))) pss_nil)
      (pss_one (ps_ret (pe_fld (pv 0) rfl))))), ?_⟩
    have hU' := hU
    obtain ⟨⟨dx, hs⟩, hp, ⟨cs, hc, hcs⟩, hm, hw, hn⟩ := hU'
    cases qn with
    | same a b =>
      have q0 : atI (Qn.tup (.same a b)) 0 = some (.str "same") := atI_nat (j := 0) rfl
      have q1 : atI (Qn.tup (.same a b)) 1 = some (.int (a : Int)) := atI_nat (j := 1) rfl
      have q2 : atI (Qn.tup (.same a b)) 2 = some (.int (b : Int)) := atI_nat (j := 2) rfl
      refine ⟨_, rfl, q, _, 0, _, rfl, rfl, sqtOf hq, q0, rfl, _, rfl, ?_⟩
      refine ifT rfl ?_
      refine ⟨_, rfl, s, dx, _, rfl, hs, rfl, _, rfl, q, _, 1, _, rfl, rfl, sqtOf hq, q1, s, dp, dc, m, W, ps, a, rfl, hU, ?_⟩
      refine ⟨_, rfl, s, dx, _, rfl, hs, rfl, _, rfl, q, _, 2, _, rfl, rfl, sqtOf hq, q2, s, dp, dc, m, W, ps, b, rfl, hU, ?_⟩
      refine ⟨rfl, ?_⟩
      rw [dec_nat]
      exact k
    | size a =>
      have q0 : atI (Qn.tup (.size a)) 0 = some (.str "size") := atI_nat (j := 0) rfl
      have q1 : atI (Qn.tup (.size a)) 1 = some (.int (a : Int)) := atI_nat (j := 1) rfl
      refine ⟨_, rfl, q, _, 0, _, rfl, rfl, sqtOf hq, q0, rfl, _, rfl, ?_⟩
      refine ifF (by decide +kernel) ?_
      refine ⟨_, rfl, q, _, 0, _, rfl, rfl, sqtOf hq, q0, rfl, _, rfl, ?_⟩
      refine ifT rfl ?_
      refine ⟨_, rfl, s, dx, _, rfl, hs, rfl, _, rfl, s, dx, _, rfl, hs, rfl, _, rfl, q, _, 1, _, rfl, rfl, sqtOf hq, q1, s, dp, dc, m, W, ps, a, rfl, hU, ?_⟩
      exact ⟨s, dc, dx, _, _, cs, _, rfl, hs, rfl, hc, hcs.v _, k⟩
    | groups =>
      have q0 : atI (Qn.tup .groups) 0 = some (.str "groups") := atI_nat (j := 0) rfl
      refine ⟨_, rfl, q, _, 0, _, rfl, rfl, sqtOf hq, q0, rfl, _, rfl, ?_⟩
      refine ifF (by decide +kernel) ?_
      refine ⟨_, rfl, q, _, 0, _, rfl, rfl, sqtOf hq, q0, rfl, _, rfl, ?_⟩
      refine ifF (by decide +kernel) ?_
      exact ⟨_, rfl, s, _, dx, _, _, rfl, hs, T.cl_Unions, T.n_Unions_groups, rfl, k⟩
end
end Ob

set_option Elab.async false
set_option linter.all false
set_option maxRecDepth 100000
set_option maxHeartbeats 1000000
namespace Ob
open PySem PySem.Spec PyProof.Rows L2
open LamX (Tabs TabB TabS ExtN)


set_option hygiene false in
local macro_rules
  | `(tactic| kp_flats) => `(tactic| first
    | assumption
    | exact upd_same
    | (apply atNew; assumption; kp_flats)
    | (apply atNe; (next => kbo_bools); kp_flats)
    | (apply atSame; assumption; kp_flats)
    | (apply atKp; assumption; (next => kaf_pre); kp_flats))
set_option hygiene false in
local macro_rules
  | `(tactic| kaf_pre) => `(tactic| first
    | assumption
    | exact not_nil
    | (apply not_cons; (next => kbo_bools); kaf_pre)
    | (apply not_app; (next => kaf_pre); kaf_pre))
set_option hygiene false in
local macro_rules
  | `(tactic| kbo_bools) => `(tactic| first
    | assumption
    | (apply Ne.symm; assumption)
    | (apply neN; assumption; kp_flats)
    | (apply neN'; assumption; kp_flats))
set_option hygiene false in
local macro_rules
  | `(tactic| o_reads) => `(tactic| first
    | with_reducible rfl
    | assumption
    | rfl
    | kp_flats
    | (show SqL _ _ _ _; first | assumption | (apply sqlOf; kp_flats) | (apply sqlSame; assumption; o_reads))
    | (show SqT _ _ _ _; first | assumption | (apply sqtOf; kp_flats) | (apply sqtAll; assumption) | (apply sqtSame; assumption; o_reads))
    | (show Cls _ _; first | exact T.cl_Unions | exact T.cl_Span)
    | (show NoAttr _ _ _; first | exact T.n_Unions_groups | exact T.n_Unions_parents | exact T.n_Unions_counts | exact T.n_Unions_moved | exact T.n_Span_basis | exact T.n_Span_lengths)
    | (apply Or.inl; o_reads)
    | (apply Or.inr; o_reads)
    | (apply And.intro; (next => o_reads); o_reads)
    | (apply Exists.intro; o_reads)
    | exact Nat.le_of_ble_eq_true rfl
    | exact Nat.succ_ne_zero _
    | (show Fr _ _; kba_ints)
    | (show Same _ _; kd_subs)
    | (show Kp _ _ _; kxs_still)
    | (show (_ : Nat) ≤ _; simp only [List.length_append, List.length_map, List.length_cons, List.length_nil, List.length_take, List.length_drop, List.length_replicate, List.length_range, sizeLine_eq]; omega)
    | (show _ = none; apply Fr.h; kba_ints)
    | (show Bag _ _; first | assumption | (apply bag_putF; assumption; o_reads) | (apply bag_neF; (next => kbo_bools); o_reads) | (apply bag_kpR; assumption; (next => kaf_pre); o_reads))
    | omega
    | decide)
local macro_rules
  | `(tactic| o_readsAll) => `(tactic| repeat (first
    | (refine fun (pNew : Addr) (nNew : _ = none) => ?_; replace nNew := Fr.mk nNew)
    | (refine fun (xNew dNew : Addr) (nNew : _ = none) (mNew : _ = none) (eNew : dNew ≠ xNew) => ?_; replace nNew := Fr.mk nNew; replace mNew := Fr.mk mNew)
    | (apply And.intro; next => o_reads)
    | apply Exists.intro (α := V)
    | apply Exists.intro (α := Addr)
    | apply Exists.intro (α := Int)
    | apply Exists.intro (α := Bool)
    | apply Exists.intro (α := List V)
    | apply Exists.intro (α := List Nat)
    | apply Exists.intro (α := List (Str × V))
    | apply Exists.intro (α := List _)
    | apply Exists.intro (α := Str)
    | apply Exists.intro (α := HO)
    | apply Exists.intro (α := Sp)
    | apply Exists.intro (α := VK)))
set_option hygiene false in
local macro_rules
  | `(tactic| kba_ints) => `(tactic| first
    | assumption
    | (apply frUp; (first | assumption | (apply Ne.symm; assumption)); kba_ints)
    | (apply noneOf; assumption; intro oF eF; apply Exists.intro; kp_flats)
    | (apply frUp; (next => kbo_bools); kba_ints))
set_option hygiene false in
local macro_rules
  | `(tactic| kxs_still) => `(tactic| first
    | assumption
    | exact kp_refl _ _
    | (apply kp_newF; assumption; kxs_still)
    | (apply kp_new; assumption; kxs_still)
    | (apply kp_up; (next => o_fieldsN); kxs_still)
    | (apply kp_new; (next => kba_ints); kxs_still)
    | (apply kp_sameR; assumption; kxs_still)
    | (apply kp_transR; assumption; kxs_still)
    | (apply kp_freshR; assumption; (next => kaf_suf); kxs_still))
set_option hygiene false in
local macro_rules
  | `(tactic| kaf_suf) => `(tactic| first
    | assumption
    | exact subNil
    | (apply subCons; (first | (apply Or.inl; o_fieldsN) | (apply Or.inr; kba_ints)); kaf_suf)
    | (apply subApp; (next => kaf_suf); kaf_suf))
set_option hygiene false in
local macro_rules
  | `(tactic| o_fieldsN) => `(tactic| first
    | assumption
    | exact memA
    | (apply memB; o_fieldsN)
    | (apply memL; o_fieldsN)
    | (apply memR; o_fieldsN))
set_option hygiene false in
local macro_rules
  | `(tactic| kd_subs) => `(tactic| first
    | assumption
    | exact Same.refl _
    | (apply same_putF; assumption; kd_subs)
    | (apply same_putG; assumption; kd_subs)
    | (apply same_putF; (next => kba_ints); kd_subs)
    | (apply same_transR; assumption; kd_subs))


namespace Sn
def nV (k : Nat) : V := .int (k : Int)
def kvB (B : List Nat) : List (Key × V) := B.map fun b : Nat => (Sum.inl ((b.log2 + 1 : Nat) : Int), V.int (b : Int))
theorem kvB_app (a b : List Nat) : kvB (a ++ b) = kvB a ++ kvB b := List.map_append ..
theorem kvB_val (x : Nat) : ∀ B : List Nat, valV (kvB B) (Sum.inl ((x.log2 + 1 : Nat) : Int)) = (B.find? (fun b : Nat => b.log2 == x.log2)).map fun b : Nat => V.int (b : Int)
  | [] => rfl
  | b :: B => by
    show valV ((Sum.inl ((b.log2 + 1 : Nat) : Int), V.int (b : Int)) :: kvB B) _ = _
    by_cases e : b.log2 = x.log2
    · rw [valV_pos (by rw [e]), List.find?_cons_of_pos (p := fun b : Nat => b.log2 == x.log2) (beq_iff_eq.mpr e)]
      rfl
    · rw [valV_neg (fun z => e (by injection z with z; omega)), List.find?_cons_of_neg (p := fun b : Nat => b.log2 == x.log2) (by simpa using e)]
      exact kvB_val x B
theorem kvB_not {x : Nat} {B : List Nat} (h : x.log2 ∉ B.map Nat.log2) : valV (kvB B) (Sum.inl ((x.log2 + 1 : Nat) : Int)) = none := by
  rw [kvB_val]
  have : B.find? (fun b : Nat => b.log2 == x.log2) = none := List.find?_eq_none.mpr fun b hb e => h (List.mem_map.mpr ⟨b, hb, beq_iff_eq.mp e⟩)
  rw [this]
  rfl
theorem kvB_key {x : Nat} {B : List Nat} (h : x.log2 ∉ B.map Nat.log2) : ¬ (Sum.inl ((x.log2 + 1 : Nat) : Int) : Key) ∈ (kvB B).map (·.1) := fun m => by
  obtain ⟨p, hp, e⟩ := List.mem_map.mp m
  obtain ⟨b, hb, rfl⟩ := List.mem_map.mp hp
  injection e with e
  exact h (List.mem_map.mpr ⟨b, hb, by omega⟩)
structure SpanAt (C : Addr) (H : Hp) (s d l : Addr) (us : List Nat) : Prop where
  s : ∃ dx, H s = some (.ins C dx [("basis", .ref d), ("lengths", .ref l)])
  d : H d = some (.dK (kvB (basisOf us)))
  l : H l = some (.lst ((lensOf us).map nV))
theorem SpanAt.kp {C s d l : Addr} {H H1 : Hp} {us : List Nat} {cs : List Addr} (h : SpanAt C H s d l us) (k : Kp cs H H1) (n1 : s ∉ cs) (n2 : d ∉ cs) (n3 : l ∉ cs) : SpanAt C H1 s d l us := by
  obtain ⟨⟨dx, e⟩, e2, e3⟩ := h
  exact ⟨⟨dx, k.at_ _ _ e n1⟩, k.at_ _ _ e2 n2, k.at_ _ _ e3 n3⟩
theorem SpanAt.same {C s d l : Addr} {H H1 : Hp} {us : List Nat} (h : SpanAt C H s d l us) (k : Same H H1) : SpanAt C H1 s d l us := h.kp (cs := []) (kp_same k) not_nil not_nil not_nil
theorem SpanAt.ne {C s d l : Addr} {H : Hp} {us : List Nat} (h : SpanAt C H s d l us) : s ≠ d ∧ s ≠ l ∧ d ≠ l := by
  obtain ⟨⟨dx, e⟩, e2, e3⟩ := h
  exact ⟨neO e e2 (fun z => nomatch z), neO e e3 (fun z => nomatch z), neO e2 e3 (fun z => nomatch z)⟩
section
variable {P : Program} {w : World} {K : PySem.W.Frag} {mg : Str → Option Value} {base : Heap}
def spRed (C : Addr) : Sp := fun vs H Q _ => ∃ (s d l : Addr) (us : List Nat) (n : Nat), vs = [.ref s, .int (n : Int)] ∧ SpanAt C H s d l us ∧ Q (.int (red (basisOf us) n : Nat)) H
theorem ok_red (T : Txt K mg) : FnOk P w K mg base CX0 1 T.f_Span_reduced T.d_Span_reduced ["self", "integer"] (spRed T.C_Span) := by
  refine T.F_Span_reduced.ok sc_Span_reduced (fun vs H Q E h => ?_) (fun cdv A outer s H vs Q E hr h => ?_)
  · obtain ⟨s, d, l, us, n, rfl, _⟩ := h
    rfl
  · obtain ⟨s, d, l, us, n, rfl, ⟨⟨dx, hs⟩, hd, hl⟩, q⟩ := h
    refine ⟨_, (pss_cons (ps_set (i := 2) sc_Span_reduced.nd rfl (.inl rfl) (pv 1))
      (pss_cons (ps_while PassesOwn.never (PW.pt (pw_and (pt_cmpR op_gt (pv 2) pe_int (nomark _)) (pw_and1 (pt_cmp (pc_din (hu_of hr) (pe_bits (pv 2)) (pe_fld (pv 0) rfl)))))) (pss_one (ps_aug (i := 2) sc_Span_reduced.nd rfl (.inl rfl) (pe_dget (hu_of hr) (pe_fld (pv 0) rfl) (pe_bits (pv 2)) (fun _ _ => rfl)) iop_xor)))
      (pss_one (ps_ret (pv 2))))), ?_⟩
    have E1 := (ech_basis us).1
    refine ⟨_, rfl, ?_⟩
    refine while_by (fun σ H' => H' = H ∧ ∃ r : Nat, σ = [some (.ref s), some (.int (n : Int)), some (.int (r : Int))] ∧ red (basisOf us) r = red (basisOf us) n) (fun σ _ => match σ[2]? with
      | some (some (V.int r)) => r.toNat
      | _ => 0) ⟨rfl, n, rfl, rfl⟩ ?_ ?_
    · rintro σ H' ⟨rfl, r, rfl, he⟩
      o_readsAll
      refine ite2 (fun e => ?_) (fun e => ?_)
      · have h0 : r ≠ 0 := by
          have := of_decide_eq_true e
          omega
        have hg : DGet H' d (.int ((Builtin.Int.intBits (r : Int) : Nat) : Int)) (valV (kvB (basisOf us)) (Sum.inl ((r.log2 + 1 : Nat) : Int))) := by
          rw [bits_nat h0]
          exact DGet.k (k := Sum.inl ((r.log2 + 1 : Nat) : Int)) hd
        rw [kvB_val] at hg
        o_readsAll
        refine ⟨_, rfl, hg, ?_⟩
        cases hf : (basisOf us).find? (fun b : Nat => b.log2 == r.log2) with
        | none =>
          refine ⟨false, rfl, ?_⟩
          refine ifF rfl ?_
          o_readsAll
          rw [← he, red_none hf] at q
          exact q
        | some b =>
          refine ⟨true, rfl, ?_⟩
          refine ifT rfl ?_
          rw [hf] at hg
          o_readsAll
          have ex : Builtin.bitXor (r : Int) (b : Int) = ((r ^^^ b : Nat) : Int) := by
            rw [Bits.bitXor_pp (by omega) (by omega)]
            rfl
          obtain ⟨e1, e2⟩ := red_some E1 h0 hf
          refine ⟨⟨rfl, r ^^^ b, ?_, e1.symm.trans he⟩, ?_⟩
          · rw [← ex]
            rfl
          · show (Builtin.bitXor (r : Int) (b : Int)).toNat < (r : Int).toNat
            rw [ex]
            omega
      · have h0 : r = 0 := by
          have : ¬ ((0 : Int) < (r : Int)) := fun z => e (dT z)
          omega
        refine ifF rfl ?_
        o_readsAll
        rw [← he, h0, red_zero] at q
        rw [h0]
        exact q
    · rintro σ H' Q1 Q2 m ⟨x, hx, i, j, e1, e2, c, e3, h⟩
      refine ⟨x, hx, i, j, e1, e2, c, e3, ?_⟩
      cases c with
      | false => exact m _ _ h
      | true =>
        dsimp only [tB, tDIn, tBits, tVar, tFld] at h ⊢
        rw [if_pos rfl] at h ⊢
        obtain ⟨v, a1, i', a2, v', a3, a, C, dx', fs, v1, a4, a5, a6, a7, a8, a', o, a9, a10, c', a11, h⟩ := h
        exact ⟨v, a1, i', a2, v', a3, a, C, dx', fs, v1, a4, a5, a6, a7, a8, a', o, a9, a10, c', a11, m _ _ h⟩
end
end Sn
end Ob

set_option Elab.async false
set_option linter.all false
set_option maxRecDepth 100000
set_option maxHeartbeats 1000000
namespace Ob
open PySem PySem.Spec PyProof.Rows L2
open LamX (Tabs TabB TabS ExtN)

set_option hygiene false in
local macro_rules
  | `(tactic| kp_flats) => `(tactic| first
    | assumption
    | exact upd_same
    | (apply atNew; assumption; kp_flats)
    | (apply atNe; (next => kbo_bools); kp_flats)
    | (apply atSame; assumption; kp_flats)
    | (apply atKp; assumption; (next => kaf_pre); kp_flats))
set_option hygiene false in
local macro_rules
  | `(tactic| kaf_pre) => `(tactic| first
    | assumption
    | exact not_nil
    | (apply not_cons; (next => kbo_bools); kaf_pre)
    | (apply not_app; (next => kaf_pre); kaf_pre))
set_option hygiene false in
local macro_rules
  | `(tactic| kbo_bools) => `(tactic| first
    | assumption
    | (apply Ne.symm; assumption)
    | (apply neN; assumption; kp_flats)
    | (apply neN'; assumption; kp_flats))
set_option hygiene false in
local macro_rules
  | `(tactic| o_reads) => `(tactic| first
    | with_reducible rfl
    | assumption
    | rfl
    | kp_flats
    | (show SqL _ _ _ _; first | assumption | (apply sqlOf; kp_flats) | (apply sqlSame; assumption; o_reads))
    | (show SqT _ _ _ _; first | assumption | (apply sqtOf; kp_flats) | (apply sqtAll; assumption) | (apply sqtSame; assumption; o_reads))
    | (show Cls _ _; first | exact T.cl_Unions | exact T.cl_Span)
    | (show NoAttr _ _ _; first | exact T.n_Unions_groups | exact T.n_Unions_parents | exact T.n_Unions_counts | exact T.n_Unions_moved | exact T.n_Span_basis | exact T.n_Span_lengths)
    | (apply Or.inl; o_reads)
    | (apply Or.inr; o_reads)
    | (apply And.intro; (next => o_reads); o_reads)
    | (apply Exists.intro; o_reads)
    | exact Nat.le_of_ble_eq_true rfl
    | exact Nat.succ_ne_zero _
    | (show Fr _ _; kba_ints)
    | (show Same _ _; kd_subs)
    | (show Kp _ _ _; kxs_still)
    | (show (_ : Nat) ≤ _; simp only [List.length_append, List.length_map, List.length_cons, List.length_nil, List.length_take, List.length_drop, List.length_replicate, List.length_range, sizeLine_eq]; omega)
    | (show _ = none; apply Fr.h; kba_ints)
    | (show Bag _ _; first | assumption | (apply bag_putF; assumption; o_reads) | (apply bag_neF; (next => kbo_bools); o_reads) | (apply bag_kpR; assumption; (next => kaf_pre); o_reads))
    | omega
    | decide)
local macro_rules
  | `(tactic| o_readsAll) => `(tactic| repeat (first
    | (refine fun (pNew : Addr) (nNew : _ = none) => ?_; replace nNew := Fr.mk nNew)
    | (refine fun (xNew dNew : Addr) (nNew : _ = none) (mNew : _ = none) (eNew : dNew ≠ xNew) => ?_; replace nNew := Fr.mk nNew; replace mNew := Fr.mk mNew)
    | (apply And.intro; next => o_reads)
    | apply Exists.intro (α := V)
    | apply Exists.intro (α := Addr)
    | apply Exists.intro (α := Int)
    | apply Exists.intro (α := Bool)
    | apply Exists.intro (α := List V)
    | apply Exists.intro (α := List Nat)
    | apply Exists.intro (α := List (Str × V))
    | apply Exists.intro (α := List _)
    | apply Exists.intro (α := Str)
    | apply Exists.intro (α := HO)
    | apply Exists.intro (α := Sp)
    | apply Exists.intro (α := VK)))
set_option hygiene false in
local macro_rules
  | `(tactic| kba_ints) => `(tactic| first
    | assumption
    | (apply frUp; (first | assumption | (apply Ne.symm; assumption)); kba_ints)
    | (apply noneOf; assumption; intro oF eF; apply Exists.intro; kp_flats)
    | (apply frUp; (next => kbo_bools); kba_ints))
set_option hygiene false in
local macro_rules
  | `(tactic| kxs_still) => `(tactic| first
    | assumption
    | exact kp_refl _ _
    | (apply kp_newF; assumption; kxs_still)
    | (apply kp_new; assumption; kxs_still)
    | (apply kp_up; (next => o_fieldsN); kxs_still)
    | (apply kp_new; (next => kba_ints); kxs_still)
    | (apply kp_sameR; assumption; kxs_still)
    | (apply kp_transR; assumption; kxs_still)
    | (apply kp_freshR; assumption; (next => kaf_suf); kxs_still))
set_option hygiene false in
local macro_rules
  | `(tactic| kaf_suf) => `(tactic| first
    | assumption
    | exact subNil
    | (apply subCons; (first | (apply Or.inl; o_fieldsN) | (apply Or.inr; kba_ints)); kaf_suf)
    | (apply subApp; (next => kaf_suf); kaf_suf))
set_option hygiene false in
local macro_rules
  | `(tactic| o_fieldsN) => `(tactic| first
    | assumption
    | exact memA
    | (apply memB; o_fieldsN)
    | (apply memL; o_fieldsN)
    | (apply memR; o_fieldsN))
set_option hygiene false in
local macro_rules
  | `(tactic| kd_subs) => `(tactic| first
    | assumption
    | exact Same.refl _
    | (apply same_putF; assumption; kd_subs)
    | (apply same_putG; assumption; kd_subs)
    | (apply same_putF; (next => kba_ints); kd_subs)
    | (apply same_transR; assumption; kd_subs))


namespace Sn
section
variable {P : Program} {w : World} {K : PySem.W.Frag} {mg : Str → Option Value} {base : Heap}
def spSI (C : Addr) : Sp := fun vs H Q _ => ∃ (s dx : Addr), vs = [.ref s] ∧ H s = some (.ins C dx []) ∧ ∀ d l H', Fr H d → Fr H l → Kp [s] H H' → SpanAt C H' s d l [] → Q .non H'
theorem ok_si (T : Txt K mg) : FnOk P w K mg base CX0 1 T.f_Span_init T.d_Span_init ["self"] (spSI T.C_Span) := by
  refine T.F_Span_init.ok sc_Span_init (fun vs H Q E h => ?_) (fun cdv A outer s H vs Q E hr h => ?_)
  · obtain ⟨s, dx, rfl, _⟩ := h
    rfl
  · obtain ⟨s, dx, rfl, hs, q⟩ := h
    refine ⟨_, (pss_cons (ps_fld (pv 0) pe_dnewK rfl)
      (pss_one (ps_fld (pv 0) (pe_lst pa_nil) rfl))), ?_⟩
    o_readsAll
    rename_i d nd l nl
    exact q d l _ (by kba_ints) (by kba_ints) (by kxs_still) ⟨⟨dx, by kp_flats⟩, by kp_flats, by kp_flats⟩
theorem bits_eq (n : Nat) : ((Builtin.Int.intBits (n : Int) : Nat) : Int) = (bitsN n : Nat) := by
  unfold bitsN
  by_cases h : n = 0
  · rw [if_pos h, h]
    rfl
  · rw [if_neg h, bits_nat h]
def spPush (C : Addr) : Sp := fun vs H Q _ => ∃ (s d l : Addr) (us : List Nat) (n : Nat), vs = [.ref s, .int (n : Int)] ∧ SpanAt C H s d l us ∧ us.length ≤ 1000 ∧ ∀ H', Kp [d, l] H H' → SpanAt C H' s d l (us ++ [n]) → Q .non H'
theorem ok_push (T : Txt K mg) : FnOk P w K mg base CX0 2 T.f_Span_push T.d_Span_push ["self", "integer"] (spPush T.C_Span) := by
  have G_Span_reduced := ok_red (P := P) (w := w) (base := base) T
  refine T.F_Span_push.ok sc_Span_push (fun vs H Q E h => ?_) (fun cdv A outer s H vs Q E hr h => ?_)
  · obtain ⟨s, d, l, us, n, rfl, _⟩ := h
    rfl
  · obtain ⟨s, d, l, us, n, rfl, hS, hle, q⟩ := h
    refine ⟨_, (pss_cons (ps_set (i := 2) sc_Span_push.nd rfl (.inl rfl) (pe_meth (pv 0) T.cl_Span ⟨T.m_Span_reduced, T.t_Span_reduced, T.k_Span_reduced⟩ G_Span_reduced (hr.mono (by omega)) T.b_Span_reduced .nil pass0 (pa_cons (pv 1) pa_nil)))
      (pss_cons (ps_if (pt_cmpR op_gt (pv 2) pe_int (nomark _)) (pss_one (ps_dput (hu_of hr) (pe_fld (pv 0) rfl) (pe_bits (pv 2)) (pv 2) rfl)) pss_nil)
      (pss_one (ps_expr (pe_bm PySem.F.plainAttrs_list PySem.F.slot_list_append PySem.F.type_list_append mt_append (pe_fld (pv 0) rfl) (pa_cons (pe_bits (pv 2)) pa_nil)))))), ?_⟩
    obtain ⟨n1, n2, n3⟩ := hS.ne
    have hS' := hS
    obtain ⟨⟨dx, hs⟩, hd, hl⟩ := hS'
    have bl := basis_len us
    have ll := lens_len us
    o_readsAll
    have ef : ∀ H' : Hp, upd H' l (.lst ((lensOf us).map nV ++ [.int ((Builtin.Int.intBits ((red (basisOf us) n : Nat) : Int) : Nat) : Int)])) l = some (.lst ((lensOf (us ++ [n])).map nV)) := fun H' => by
      rw [upd_same, lens_app, List.map_append, bits_eq]
      rfl
    refine ite2 (fun e => ?_) (fun e => ?_)
    · have h0 : red (basisOf us) n ≠ 0 := by
        have := of_decide_eq_true e
        omega
      have hb : basisOf (us ++ [n]) = basisOf us ++ [red (basisOf us) n] := by
        rw [basis_app]
        exact if_neg h0
      have hP : DPut H d (.int ((Builtin.Int.intBits ((red (basisOf us) n : Nat) : Int) : Nat) : Int)) (.int ((red (basisOf us) n : Nat) : Int)) (upd H d (.dK (kvB (basisOf (us ++ [n]))))) := by
        have E := ech_basis us
        have nk : (red (basisOf us) n).log2 ∉ (basisOf us).map Nat.log2 := ((redF_spec (basisOf us) E.1 _ n (lg_lt n)).2).resolve_left h0
        have := DPut.k (k := Sum.inl (((red (basisOf us) n).log2 + 1 : Nat) : Int)) (v := .int ((red (basisOf us) n : Nat) : Int)) hd (by
          show ((basisOf us).map _).length < sizeLine
          rw [List.length_map, sizeLine_eq]
          omega)
        rw [putK_new _ (kvB_not nk)] at this
        rw [bits_nat h0, hb, kvB_app]
        exact this
      o_readsAll
      refine ⟨_, rfl, hP, ?_⟩
      o_readsAll
      exact q _ (by kxs_still) ⟨⟨dx, by kp_flats⟩, by kp_flats, ef _⟩
    · have h0 : red (basisOf us) n = 0 := by
        have : ¬ ((0 : Int) < ((red (basisOf us) n : Nat) : Int)) := fun z => e (dT z)
        omega
      have hb : basisOf (us ++ [n]) = basisOf us := by
        rw [basis_app]
        exact if_pos h0
      o_readsAll
      exact q _ (by kxs_still) ⟨⟨dx, by kp_flats⟩, by rw [hb]; kp_flats, ef _⟩
theorem last_at {α : Type} (xs : List α) (v : α) : (xs ++ [v])[(xs ++ [v]).length - 1]? = some v := by
  rw [List.length_append]
  exact List.getElem?_concat_length ..
theorem dropK_last {kvs : List (Key × V)} {k : Key} {v : V} (h : ¬ k ∈ kvs.map (·.1)) : dropK (kvs ++ [(k, v)]) k = kvs := by
  have e : dropK (kvs ++ [(k, v)]) k = dropK kvs k ++ dropK [(k, v)] k := by
    unfold dropK
    exact List.filter_append ..
  rw [e, dropK_no h, dropK_pos rfl]
  exact List.append_nil _
def spPop (C : Addr) : Sp := fun vs H Q _ => ∃ (s d l : Addr) (us : List Nat) (n : Nat), vs = [.ref s] ∧ SpanAt C H s d l (us ++ [n]) ∧ us.length ≤ 1000 ∧ ∀ H', Kp [d, l] H H' → SpanAt C H' s d l us → Q .non H'
theorem ok_pop (T : Txt K mg) : FnOk P w K mg base CX0 1 T.f_Span_pop T.d_Span_pop ["self"] (spPop T.C_Span) := by
  refine T.F_Span_pop.ok sc_Span_pop (fun vs H Q E h => ?_) (fun cdv A outer s H vs Q E hr h => ?_)
  · obtain ⟨s, d, l, us, n, rfl, _⟩ := h
    rfl
  · obtain ⟨s, d, l, us, n, rfl, hS, hle, q⟩ := h
    refine ⟨_, (pss_cons (ps_set (i := 1) sc_Span_pop.nd rfl (.inl rfl) (pe_bm0 PySem.F.plainAttrs_list PySem.F.slot_list_pop PySem.F.type_list_pop mt_pop (pe_fld (pv 0) rfl)))
      (pss_one (ps_if (pt_cmpR op_gt (pv 1) pe_int (nomark _)) (pss_one (ps_ddel (pe_fld (pv 0) rfl) (pv 1))) pss_nil))), ?_⟩
    obtain ⟨n1, n2, n3⟩ := hS.ne
    obtain ⟨⟨dx, hs⟩, hd, hl⟩ := hS
    have ll := lens_len us
    have hl2 : H l = some (.lst ((lensOf us).map nV ++ [nV (bitsN (red (basisOf us) n))])) := by
      rw [hl, lens_app, List.map_append]
      rfl
    o_readsAll
    refine ⟨last_at _ _, ?_⟩
    rw [List.dropLast_concat]
    o_readsAll
    have eb : basisOf (us ++ [n]) = stepB (basisOf us) n := basis_app ..
    refine ite2 (fun e => ?_) (fun e => ?_)
    · have h0 : red (basisOf us) n ≠ 0 := fun z => by
        have := of_decide_eq_true e
        rw [z] at this
        exact absurd this (by decide)
      have E1 := ech_basis us
      have nk : (red (basisOf us) n).log2 ∉ (basisOf us).map Nat.log2 := ((redF_spec (basisOf us) E1.1 _ n (lg_lt n)).2).resolve_left h0
      have eb2 : kvB (basisOf (us ++ [n])) = kvB (basisOf us) ++ [(Sum.inl (((red (basisOf us) n).log2 + 1 : Nat) : Int), V.int ((red (basisOf us) n : Nat) : Int))] := by
        rw [eb]
        unfold stepB
        rw [if_neg h0, kvB_app]
        rfl
      have hk : nV (bitsN (red (basisOf us) n)) = kV (Sum.inl (((red (basisOf us) n).log2 + 1 : Nat) : Int)) := by
        unfold bitsN nV
        rw [if_neg h0]
        rfl
      have hv : (valV (kvB (basisOf (us ++ [n]))) (Sum.inl (((red (basisOf us) n).log2 + 1 : Nat) : Int))).isSome = true := by
        rw [eb2, valV_snoc _ _ _ _ (kvB_not nk), if_pos rfl]
        rfl
      have hd2 : upd H l (.lst ((lensOf us).map nV)) d = some (.dK (kvB (basisOf (us ++ [n])))) := by kp_flats
      o_readsAll
      refine ⟨_, rfl, hd2, hk, hv, ?_⟩
      rw [eb2, dropK_last (kvB_key nk)]
      exact q _ (by kxs_still) ⟨⟨dx, by kp_flats⟩, by kp_flats, by kp_flats⟩
    · have h0 : red (basisOf us) n = 0 := Decidable.byContradiction fun z => e (dT (by
        unfold bitsN
        rw [if_neg z]
        omega))
      have hb : basisOf (us ++ [n]) = basisOf us := by
        rw [eb]
        exact if_pos h0
      rw [hb] at hd
      exact q _ (by kxs_still) ⟨⟨dx, by kp_flats⟩, by kp_flats, by kp_flats⟩
def spAsk (C : Addr) : Sp := fun vs H Q _ => ∃ (s d l qq : Addr) (us : List Nat), vs = [.ref s, .ref qq] ∧ SpanAt C H s d l us ∧ ((H qq = some (.tup [.str "rank"]) ∧ Q (.int ((basisOf us).length : Nat)) H) ∨ ∃ n : Nat, H qq = some (.tup [.str "holds", .int (n : Int)]) ∧ Q (.bl (decide (red (basisOf us) n = 0))) H)
theorem ok_ask (T : Txt K mg) : FnOk P w K mg base CX0 2 T.f_Span_ask T.d_Span_ask ["self", "question"] (spAsk T.C_Span) := by
  have G_Span_reduced := ok_red (P := P) (w := w) (base := base) T
  refine T.F_Span_ask.ok sc_Span_ask (fun vs H Q E h => ?_) (fun cdv A outer s H vs Q E hr h => ?_)
  · obtain ⟨s, d, l, qq, us, rfl, _⟩ := h
    rfl
  · obtain ⟨s, d, l, qq, us, rfl, hS, h⟩ := h
    refine ⟨_, (pss_cons (ps_if (pt_cmpR op_eq (pe_ix (r := rIxT K) ix_tup (pv 1) pe_int (fun _ _ => rfl)) pe_str (nomark _)) (pss_one (ps_ret (pe_cmpR op_eq (pe_meth (pv 0) T.cl_Span ⟨T.m_Span_reduced, T.t_Span_reduced, T.k_Span_reduced⟩ G_Span_reduced (hr.mono (by omega)) T.b_Span_reduced .nil pass0 (pa_cons (pe_ix (r := rIxT K) ix_tup (pv 1) pe_int (fun _ _ => rfl)) pa_nil)) pe_int (nomark _)))) pss_nil)
      (pss_one (ps_ret (pe_callB call_lenD (by rfl) T.z_len (by decide +kernel) (pa_cons (pe_fld (pv 0) rfl) pa_nil))))), ?_⟩
    have hS' := hS
    obtain ⟨⟨dx, hs⟩, hd, hl⟩ := hS'
    rcases h with ⟨hq, q⟩ | ⟨n, hq, q⟩
    · have ha : atI [V.str "rank"] 0 = some (.str "rank") := atI_nat (j := 0) rfl
      o_readsAll
      show Q (.int ((kvB (basisOf us)).length : Nat)) H
      rw [show (kvB (basisOf us)).length = (basisOf us).length from List.length_map ..]
      exact q
    · have ha : atI [V.str "holds", V.int (n : Int)] 0 = some (.str "holds") := atI_nat (j := 0) rfl
      have hb : atI [V.str "holds", V.int (n : Int)] 1 = some (.int (n : Int)) := atI_nat (j := 1) rfl
      o_readsAll
      show Q (.bl (decide (V.int ((red (basisOf us) n : Nat) : Int) = V.int 0))) H
      rw [show decide (V.int ((red (basisOf us) n : Nat) : Int) = V.int 0) = decide (red (basisOf us) n = 0) by
        by_cases z : red (basisOf us) n = 0
        · rw [dT z, z]
          rfl
        · rw [dF z, dF fun y => z (by injection y with y; omega)]]
      exact q
end
end Sn
end Ob

set_option Elab.async false
set_option linter.all false
set_option maxRecDepth 100000
set_option maxHeartbeats 1000000
namespace Ob
open PySem PySem.Spec PyProof.Rows L2
open LamX (Tabs TabB TabS ExtN)

set_option hygiene false in
local macro_rules
  | `(tactic| kp_flats) => `(tactic| first
    | assumption
    | exact upd_same
    | (apply atNew; assumption; kp_flats)
    | (apply atNe; (next => kbo_bools); kp_flats)
    | (apply atSame; assumption; kp_flats)
    | (apply atKp; assumption; (next => kaf_pre); kp_flats))
set_option hygiene false in
local macro_rules
  | `(tactic| kaf_pre) => `(tactic| first
    | assumption
    | exact not_nil
    | (apply not_cons; (next => kbo_bools); kaf_pre)
    | (apply not_app; (next => kaf_pre); kaf_pre))
set_option hygiene false in
local macro_rules
  | `(tactic| kbo_bools) => `(tactic| first
    | assumption
    | (apply Ne.symm; assumption)
    | (apply neN; assumption; kp_flats)
    | (apply neN'; assumption; kp_flats))
set_option hygiene false in
local macro_rules
  | `(tactic| o_reads) => `(tactic| first
    | with_reducible rfl
    | assumption
    | rfl
    | kp_flats
    | (show SqL _ _ _ _; first | assumption | (apply sqlOf; kp_flats) | (apply sqlSame; assumption; o_reads))
    | (show SqT _ _ _ _; first | assumption | (apply sqtOf; kp_flats) | (apply sqtAll; assumption) | (apply sqtSame; assumption; o_reads))
    | (show Cls _ _; first | exact T.cl_Unions | exact T.cl_Span)
    | (show NoAttr _ _ _; first | exact T.n_Unions_groups | exact T.n_Unions_parents | exact T.n_Unions_counts | exact T.n_Unions_moved | exact T.n_Span_basis | exact T.n_Span_lengths)
    | (apply Or.inl; o_reads)
    | (apply Or.inr; o_reads)
    | (apply And.intro; (next => o_reads); o_reads)
    | (apply Exists.intro; o_reads)
    | exact Nat.le_of_ble_eq_true rfl
    | exact Nat.succ_ne_zero _
    | (show Fr _ _; kba_ints)
    | (show Same _ _; kd_subs)
    | (show Kp _ _ _; kxs_still)
    | (show (_ : Nat) ≤ _; simp only [List.length_append, List.length_map, List.length_cons, List.length_nil, List.length_take, List.length_drop, List.length_replicate, List.length_range, sizeLine_eq]; omega)
    | (show _ = none; apply Fr.h; kba_ints)
    | (show Bag _ _; first | assumption | (apply bag_putF; assumption; o_reads) | (apply bag_neF; (next => kbo_bools); o_reads) | (apply bag_kpR; assumption; (next => kaf_pre); o_reads))
    | omega
    | decide)
local macro_rules
  | `(tactic| o_readsAll) => `(tactic| repeat (first
    | (refine fun (pNew : Addr) (nNew : _ = none) => ?_; replace nNew := Fr.mk nNew)
    | (refine fun (xNew dNew : Addr) (nNew : _ = none) (mNew : _ = none) (eNew : dNew ≠ xNew) => ?_; replace nNew := Fr.mk nNew; replace mNew := Fr.mk mNew)
    | (apply And.intro; next => o_reads)
    | apply Exists.intro (α := V)
    | apply Exists.intro (α := Addr)
    | apply Exists.intro (α := Int)
    | apply Exists.intro (α := Bool)
    | apply Exists.intro (α := List V)
    | apply Exists.intro (α := List Nat)
    | apply Exists.intro (α := List (Str × V))
    | apply Exists.intro (α := List _)
    | apply Exists.intro (α := Str)
    | apply Exists.intro (α := HO)
    | apply Exists.intro (α := Sp)
    | apply Exists.intro (α := VK)))
set_option hygiene false in
local macro_rules
  | `(tactic| kba_ints) => `(tactic| first
    | assumption
    | (apply frUp; (first | assumption | (apply Ne.symm; assumption)); kba_ints)
    | (apply noneOf; assumption; intro oF eF; apply Exists.intro; kp_flats)
    | (apply frUp; (next => kbo_bools); kba_ints))
set_option hygiene false in
local macro_rules
  | `(tactic| kxs_still) => `(tactic| first
    | assumption
    | exact kp_refl _ _
    | (apply kp_newF; assumption; kxs_still)
    | (apply kp_new; assumption; kxs_still)
    | (apply kp_up; (next => o_fieldsN); kxs_still)
    | (apply kp_new; (next => kba_ints); kxs_still)
    | (apply kp_sameR; assumption; kxs_still)
    | (apply kp_transR; assumption; kxs_still)
    | (apply kp_freshR; assumption; (next => kaf_suf); kxs_still))
set_option hygiene false in
local macro_rules
  | `(tactic| kaf_suf) => `(tactic| first
    | assumption
    | exact subNil
    | (apply subCons; (first | (apply Or.inl; o_fieldsN) | (apply Or.inr; kba_ints)); kaf_suf)
    | (apply subApp; (next => kaf_suf); kaf_suf))
set_option hygiene false in
local macro_rules
  | `(tactic| o_fieldsN) => `(tactic| first
    | assumption
    | exact memA
    | (apply memB; o_fieldsN)
    | (apply memL; o_fieldsN)
    | (apply memR; o_fieldsN))
set_option hygiene false in
local macro_rules
  | `(tactic| kd_subs) => `(tactic| first
    | assumption
    | exact Same.refl _
    | (apply same_putF; assumption; kd_subs)
    | (apply same_putG; assumption; kd_subs)
    | (apply same_putF; (next => kba_ints); kd_subs)
    | (apply same_transR; assumption; kd_subs))

theorem kp_but {p : Addr} {H H1 : Hp} (b : But p H H1) : Kp [p] H H1 := ⟨fun c o e n => b c o e fun z => n (List.mem_singleton.mpr z)⟩
def spTakeK : Sp := fun vs H Q _ => ∃ (p : Addr) (m : Int), vs = [.ref p, .int m] ∧ Bag H p ∧ 0 < m ∧ m.natAbs < 2 ^ 200 ∧ ∀ r H', 0 ≤ r → r < m → Bag H' p → Kp [p] H H' → Q (.int r) H'
theorem ok_takeK {P : Program} {w : World} {K : PySem.W.Frag} {mg : Str → Option Value} {base : Heap} (T : Txt K mg) : FnOk P w K mg base CX0 1 T.f_l_take T.d_l_take ["_law_bag_here", "_law_many"] spTakeK := by
  have F := ok_take (P := P) (w := w) (base := base) T
  refine ⟨fun vs H Q E h => ?_, fun A outer s H args us vs Q E hr e0 hb r h => F.run A outer s H args us vs Q E hr e0 hb r ?_⟩
  · obtain ⟨p, m, rfl, _⟩ := h
    rfl
  · obtain ⟨p, m, e, h1, h2, h3, q⟩ := h
    exact ⟨p, m, e, h1, h2, h3, fun r H' a b c d => q r H' a b c (kp_but d)⟩
theorem bag_neF {p q : Addr} {H : Hp} {o : HO} (n : p ≠ q) (b : Bag H p) : Bag (upd H q o) p := by
  obtain ⟨g, m, c, e, z⟩ := b
  exact ⟨g, m, c, (upd_ne n).trans e, z⟩
theorem tabsN_kp {T : List NdefX.NTab} {cs : List Addr} {H H1 : Hp} (t : NdefX.TabsN T H) (k : Kp cs H H1) (n : ∀ a ∈ cs, ∃ o, H a = some o ∧ (∀ ps, o ≠ .tbl ps) ∧ ∀ φ, o ≠ .ext φ) : NdefX.TabsN T H1 := fun p hp => by
  obtain ⟨ps, h1, h2, h3⟩ := t p hp
  refine ⟨ps, k.at_ _ _ h1 (fun m => ?_), h2, fun pos cv hc => ?_⟩
  · obtain ⟨o, e, n1, _⟩ := n _ m
    rw [h1] at e
    exact n1 ps (Option.some.inj e).symm
  · obtain ⟨c, e1, e2⟩ := h3 pos cv hc
    refine ⟨c, e1, k.at_ _ _ e2 fun m => ?_⟩
    obtain ⟨o, e, _, n2⟩ := n _ m
    rw [e2] at e
    exact n2 _ (Option.some.inj e).symm

/-- either of two readings -/
def tEither (a b : TE) : TE := fun σ H Q => a σ H Q ∨ b σ H Q
theorem pe_or {X : Cx} {e : Expr} {a b : TE} (h : PE X e a) (k : PE X e b) : PE X e (tEither a b) := ⟨fun pins s σ H Q I z => z.elim (h.run pins s σ H Q I) (k.run pins s σ H Q I)⟩

set_option pp.maxSteps 900
def num (p : Nat × Nat) : Nat := p.1 * 8 + p.2
/-- one of the two structures -/
def StA (CU CS : Addr) (H : Hp) (s d1 d2 d3 : Addr) (f : Bool) (ps : List (Nat × Nat)) : Prop :=
  if f = true then UnAt CU H s d1 d2 d3 12 ps else Sn.SpanAt CS H s d1 d2 (ps.map num)
def fV (f : Bool) : V := .int (if f = true then 0 else 1)
def szV (ps : List (Nat × Nat)) : List V := (List.range 12).map fun k => Qn.ans 12 ps (.size k)
def saV (ps : List (Nat × Nat)) (j : Nat) : List V := (List.range 12).map fun k => Qn.ans 12 ps (.same k j)
def hoV (us : List Nat) : List V := (List.range 80).map fun k : Nat => V.bl (decide (Sn.red (Sn.basisOf us) k = 0))
def ansV (f : Bool) (ps : List (Nat × Nat)) : List V := if f = true then [Qn.ans 12 ps .groups] ++ szV ps ++ saV ps 0 ++ saV ps 5 ++ saV ps 11 else [V.int ((Sn.basisOf (ps.map num)).length : Nat)] ++ hoV (ps.map num)
theorem same_kp {cs : List Addr} {H0 H H1 : Hp} (s : Same H0 H) (k : Kp cs H H1) (f : ∀ x ∈ cs, Fr H0 x) : Same H0 H1 := fun b o e => k.at_ b o (s b o e) fun m => ne_of_none e (f b m).h rfl
def accV (ps : List (Nat × Nat)) (i : Nat) : List V := ([Qn.ans 12 ps .groups] ++ szV ps) ++ ((([0, 5, 11] : List Nat).take i).flatMap (saV ps))
theorem acc_end (ps : List (Nat × Nat)) : accV ps 3 = ansV true ps := by
  show ([Qn.ans 12 ps .groups] ++ szV ps) ++ (saV ps 0 ++ (saV ps 5 ++ (saV ps 11 ++ []))) = [Qn.ans 12 ps .groups] ++ szV ps ++ saV ps 0 ++ saV ps 5 ++ saV ps 11
  simp only [List.append_nil, List.append_assoc]
theorem acc_step {ps : List (Nat × Nat)} {i j : Nat} (h : ([0, 5, 11] : List Nat)[i]? = some j) : accV ps (i + 1) = accV ps i ++ saV ps j := by
  unfold accV
  rw [List.take_add_one, h, List.flatMap_append]
  rw [show ((some j).toList.flatMap (saV ps)) = saV ps j ++ [] from rfl, List.append_nil]
  simp only [List.append_assoc]
theorem fm_len (ps : List (Nat × Nat)) : ∀ l : List Nat, (l.flatMap (saV ps)).length = 12 * l.length
  | [] => rfl
  | j :: l => by
    rw [List.flatMap_cons, List.length_append, fm_len ps l, List.length_cons]
    rw [show (saV ps j).length = 12 by unfold saV; rw [List.length_map, List.length_range]]
    omega
theorem acc_len (ps : List (Nat × Nat)) (i : Nat) : (accV ps i).length ≤ 49 := by
  unfold accV
  rw [List.length_append, fm_len, List.length_append, List.length_take]
  rw [show (szV ps).length = 12 by unfold szV; rw [List.length_map, List.length_range]]
  have : ([0, 5, 11] : List Nat).length = 3 := rfl
  rw [this]
  show 1 + 12 + _ ≤ _
  omega
section
variable {P : Program} {w : World} {K : PySem.W.Frag} {mg : Str → Option Value} {base : Heap}
def spMade (CU CS : Addr) : Sp := fun vs H Q _ => ∃ f : Bool, vs = [fV f] ∧ ∀ s d1 d2 d3 H', Fr H s → Fr H d1 → Fr H d2 → Fr H d3 → Same H H' → StA CU CS H' s d1 d2 d3 f [] → (f = false → d3 = d1) → Q (.ref s) H'
theorem ok_made (T : Txt K mg) : FnOk P w K mg base CX0 3 T.f_l_made T.d_l_made ["_law_form"] (spMade T.C_Unions T.C_Span) := by
  have G_Unions_init := fnBx (ok_ui (P := P) (w := w) (base := base) T)
  have G_Span_init := fnBx (Sn.ok_si (P := P) (w := w) (base := base) T)
  refine T.F_l_made.ok sc_l_made (fun vs H Q E h => ?_) (fun cdv A outer s H vs Q E hr h => ?_)
  · obtain ⟨f, rfl, _⟩ := h
    rfl
  · obtain ⟨f, rfl, q⟩ := h
    refine ⟨_, (pss_cons (ps_if (pt_cmpR op_eq (pv 0) pe_int (nomark _)) (pss_one (ps_ret (pe_make ⟨T.mk_Unions, T.m_Unions_init, T.t_Unions_init, T.kp_Unions⟩ G_Unions_init (hr.mono (by omega)) rfl T.gc_Unions T.b_Unions_init .nil pass0 (pa_cons pe_int pa_nil)))) pss_nil)
      (pss_one (ps_ret (pe_make0 ⟨T.mk_Span, T.m_Span_init, T.t_Span_init, T.kp_Span⟩ G_Span_init (hr.mono (by omega)) rfl T.gc_Span T.b_Span_init .nil pass0)))), ?_⟩
    cases f with
    | true =>
      rw [show fV true = V.int 0 from rfl]
      o_readsAll
      rename_i s dx nsd fs fdx
      refine ⟨⟨s, dx, 12, rfl, upd_same, fun dp dc m H1 fdp fdc fm k1 U1 => ?_⟩⟩
      refine ⟨rfl, ?_⟩
      have kk : Kp [s] H H1 := by kxs_still
      exact q s dp dc m H1 fs (by kba_ints) (by kba_ints) (by kba_ints) (same_kp (Same.refl H) kk (subCons fs subNil)) U1 (fun z => nomatch z)
    | false =>
      rw [show fV false = V.int 1 from rfl]
      o_readsAll
      rename_i s dx nsd fs fdx
      refine ⟨⟨s, dx, rfl, upd_same, fun d l H1 fd fl k1 U1 => ?_⟩⟩
      refine ⟨rfl, ?_⟩
      have kk : Kp [s] H H1 := by kxs_still
      have fD : Fr H d := by kba_ints
      exact q s d l d H1 fs fD (by kba_ints) fD (same_kp (Same.refl H) kk (subCons fs subNil)) U1 (fun _ => rfl)
def spAnswers (CU CS : Addr) : Sp := fun vs H Q _ => ∃ (s d1 d2 d3 : Addr) (f : Bool) (ps : List (Nat × Nat)), vs = [.ref s, fV f] ∧ StA CU CS H s d1 d2 d3 f ps ∧ ∀ o H', Fr H o → Same H H' → H' o = some (.lst (ansV f ps)) → Q (.ref o) H'
theorem ok_answers (T : Txt K mg) : FnOk P w K mg base CX0 3 T.f_l_answers T.d_l_answers ["_law_structure", "_law_form"] (spAnswers T.C_Unions T.C_Span) := by
  have G_Unions_ask := fnBx (ok_ask (P := P) (w := w) (base := base) T)
  have G_Span_ask := fnBx (Sn.ok_ask (P := P) (w := w) (base := base) T)
  refine T.F_l_answers.ok sc_l_answers (fun vs H Q E h => ?_) (fun cdv A outer s H vs Q E hr h => ?_)
  · obtain ⟨s, d1, d2, d3, f, ps, rfl, _⟩ := h
    rfl
  · obtain ⟨s, d1, d2, d3, f, ps, rfl, hS, q⟩ := h
    refine ⟨_, (pss_cons (ps_if (pt_cmpR op_eq (pv 1) pe_int (nomark _)) (pss_cons (ps_set (i := 2) sc_l_answers.nd rfl (.inl rfl) (pe_op op_cat (pe_lst (pa_cons (pe_or (pe_meth (pv 0) T.cl_Unions ⟨T.m_Unions_ask, T.t_Unions_ask, T.k_Unions_ask⟩ G_Unions_ask (hr.mono (by omega)) T.b_Unions_ask .nil pass0 (pa_cons (pe_tup (pa_cons pe_str pa_nil)) pa_nil)) (pe_meth (pv 0) T.cl_Span ⟨T.m_Span_ask, T.t_Span_ask, T.k_Span_ask⟩ G_Span_ask (hr.mono (by omega)) T.b_Span_ask .nil pass0 (pa_cons (pe_tup (pa_cons pe_str pa_nil)) pa_nil))) pa_nil)) (pe_lc (own := [("_law_one", 5)]) (g := gName 5) (tt := tYes) rfl sc_l_answers.nd (pi_range1 (by rfl) T.z_range (pa_cons pe_int pa_nil)) (blkOk_by (N := n_l_answers) (sc := defScope s_l_answers) (by decide +kernel)) (fun _ _ _ _ _ => (pg_name (i := 5) sc_l_answers.nd rfl (.inl rfl))) (fun _ _ _ _ _ => pts_nil) (fun _ _ _ _ _ => (pe_or (pe_meth (pv 0) T.cl_Unions ⟨T.m_Unions_ask, T.t_Unions_ask, T.k_Unions_ask⟩ G_Unions_ask (hr.mono (by omega)) T.b_Unions_ask .nil pass0 (pa_cons (pe_tup (pa_cons pe_str (pa_cons (pv 5) pa_nil))) pa_nil)) (pe_meth (pv 0) T.cl_Span ⟨T.m_Span_ask, T.t_Span_ask, T.k_Span_ask⟩ G_Span_ask (hr.mono (by omega)) T.b_Span_ask .nil pass0 (pa_cons (pe_tup (pa_cons pe_str (pa_cons (pv 5) pa_nil))) pa_nil)))))))
        (pss_cons (ps_for PassesOwn.never rfl (pi_list (pe_lst (pa_cons pe_int (pa_cons pe_int (pa_cons pe_int pa_nil))))) (pg_name (i := 3) sc_l_answers.nd rfl (.inr rfl)) (pss_one (ps_set (i := 2) sc_l_answers.nd rfl (.inl rfl) (pe_op op_cat (pv 2) (pe_lc (own := [("_law_one", 5)]) (g := gName 5) (tt := tYes) rfl sc_l_answers.nd (pi_range1 (by rfl) T.z_range (pa_cons pe_int pa_nil)) (blkOk_by (N := n_l_answers) (sc := defScope s_l_answers) (by decide +kernel)) (fun _ _ _ _ _ => (pg_name (i := 5) sc_l_answers.nd rfl (.inl rfl))) (fun _ _ _ _ _ => pts_nil) (fun _ _ _ _ _ => (pe_or (pe_meth (pv 0) T.cl_Unions ⟨T.m_Unions_ask, T.t_Unions_ask, T.k_Unions_ask⟩ G_Unions_ask (hr.mono (by omega)) T.b_Unions_ask .nil pass0 (pa_cons (pe_tup (pa_cons pe_str (pa_cons (pv 5) (pa_cons (pv 3) pa_nil)))) pa_nil)) (pe_meth (pv 0) T.cl_Span ⟨T.m_Span_ask, T.t_Span_ask, T.k_Span_ask⟩ G_Span_ask (hr.mono (by omega)) T.b_Span_ask .nil pass0 (pa_cons (pe_tup (pa_cons pe_str (pa_cons (pv 5) (pa_cons (pv 3) pa_nil)))) pa_nil)))))))))
        (pss_one (ps_ret (pv 2))))) pss_nil)
      (pss_one (ps_ret (pe_op op_cat (pe_lst (pa_cons (pe_or (pe_meth (pv 0) T.cl_Unions ⟨T.m_Unions_ask, T.t_Unions_ask, T.k_Unions_ask⟩ G_Unions_ask (hr.mono (by omega)) T.b_Unions_ask .nil pass0 (pa_cons (pe_tup (pa_cons pe_str pa_nil)) pa_nil)) (pe_meth (pv 0) T.cl_Span ⟨T.m_Span_ask, T.t_Span_ask, T.k_Span_ask⟩ G_Span_ask (hr.mono (by omega)) T.b_Span_ask .nil pass0 (pa_cons (pe_tup (pa_cons pe_str pa_nil)) pa_nil))) pa_nil)) (pe_lc (own := [("_law_integer", 4)]) (g := gName 4) (tt := tYes) rfl sc_l_answers.nd (pi_range1 (by rfl) T.z_range (pa_cons pe_int pa_nil)) (blkOk_by (N := n_l_answers) (sc := defScope s_l_answers) (by decide +kernel)) (fun _ _ _ _ _ => (pg_name (i := 4) sc_l_answers.nd rfl (.inl rfl))) (fun _ _ _ _ _ => pts_nil) (fun _ _ _ _ _ => (pe_or (pe_meth (pv 0) T.cl_Unions ⟨T.m_Unions_ask, T.t_Unions_ask, T.k_Unions_ask⟩ G_Unions_ask (hr.mono (by omega)) T.b_Unions_ask .nil pass0 (pa_cons (pe_tup (pa_cons pe_str (pa_cons (pv 4) pa_nil))) pa_nil)) (pe_meth (pv 0) T.cl_Span ⟨T.m_Span_ask, T.t_Span_ask, T.k_Span_ask⟩ G_Span_ask (hr.mono (by omega)) T.b_Span_ask .nil pass0 (pa_cons (pe_tup (pa_cons pe_str (pa_cons (pv 4) pa_nil))) pa_nil))))))))), ?_⟩
    cases f with
    | true =>
      rw [show fV true = V.int 0 from rfl]
      have hU : UnAt T.C_Unions H s d1 d2 d3 12 ps := hS
      obtain ⟨⟨dx, hs⟩, _⟩ := id hU
      o_readsAll
      refine ifT (dT rfl) ?_
      refine Or.inl ?_
      o_readsAll
      rename_i t1 nt1
      refine ⟨⟨s, d1, d2, d3, t1, 12, ps, .groups, rfl, hU.same (same_newF nt1), upd_same, ?_⟩⟩
      o_readsAll
      rename_i o nq D nD
      have sm : Same H (upd (upd H t1 (.tup [.str "groups"])) o (.lst [Qn.ans 12 ps .groups])) := (same_newF nt1).trans (same_newF nq)
      have eo : upd (upd H t1 (.tup [.str "groups"])) o (.lst [Qn.ans 12 ps .groups]) o = some (.lst [Qn.ans 12 ps .groups]) := upd_same
      have fo : Fr H o := by kba_ints
      have fD : Fr H D := by kba_ints
      revert sm eo nD
      generalize upd (upd H t1 (.tup [.str "groups"])) o (.lst [Qn.ans 12 ps .groups]) = H1
      intro nD sm eo
      refine lc_range (lo := 0) (n := ((12 : Int)).toNat) (fun i H' => Same H1 H' ∧ H' D = some (.lst ((List.range i).map fun k => Qn.ans 12 ps (.size k)))) ⟨same_newF nD, upd_same⟩ ?_ ?_
      · rintro i H2 hi ⟨s2, e2⟩
        have hU2 := hU.same (sm.trans s2)
        obtain ⟨⟨dx2, hs2⟩, _⟩ := id hU2
        o_readsAll
        refine Or.inl ?_
        o_readsAll
        rename_i tq ntq
        refine ⟨⟨s, d1, d2, d3, tq, 12, ps, .size i, rfl, hU2.same (same_newF ntq), by rw [upd_same, Int.zero_add]; rfl, ?_⟩⟩
        exact ⟨_, atNew ntq e2, by rw [List.length_map, List.length_range, sizeLine_eq]; have := show i < 12 from hi; omega, same_put (s2.trans (same_newF ntq)) nD.h, by rw [upd_same, List.range_succ, List.map_append]; rfl⟩
      · rintro H2 ⟨s2, e2⟩
        have eo2 := s2 _ _ eo
        have ll : ([Qn.ans 12 ps .groups] : List V).length + ((List.range ((12 : Int)).toNat).map fun k => Qn.ans 12 ps (.size k)).length ≤ sizeLine := by
          rw [List.length_map, List.length_range, sizeLine_eq]
          exact Nat.le_of_ble_eq_true rfl
        o_readsAll
        rename_i o2 no2 w2 nw2
        have sm2 : Same H (upd (upd H2 o2 (.lst ([Qn.ans 12 ps .groups] ++ (List.range ((12 : Int)).toNat).map fun k => Qn.ans 12 ps (.size k)))) w2 (.lst [.int 0, .int 5, .int 11])) := (sm.trans s2).trans ((same_newF no2).trans (same_newF nw2))
        have fo2 : Fr H o2 := by kba_ints
        refine for_list (xs := [V.int 0, V.int 5, V.int 11]) (fun i σ H' => ∃ y3 r, σ = [some (.ref s), some (.int 0), some (.ref r), y3, none, none] ∧ Same H H' ∧ Fr H r ∧ H' r = some (.lst (accV ps i)) ∧ H' w2 = some (.lst [.int 0, .int 5, .int 11])) ⟨_, o2, rfl, sm2, fo2, atNew nw2 upd_same, upd_same⟩ ?_ ?_ ?_
        · rintro i σ H3 hi ⟨y3, r, rfl, s3, fr, er, ew⟩
          exact sqlOf ew
        · rintro i x σ H3 hx ⟨y3, r, rfl, s3, fr, er, ew⟩
          obtain ⟨j, rfl, hj⟩ : ∃ j : Nat, x = .int (j : Int) ∧ ([0, 5, 11] : List Nat)[i]? = some j := by
            match i, hx with
            | 0, hx => exact ⟨0, (Option.some.inj hx).symm, rfl⟩
            | 1, hx => exact ⟨5, (Option.some.inj hx).symm, rfl⟩
            | 2, hx => exact ⟨11, (Option.some.inj hx).symm, rfl⟩
            | k + 3, hx => cases hx
          o_readsAll
          rename_i D2 nD2
          have fD2 : Fr H D2 := by kba_ints
          refine lc_range (lo := 0) (n := ((12 : Int)).toNat) (fun i H' => Same H3 H' ∧ H' D2 = some (.lst ((List.range i).map fun k => Qn.ans 12 ps (.same k j)))) ⟨same_newF nD2, upd_same⟩ ?_ ?_
          · rintro i H4 hi ⟨s4, e4⟩
            have hU4 := hU.same (s3.trans s4)
            obtain ⟨⟨dx4, hs4⟩, _⟩ := id hU4
            o_readsAll
            refine Or.inl ?_
            o_readsAll
            rename_i tq ntq
            refine ⟨⟨s, d1, d2, d3, tq, 12, ps, .same i j, rfl, hU4.same (same_newF ntq), by rw [upd_same, Int.zero_add]; rfl, ?_⟩⟩
            exact ⟨_, atNew ntq e4, by rw [List.length_map, List.length_range, sizeLine_eq]; have := show i < 12 from hi; omega, same_put (s4.trans (same_newF ntq)) nD2.h, by rw [upd_same, List.range_succ, List.map_append]; rfl⟩
          · rintro H4 ⟨s4, e4⟩
            have er4 := s4 _ _ er
            have ew4 := s4 _ _ ew
            have ll2 : (accV ps i).length + ((List.range ((12 : Int)).toNat).map fun k => Qn.ans 12 ps (.same k j)).length ≤ sizeLine := by
              have := acc_len ps i
              rw [List.length_map, List.length_range, sizeLine_eq]
              have : ((12 : Int)).toNat = 12 := rfl
              omega
            o_readsAll
            rename_i r2 nr2
            exact ⟨_, r2, rfl, (s3.trans s4).trans (same_newF nr2), by kba_ints, by rw [upd_same, acc_step hj]; rfl, atNew nr2 ew4⟩
        · rintro σ H3 ⟨y3, r, rfl, s3, fr, er, ew⟩
          o_readsAll
          exact q r _ fr s3 (by rw [er, ← acc_end]; rfl)
    | false =>
      rw [show fV false = V.int 1 from rfl]
      have hU : Sn.SpanAt T.C_Span H s d1 d2 (ps.map num) := hS
      obtain ⟨⟨dx, hs⟩, _⟩ := id hU
      o_readsAll
      refine ifF (dF (fun z => nomatch z)) ?_
      refine Or.inr ?_
      o_readsAll
      rename_i t1 nt1
      refine ⟨⟨s, d1, d2, t1, _, rfl, hU.same (same_newF nt1), .inl ⟨upd_same, ?_⟩⟩⟩
      o_readsAll
      rename_i o nq D nD
      have sm : Same H (upd (upd H t1 (.tup [.str "rank"])) o (.lst [V.int ((Sn.basisOf (ps.map num)).length : Nat)])) := (same_newF nt1).trans (same_newF nq)
      have eo : upd (upd H t1 (.tup [.str "rank"])) o (.lst [V.int ((Sn.basisOf (ps.map num)).length : Nat)]) o = some (.lst [V.int ((Sn.basisOf (ps.map num)).length : Nat)]) := upd_same
      have fo : Fr H o := by kba_ints
      have fD : Fr H D := by kba_ints
      revert sm eo nD
      generalize upd (upd H t1 (.tup [.str "rank"])) o (.lst [V.int ((Sn.basisOf (ps.map num)).length : Nat)]) = H1
      intro nD sm eo
      refine lc_range (lo := 0) (n := ((80 : Int)).toNat) (fun i H' => Same H1 H' ∧ H' D = some (.lst ((List.range i).map fun k : Nat => V.bl (decide (Sn.red (Sn.basisOf (ps.map num)) k = 0))))) ⟨same_newF nD, upd_same⟩ ?_ ?_
      · rintro i H2 hi ⟨s2, e2⟩
        have hU2 := hU.same (sm.trans s2)
        obtain ⟨⟨dx2, hs2⟩, _⟩ := id hU2
        o_readsAll
        refine Or.inr ?_
        o_readsAll
        rename_i tq ntq
        refine ⟨⟨s, d1, d2, tq, _, rfl, hU2.same (same_newF ntq), .inr ⟨i, by rw [upd_same, Int.zero_add], ?_⟩⟩⟩
        exact ⟨_, atNew ntq e2, by rw [List.length_map, List.length_range, sizeLine_eq]; have := show i < 80 from hi; omega, same_put (s2.trans (same_newF ntq)) nD.h, by rw [upd_same, List.range_succ, List.map_append]; rfl⟩
      · rintro H2 ⟨s2, e2⟩
        have eo2 := s2 _ _ eo
        have ll : ([V.int ((Sn.basisOf (ps.map num)).length : Nat)] : List V).length + ((List.range ((80 : Int)).toNat).map fun k : Nat => V.bl (decide (Sn.red (Sn.basisOf (ps.map num)) k = 0))).length ≤ sizeLine := by
          rw [List.length_map, List.length_range, sizeLine_eq]
          exact Nat.le_of_ble_eq_true rfl
        o_readsAll
        rename_i r nr
        exact q r _ (by kba_ints) ((sm.trans s2).trans (same_newF nr)) upd_same
end
end Ob

set_option Elab.async false
set_option linter.all false
set_option maxRecDepth 100000
set_option maxHeartbeats 1000000
namespace Ob
open PySem PySem.Spec PyProof.Rows L2
open LamX (Tabs TabB TabS ExtN)

set_option hygiene false in
local macro_rules
  | `(tactic| kp_flats) => `(tactic| first
    | assumption
    | exact upd_same
    | (apply atNew; assumption; kp_flats)
    | (apply atNe; (next => kbo_bools); kp_flats)
    | (apply atSame; assumption; kp_flats)
    | (apply atKp; assumption; (next => kaf_pre); kp_flats))
set_option hygiene false in
local macro_rules
  | `(tactic| kaf_pre) => `(tactic| first
    | assumption
    | exact not_nil
    | (apply not_cons; (next => kbo_bools); kaf_pre)
    | (apply not_app; (next => kaf_pre); kaf_pre))
set_option hygiene false in
local macro_rules
  | `(tactic| kbo_bools) => `(tactic| first
    | assumption
    | (apply Ne.symm; assumption)
    | (apply neN; assumption; kp_flats)
    | (apply neN'; assumption; kp_flats))
set_option hygiene false in
local macro_rules
  | `(tactic| o_reads) => `(tactic| first
    | with_reducible rfl
    | assumption
    | rfl
    | kp_flats
    | (show SqL _ _ _ _; first | assumption | (apply sqlOf; kp_flats) | (apply sqlSame; assumption; o_reads))
    | (show SqT _ _ _ _; first | assumption | (apply sqtOf; kp_flats) | (apply sqtAll; assumption) | (apply sqtSame; assumption; o_reads))
    | (show Cls _ _; first | exact T.cl_Unions | exact T.cl_Span)
    | (show NoAttr _ _ _; first | exact T.n_Unions_groups | exact T.n_Unions_parents | exact T.n_Unions_counts | exact T.n_Unions_moved | exact T.n_Span_basis | exact T.n_Span_lengths)
    | (apply Or.inl; o_reads)
    | (apply Or.inr; o_reads)
    | (apply And.intro; (next => o_reads); o_reads)
    | (apply Exists.intro; o_reads)
    | exact Nat.le_of_ble_eq_true rfl
    | exact Nat.succ_ne_zero _
    | (show Fr _ _; kba_ints)
    | (show Same _ _; kd_subs)
    | (show Kp _ _ _; kxs_still)
    | (show (_ : Nat) ≤ _; simp only [List.length_append, List.length_map, List.length_cons, List.length_nil, List.length_take, List.length_drop, List.length_replicate, List.length_range, sizeLine_eq]; omega)
    | (show _ = none; apply Fr.h; kba_ints)
    | (show Bag _ _; first | assumption | (apply bag_putF; assumption; o_reads) | (apply bag_neF; (next => kbo_bools); o_reads) | (apply bag_kpR; assumption; (next => kaf_pre); o_reads))
    | omega
    | decide)
local macro_rules
  | `(tactic| o_readsAll) => `(tactic| repeat (first
    | (refine fun (pNew : Addr) (nNew : _ = none) => ?_; replace nNew := Fr.mk nNew)
    | (refine fun (xNew dNew : Addr) (nNew : _ = none) (mNew : _ = none) (eNew : dNew ≠ xNew) => ?_; replace nNew := Fr.mk nNew; replace mNew := Fr.mk mNew)
    | (apply And.intro; next => o_reads)
    | apply Exists.intro (α := V)
    | apply Exists.intro (α := Addr)
    | apply Exists.intro (α := Int)
    | apply Exists.intro (α := Bool)
    | apply Exists.intro (α := List V)
    | apply Exists.intro (α := List Nat)
    | apply Exists.intro (α := List (Str × V))
    | apply Exists.intro (α := List _)
    | apply Exists.intro (α := Str)
    | apply Exists.intro (α := HO)
    | apply Exists.intro (α := Sp)
    | apply Exists.intro (α := VK)))
set_option hygiene false in
local macro_rules
  | `(tactic| kba_ints) => `(tactic| first
    | assumption
    | (apply frUp; (first | assumption | (apply Ne.symm; assumption)); kba_ints)
    | (apply noneOf; assumption; intro oF eF; apply Exists.intro; kp_flats)
    | (apply frUp; (next => kbo_bools); kba_ints))
set_option hygiene false in
local macro_rules
  | `(tactic| kxs_still) => `(tactic| first
    | assumption
    | exact kp_refl _ _
    | (apply kp_newF; assumption; kxs_still)
    | (apply kp_new; assumption; kxs_still)
    | (apply kp_up; (next => o_fieldsN); kxs_still)
    | (apply kp_new; (next => kba_ints); kxs_still)
    | (apply kp_sameR; assumption; kxs_still)
    | (apply kp_transR; assumption; kxs_still)
    | (apply kp_freshR; assumption; (next => kaf_suf); kxs_still))
set_option hygiene false in
local macro_rules
  | `(tactic| kaf_suf) => `(tactic| first
    | assumption
    | exact subNil
    | (apply subCons; (first | (apply Or.inl; o_fieldsN) | (apply Or.inr; kba_ints)); kaf_suf)
    | (apply subApp; (next => kaf_suf); kaf_suf))
set_option hygiene false in
local macro_rules
  | `(tactic| o_fieldsN) => `(tactic| first
    | assumption
    | exact memA
    | (apply memB; o_fieldsN)
    | (apply memL; o_fieldsN)
    | (apply memR; o_fieldsN))
set_option hygiene false in
local macro_rules
  | `(tactic| kd_subs) => `(tactic| first
    | assumption
    | exact Same.refl _
    | (apply same_putF; assumption; kd_subs)
    | (apply same_putG; assumption; kd_subs)
    | (apply same_putF; (next => kba_ints); kd_subs)
    | (apply same_transR; assumption; kd_subs))

theorem bag_lst {H : Hp} {p : Addr} (b : Bag H p) : ∃ xs, H p = some (.lst xs) := by
  obtain ⟨g, m, c, e, _⟩ := b
  exact ⟨_, e⟩
theorem Fr.back {H0 H : Hp} {x : Addr} (f : Fr H x) (s : Same H0 H) : Fr H0 x := Fr.mk (by
  cases h : H0 x with
  | none => rfl
  | some o =>
    have := s x o h
    rw [f.h] at this
    cases this)
def Live (H : Hp) (l : List Addr) : Prop := ∀ y ∈ l, ∃ o, H y = some o
theorem live_nil {H : Hp} : Live H [] := fun _ m => nomatch m
theorem live_cons {H : Hp} {x : Addr} {o : HO} {l : List Addr} (e : H x = some o) (t : Live H l) : Live H (x :: l) := fun y m => (List.mem_cons.mp m).elim (fun z => by rw [z]; exact ⟨o, e⟩) (t y)
theorem Live.same {H H1 : Hp} {l : List Addr} (h : Live H l) (s : Same H H1) : Live H1 l := fun y m => by
  obtain ⟨v, e⟩ := h y m
  exact ⟨v, s _ _ e⟩
theorem Live.ni {H : Hp} {x : Addr} {l : List Addr} (h : Live H l) (f : Fr H x) : x ∉ l := fun m => by
  obtain ⟨v, e⟩ := h x m
  exact (neN f e) rfl
theorem live_app {H : Hp} {a b : List Addr} (h : Live H a) (k : Live H b) : Live H (a ++ b) := fun y m => (List.mem_append.mp m).elim (h y) (k y)
/-- no tuples -/
def NT (H : Hp) (cs : List Addr) : Prop := ∀ x ∈ cs, ∃ o, H x = some o ∧ ∀ xs, o ≠ .tup xs
theorem nt_nil {H : Hp} : NT H [] := fun _ m => nomatch m
theorem nt_cons {H : Hp} {a : Addr} {o : HO} {l : List Addr} (e : H a = some o) (k : ∀ xs, o ≠ .tup xs) (t : NT H l) : NT H (a :: l) := fun x m => (List.mem_cons.mp m).elim (fun z => by rw [z]; exact ⟨o, e, k⟩) (t x)
theorem nt_one {H : Hp} {a : Addr} {xs : List V} (e : H a = some (.lst xs)) : NT H [a] := nt_cons e (fun _ z => nomatch z) nt_nil
theorem nt_not {H : Hp} {cs : List Addr} (h : NT H cs) {a : Addr} {xs : List V} (e : H a = some (.tup xs)) : a ∉ cs := fun m => by
  obtain ⟨o, e1, q⟩ := h a m
  rw [e] at e1
  exact q _ (Option.some.inj e1).symm
theorem bag_nt {H : Hp} {p : Addr} (b : Bag H p) : NT H [p] := by
  obtain ⟨xs, e⟩ := bag_lst b
  exact nt_one e
section
variable {CU CS s d1 d2 d3 : Addr} {H H1 : Hp} {f : Bool} {ps : List (Nat × Nat)}
theorem StA.nt (h : StA CU CS H s d1 d2 d3 f ps) (e3 : f = false → d3 = d1) : NT H [s, d1, d2, d3] := by
  cases f with
  | true =>
    obtain ⟨⟨dx, e⟩, e2, ⟨c, e3, e4⟩, e5, e6, e7⟩ := (show UnAt CU H s d1 d2 d3 12 ps from h)
    exact nt_cons e (fun _ z => nomatch z) (nt_cons e2 (fun _ z => nomatch z) (nt_cons e3 (fun _ z => nomatch z) (nt_cons e5 (fun _ z => nomatch z) nt_nil)))
  | false =>
    obtain ⟨⟨dx, e⟩, e2, e4⟩ := (show Sn.SpanAt CS H s d1 d2 (ps.map num) from h)
    rw [e3 rfl]
    exact nt_cons e (fun _ z => nomatch z) (nt_cons e2 (fun _ z => nomatch z) (nt_cons e4 (fun _ z => nomatch z) (nt_cons e2 (fun _ z => nomatch z) nt_nil)))
theorem StA.kp {cs : List Addr} (h : StA CU CS H s d1 d2 d3 f ps) (k : Kp cs H H1) (n : ∀ x ∈ [s, d1, d2, d3], x ∉ cs) : StA CU CS H1 s d1 d2 d3 f ps := by
  cases f with
  | true => exact (show UnAt CU H s d1 d2 d3 12 ps from h).kp k (n _ (by o_fieldsN)) (n _ (by o_fieldsN)) (n _ (by o_fieldsN)) (n _ (by o_fieldsN))
  | false => exact (show Sn.SpanAt CS H s d1 d2 (ps.map num) from h).kp k (n _ (by o_fieldsN)) (n _ (by o_fieldsN)) (n _ (by o_fieldsN))
theorem StA.same (h : StA CU CS H s d1 d2 d3 f ps) (k : Same H H1) : StA CU CS H1 s d1 d2 d3 f ps := h.kp (cs := []) (kp_same k) fun _ _ => not_nil
/-- a list of pairs -/
structure PsAt (H : Hp) (a : Addr) (ts : List Addr) (ps : List (Nat × Nat)) : Prop where
  l : H a = some (.lst (ts.map V.ref))
  n : ts.length = ps.length
  t : ∀ (i : Nat) (t : Addr) (p : Nat × Nat), ts[i]? = some t → ps[i]? = some p → H t = some (.tup [.int (p.1 : Int), .int (p.2 : Int)])
theorem PsAt.kp {a : Addr} {ts : List Addr} {cs : List Addr} (h : PsAt H a ts ps) (k : Kp cs H H1) (n : a ∉ cs) (t : NT H cs) : PsAt H1 a ts ps := ⟨k.at_ _ _ h.l n, h.n, fun i t' p e1 e2 => k.at_ _ _ (h.t i t' p e1 e2) (nt_not t (h.t i t' p e1 e2))⟩
theorem PsAt.add {a t : Addr} {ts : List Addr} {x y : Nat} (h : PsAt H a ts ps) (e : H t = some (.tup [.int (x : Int), .int (y : Int)])) : PsAt (upd H a (.lst (ts.map V.ref ++ [V.ref t]))) a (ts ++ [t]) (ps ++ [(x, y)]) := by
  have ne : ∀ {u : Addr} {xs : List V}, H u = some (.tup xs) → u ≠ a := fun {u xs} e z => by
    rw [z, h.l] at e
    cases e
  refine ⟨by rw [upd_same, List.map_append]; rfl, by rw [List.length_append, List.length_append, h.n]; rfl, fun i u p e1 e2 => ?_⟩
  by_cases c : i < ts.length
  · rw [List.getElem?_append_left c] at e1
    rw [List.getElem?_append_left (by rw [← h.n]; exact c)] at e2
    have e3 := h.t i u p e1 e2
    rw [upd_ne (ne e3)]
    exact e3
  · rw [List.getElem?_append_right (by omega)] at e1
    rw [List.getElem?_append_right (by rw [← h.n]; omega), ← h.n] at e2
    match hz : i - ts.length, e1, e2 with
    | 0, e1, e2 =>
      cases e1
      cases e2
      rw [upd_ne (ne e)]
      exact e
    | k + 1, e1, e2 => cases e1
theorem PsAt.drop {a : Addr} {ts : List Addr} {x : Nat × Nat} {t : Addr} (h : PsAt H a (ts ++ [t]) (ps ++ [x])) : PsAt (upd H a (.lst (ts.map V.ref))) a ts ps := by
  have hn : ts.length = ps.length := by
    have := h.n
    rw [List.length_append, List.length_append] at this
    exact Nat.succ.inj this
  refine ⟨upd_same, hn, fun i u p e1 e2 => ?_⟩
  have li := (List.getElem?_eq_some_iff.mp e1).1
  have e3 := h.t i u p (by rw [List.getElem?_append_left li]; exact e1) (by rw [List.getElem?_append_left (by omega)]; exact e2)
  rw [upd_ne fun z => by
    rw [z, h.l] at e3
    cases e3]
  exact e3
/-- the members -/
def MemAt (H : Hp) (a : Addr) (f : Bool) (us : List Addr) (ps : List (Nat × Nat)) : Prop :=
  if f = true then PsAt H a us ps else H a = some (.lst (ps.map fun p => V.int ((num p : Nat) : Int)))
theorem MemAt.lst {a : Addr} {us : List Addr} (h : MemAt H a f us ps) : ∃ xs, H a = some (.lst xs) ∧ xs.length = ps.length := by
  cases f with
  | true => exact ⟨_, (show PsAt H a us ps from h).l, by rw [List.length_map]; exact (show PsAt H a us ps from h).n⟩
  | false => exact ⟨_, h, List.length_map ..⟩
theorem MemAt.kp {a : Addr} {us cs : List Addr} (h : MemAt H a f us ps) (k : Kp cs H H1) (n : a ∉ cs) (t : NT H cs) : MemAt H1 a f us ps := by
  cases f with
  | true => exact (show PsAt H a us ps from h).kp k n t
  | false => exact k.at_ _ _ h n
theorem MemAt.drop {a : Addr} {us : List Addr} {x : Nat × Nat} (h : MemAt H a f us (ps ++ [x])) : ∃ (xs : List V) (v : V) (us' : List Addr), H a = some (.lst (xs ++ [v])) ∧ MemAt (upd H a (.lst xs)) a f us' ps := by
  cases f with
  | true =>
    have P : PsAt H a us (ps ++ [x]) := h
    obtain ⟨us', t, rfl⟩ : ∃ (us' : List Addr) (t : Addr), us = us' ++ [t] := ((List.eq_nil_or_concat us).imp id fun ⟨L, b, h⟩ => ⟨L, b, by rw [h, List.concat_eq_append]⟩).resolve_left fun z => by
      have := P.n
      rw [z, List.length_append] at this
      cases this
    exact ⟨us'.map V.ref, .ref t, us', by rw [P.l, List.map_append]; rfl, P.drop⟩
  | false =>
    have P : H a = some (.lst ((ps ++ [x]).map fun p => V.int ((num p : Nat) : Int))) := h
    exact ⟨ps.map fun p => V.int ((num p : Nat) : Int), V.int ((num x : Nat) : Int), [], by rw [P, List.map_append]; rfl, upd_same⟩
/-- the noted answers -/
structure NotAt (H : Hp) (n : Addr) (f : Bool) (ts : List Addr) (ps : List (Nat × Nat)) : Prop where
  l : H n = some (.lst (ts.map V.ref))
  n : ts.length = ps.length + 1
  t : ∀ (i : Nat) (t : Addr), ts[i]? = some t → H t = some (.lst (ansV f (ps.take i)))
theorem NotAt.kp {n : Addr} {ts cs : List Addr} (h : NotAt H n f ts ps) (k : Kp cs H H1) (m : n ∉ cs) (t : ∀ x ∈ ts, x ∉ cs) : NotAt H1 n f ts ps := ⟨k.at_ _ _ h.l m, h.n, fun i u e => k.at_ _ _ (h.t i u e) (t u (List.mem_of_getElem? e))⟩
theorem NotAt.add {n t : Addr} {ts : List Addr} {x : Nat × Nat} (h : NotAt H n f ts ps) (m : ∀ x ∈ ts, x ≠ n) (e : H t = some (.lst (ansV f (ps ++ [x])))) (ne : t ≠ n) : NotAt (upd H n (.lst (ts.map V.ref ++ [V.ref t]))) n f (ts ++ [t]) (ps ++ [x]) := by
  refine ⟨by rw [upd_same, List.map_append]; rfl, by rw [List.length_append, List.length_append, h.n]; rfl, fun i u e1 => ?_⟩
  by_cases c : i < ts.length
  · rw [List.getElem?_append_left c] at e1
    rw [upd_ne (m u (List.mem_of_getElem? e1)), List.take_append_of_le_length (by rw [h.n] at c; omega)]
    exact h.t i u e1
  · rw [List.getElem?_append_right (by omega)] at e1
    match hz : i - ts.length, e1 with
    | 0, e1 =>
      cases e1
      have hi : (ps ++ [x]).length ≤ i := by
        rw [List.length_append]
        show ps.length + 1 ≤ i
        rw [← h.n]
        omega
      rw [upd_ne ne, List.take_of_length_le hi]
      exact e
    | k + 1, e1 => cases e1
theorem NotAt.drop {n t : Addr} {ts : List Addr} {x : Nat × Nat} (h : NotAt H n f (ts ++ [t]) (ps ++ [x])) (m : ∀ x ∈ ts, x ≠ n) : NotAt (upd H n (.lst (ts.map V.ref))) n f ts ps := by
  have hn : ts.length = ps.length + 1 := by
    have := h.n
    rw [List.length_append, List.length_append] at this
    exact Nat.succ.inj this
  refine ⟨upd_same, hn, fun i u e1 => ?_⟩
  have li := (List.getElem?_eq_some_iff.mp e1).1
  have e3 := h.t i u (by rw [List.getElem?_append_left li]; exact e1)
  rw [List.take_append_of_le_length (by rw [hn] at li; omega)] at e3
  rw [upd_ne (m u (List.mem_of_getElem? e1))]
  exact e3
end
theorem NT.live {H : Hp} {cs : List Addr} (h : NT H cs) : Live H cs := fun x m => by
  obtain ⟨o, e, _⟩ := h x m
  exact ⟨o, e⟩
/-- the answers as data -/
def toD : V → PyData
  | .int i => .int i
  | .bl b => .bool b
  | _ => .none
def Flat (v : V) : Prop := (∃ i, v = .int i) ∨ ∃ b, v = .bl b
theorem ans_flat (f : Bool) (ps : List (Nat × Nat)) : ∀ v ∈ ansV f ps, Flat v := by
  have sz : ∀ v ∈ szV ps, Flat v := fun v m => by
    obtain ⟨k, _, rfl⟩ := List.mem_map.mp m
    exact .inl ⟨_, rfl⟩
  have sa : ∀ j, ∀ v ∈ saV ps j, Flat v := fun j v m => by
    obtain ⟨k, _, rfl⟩ := List.mem_map.mp m
    exact .inr ⟨_, rfl⟩
  cases f with
  | true =>
    refine List.forall_mem_append.mpr ⟨List.forall_mem_append.mpr ⟨List.forall_mem_append.mpr ⟨List.forall_mem_append.mpr ⟨fun v m => by rw [List.mem_singleton.mp m]; exact .inl ⟨_, rfl⟩, sz⟩, sa 0⟩, sa 5⟩, sa 11⟩
  | false =>
    refine List.forall_mem_append.mpr ⟨fun v m => by rw [List.mem_singleton.mp m]; exact .inl ⟨_, rfl⟩, fun v m => ?_⟩
    obtain ⟨k, _, rfl⟩ := List.mem_map.mp m
    exact .inr ⟨_, rfl⟩
theorem dp_flat {K : PySem.W.Frag} {H : Hp} : ∀ vs : List V, (∀ v ∈ vs, Flat v) → DpAll K H vs (vs.map toD)
  | [], _ => .nil
  | v :: vs, h => .cons (by
      rcases h v (List.mem_cons_self ..) with ⟨i, rfl⟩ | ⟨b, rfl⟩
      · exact .int i
      · exact .bl b) (dp_flat vs fun x m => h x (List.mem_cons_of_mem _ m))
theorem lay_flat : ∀ vs : List V, PyData.canLayAll0 (vs.map toD) = true ∧ PyData.depthAll (vs.map toD) ≤ 1
  | [] => ⟨rfl, by decide⟩
  | v :: vs => by
    obtain ⟨a, b⟩ := lay_flat vs
    cases v <;> refine ⟨?_, ?_⟩ <;> simp only [List.map_cons, toD, PyData.canLayAll0, PyData.canLay0, a, PyData.depthAll, PyData.depth, Bool.and_self, Bool.true_and] <;> omega
theorem sh_flat (vs : List V) : SeqAt.shaped (.list (vs.map toD)) = true := by
  obtain ⟨a, b⟩ := lay_flat vs
  unfold SeqAt.shaped
  rw [Bool.and_eq_true]
  refine ⟨?_, decide_eq_true ?_⟩
  · simp only [PyData.canLay0, a]
  · simp only [PyData.depth]
    omega
theorem eq_flat (vs : List V) : (!PyData.eqv (.list (vs.map toD)) (.list (vs.map toD))) = false := by
  rw [SeqAt.eqv_refl _ (SeqAt.canLay_of_shaped (sh_flat _))]
  rfl
/-- what holds in each turn -/
structure J (CU CS p s d1 d2 d3 a n : Addr) (f : Bool) (H0 : Hp) (ps : List (Nat × Nat)) (us : List Addr) (pl : List (Nat × Nat)) (ts : List Addr) (pn : List (Nat × Nat)) (H : Hp) : Prop where
  bag : Bag H p
  S : StA CU CS H s d1 d2 d3 f ps
  M : MemAt H a f us pl
  N : NotAt H n f ts pn
  same : Same H0 H
  fr : ∀ x ∈ [p, a, n, s, d1, d2, d3], Fr H0 x
  np : p ∉ [a, n, s, d1, d2, d3]
  na : a ∉ [n, s, d1, d2, d3]
  nn : n ∉ [s, d1, d2, d3]
  e3 : f = false → d3 = d1
  tf : ∀ t ∈ ts, t ∉ [p, a, n, s, d1, d2, d3]
section
variable {CU CS p s d1 d2 d3 a n : Addr} {f : Bool} {H0 H H1 : Hp} {ps pl pn ps' : List (Nat × Nat)} {us ts us' ts' : List Addr}
theorem J.take (j : J CU CS p s d1 d2 d3 a n f H0 ps us pl ts pn H) (k : Kp [p] H H1) (b : Bag H1 p) : J CU CS p s d1 d2 d3 a n f H0 ps us pl ts pn H1 := by
  have np := j.np
  simp only [List.mem_cons, List.not_mem_nil, or_false, not_or] at np
  obtain ⟨n1, n2, n3, n4, n5, n6⟩ := np
  have tf : ∀ x ∈ ts, x ∉ [p] := fun x m z => j.tf x m (by rw [List.mem_singleton.mp z]; o_fieldsN)
  exact ⟨b, j.S.kp k (subCons (not_cons (Ne.symm n3) not_nil) (subCons (not_cons (Ne.symm n4) not_nil) (subCons (not_cons (Ne.symm n5) not_nil) (subCons (not_cons (Ne.symm n6) not_nil) subNil)))), j.M.kp k (not_cons (Ne.symm n1) not_nil) (bag_nt j.bag), j.N.kp k (not_cons (Ne.symm n2) not_nil) tf, same_kp j.same k (subCons (j.fr _ (by o_fieldsN)) subNil), j.fr, j.np, j.na, j.nn, j.e3, j.tf⟩
theorem J.same' (j : J CU CS p s d1 d2 d3 a n f H0 ps us pl ts pn H) (k : Same H H1) : J CU CS p s d1 d2 d3 a n f H0 ps us pl ts pn H1 :=
  ⟨bag_kpR (cs := []) (kp_same k) not_nil j.bag, j.S.same k, j.M.kp (cs := []) (kp_same k) not_nil nt_nil, j.N.kp (cs := []) (kp_same k) not_nil fun _ _ => not_nil, j.same.trans k, j.fr, j.np, j.na, j.nn, j.e3, j.tf⟩
theorem J.mem (j : J CU CS p s d1 d2 d3 a n f H0 ps us pl ts pn H) (k : Kp [a] H H1) (e : MemAt H1 a f us' ps') : J CU CS p s d1 d2 d3 a n f H0 ps us' ps' ts pn H1 := by
  have np := j.np
  have na := j.na
  simp only [List.mem_cons, List.not_mem_nil, or_false, not_or] at np na
  obtain ⟨n1, n2, n3, n4, n5, n6⟩ := np
  obtain ⟨a2, a3, a4, a5, a6⟩ := na
  have tf : ∀ x ∈ ts, x ∉ [a] := fun x m z => j.tf x m (by rw [List.mem_singleton.mp z]; o_fieldsN)
  exact ⟨bag_kpR k (not_cons n1 not_nil) j.bag, j.S.kp k (subCons (not_cons (Ne.symm a3) not_nil) (subCons (not_cons (Ne.symm a4) not_nil) (subCons (not_cons (Ne.symm a5) not_nil) (subCons (not_cons (Ne.symm a6) not_nil) subNil)))), e, j.N.kp k (not_cons (Ne.symm a2) not_nil) tf, same_kp j.same k (subCons (j.fr _ (by o_fieldsN)) subNil), j.fr, j.np, j.na, j.nn, j.e3, j.tf⟩
theorem J.noted (j : J CU CS p s d1 d2 d3 a n f H0 ps us pl ts pn H) (k : Kp [n] H H1) (e : NotAt H1 n f ts' ps') (tf' : ∀ t ∈ ts', t ∉ [p, a, n, s, d1, d2, d3]) : J CU CS p s d1 d2 d3 a n f H0 ps us pl ts' ps' H1 := by
  have np := j.np
  have na := j.na
  have nn := j.nn
  simp only [List.mem_cons, List.not_mem_nil, or_false, not_or] at np na nn
  obtain ⟨n1, n2, n3, n4, n5, n6⟩ := np
  obtain ⟨a2, a3, a4, a5, a6⟩ := na
  obtain ⟨b3, b4, b5, b6⟩ := nn
  exact ⟨bag_kpR k (not_cons n2 not_nil) j.bag, j.S.kp k (subCons (not_cons (Ne.symm b3) not_nil) (subCons (not_cons (Ne.symm b4) not_nil) (subCons (not_cons (Ne.symm b5) not_nil) (subCons (not_cons (Ne.symm b6) not_nil) subNil)))), j.M.kp k (not_cons a2 not_nil) (nt_one j.N.l), e, same_kp j.same k (subCons (j.fr _ (by o_fieldsN)) subNil), j.fr, j.np, j.na, j.nn, j.e3, tf'⟩
theorem J.str (j : J CU CS p s d1 d2 d3 a n f H0 ps us pl ts pn H) (k : Kp [s, d1, d2, d3] H H1) (e : StA CU CS H1 s d1 d2 d3 f ps') : J CU CS p s d1 d2 d3 a n f H0 ps' us pl ts pn H1 := by
  have tl : ∀ {x : Addr}, x ∈ [s, d1, d2, d3] → x ∈ [p, a, n, s, d1, d2, d3] := fun m => .tail _ (.tail _ (.tail _ m))
  exact ⟨bag_kpR k (fun m => j.np (.tail _ (.tail _ m))) j.bag, e, j.M.kp k (fun m => j.na (.tail _ m)) (j.S.nt j.e3), j.N.kp k j.nn (fun x m z => j.tf x m (tl z)), same_kp j.same k fun x m => j.fr x (tl m), j.fr, j.np, j.na, j.nn, j.e3, j.tf⟩
/-- what is changed is no part of it -/
theorem J.off {cs : List Addr} (j : J CU CS p s d1 d2 d3 a n f H0 ps us pl ts pn H) (k : Kp cs H H1) (nt : NT H cs) (nc : ∀ x ∈ [p, a, n, s, d1, d2, d3], x ∉ cs) (tc : ∀ x ∈ ts, x ∉ cs) (fc : ∀ x ∈ cs, Fr H0 x) : J CU CS p s d1 d2 d3 a n f H0 ps us pl ts pn H1 :=
  ⟨bag_kpR k (nc _ (by o_fieldsN)) j.bag, j.S.kp k (fun x m => nc x (.tail _ (.tail _ (.tail _ m)))), j.M.kp k (nc _ (by o_fieldsN)) nt, j.N.kp k (nc _ (by o_fieldsN)) tc, same_kp j.same k fc, j.fr, j.np, j.na, j.nn, j.e3, j.tf⟩
theorem J.live (j : J CU CS p s d1 d2 d3 a n f H0 ps us pl ts pn H) : ∀ x ∈ [p, a, n, s, d1, d2, d3], ∃ o, H x = some o := by
  obtain ⟨xs, e1⟩ := bag_lst j.bag
  obtain ⟨ys, e2, _⟩ := j.M.lst
  refine subCons ⟨_, e1⟩ (subCons ⟨_, e2⟩ (subCons ⟨_, j.N.l⟩ fun x m => ?_))
  obtain ⟨o, e, _⟩ := j.S.nt j.e3 x m
  exact ⟨o, e⟩
theorem J.out (j : J CU CS p s d1 d2 d3 a n f H0 ps us pl ts pn H) {x : Addr} (f' : Fr H x) : x ∉ [p, a, n, s, d1, d2, d3] := fun m => by
  obtain ⟨o, e⟩ := j.live x m
  exact (neN f' e) rfl
end
end Ob

set_option Elab.async false
set_option linter.all false
set_option maxRecDepth 100000
set_option maxHeartbeats 1000000
namespace Ob
open PySem PySem.Spec PyProof.Rows L2
open LamX (Tabs TabB TabS ExtN)

set_option hygiene false in
local macro_rules
  | `(tactic| kp_flats) => `(tactic| first
    | assumption
    | exact upd_same
    | (apply atNew; assumption; kp_flats)
    | (apply atNe; (next => kbo_bools); kp_flats)
    | (apply atSame; assumption; kp_flats)
    | (apply atKp; assumption; (next => kaf_pre); kp_flats))
set_option hygiene false in
local macro_rules
  | `(tactic| kaf_pre) => `(tactic| first
    | assumption
    | exact not_nil
    | (apply not_cons; (next => kbo_bools); kaf_pre)
    | (apply not_app; (next => kaf_pre); kaf_pre))
set_option hygiene false in
local macro_rules
  | `(tactic| kbo_bools) => `(tactic| first
    | assumption
    | (apply Ne.symm; assumption)
    | (apply neN; assumption; kp_flats)
    | (apply neN'; assumption; kp_flats))
set_option hygiene false in
local macro_rules
  | `(tactic| o_reads) => `(tactic| first
    | with_reducible rfl
    | assumption
    | rfl
    | kp_flats
    | (show SqL _ _ _ _; first | assumption | (apply sqlOf; kp_flats) | (apply sqlSame; assumption; o_reads))
    | (show SqT _ _ _ _; first | assumption | (apply sqtOf; kp_flats) | (apply sqtAll; assumption) | (apply sqtSame; assumption; o_reads))
    | (show Cls _ _; first | exact T.cl_Unions | exact T.cl_Span)
    | (show NoAttr _ _ _; first | exact T.n_Unions_groups | exact T.n_Unions_parents | exact T.n_Unions_counts | exact T.n_Unions_moved | exact T.n_Span_basis | exact T.n_Span_lengths)
    | (apply Or.inl; o_reads)
    | (apply Or.inr; o_reads)
    | (apply And.intro; (next => o_reads); o_reads)
    | (apply Exists.intro; o_reads)
    | exact Nat.le_of_ble_eq_true rfl
    | exact Nat.succ_ne_zero _
    | (show Fr _ _; kba_ints)
    | (show Same _ _; kd_subs)
    | (show Kp _ _ _; kxs_still)
    | (show (_ : Nat) ≤ _; simp only [List.length_append, List.length_map, List.length_cons, List.length_nil, List.length_take, List.length_drop, List.length_replicate, List.length_range, sizeLine_eq]; omega)
    | (show _ = none; apply Fr.h; kba_ints)
    | (show Bag _ _; first | assumption | (apply bag_putF; assumption; o_reads) | (apply bag_neF; (next => kbo_bools); o_reads) | (apply bag_kpR; assumption; (next => kaf_pre); o_reads))
    | omega
    | decide)
local macro_rules
  | `(tactic| o_readsAll) => `(tactic| repeat (first
    | (refine fun (pNew : Addr) (nNew : _ = none) => ?_; replace nNew := Fr.mk nNew)
    | (refine fun (xNew dNew : Addr) (nNew : _ = none) (mNew : _ = none) (eNew : dNew ≠ xNew) => ?_; replace nNew := Fr.mk nNew; replace mNew := Fr.mk mNew)
    | (apply And.intro; next => o_reads)
    | apply Exists.intro (α := V)
    | apply Exists.intro (α := Addr)
    | apply Exists.intro (α := Int)
    | apply Exists.intro (α := Bool)
    | apply Exists.intro (α := List V)
    | apply Exists.intro (α := List Nat)
    | apply Exists.intro (α := List (Str × V))
    | apply Exists.intro (α := List _)
    | apply Exists.intro (α := Str)
    | apply Exists.intro (α := HO)
    | apply Exists.intro (α := Sp)
    | apply Exists.intro (α := VK)))
set_option hygiene false in
local macro_rules
  | `(tactic| kba_ints) => `(tactic| first
    | assumption
    | (apply frUp; (first | assumption | (apply Ne.symm; assumption)); kba_ints)
    | (apply noneOf; assumption; intro oF eF; apply Exists.intro; kp_flats)
    | (apply frUp; (next => kbo_bools); kba_ints))
set_option hygiene false in
local macro_rules
  | `(tactic| kxs_still) => `(tactic| first
    | assumption
    | exact kp_refl _ _
    | (apply kp_newF; assumption; kxs_still)
    | (apply kp_new; assumption; kxs_still)
    | (apply kp_up; (next => o_fieldsN); kxs_still)
    | (apply kp_new; (next => kba_ints); kxs_still)
    | (apply kp_sameR; assumption; kxs_still)
    | (apply kp_transR; assumption; kxs_still)
    | (apply kp_freshR; assumption; (next => kaf_suf); kxs_still))
set_option hygiene false in
local macro_rules
  | `(tactic| kaf_suf) => `(tactic| first
    | assumption
    | exact subNil
    | (apply subCons; (first | (apply Or.inl; o_fieldsN) | (apply Or.inr; kba_ints)); kaf_suf)
    | (apply subApp; (next => kaf_suf); kaf_suf))
set_option hygiene false in
local macro_rules
  | `(tactic| o_fieldsN) => `(tactic| first
    | assumption
    | exact memA
    | (apply memB; o_fieldsN)
    | (apply memL; o_fieldsN)
    | (apply memR; o_fieldsN))
set_option hygiene false in
local macro_rules
  | `(tactic| kd_subs) => `(tactic| first
    | assumption
    | exact Same.refl _
    | (apply same_putF; assumption; kd_subs)
    | (apply same_putG; assumption; kd_subs)
    | (apply same_putF; (next => kba_ints); kd_subs)
    | (apply same_transR; assumption; kd_subs))

set_option pp.maxSteps 900
theorem nil_or_app {α : Type} (l : List α) : l = [] ∨ ∃ L b, l = L ++ [b] := (List.eq_nil_or_concat l).imp id fun ⟨L, b, h⟩ => ⟨L, b, by rw [h, List.concat_eq_append]⟩
section
variable {CU CS s d1 d2 d3 : Addr} {H : Hp} {f : Bool} {ps : List (Nat × Nat)} {x y : Nat} {ta : TE} {t : TA} {σ : L2.St} {Q : VK} {v : V}
/-- a symbolic run stops here -/
structure Hold (p : Prop) : Prop where
  h : p
def memV (f : Bool) (H : Hp) (v : V) (x y : Nat) : Prop := if f = true then ∃ q, v = .ref q ∧ H q = some (.tup [.int (x : Int), .int (y : Int)]) else v = .int ((num (x, y) : Nat) : Int)
theorem push2 (hS : StA CU CS H s d1 d2 d3 f ps) (hta : ∀ R : VK, R (.ref s) H → ta σ H R) (ht : ∀ R : List V → Hp → Prop, R [v] H → t σ H R) (hv : memV f H v x y) (hx : f = true → x < 12) (hy : f = true → y < 12) (hl : ps.length ≤ 1000) (k : ∀ H', Kp [s, d1, d2, d3] H H' → StA CU CS H' s d1 d2 d3 f (ps ++ [(x, y)]) → Q .non H') :
    tEither (tMeth CU "push" (bx (spPush CU)) [] E0 ta t) (tMeth CS "push" (bx (Sn.spPush CS)) [] E0 ta t) σ H Q := by
  cases f with
  | true =>
    have hU : UnAt CU H s d1 d2 d3 12 ps := hS
    obtain ⟨⟨dx, hs⟩, _⟩ := id hU
    obtain ⟨q, rfl, hq⟩ := hv
    refine Or.inl (hta _ ⟨s, dx, _, rfl, hs, rfl, ht _ ⟨⟨s, d1, d2, d3, q, 12, ps, x, y, rfl, hU, hq, hx rfl, hy rfl, by decide, by omega, fun H' k1 U1 => k H' k1 U1⟩⟩⟩)
  | false =>
    have hU : Sn.SpanAt CS H s d1 d2 (ps.map num) := hS
    obtain ⟨⟨dx, hs⟩, _⟩ := id hU
    obtain rfl : v = .int ((num (x, y) : Nat) : Int) := hv
    refine Or.inr (hta _ ⟨s, dx, _, rfl, hs, rfl, ht _ ⟨⟨s, d1, d2, _, _, rfl, hU, by rw [List.length_map]; exact hl, fun H' k1 U1 => k H' (kp_more k1 (subCons (by o_fieldsN) (subCons (by o_fieldsN) subNil))) (show Sn.SpanAt CS H' s d1 d2 ((ps ++ [(x, y)]).map num) by rw [List.map_append]; exact U1)⟩⟩⟩)
theorem pop2 (hS : StA CU CS H s d1 d2 d3 f (ps ++ [(x, y)])) (hta : ∀ R : VK, R (.ref s) H → ta σ H R) (hl : ps.length ≤ 1000) (k : ∀ H', Kp [s, d1, d2, d3] H H' → StA CU CS H' s d1 d2 d3 f ps → Q .non H') :
    tEither (tMeth CU "pop" (bx (spPop CU)) [] E0 ta tNil) (tMeth CS "pop" (bx (Sn.spPop CS)) [] E0 ta tNil) σ H Q := by
  cases f with
  | true =>
    have hU : UnAt CU H s d1 d2 d3 12 (ps ++ [(x, y)]) := hS
    obtain ⟨⟨dx, hs⟩, _⟩ := id hU
    refine Or.inl (hta _ ⟨s, dx, _, rfl, hs, rfl, ⟨⟨s, d1, d2, d3, 12, ps, (x, y), rfl, hU, by decide, by omega, fun H' k1 U1 => k H' k1 U1⟩⟩⟩)
  | false =>
    have hU : Sn.SpanAt CS H s d1 d2 (ps.map num ++ [num (x, y)]) := by
      have := (show Sn.SpanAt CS H s d1 d2 ((ps ++ [(x, y)]).map num) from hS)
      rw [List.map_append] at this
      exact this
    obtain ⟨⟨dx, hs⟩, _⟩ := id hU
    refine Or.inr (hta _ ⟨s, dx, _, rfl, hs, rfl, ⟨⟨s, d1, d2, _, _, rfl, hU, by rw [List.length_map]; exact hl, fun H' k1 U1 => k H' (kp_more k1 (subCons (by o_fieldsN) (subCons (by o_fieldsN) subNil))) U1⟩⟩⟩)
theorem mem_at {a : Addr} {us : List Addr} {k : Nat} (h : MemAt H a f us ps) (hk : k < ps.length) : ∃ (xs : List V) (v : V) (x y : Nat), H a = some (.lst xs) ∧ xs[k]? = some v ∧ ps[k]? = some (x, y) ∧ memV f H v x y := by
  obtain ⟨⟨x, y⟩, e⟩ : ∃ q, ps[k]? = some q := ⟨_, List.getElem?_eq_getElem hk⟩
  cases f with
  | true =>
    have P : PsAt H a us ps := h
    obtain ⟨t, et⟩ : ∃ t, us[k]? = some t := ⟨_, List.getElem?_eq_getElem (by rw [P.n]; exact hk)⟩
    exact ⟨_, .ref t, x, y, P.l, by rw [List.getElem?_map, et]; rfl, e, t, rfl, P.t k t (x, y) et e⟩
  | false => exact ⟨_, _, x, y, h, by rw [List.getElem?_map, e]; rfl, e, rfl⟩
end
section
variable {P : Program} {w : World} {K : PySem.W.Frag} {mg : Str → Option Value} {base : Heap}
def spLaw (K : PySem.W.Frag) : Sp := fun vs H Q _ => ∃ (a : Addr) (ns : List Int), vs = [.ref a] ∧ SqL K H a (ns.map V.int) ∧ ns.length ≤ 63 ∧ ∀ H', Q (.bl true) H'
theorem ok_law (T : Txt K mg) {f : Addr} {fd : FuncData} (F : Fun K "law" "law" s_law f fd) : Inf.FnOkG P w K mg base CX0 10 f fd ["_law_script"] (spLaw K) := by
  have G_l_bag := ok_bag (P := P) (w := w) (base := base) T
  have G_l_take := ok_takeK (P := P) (w := w) (base := base) T
  have G_l_made := fnBx (ok_made (P := P) (w := w) (base := base) T)
  have G_l_answers := fnBx (ok_answers (P := P) (w := w) (base := base) T)
  have G_Unions_push := fnBx (ok_push (P := P) (w := w) (base := base) T)
  have G_Unions_pop := fnBx (ok_pop (P := P) (w := w) (base := base) T)
  have G_Span_push := fnBx (Sn.ok_push (P := P) (w := w) (base := base) T)
  have G_Span_pop := fnBx (Sn.ok_pop (P := P) (w := w) (base := base) T)
  refine Inf.okG F sc_law (fun vs H Q E h => ?_) (fun cdv A outer s H vs Q E hG hr h => ?_)
  · obtain ⟨a, ns, rfl, _⟩ := h
    rfl
  · obtain ⟨a0, ns0, rfl, hS, hlen, q⟩ := h
    refine ⟨_, (pss_cons (ps_for PassesOwn.never rfl (pi_range1 (by rfl) T.z_range (pa_cons (pe_callB (call_max2 rfl) (by rfl) T.z_max (by decide +kernel) (pa_cons pe_int (pa_cons (pe_callB (call_min2 rfl) (by rfl) T.z_min (by decide +kernel) (pa_cons pe_int (pa_cons (pe_callB call_len_seq (by rfl) T.z_len (by decide +kernel) (pa_cons (pv 0) pa_nil)) pa_nil))) pa_nil))) pa_nil)) (pg_name (i := 1) sc_law.nd rfl (.inl rfl)) (pss_cons (ps_set (i := 2) sc_law.nd rfl (.inl rfl) (pe_call G_l_bag (hr.mono (by omega)) rfl T.g_l_bag T.F_l_bag.kp T.b_l_bag .nil pass0 (pa_cons (pv 0) (pa_cons (pv 1) pa_nil))))
        (pss_cons (ps_set (i := 3) sc_law.nd rfl (.inl rfl) (pe_call G_l_take (hr.mono (by omega)) rfl T.g_l_take T.F_l_take.kp T.b_l_take .nil pass0 (pa_cons (pv 2) (pa_cons pe_int pa_nil))))
        (pss_cons (ps_par3 (i := 4) (j := 5) (l := 6) (by rfl) sc_law.nd rfl rfl rfl (by decide) (by decide) (by decide) rfl rfl rfl (pa_cons (pe_call G_l_made (hr.mono (by omega)) rfl T.g_l_made T.F_l_made.kp T.b_l_made .nil pass0 (pa_cons (pv 3) pa_nil)) (pa_cons (pe_lst pa_nil) (pa_cons (pe_lst (pa_cons (pe_call G_l_answers (hr.mono (by omega)) rfl T.g_l_answers T.F_l_answers.kp T.b_l_answers .nil pass0 (pa_cons (pe_call G_l_made (hr.mono (by omega)) rfl T.g_l_made T.F_l_made.kp T.b_l_made .nil pass0 (pa_cons (pv 3) pa_nil)) (pa_cons (pv 3) pa_nil))) pa_nil)) pa_nil))) (by rfl))
        (pss_cons (ps_for PassesOwn.never rfl (pi_range1 (by rfl) T.z_range (pa_cons (pe_op op_add pe_int (pe_call G_l_take (hr.mono (by omega)) rfl T.g_l_take T.F_l_take.kp T.b_l_take .nil pass0 (pa_cons (pv 2) (pa_cons pe_int pa_nil)))) pa_nil)) (pg_name (i := 7) sc_law.nd rfl (.inl rfl)) (pss_cons (ps_for PassesOwn.never rfl (pi_range1 (by rfl) T.z_range (pa_cons (pe_call G_l_take (hr.mono (by omega)) rfl T.g_l_take T.F_l_take.kp T.b_l_take .nil pass0 (pa_cons (pv 2) (pa_cons pe_int pa_nil))) pa_nil)) (pg_name (i := 8) sc_law.nd rfl (.inl rfl)) (pss_cons (ps_set (i := 9) sc_law.nd rfl (.inl rfl) (pe_tup (pa_cons (pe_call G_l_take (hr.mono (by omega)) rfl T.g_l_take T.F_l_take.kp T.b_l_take .nil pass0 (pa_cons (pv 2) (pa_cons pe_int pa_nil))) (pa_cons (pe_call G_l_take (hr.mono (by omega)) rfl T.g_l_take T.F_l_take.kp T.b_l_take .nil pass0 (pa_cons (pv 2) (pa_cons pe_int pa_nil))) pa_nil))))
            (C8.pss_cut (ps_expr (pe_bm PySem.F.plainAttrs_list PySem.F.slot_list_append PySem.F.type_list_append mt_append (pv 5) (pa_cons (pe_ifExp (pt_cmpR op_eq (pv 3) pe_int (nomark _)) (pv 9) (pe_op op_add (pe_op op_mul (pe_ix (r := rIxT K) ix_tup (pv 9) pe_int (fun _ _ => rfl)) pe_int) (pe_ix (r := rIxT K) ix_tup (pv 9) pe_int (fun _ _ => rfl)))) pa_nil)))
            (pss_cons (ps_expr (pe_or (pe_meth (pv 4) T.cl_Unions ⟨T.m_Unions_push, T.t_Unions_push, T.k_Unions_push⟩ G_Unions_push (hr.mono (by omega)) T.b_Unions_push .nil pass0 (pa_cons (pe_ix (r := rIxL K) ix_list (pv 5) (pe_un un_neg pe_int) (fun _ _ => rfl)) pa_nil)) (pe_meth (pv 4) T.cl_Span ⟨T.m_Span_push, T.t_Span_push, T.k_Span_push⟩ G_Span_push (hr.mono (by omega)) T.b_Span_push .nil pass0 (pa_cons (pe_ix (r := rIxL K) ix_list (pv 5) (pe_un un_neg pe_int) (fun _ _ => rfl)) pa_nil))))
            (pss_one (ps_expr (pe_bm PySem.F.plainAttrs_list PySem.F.slot_list_append PySem.F.type_list_append mt_append (pv 6) (pa_cons (pe_call G_l_answers (hr.mono (by omega)) rfl T.g_l_answers T.F_l_answers.kp T.b_l_answers .nil pass0 (pa_cons (pv 4) (pa_cons (pv 3) pa_nil))) pa_nil))))))))
          (pss_one (ps_for PassesOwn.never rfl (pi_range1 (by rfl) T.z_range (pa_cons (pe_call G_l_take (hr.mono (by omega)) rfl T.g_l_take T.F_l_take.kp T.b_l_take .nil pass0 (pa_cons (pv 2) (pa_cons (pe_op op_add (pe_callB call_len_seq (by rfl) T.z_len (by decide +kernel) (pa_cons (pv 5) pa_nil)) pe_int) pa_nil))) pa_nil)) (pg_name (i := 8) sc_law.nd rfl (.inl rfl)) (pss_cons (ps_expr (pe_or (pe_meth0 (pv 4) T.cl_Unions ⟨T.m_Unions_pop, T.t_Unions_pop, T.k_Unions_pop⟩ G_Unions_pop (hr.mono (by omega)) T.b_Unions_pop .nil pass0) (pe_meth0 (pv 4) T.cl_Span ⟨T.m_Span_pop, T.t_Span_pop, T.k_Span_pop⟩ G_Span_pop (hr.mono (by omega)) T.b_Span_pop .nil pass0)))
            (pss_cons (ps_expr (pe_bm0 PySem.F.plainAttrs_list PySem.F.slot_list_pop PySem.F.type_list_pop mt_pop (pv 5)))
            (pss_cons (ps_expr (pe_bm0 PySem.F.plainAttrs_list PySem.F.slot_list_pop PySem.F.type_list_pop mt_pop (pv 6)))
            (pss_one (ps_if (pt_cmpR (op_neD hr.units) (pe_call G_l_answers (hr.mono (by omega)) rfl T.g_l_answers T.F_l_answers.kp T.b_l_answers .nil pass0 (pa_cons (pv 4) (pa_cons (pv 3) pa_nil))) (pe_ix (r := rIxL K) ix_list (pv 6) (pe_un un_neg pe_int) (fun _ _ => rfl)) (nomark _)) (pss_one (ps_ret pe_bl)) pss_nil)))))))))
        (pss_cons (ps_set (i := 10) sc_law.nd rfl (.inl rfl) (pe_call G_l_made (hr.mono (by omega)) rfl T.g_l_made T.F_l_made.kp T.b_l_made .nil pass0 (pa_cons (pv 3) pa_nil)))
        (pss_one (ps_for PassesOwn.never rfl (pi_range1 (by rfl) T.z_range (pa_cons (pe_callB call_len_seq (by rfl) T.z_len (by decide +kernel) (pa_cons (pv 5) pa_nil)) pa_nil)) (pg_name (i := 8) sc_law.nd rfl (.inl rfl)) (pss_cons (ps_if (pt_cmpR (op_neD hr.units) (pe_call G_l_answers (hr.mono (by omega)) rfl T.g_l_answers T.F_l_answers.kp T.b_l_answers .nil pass0 (pa_cons (pv 10) (pa_cons (pv 3) pa_nil))) (pe_ix (r := rIxL K) ix_list (pv 6) (pv 8) (fun _ _ => rfl)) (nomark _)) (pss_one (ps_ret pe_bl)) pss_nil)
          (pss_one (ps_expr (pe_or (pe_meth (pv 10) T.cl_Unions ⟨T.m_Unions_push, T.t_Unions_push, T.k_Unions_push⟩ G_Unions_push (hr.mono (by omega)) T.b_Unions_push .nil pass0 (pa_cons (pe_ix (r := rIxL K) ix_list (pv 5) (pv 8) (fun _ _ => rfl)) pa_nil)) (pe_meth (pv 10) T.cl_Span ⟨T.m_Span_push, T.t_Span_push, T.k_Span_push⟩ G_Span_push (hr.mono (by omega)) T.b_Span_push .nil pass0 (pa_cons (pe_ix (r := rIxL K) ix_list (pv 5) (pv 8) (fun _ _ => rfl)) pa_nil))))))))))))))
      (pss_one (ps_ret pe_bl))), ?_⟩
    refine ⟨_, rfl, a0, _, rfl, .inl hS, 3, _, rfl, 1, _, rfl, _, rfl, ?_, ?_, ?_⟩
    · split <;> split <;> omega
    · split <;> split <;> omega
    generalize hN : ((if (if (((ns0.map V.int).length : Nat) : Int) < 3 then (((ns0.map V.int).length : Nat) : Int) else 3) > 1 then (if (((ns0.map V.int).length : Nat) : Int) < 3 then (((ns0.map V.int).length : Nat) : Int) else 3) else 1) : Int).toNat = N
    have hN2 : N ≤ 3 := by
      rw [← hN]
      split <;> split <;> omega
    refine for_range (n := N) (fun i σ H' => ∃ y1 y2 y3 y4 y5 y6 y7 y8 y9 y10, σ = [some (.ref a0), y1, y2, y3, y4, y5, y6, y7, y8, y9, y10] ∧ Same H H') ⟨_, _, _, _, _, _, _, _, _, _, rfl, Same.refl _⟩ ?_ ?_
    · rintro i σ Hz hi ⟨y1, y2, y3, y4, y5, y6, y7, y8, y9, y10, rfl, x1⟩
      refine ⟨_, rfl, _, rfl, a0, ns0, i, by rw [Int.zero_add]; rfl, x1.seq hS, by omega, fun p H1 np s1 b1 => ?_⟩
      replace np := Fr.mk np
      o_readsAll
      intro r H2 r0 r1 b2 k2
      obtain ⟨g, rfl⟩ : ∃ g : Bool, r = if g = true then 0 else 1 := by
        by_cases e : r = 0
        · exact ⟨true, e⟩
        · exact ⟨false, by
            rw [if_neg (fun z => nomatch z)]
            omega⟩
      o_readsAll
      refine ⟨⟨g, rfl, fun s d1 d2 d3 H3 fs f1 f2 f3 sm3 S3 e3 => ?_⟩⟩
      o_readsAll
      rename_i a fa
      refine ⟨⟨g, rfl, fun s' e1 e2 e3' H4 fs' fe1 fe2 fe3 sm4 S4 e3'' => ?_⟩⟩
      o_readsAll
      refine ⟨⟨s', e1, e2, e3', g, [], rfl, S4, fun o H5 fo sm5 eo => ?_⟩⟩
      o_readsAll
      rename_i n fn
      obtain ⟨x2, hp2⟩ := bag_lst b2
      have L2 : Live H2 [p] := live_cons hp2 live_nil
      have g1 : s ∉ [p] := L2.ni fs
      have g2 : d1 ∉ [p] := L2.ni f1
      have g3 : d2 ∉ [p] := L2.ni f2
      have g4 : d3 ∉ [p] := L2.ni f3
      have L3 : Live H3 ([p] ++ [s, d1, d2, d3]) := live_app (L2.same sm3) (S3.nt e3).live
      have g5 : a ∉ ([p] ++ [s, d1, d2, d3]) := L3.ni fa
      have sa : Same H3 (upd H3 a (.lst [])) := same_newF fa
      have L4 : Live H4 (a :: ([p] ++ [s, d1, d2, d3])) := (live_cons upd_same (L3.same sa)).same sm4
      have g6 : o ∉ (a :: ([p] ++ [s, d1, d2, d3])) := L4.ni fo
      have L5 : Live H5 (o :: (a :: ([p] ++ [s, d1, d2, d3]))) := live_cons eo (L4.same sm5)
      have g7 : n ∉ (o :: (a :: ([p] ++ [s, d1, d2, d3]))) := L5.ni fn
      have sn : Same H5 (upd H5 n (.lst [V.ref o])) := same_newF fn
      have z2 : Same Hz H2 := same_kp s1 k2 (subCons np subNil)
      have z3 : Same Hz H3 := z2.trans sm3
      have z4 : Same Hz H4 := (z3.trans sa).trans sm4
      have z5 : Same Hz H5 := z4.trans sm5
      have b5 : Bag (upd H5 n (.lst [V.ref o])) p := bag_kpR (cs := []) (kp_same (((sm3.trans sa).trans sm4).trans (sm5.trans sn))) not_nil b2
      have a5 : upd H5 n (.lst [V.ref o]) a = some (.lst []) := sn _ _ (sm5 _ _ (sm4 _ _ upd_same))
      have m5 : MemAt (upd H5 n (.lst [V.ref o])) a g [] [] := by
        cases g with
        | true => exact (show PsAt _ a [] [] from ⟨a5, rfl, fun i t p e1 e2 => nomatch e1⟩)
        | false => exact a5
      have n5 : NotAt (upd H5 n (.lst [V.ref o])) n g [o] [] := ⟨upd_same, rfl, fun i t e => by
        match i, e with
        | 0, e =>
          cases e
          exact sn _ _ eo
        | k + 1, e => cases e⟩
      simp only [List.mem_append, List.mem_cons, List.not_mem_nil, or_false, not_or] at g1 g2 g3 g4 g5 g6 g7
      obtain ⟨g51, g52, g53, g54, g55⟩ := g5
      obtain ⟨g60, g61, g62, g63, g64, g65⟩ := g6
      obtain ⟨g7o, g70, g71, g72, g73, g74, g75⟩ := g7
      have j0 : J T.C_Unions T.C_Span p s d1 d2 d3 a n g Hz [] [] [] [o] [] (upd H5 n (.lst [V.ref o])) := by
        refine ⟨b5, S3.same ((sa.trans sm4).trans (sm5.trans sn)), m5, n5, z5.trans sn, ?_, ?_, ?_, ?_, e3, ?_⟩
        · exact subCons np (subCons (fa.back z3) (subCons (fn.back z5) (subCons (fs.back z2) (subCons (f1.back z2) (subCons (f2.back z2) (subCons (f3.back z2) subNil))))))
        · simp only [List.mem_cons, List.not_mem_nil, or_false, not_or]
          exact ⟨Ne.symm g51, Ne.symm g71, Ne.symm g1, Ne.symm g2, Ne.symm g3, Ne.symm g4⟩
        · simp only [List.mem_cons, List.not_mem_nil, or_false, not_or]
          exact ⟨Ne.symm g70, g52, g53, g54, g55⟩
        · simp only [List.mem_cons, List.not_mem_nil, or_false, not_or]
          exact ⟨g72, g73, g74, g75⟩
        · refine subCons ?_ subNil
          simp only [List.mem_cons, List.not_mem_nil, or_false, not_or]
          exact ⟨g61, g60, Ne.symm g7o, g62, g63, g64, g65⟩
      clear g1 g2 g3 g4 g51 g52 g53 g54 g55 g60 g61 g62 g63 g64 g65 g7o g70 g71 g72 g73 g74 g75 L2 L3 L4 L5 m5 n5 a5 S4 eo fs' fe1 fe2 fe3
      refine ⟨b5, by decide, by decide, ?_⟩
      intro rr H7 rr0 rr1 b7 k7
      have j1 := j0.take k7 b7
      o_readsAll
      have fin : ∀ {H9 : Hp} {ps pl pn : List (Nat × Nat)} {us ts : List Addr}, J T.C_Unions T.C_Span p s d1 d2 d3 a n g Hz ps us pl ts pn H9 → Same H H9 := fun j => x1.trans j.same
      refine for_range (n := (1 + rr).toNat) (fun t σ H' => ∃ y7 y8 y9 ps us ts, σ = [some (.ref a0), some (.int (0 + (i : Int))), some (.ref p), some (fV g), some (.ref s), some (.ref a), some (.ref n), y7, y8, y9, y10] ∧ ps.length ≤ 31 * t ∧ J T.C_Unions T.C_Span p s d1 d2 d3 a n g Hz ps us ps ts ps H') ⟨_, _, _, [], [], [o], rfl, Nat.le_refl _, j1⟩ ?_ ?_
      · rintro t σ H8 ht ⟨y7, y8, y9, ps, us, ts, rfl, lp, j8⟩
        have ht' : t < 5 := by omega
        have hb8 := j8.bag
        o_readsAll
        intro rk H9 rk0 rk1 b9 k9
        have j9 := j8.take k9 b9
        o_readsAll
        refine for_range (n := rk.toNat) (fun k σ H' => ∃ y8 y9 ps us ts, σ = [some (.ref a0), some (.int (0 + (i : Int))), some (.ref p), some (fV g), some (.ref s), some (.ref a), some (.ref n), some (.int (0 + (t : Int))), y8, y9, y10] ∧ ps.length ≤ 31 * t + k ∧ J T.C_Unions T.C_Span p s d1 d2 d3 a n g Hz ps us ps ts ps H') ⟨_, _, ps, us, ts, rfl, by omega, j9⟩ ?_ ?_
        · rintro k σ H10 hk ⟨y8, y9, ps, us, ts, rfl, lp, j10⟩
          have hk' : k < 31 := by omega
          have hb10 := j10.bag
          o_readsAll
          intro x' H11 x0 x1 b11 k11
          obtain ⟨x, rfl⟩ := Int.eq_ofNat_of_zero_le x0
          have j11 := j10.take k11 b11
          have hb11 := j11.bag
          o_readsAll
          intro y' H12 y0 y1 b12 k12
          obtain ⟨y, rfl⟩ := Int.eq_ofNat_of_zero_le y0
          have j12 := j11.take k12 b12
          o_readsAll
          rename_i tq ntq
          have j13 := j12.same' (same_newF (o := .tup [.int (x : Int), .int (y : Int)]) ntq)
          have hq13 : upd H12 tq (.tup [.int (x : Int), .int (y : Int)]) tq = some (.tup [.int (x : Int), .int (y : Int)]) := upd_same
          revert j13 hq13
          generalize upd H12 tq (.tup [.int (x : Int), .int (y : Int)]) = H13
          intro j13 hq13
          have naq : tq ≠ a := by
            obtain ⟨xs, e, _⟩ := j13.M.lst
            exact neO hq13 e (fun z => nomatch z)
          refine ⟨fun σ H' => Hold <| ∃ (us' : List Addr) (v : V), σ = [some (.ref a0), some (.int (0 + (i : Int))), some (.ref p), some (fV g), some (.ref s), some (.ref a), some (.ref n), some (.int (0 + (t : Int))), some (.int (0 + (k : Int))), some (.ref tq), y10] ∧ memV g H' v x y ∧ (∃ xs, H' a = some (.lst (xs ++ [v]))) ∧ J T.C_Unions T.C_Span p s d1 d2 d3 a n g Hz ps us' (ps ++ [(x, y)]) ts ps H', ?_, ?_⟩
          · cases g with
            | true =>
              have P13 : PsAt H13 a us ps := j13.M
              have hL13 := P13.l
              have lts : (us.map V.ref).length.succ ≤ sizeLine := by
                rw [List.length_map, P13.n, sizeLine_eq]
                omega
              o_readsAll
              have P14 := P13.add hq13
              exact ⟨⟨us ++ [tq], .ref tq, rfl, ⟨tq, rfl, by rw [upd_ne naq]; exact hq13⟩, ⟨_, upd_same⟩, j13.mem (by kxs_still) P14⟩⟩
            | false =>
              have hL13 : H13 a = some (.lst (ps.map fun p => V.int ((num p : Nat) : Int))) := j13.M
              have lts : (ps.map fun p => V.int ((num p : Nat) : Int)).length.succ ≤ sizeLine := by
                rw [List.length_map, sizeLine_eq]
                omega
              have hcm : CMul (x : Int) 8 := .inl ⟨by omega, by omega⟩
              o_readsAll
              have ev : V.int ((x : Int) * 8 + (y : Int)) = V.int ((num (x, y) : Nat) : Int) := by
                show V.int _ = V.int ((x * 8 + y : Nat) : Int)
                rw [Int.natCast_add, Int.natCast_mul]
                rfl
              refine ⟨⟨us, .int ((num (x, y) : Nat) : Int), rfl, rfl, ⟨_, upd_same.trans (by rw [← ev])⟩, j13.mem (by kxs_still) ?_⟩⟩
              show upd H13 a _ a = some (.lst ((ps ++ [(x, y)]).map fun p => V.int ((num p : Nat) : Int)))
              rw [upd_same, List.map_append]
              exact congrArg (fun v => some (HO.lst ((ps.map fun p => V.int ((num p : Nat) : Int)) ++ [v]))) ev
          rintro σ H14 ⟨⟨us', v, rfl, hv, ⟨xs, ha⟩, j14⟩⟩
          have hat := atI_last xs v
          refine push2 (v := v) j14.S (fun R h => ⟨_, rfl, h⟩) (fun R h => ?_) hv (fun _ => by omega) (fun _ => by omega) (by omega) (fun H15 k15 S15 => ?_)
          · o_readsAll
            exact h
          have j15 := j14.str k15 S15
          have hL15 := j15.N.l
          o_readsAll
          refine ⟨⟨s, d1, d2, d3, g, _, rfl, j15.S, fun o2 H16 fo s16 eo => ?_⟩⟩
          have j16 := j15.same' s16
          have hL16 := j16.N.l
          have lts : (ts.map V.ref).length.succ ≤ sizeLine := by
            rw [List.length_map, j16.N.n, sizeLine_eq]
            omega
          o_readsAll
          have tn : ∀ x ∈ ts, x ≠ n := fun x m z => j16.tf x m (by rw [z]; o_fieldsN)
          have no : o2 ≠ n := fun z => j15.out fo (by rw [z]; o_fieldsN)
          exact ⟨_, _, ps ++ [(x, y)], us', ts ++ [o2], rfl, by rw [List.length_append]; show ps.length + 1 ≤ _; omega, j16.noted (by kxs_still) (j16.N.add tn eo no) fun u m => (List.mem_append.mp m).elim (j16.tf u) fun m => by rw [List.mem_singleton.mp m]; exact j15.out fo⟩
        · rintro σ H10 ⟨y8, y9, ps, us, ts, rfl, lp, j10⟩
          have lp31 : ps.length ≤ 31 * t + 31 := by omega
          have hb10 := j10.bag
          obtain ⟨xs, hxs, lxs⟩ := j10.M.lst
          have hsz0 : 0 < ((xs.length : Nat) : Int) + 1 := by omega
          have hsz : (((xs.length : Nat) : Int) + 1).natAbs < 2 ^ 200 := Nat.lt_of_le_of_lt (show _ ≤ 1000 by omega) (by decide)
          o_readsAll
          intro c H11 c0 c1 b11 k11
          have j11 := j10.take k11 b11
          o_readsAll
          refine for_range (n := c.toNat) (fun k σ H' => ∃ y8 ps' us ts, σ = [some (.ref a0), some (.int (0 + (i : Int))), some (.ref p), some (fV g), some (.ref s), some (.ref a), some (.ref n), some (.int (0 + (t : Int))), y8, y9, y10] ∧ ps'.length + k = ps.length ∧ J T.C_Unions T.C_Span p s d1 d2 d3 a n g Hz ps' us ps' ts ps' H') ⟨_, ps, us, ts, rfl, rfl, j11⟩ ?_ ?_
          · rintro k σ H12 hk ⟨y8, ps1, us, ts, rfl, lk, j12⟩
            have hk' : (k : Int) < c := by omega
            obtain ⟨ps', xy, rfl⟩ : ∃ (ps' : List (Nat × Nat)) (x : Nat × Nat), ps1 = ps' ++ [x] := (nil_or_app ps1).resolve_left fun z => by
              rw [z] at lk
              have : ([] : List (Nat × Nat)).length = 0 := rfl
              omega
            obtain ⟨x, y⟩ := xy
            have ln : (ps' ++ [(x, y)]).length = ps'.length + 1 := List.length_append ..
            refine pop2 (x := x) (y := y) j12.S (fun R h => ⟨_, rfl, h⟩) (by omega) (fun H13 k13 S13 => ?_)
            have j13 := j12.str k13 S13
            obtain ⟨xs, v, us', hx13, hm14⟩ := j13.M.drop
            o_readsAll
            refine ⟨last_at _ _, ?_⟩
            rw [List.dropLast_concat]
            have j14 := j13.mem (by kxs_still) hm14
            revert j14
            generalize upd H13 a (.lst xs) = H14
            intro j14
            obtain ⟨ts', tz, rfl⟩ : ∃ (ts' : List Addr) (x : Addr), ts = ts' ++ [x] := (nil_or_app ts).resolve_left fun z => by
              have := j14.N.n
              rw [z] at this
              cases this
            have lt1 : ts'.length = ps'.length + 1 := by
              have := j14.N.n
              rw [List.length_append, List.length_append] at this
              exact Nat.succ.inj this
            have hn14 : H14 n = some (.lst (ts'.map V.ref ++ [V.ref tz])) := by
              rw [j14.N.l, List.map_append]
              rfl
            o_readsAll
            refine ⟨last_at _ _, ?_⟩
            rw [List.dropLast_concat]
            have tn : ∀ x ∈ ts', x ≠ n := fun x m z => j14.tf x (List.mem_append.mpr (.inl m)) (by rw [z]; o_fieldsN)
            have j15 := j14.noted (by kxs_still) (j14.N.drop tn) fun u m => j14.tf u (List.mem_append.mpr (.inl m))
            revert j15
            generalize upd H14 n (.lst (ts'.map V.ref)) = H15
            intro j15
            o_readsAll
            refine ⟨⟨s, d1, d2, d3, g, _, rfl, j15.S, fun o2 H16 fo s16 eo => ?_⟩⟩
            have j16 := j15.same' s16
            obtain ⟨t3, tl, rfl⟩ : ∃ (ts3 : List Addr) (x : Addr), ts' = ts3 ++ [x] := (nil_or_app ts').resolve_left fun z => by
              rw [z] at lt1
              cases lt1
            have hL16 : H16 n = some (.lst (t3.map V.ref ++ [V.ref tl])) := by
              rw [j16.N.l, List.map_append]
              rfl
            have hat := atI_last (t3.map V.ref) (V.ref tl)
            have etl : H16 tl = some (.lst (ansV g ps')) := by
              have e := j16.N.t t3.length tl (by rw [List.getElem?_append_right (Nat.le_refl _), Nat.sub_self]; rfl)
              rw [List.length_append] at lt1
              rw [List.take_of_length_le (show ps'.length ≤ t3.length by have : [tl].length = 1 := rfl; omega)] at e
              exact e
            o_readsAll
            have df := dp_flat (K := K) (H := H16) _ (ans_flat g ps')
            refine ⟨_, _, .lst (sqlOf eo) df, .lst (sqlOf etl) df, sh_flat _, sh_flat _, _, rfl, ifF (eq_flat _) ?_⟩
            exact ⟨_, ps', us', t3 ++ [tl], rfl, by omega, j16⟩
          · rintro σ H12 ⟨y8, ps', us, ts, rfl, lk, j12⟩
            exact ⟨_, _, _, ps', us, ts, rfl, by omega, j12⟩
      · rintro σ H8 ⟨y7, y8, y9, ps, us, ts, rfl, lp, j8⟩
        have lp5 : ps.length ≤ 155 := by omega
        o_readsAll
        refine ⟨⟨g, rfl, fun s2 e1 e2 e3' H9 fs' fe1 fe2 fe3 sm9 S9 e3'' => ?_⟩⟩
        have j9 := j8.same' sm9
        have oc : ∀ z ∈ [s2, e1, e2, e3'], z ∉ [p, a, n, s, d1, d2, d3] := subCons (j8.out fs') (subCons (j8.out fe1) (subCons (j8.out fe2) (subCons (j8.out fe3) subNil)))
        have ot : ∀ {z : Addr}, Fr H8 z → z ∉ ts := fun f m => by
          obtain ⟨i, e⟩ := List.getElem?_of_mem m
          exact neN f (j8.N.t i _ e) rfl
        have oc2 : ∀ z ∈ [s2, e1, e2, e3'], z ∉ ts := subCons (ot fs') (subCons (ot fe1) (subCons (ot fe2) (subCons (ot fe3) subNil)))
        have fc : ∀ z ∈ [s2, e1, e2, e3'], Fr Hz z := subCons (fs'.back j8.same) (subCons (fe1.back j8.same) (subCons (fe2.back j8.same) (subCons (fe3.back j8.same) subNil)))
        have lts := j9.N.n
        obtain ⟨xs, hxs, lxs⟩ := j9.M.lst
        have hb1 : (-2 ^ 62 : Int) ≤ ((xs.length : Nat) : Int) := by omega
        have hb2 : ((xs.length : Nat) : Int) < 2 ^ 62 := by omega
        refine ⟨_, rfl, a, xs, rfl, .inl (sqlOf hxs), _, rfl, hb1, hb2, ?_⟩
        refine for_range (n := (((xs.length : Nat) : Int)).toNat) (fun k σ H' => ∃ y8, σ = [some (.ref a0), some (.int (0 + (i : Int))), some (.ref p), some (fV g), some (.ref s), some (.ref a), some (.ref n), y7, y8, y9, some (.ref s2)] ∧ J T.C_Unions T.C_Span p s d1 d2 d3 a n g Hz ps us ps ts ps H' ∧ StA T.C_Unions T.C_Span H' s2 e1 e2 e3' g (ps.take k)) ⟨_, rfl, j9, S9⟩ ?_ ?_
        · rintro k σ H10 hk ⟨y8, rfl, j10, S10⟩
          have hk' : k < ps.length := by omega
          o_readsAll
          refine ⟨⟨s2, e1, e2, e3', g, _, rfl, S10, fun o2 H11 fo s11 eo => ?_⟩⟩
          have j11 := j10.same' s11
          have S11 := S10.same s11
          have hL11 := j11.N.l
          obtain ⟨tl, htl⟩ : ∃ tl, ts[k]? = some tl := ⟨_, List.getElem?_eq_getElem (by omega)⟩
          have hat : atI (ts.map V.ref) (0 + (k : Int)) = some (.ref tl) := by
            rw [Int.zero_add]
            exact atI_nat (by rw [List.getElem?_map, htl]; rfl)
          have etl := j11.N.t k tl htl
          o_readsAll
          have df := dp_flat (K := K) (H := H11) _ (ans_flat g (ps.take k))
          refine ⟨_, _, .lst (sqlOf eo) df, .lst (sqlOf etl) df, sh_flat _, sh_flat _, _, rfl, ifF (eq_flat _) ?_⟩
          obtain ⟨ys, v, x, y, ha, hv, hxy, hm⟩ := mem_at j11.M hk'
          have hw : g = true → InW 12 ps := fun z => by
            subst z
            exact (show UnAt T.C_Unions H11 s d1 d2 d3 12 ps from j11.S).w
          have hxm : (x, y) ∈ ps := List.mem_of_getElem? hxy
          have hat2 : atI ys (0 + (k : Int)) = some v := by
            rw [Int.zero_add]
            exact atI_nat hv
          refine push2 (v := v) S11 (fun R h => ⟨_, rfl, h⟩) (fun R h => ?_) hm (fun z => (hw z _ hxm).1) (fun z => (hw z _ hxm).2) (by rw [List.length_take]; omega) (fun H12 k12 S12 => ?_)
          · o_readsAll
            exact h
          exact ⟨_, rfl, j11.off k12 (S11.nt e3'') (fun x m z => oc x z m) (fun x m z => oc2 x z m) fc, by rw [List.take_add_one, hxy]; exact S12⟩
        · rintro σ H10 ⟨y8, rfl, j10, S10⟩
          exact ⟨_, _, _, _, _, _, _, _, _, _, rfl, fin j10⟩
    · rintro σ H' ⟨y1, y2, y3, y4, y5, y6, y7, y8, y9, y10, rfl, x1⟩
      o_readsAll
      exact q _
end
theorem lawAtG {l : PySem.W.OpenLaw} {w : World} {K : PySem.W.Frag} {mg : Str → Option Value} {fa : Addr} {h : Heap}
    (A : ∃ fd : FuncData, (∀ (s : Shared) (v : Value), BindsTo s fd ⟨[v], []⟩ [("_law_script", v)]) ∧ ∀ base : Heap, K.In base → base.Ns mainGlobals mg → Inf.FnOkG l.prog w K mg base CX0 10 fa fd ["_law_script"] (spLaw K)) :
    Inf.LawAtG l w K CX0 10 63 "_law_script" mg fa h := by
  obtain ⟨fd, hb, hF⟩ := A
  exact ⟨fd, [], spLaw K, (fun _ z => nomatch z), (fun _ z => nomatch z), (fun _ z => nomatch z), hb, fun H a ns hl _ hS => ⟨a, ns, rfl, hS, hl, fun _ => rfl⟩, fun base hk hn _ => hF base hk hn⟩
theorem all_mk {l : PySem.W.OpenLaw} {w : World} {K : PySem.W.Frag} {h : Heap} {mg : Str → Option Value} {fa f0 f1 f2 f3 f4 C_Unions C_Span mf0 mf1 mf2 mf3 mf4 mf5 mf6 mf7 mf8 mf9 mf10 : Addr} (X : K.In h) (G : h.Ns mainGlobals mg) (hfa : mg "law" = some (.ref fa))
    {od0 an0 od1 an1 od2 an2 od3 an3 od4 an4 mod0 man0 mod1 man1 mod2 man2 mod3 man3 mod4 man4 mod5 man5 mod6 man6 mod7 man7 mod8 man8 mod9 man9 mod10 man10 : Option Addr} {sl0 sl1 sl2 sl3 sl4 msl0 msl1 msl2 msl3 msl4 msl5 msl6 msl7 msl8 msl9 msl10 : Array (Option Value)} {oc0 kV0 dc0 pm0 cd0 ct0 oc1 kV1 dc1 pm1 cd1 ct1 oc2 kV2 dc2 pm2 cd2 ct2 oc3 kV3 dc3 pm3 cd3 ct3 oc4 kV4 dc4 pm4 cd4 ct4 moc0 mkV0 mdc0 mpm0 mcd0 mct0 moc1 mkV1 mdc1 mpm1 mcd1 mct1 moc2 mkV2 mdc2 mpm2 mcd2 mct2 moc3 mkV3 mdc3 mpm3 mcd3 mct3 moc4 mkV4 mdc4 mpm4 mcd4 mct4 moc5 mkV5 mdc5 mpm5 mcd5 mct5 moc6 mkV6 mdc6 mpm6 mcd6 mct6 moc7 mkV7 mdc7 mpm7 mcd7 mct7 moc8 mkV8 mdc8 mpm8 mcd8 mct8 moc9 mkV9 mdc9 mpm9 mcd9 mct9 moc10 mkV10 mdc10 mpm10 mcd10 mct10 : Value}
    (gc_Unions : PySem.W.nsIn K mainGlobals "Unions" = some (some (.ref C_Unions)))
    (gc_Span : PySem.W.nsIn K mainGlobals "Span" = some (some (.ref C_Span)))
    (ma0 : PySem.W.findIn K (.ref C_Unions) "__init__" = some (some (.ref mf0))) (ml0 : K.lookup mf0 = some ⟨moc0, mod0, .func (PySem.W.fnOf "__init__" "Unions.__init__" (defArgs s_Unions_init) (defBody s_Unions_init) (defScope s_Unions_init) .none mkV0 mdc0 mpm0 man0 mcd0 mct0), msl0⟩) (mc0 : PySem.W.codeIn K mcd0 "Unions.__init__" = true) (mk0 : PySem.W.keepIn K (.ref mf0) = true) (mt0 : PySem.W.isFn K (.ref mf0) = true) (my0 : PySem.W.typeIn K (.ref mf0) = some (.type "function"))
    (ma1 : PySem.W.findIn K (.ref C_Unions) "push" = some (some (.ref mf1))) (ml1 : K.lookup mf1 = some ⟨moc1, mod1, .func (PySem.W.fnOf "push" "Unions.push" (defArgs s_Unions_push) (defBody s_Unions_push) (defScope s_Unions_push) .none mkV1 mdc1 mpm1 man1 mcd1 mct1), msl1⟩) (mc1 : PySem.W.codeIn K mcd1 "Unions.push" = true) (mk1 : PySem.W.keepIn K (.ref mf1) = true) (mt1 : PySem.W.isFn K (.ref mf1) = true) (my1 : PySem.W.typeIn K (.ref mf1) = some (.type "function"))
    (ma2 : PySem.W.findIn K (.ref C_Unions) "pop" = some (some (.ref mf2))) (ml2 : K.lookup mf2 = some ⟨moc2, mod2, .func (PySem.W.fnOf "pop" "Unions.pop" (defArgs s_Unions_pop) (defBody s_Unions_pop) (defScope s_Unions_pop) .none mkV2 mdc2 mpm2 man2 mcd2 mct2), msl2⟩) (mc2 : PySem.W.codeIn K mcd2 "Unions.pop" = true) (mk2 : PySem.W.keepIn K (.ref mf2) = true) (mt2 : PySem.W.isFn K (.ref mf2) = true) (my2 : PySem.W.typeIn K (.ref mf2) = some (.type "function"))
    (ma3 : PySem.W.findIn K (.ref C_Unions) "ask" = some (some (.ref mf3))) (ml3 : K.lookup mf3 = some ⟨moc3, mod3, .func (PySem.W.fnOf "ask" "Unions.ask" (defArgs s_Unions_ask) (defBody s_Unions_ask) (defScope s_Unions_ask) .none mkV3 mdc3 mpm3 man3 mcd3 mct3), msl3⟩) (mc3 : PySem.W.codeIn K mcd3 "Unions.ask" = true) (mk3 : PySem.W.keepIn K (.ref mf3) = true) (mt3 : PySem.W.isFn K (.ref mf3) = true) (my3 : PySem.W.typeIn K (.ref mf3) = some (.type "function"))
    (ma4 : PySem.W.findIn K (.ref C_Unions) "root_of" = some (some (.ref mf4))) (ml4 : K.lookup mf4 = some ⟨moc4, mod4, .func (PySem.W.fnOf "root_of" "Unions.root_of" (defArgs s_Unions_root_of) (defBody s_Unions_root_of) (defScope s_Unions_root_of) .none mkV4 mdc4 mpm4 man4 mcd4 mct4), msl4⟩) (mc4 : PySem.W.codeIn K mcd4 "Unions.root_of" = true) (mk4 : PySem.W.keepIn K (.ref mf4) = true) (mt4 : PySem.W.isFn K (.ref mf4) = true) (my4 : PySem.W.typeIn K (.ref mf4) = some (.type "function"))
    (ma5 : PySem.W.findIn K (.ref C_Unions) "count_of" = some (some (.ref mf5))) (ml5 : K.lookup mf5 = some ⟨moc5, mod5, .func (PySem.W.fnOf "count_of" "Unions.count_of" (defArgs s_Unions_count_of) (defBody s_Unions_count_of) (defScope s_Unions_count_of) .none mkV5 mdc5 mpm5 man5 mcd5 mct5), msl5⟩) (mc5 : PySem.W.codeIn K mcd5 "Unions.count_of" = true) (mk5 : PySem.W.keepIn K (.ref mf5) = true) (mt5 : PySem.W.isFn K (.ref mf5) = true) (my5 : PySem.W.typeIn K (.ref mf5) = some (.type "function"))
    (ma6 : PySem.W.findIn K (.ref C_Span) "__init__" = some (some (.ref mf6))) (ml6 : K.lookup mf6 = some ⟨moc6, mod6, .func (PySem.W.fnOf "__init__" "Span.__init__" (defArgs s_Span_init) (defBody s_Span_init) (defScope s_Span_init) .none mkV6 mdc6 mpm6 man6 mcd6 mct6), msl6⟩) (mc6 : PySem.W.codeIn K mcd6 "Span.__init__" = true) (mk6 : PySem.W.keepIn K (.ref mf6) = true) (mt6 : PySem.W.isFn K (.ref mf6) = true) (my6 : PySem.W.typeIn K (.ref mf6) = some (.type "function"))
    (ma7 : PySem.W.findIn K (.ref C_Span) "push" = some (some (.ref mf7))) (ml7 : K.lookup mf7 = some ⟨moc7, mod7, .func (PySem.W.fnOf "push" "Span.push" (defArgs s_Span_push) (defBody s_Span_push) (defScope s_Span_push) .none mkV7 mdc7 mpm7 man7 mcd7 mct7), msl7⟩) (mc7 : PySem.W.codeIn K mcd7 "Span.push" = true) (mk7 : PySem.W.keepIn K (.ref mf7) = true) (mt7 : PySem.W.isFn K (.ref mf7) = true) (my7 : PySem.W.typeIn K (.ref mf7) = some (.type "function"))
    (ma8 : PySem.W.findIn K (.ref C_Span) "pop" = some (some (.ref mf8))) (ml8 : K.lookup mf8 = some ⟨moc8, mod8, .func (PySem.W.fnOf "pop" "Span.pop" (defArgs s_Span_pop) (defBody s_Span_pop) (defScope s_Span_pop) .none mkV8 mdc8 mpm8 man8 mcd8 mct8), msl8⟩) (mc8 : PySem.W.codeIn K mcd8 "Span.pop" = true) (mk8 : PySem.W.keepIn K (.ref mf8) = true) (mt8 : PySem.W.isFn K (.ref mf8) = true) (my8 : PySem.W.typeIn K (.ref mf8) = some (.type "function"))
    (ma9 : PySem.W.findIn K (.ref C_Span) "ask" = some (some (.ref mf9))) (ml9 : K.lookup mf9 = some ⟨moc9, mod9, .func (PySem.W.fnOf "ask" "Span.ask" (defArgs s_Span_ask) (defBody s_Span_ask) (defScope s_Span_ask) .none mkV9 mdc9 mpm9 man9 mcd9 mct9), msl9⟩) (mc9 : PySem.W.codeIn K mcd9 "Span.ask" = true) (mk9 : PySem.W.keepIn K (.ref mf9) = true) (mt9 : PySem.W.isFn K (.ref mf9) = true) (my9 : PySem.W.typeIn K (.ref mf9) = some (.type "function"))
    (ma10 : PySem.W.findIn K (.ref C_Span) "reduced" = some (some (.ref mf10))) (ml10 : K.lookup mf10 = some ⟨moc10, mod10, .func (PySem.W.fnOf "reduced" "Span.reduced" (defArgs s_Span_reduced) (defBody s_Span_reduced) (defScope s_Span_reduced) .none mkV10 mdc10 mpm10 man10 mcd10 mct10), msl10⟩) (mc10 : PySem.W.codeIn K mcd10 "Span.reduced" = true) (mk10 : PySem.W.keepIn K (.ref mf10) = true) (mt10 : PySem.W.isFn K (.ref mf10) = true) (my10 : PySem.W.typeIn K (.ref mf10) = some (.type "function"))
    (a0 : PySem.W.nsIn K mainGlobals "_law_bag" = some (some (.ref f0))) (l0 : K.lookup f0 = some ⟨oc0, od0, .func (PySem.W.fnOf "_law_bag" "_law_bag" (defArgs s_l_bag) (defBody s_l_bag) (defScope s_l_bag) .none kV0 dc0 pm0 an0 cd0 ct0), sl0⟩) (c0 : PySem.W.codeIn K cd0 "_law_bag" = true) (k0 : PySem.W.keepIn K (.ref f0) = true)
    (a1 : PySem.W.nsIn K mainGlobals "_law_take" = some (some (.ref f1))) (l1 : K.lookup f1 = some ⟨oc1, od1, .func (PySem.W.fnOf "_law_take" "_law_take" (defArgs s_l_take) (defBody s_l_take) (defScope s_l_take) .none kV1 dc1 pm1 an1 cd1 ct1), sl1⟩) (c1 : PySem.W.codeIn K cd1 "_law_take" = true) (k1 : PySem.W.keepIn K (.ref f1) = true)
    (a2 : PySem.W.nsIn K mainGlobals "_law_made" = some (some (.ref f2))) (l2 : K.lookup f2 = some ⟨oc2, od2, .func (PySem.W.fnOf "_law_made" "_law_made" (defArgs s_l_made) (defBody s_l_made) (defScope s_l_made) .none kV2 dc2 pm2 an2 cd2 ct2), sl2⟩) (c2 : PySem.W.codeIn K cd2 "_law_made" = true) (k2 : PySem.W.keepIn K (.ref f2) = true)
    (a3 : PySem.W.nsIn K mainGlobals "_law_answers" = some (some (.ref f3))) (l3 : K.lookup f3 = some ⟨oc3, od3, .func (PySem.W.fnOf "_law_answers" "_law_answers" (defArgs s_l_answers) (defBody s_l_answers) (defScope s_l_answers) .none kV3 dc3 pm3 an3 cd3 ct3), sl3⟩) (c3 : PySem.W.codeIn K cd3 "_law_answers" = true) (k3 : PySem.W.keepIn K (.ref f3) = true)
    (a4 : PySem.W.nsIn K mainGlobals "law" = some (some (.ref f4))) (l4 : K.lookup f4 = some ⟨oc4, od4, .func (PySem.W.fnOf "law" "law" (defArgs s_law) (defBody s_law) (defScope s_law) .none kV4 dc4 pm4 an4 cd4 ct4), sl4⟩) (c4 : PySem.W.codeIn K cd4 "law" = true) (k4 : PySem.W.keepIn K (.ref f4) = true)
    (z_abs : PySem.W.nsIn K mainGlobals "abs" = some none)
    (z_len : PySem.W.nsIn K mainGlobals "len" = some none)
    (z_list : PySem.W.nsIn K mainGlobals "list" = some none)
    (z_max : PySem.W.nsIn K mainGlobals "max" = some none)
    (z_min : PySem.W.nsIn K mainGlobals "min" = some none)
    (z_range : PySem.W.nsIn K mainGlobals "range" = some none)
    (z_repr : PySem.W.nsIn K mainGlobals "repr" = some none)
    (z_sorted : PySem.W.nsIn K mainGlobals "sorted" = some none)
    (pg_Unions : PySem.W.plainGet K C_Unions Str.empty = true)
    (hd_Unions : PySem.W.hasDictIn K C_Unions = true)
    (po_Unions : PySem.W.plainOver K C_Unions = true)
    (sa_Unions : PySem.W.findIn K (.ref C_Unions) "__setattr__" = some (some (.builtin "object.__setattr__")))
    (mk_Unions : PySem.W.makesIn K C_Unions = true)
    (kp_Unions : PySem.W.keepIn K (.ref C_Unions) = true)
    (n_Unions_groups : PySem.W.findIn K (.ref C_Unions) "groups" = some none)
    (n_Unions_parents : PySem.W.findIn K (.ref C_Unions) "parents" = some none)
    (n_Unions_counts : PySem.W.findIn K (.ref C_Unions) "counts" = some none)
    (n_Unions_moved : PySem.W.findIn K (.ref C_Unions) "moved" = some none)
    (pg_Span : PySem.W.plainGet K C_Span Str.empty = true)
    (hd_Span : PySem.W.hasDictIn K C_Span = true)
    (po_Span : PySem.W.plainOver K C_Span = true)
    (sa_Span : PySem.W.findIn K (.ref C_Span) "__setattr__" = some (some (.builtin "object.__setattr__")))
    (mk_Span : PySem.W.makesIn K C_Span = true)
    (kp_Span : PySem.W.keepIn K (.ref C_Span) = true)
    (n_Span_basis : PySem.W.findIn K (.ref C_Span) "basis" = some none)
    (n_Span_lengths : PySem.W.findIn K (.ref C_Span) "lengths" = some none) :
    ∃ fd : FuncData, (∀ (s : Shared) (v : Value), BindsTo s fd ⟨[v], []⟩ [("_law_script", v)]) ∧ ∀ base : Heap, K.In base → base.Ns mainGlobals mg → Inf.FnOkG l.prog w K mg base CX0 10 fa fd ["_law_script"] (spLaw K) := by
  have e := hfa.symm.trans (PySem.W.mg_of X G a4)
  cases e
  have MF0 := fun_mk (st := s_Unions_init) ml0 mc0 mk0
  have MF1 := fun_mk (st := s_Unions_push) ml1 mc1 mk1
  have MF2 := fun_mk (st := s_Unions_pop) ml2 mc2 mk2
  have MF3 := fun_mk (st := s_Unions_ask) ml3 mc3 mk3
  have MF4 := fun_mk (st := s_Unions_root_of) ml4 mc4 mk4
  have MF5 := fun_mk (st := s_Unions_count_of) ml5 mc5 mk5
  have MF6 := fun_mk (st := s_Span_init) ml6 mc6 mk6
  have MF7 := fun_mk (st := s_Span_push) ml7 mc7 mk7
  have MF8 := fun_mk (st := s_Span_pop) ml8 mc8 mk8
  have MF9 := fun_mk (st := s_Span_ask) ml9 mc9 mk9
  have MF10 := fun_mk (st := s_Span_reduced) ml10 mc10 mk10
  have F0 := fun_mk (st := s_l_bag) l0 c0 k0
  have F1 := fun_mk (st := s_l_take) l1 c1 k1
  have F2 := fun_mk (st := s_l_made) l2 c2 k2
  have F3 := fun_mk (st := s_l_answers) l3 c3 k3
  have F4 := fun_mk (st := s_law) l4 c4 k4
  let T : Txt K mg := {
    C_Unions := C_Unions,
    gc_Unions := PySem.W.mg_of X G gc_Unions,
    C_Span := C_Span,
    gc_Span := PySem.W.mg_of X G gc_Span,
    f_Unions_init := mf0,
    d_Unions_init := _,
    F_Unions_init := MF0,
    b_Unions_init := (MF0.binds (ps := ["self", "many"]) fun _ _ _ _ _ _ us hl => match us, hl with | [_, _], _ => rfl),
    m_Unions_init := ma0,
    t_Unions_init := mt0,
    y_Unions_init := my0,
    k_Unions_init := mk0,
    f_Unions_push := mf1,
    d_Unions_push := _,
    F_Unions_push := MF1,
    b_Unions_push := (MF1.binds (ps := ["self", "pair"]) fun _ _ _ _ _ _ us hl => match us, hl with | [_, _], _ => rfl),
    m_Unions_push := ma1,
    t_Unions_push := mt1,
    y_Unions_push := my1,
    k_Unions_push := mk1,
    f_Unions_pop := mf2,
    d_Unions_pop := _,
    F_Unions_pop := MF2,
    b_Unions_pop := (MF2.binds (ps := ["self"]) fun _ _ _ _ _ _ us hl => match us, hl with | [_], _ => rfl),
    m_Unions_pop := ma2,
    t_Unions_pop := mt2,
    y_Unions_pop := my2,
    k_Unions_pop := mk2,
    f_Unions_ask := mf3,
    d_Unions_ask := _,
    F_Unions_ask := MF3,
    b_Unions_ask := (MF3.binds (ps := ["self", "question"]) fun _ _ _ _ _ _ us hl => match us, hl with | [_, _], _ => rfl),
    m_Unions_ask := ma3,
    t_Unions_ask := mt3,
    y_Unions_ask := my3,
    k_Unions_ask := mk3,
    f_Unions_root_of := mf4,
    d_Unions_root_of := _,
    F_Unions_root_of := MF4,
    b_Unions_root_of := (MF4.binds (ps := ["self", "point"]) fun _ _ _ _ _ _ us hl => match us, hl with | [_, _], _ => rfl),
    m_Unions_root_of := ma4,
    t_Unions_root_of := mt4,
    y_Unions_root_of := my4,
    k_Unions_root_of := mk4,
    f_Unions_count_of := mf5,
    d_Unions_count_of := _,
    F_Unions_count_of := MF5,
    b_Unions_count_of := (MF5.binds (ps := ["self", "root"]) fun _ _ _ _ _ _ us hl => match us, hl with | [_, _], _ => rfl),
    m_Unions_count_of := ma5,
    t_Unions_count_of := mt5,
    y_Unions_count_of := my5,
    k_Unions_count_of := mk5,
    f_Span_init := mf6,
    d_Span_init := _,
    F_Span_init := MF6,
    b_Span_init := (MF6.binds (ps := ["self"]) fun _ _ _ _ _ _ us hl => match us, hl with | [_], _ => rfl),
    m_Span_init := ma6,
    t_Span_init := mt6,
    y_Span_init := my6,
    k_Span_init := mk6,
    f_Span_push := mf7,
    d_Span_push := _,
    F_Span_push := MF7,
    b_Span_push := (MF7.binds (ps := ["self", "integer"]) fun _ _ _ _ _ _ us hl => match us, hl with | [_, _], _ => rfl),
    m_Span_push := ma7,
    t_Span_push := mt7,
    y_Span_push := my7,
    k_Span_push := mk7,
    f_Span_pop := mf8,
    d_Span_pop := _,
    F_Span_pop := MF8,
    b_Span_pop := (MF8.binds (ps := ["self"]) fun _ _ _ _ _ _ us hl => match us, hl with | [_], _ => rfl),
    m_Span_pop := ma8,
    t_Span_pop := mt8,
    y_Span_pop := my8,
    k_Span_pop := mk8,
    f_Span_ask := mf9,
    d_Span_ask := _,
    F_Span_ask := MF9,
    b_Span_ask := (MF9.binds (ps := ["self", "question"]) fun _ _ _ _ _ _ us hl => match us, hl with | [_, _], _ => rfl),
    m_Span_ask := ma9,
    t_Span_ask := mt9,
    y_Span_ask := my9,
    k_Span_ask := mk9,
    f_Span_reduced := mf10,
    d_Span_reduced := _,
    F_Span_reduced := MF10,
    b_Span_reduced := (MF10.binds (ps := ["self", "integer"]) fun _ _ _ _ _ _ us hl => match us, hl with | [_, _], _ => rfl),
    m_Span_reduced := ma10,
    t_Span_reduced := mt10,
    y_Span_reduced := my10,
    k_Span_reduced := mk10,
    f_l_bag := f0,
    d_l_bag := _,
    F_l_bag := F0,
    b_l_bag := (F0.binds (ps := ["_law_script", "_law_at"]) fun _ _ _ _ _ _ us hl => match us, hl with | [_, _], _ => rfl),
    g_l_bag := PySem.W.mg_of X G a0,
    f_l_take := f1,
    d_l_take := _,
    F_l_take := F1,
    b_l_take := (F1.binds (ps := ["_law_bag_here", "_law_many"]) fun _ _ _ _ _ _ us hl => match us, hl with | [_, _], _ => rfl),
    g_l_take := PySem.W.mg_of X G a1,
    f_l_made := f2,
    d_l_made := _,
    F_l_made := F2,
    b_l_made := (F2.binds (ps := ["_law_form"]) fun _ _ _ _ _ _ us hl => match us, hl with | [_], _ => rfl),
    g_l_made := PySem.W.mg_of X G a2,
    f_l_answers := f3,
    d_l_answers := _,
    F_l_answers := F3,
    b_l_answers := (F3.binds (ps := ["_law_structure", "_law_form"]) fun _ _ _ _ _ _ us hl => match us, hl with | [_, _], _ => rfl),
    g_l_answers := PySem.W.mg_of X G a3,
    z_abs := PySem.W.mg_none_of X G z_abs,
    z_len := PySem.W.mg_none_of X G z_len,
    z_list := PySem.W.mg_none_of X G z_list,
    z_max := PySem.W.mg_none_of X G z_max,
    z_min := PySem.W.mg_none_of X G z_min,
    z_range := PySem.W.mg_none_of X G z_range,
    z_repr := PySem.W.mg_none_of X G z_repr,
    z_sorted := PySem.W.mg_none_of X G z_sorted,
    cl_Unions := ⟨pg_Unions, hd_Unions, po_Unions, sa_Unions⟩,
    mk_Unions := mk_Unions,
    kp_Unions := kp_Unions,
    n_Unions_groups := n_Unions_groups,
    n_Unions_parents := n_Unions_parents,
    n_Unions_counts := n_Unions_counts,
    n_Unions_moved := n_Unions_moved,
    cl_Span := ⟨pg_Span, hd_Span, po_Span, sa_Span⟩,
    mk_Span := mk_Span,
    kp_Span := kp_Span,
    n_Span_basis := n_Span_basis,
    n_Span_lengths := n_Span_lengths }
  exact ⟨PySem.W.fnOf "law" "law" (defArgs s_law) (defBody s_law) (defScope s_law) .none kV4 dc4 pm4 an4 cd4 ct4, fun s v => .of_eq rfl, fun base _ _ => ok_law T F4⟩
end Ob
open PySem PySem.W PyProof.Rows
set_option maxHeartbeats 0 in
theorem PySem.Challenge.cw_oncebuilt_k81_whole_undone_step_by_step_holds : PySem.Challenge.rw_oncebuilt_k81_whole_undone_step_by_step.Holds := by
  w_on; o_law; k_head; (case hw => w_witness2)
  k_fill
  refine Inf.walk_topG (l := PySem.Challenge.rw_oncebuilt_k81_whole_undone_step_by_step) (n := 63) (k := 10) (x := "_law_script") (YP := _) (CX := fun _ => L2.CX0) rfl (by decide) rfl ⟨rfl, by decide, by decide⟩ (fun w h Y => PySem.W.kIn_of Y) ?F (fun _ _ _ _ _ h => h)
  case F =>
    intro w mg fa h Y KX G hmg _
    refine Ob.lawAtG ?_
    refine' Ob.all_mk KX G hmg ?gc_Unions ?gc_Span ?ma0 ?ml0 ?mc0 ?mk0 ?mt0 ?my0 ?ma1 ?ml1 ?mc1 ?mk1 ?mt1 ?my1 ?ma2 ?ml2 ?mc2 ?mk2 ?mt2 ?my2 ?ma3 ?ml3 ?mc3 ?mk3 ?mt3 ?my3 ?ma4 ?ml4 ?mc4 ?mk4 ?mt4 ?my4 ?ma5 ?ml5 ?mc5 ?mk5 ?mt5 ?my5 ?ma6 ?ml6 ?mc6 ?mk6 ?mt6 ?my6 ?ma7 ?ml7 ?mc7 ?mk7 ?mt7 ?my7 ?ma8 ?ml8 ?mc8 ?mk8 ?mt8 ?my8 ?ma9 ?ml9 ?mc9 ?mk9 ?mt9 ?my9 ?ma10 ?ml10 ?mc10 ?mk10 ?mt10 ?my10 ?a0 ?l0 ?c0 ?k0 ?a1 ?l1 ?c1 ?k1 ?a2 ?l2 ?c2 ?k2 ?a3 ?l3 ?c3 ?k3 ?a4 ?l4 ?c4 ?k4 ?z_abs ?z_len ?z_list ?z_max ?z_min ?z_range ?z_repr ?z_sorted ?pg_Unions ?hd_Unions ?po_Unions ?sa_Unions ?mk_Unions ?kp_Unions ?n_Unions_groups ?n_Unions_parents ?n_Unions_counts ?n_Unions_moved ?pg_Span ?hd_Span ?po_Span ?sa_Span ?mk_Span ?kp_Span ?n_Span_basis ?n_Span_lengths
    (case gc_Unions => k_is); (case gc_Span => k_is); (case ma0 => k_is); (case ml0 => k_is); (case mc0 => k_is); (case mk0 => k_is); (case mt0 => k_is); (case my0 => k_is); (case ma1 => k_is); (case ml1 => k_is); (case mc1 => k_is); (case mk1 => k_is); (case mt1 => k_is); (case my1 => k_is); (case ma2 => k_is); (case ml2 => k_is); (case mc2 => k_is); (case mk2 => k_is); (case mt2 => k_is); (case my2 => k_is); (case ma3 => k_is); (case ml3 => k_is); (case mc3 => k_is); (case mk3 => k_is); (case mt3 => k_is); (case my3 => k_is); (case ma4 => k_is); (case ml4 => k_is); (case mc4 => k_is); (case mk4 => k_is); (case mt4 => k_is); (case my4 => k_is); (case ma5 => k_is); (case ml5 => k_is); (case mc5 => k_is); (case mk5 => k_is); (case mt5 => k_is); (case my5 => k_is); (case ma6 => k_is); (case ml6 => k_is); (case mc6 => k_is); (case mk6 => k_is); (case mt6 => k_is); (case my6 => k_is); (case ma7 => k_is); (case ml7 => k_is); (case mc7 => k_is); (case mk7 => k_is); (case mt7 => k_is); (case my7 => k_is); (case ma8 => k_is); (case ml8 => k_is); (case mc8 => k_is); (case mk8 => k_is); (case mt8 => k_is); (case my8 => k_is); (case ma9 => k_is); (case ml9 => k_is); (case mc9 => k_is); (case mk9 => k_is); (case mt9 => k_is); (case my9 => k_is); (case ma10 => k_is); (case ml10 => k_is); (case mc10 => k_is); (case mk10 => k_is); (case mt10 => k_is); (case my10 => k_is); (case a0 => k_is); (case l0 => k_is); (case c0 => k_is); (case k0 => k_is); (case a1 => k_is); (case l1 => k_is); (case c1 => k_is); (case k1 => k_is); (case a2 => k_is); (case l2 => k_is); (case c2 => k_is); (case k2 => k_is); (case a3 => k_is); (case l3 => k_is); (case c3 => k_is); (case k3 => k_is); (case a4 => k_is); (case l4 => k_is); (case c4 => k_is); (case k4 => k_is); (case z_abs => k_is); (case z_len => k_is); (case z_list => k_is); (case z_max => k_is); (case z_min => k_is); (case z_range => k_is); (case z_repr => k_is); (case z_sorted => k_is); (case pg_Unions => k_is); (case hd_Unions => k_is); (case po_Unions => k_is); (case sa_Unions => k_is); (case mk_Unions => k_is); (case kp_Unions => k_is); (case n_Unions_groups => k_is); (case n_Unions_parents => k_is); (case n_Unions_counts => k_is); (case n_Unions_moved => k_is); (case pg_Span => k_is); (case hd_Span => k_is); (case po_Span => k_is); (case sa_Span => k_is); (case mk_Span => k_is); (case kp_Span => k_is); (case n_Span_basis => k_is); (case n_Span_lengths => k_is)


import PyProof.Rows.All
import Wide.All
import OpenK.AllK
import Wide.FinOn
import HandS.ForMost
import HandS.ForExc
import HandS.Nested
import HandS.Star
import HandS.Finally
import HandS.EndTab
import KE.KExcInit
import KE.KExcIs
import HandS.ExcInit
import HandS.ExcValue
import HandS.ExcField
import HandS.IsInst
import HandS.Defaults
import HandS.Wide
import HandS.WideBits
import HandS.Codes
import HandS.Comp
import PySem.Challenge.RW_oncebuilt_k01_errors_and_their_bases
set_option Elab.async false
set_option linter.all false
set_option maxRecDepth 100000
set_option maxHeartbeats 4000000
namespace Inf
open PySem PySem.Spec PyProof.Rows L2 NdefX LamX
/-! ### a cell that is told -/
def CellO (c : Addr) (v : V) : HO := .ext fun h => ∃ u, L2.RelV v u ∧ h.IsCell c (some u)
theorem cellO_at {P : Program} {w : World} {H : Hp} {h : Heap} {c : Addr} {v : V} (hok : HOk P w H h) (e : H c = some (CellO c v)) : ∃ u, L2.RelV v u ∧ h.IsCell c (some u) := by
  obtain ⟨z, _, _⟩ := hok c _ e
  exact z
theorem cellO_ok {P : Program} {w : World} {H : Hp} {h : Heap} {c : Addr} {v : V} (x : ∃ u, L2.RelV v u ∧ h.IsCell c (some u)) : ObjOk P w H h c (CellO c v) := by
  refine ⟨x, ?_, fun h1 h2 ⟨u, r, o, e, d⟩ k => ⟨u, r, o, k o e, d⟩⟩
  obtain ⟨u, _, o, e, _⟩ := x
  exact ⟨o, e⟩
/-! ### cells left out, and put back -/
def cut (cs : List Addr) (H : Hp) : Hp := fun b => if b ∈ cs then Option.none else H b
def mend (cs : List Addr) (H H1 : Hp) : Hp := fun b => if b ∈ cs then H b else H1 b
theorem cut_in {cs : List Addr} {H : Hp} {b : Addr} (h : b ∈ cs) : cut cs H b = Option.none := if_pos h
theorem cut_out {cs : List Addr} {H : Hp} {b : Addr} (h : b ∉ cs) : cut cs H b = H b := if_neg h
theorem mend_in {cs : List Addr} {H H1 : Hp} {b : Addr} (h : b ∈ cs) : mend cs H H1 b = H b := if_pos h
theorem mend_out {cs : List Addr} {H H1 : Hp} {b : Addr} (h : b ∉ cs) : mend cs H H1 b = H1 b := if_neg h
def cellsOf (F : NF) (fr : List Str) : List Addr := fr.filterMap fun y => F.cl.lookup y
theorem mem_cells {F : NF} {fr : List Str} {c : Addr} : c ∈ cellsOf F fr ↔ ∃ y ∈ fr, F.cl.lookup y = some c := List.mem_filterMap
/-- the function F stands at f, and its captured cells hold ws -/
structure Clo (H : Hp) (f : Addr) (F : NF) (fr : List Str) (ws : List V) : Prop where
  fn : H f = some (FnO f F)
  code : H F.c = some (CodeO F.c F.qual)
  len : ws.length = fr.length
  dom : ∀ y c, F.cl.lookup y = some c → y ∈ fr
  inj : ∀ x y c, F.cl.lookup x = some c → F.cl.lookup y = some c → x = y
  at_ : ∀ (i : Nat) (y : Str), fr[i]? = some y → ∃ c v, F.cl.lookup y = some c ∧ ws[i]? = some v ∧ H c = some (CellO c v)
theorem Clo.same {H H1 : Hp} {f : Addr} {F : NF} {fr : List Str} {ws : List V} (h : Clo H f F fr ws) (s : Same H H1) : Clo H1 f F fr ws :=
  ⟨s _ _ h.fn, s _ _ h.code, h.len, h.dom, h.inj, fun i y e => by
    obtain ⟨c, v, a, b, d⟩ := h.at_ i y e
    exact ⟨c, v, a, b, s _ _ d⟩⟩
theorem Clo.cell {H : Hp} {f : Addr} {F : NF} {fr : List Str} {ws : List V} (h : Clo H f F fr ws) {b : Addr} (hb : b ∈ cellsOf F fr) : ∃ v, H b = some (CellO b v) := by
  obtain ⟨y, hy, e⟩ := mem_cells.mp hb
  obtain ⟨i, hi⟩ := List.mem_iff_getElem?.mp hy
  obtain ⟨c, v, a, _, d⟩ := h.at_ i y hi
  rw [e] at a
  cases a
  exact ⟨v, d⟩
/-- what is no thing by a word of its own is no cell -/
theorem Clo.out {H : Hp} {f : Addr} {F : NF} {fr : List Str} {ws : List V} (h : Clo H f F fr ws) {b : Addr} {o : HO} (e : H b = some o) (n : ∀ φ, o ≠ .ext φ) : b ∉ cellsOf F fr := fun hb => by
  obtain ⟨v, d⟩ := h.cell hb
  rw [e] at d
  exact n _ (Option.some.inj d)
section
variable {P : Program} {w : World} {K : PySem.W.Frag} {mg : Str → Option Value} {base : Heap} {k : Nat} {f : Addr} {F : NF} {ps fr : List Str} {sp : List (Option V) → Sp}
/-- A FUNCTION THAT WAS MADE IN A DEF, called from anywhere: its cells are told; while it runs they are left out, behind it they are put back -/
theorem clo_fnR (N : NOk P w K mg base CX0 k f F ps fr sp) :
    FnR P w K mg base CX0 k f (fun vs H Q E => ∃ ws, Clo H f F fr ws ∧ sp (ws.map some) vs (cut (cellsOf F fr) H) (fun v H1 => (∀ b, b ∈ cellsOf F fr → H1 b = Option.none) → Q v (mend (cellsOf F fr) H H1)) E) := by
  intro A outer s H us vs Q E hr e0 r hsp
  obtain ⟨ws, hc, hsp⟩ := hsp
  have cellAt : ∀ b, b ∈ cellsOf F fr → ∃ v, H b = some (CellO b v) := fun b hb => hc.cell hb
  have fnout : f ∉ cellsOf F fr := fun hb => by
    obtain ⟨v, e⟩ := cellAt f hb
    obtain ⟨u, _, o, e1, e2⟩ := cellO_at e0.hok e
    obtain ⟨od, sl, doc, pm, ctv, e3⟩ := fnO_at e0.hok hc.fn
    rw [e1] at e3
    cases e3
    cases e2
  have cout : F.c ∉ cellsOf F fr := fun hb => by
    obtain ⟨v, e⟩ := cellAt F.c hb
    obtain ⟨u, _, o, e1, e2⟩ := cellO_at e0.hok e
    obtain ⟨⟨oc, vs', t, h1, h2, h3⟩, _, _⟩ := e0.hok F.c _ hc.code
    rw [e1] at h1
    cases h1
    rw [e2] at h2
    cases h2
  have hokc : HOk P w (cut (cellsOf F fr) H) s.heap := fun b o e => by
    by_cases hb : b ∈ cellsOf F fr
    · rw [cut_in hb] at e
      cases e
    · rw [cut_out hb] at e
      refine (e0.hok b o e).stay (fun c u _ q => q) (fun c q => ?_) fun c xs q => ?_
      · rw [cut_out (hc.out q (fun φ z => nomatch z))]
        exact q
      · rw [cut_out (hc.out q (fun φ z => nomatch z))]
        exact q
  have noneC : ∀ b, H b = Option.none → cut (cellsOf F fr) H b = Option.none := fun b e => by
    by_cases hb : b ∈ cellsOf F fr
    · exact cut_in hb
    · rw [cut_out hb]
      exact e
  have e1 : Env0 P w K mg base A outer s (cut (cellsOf F fr) H) := ⟨e0.frames, e0.mod, fun b o q => ⟨(e0.bs b o q).1, noneC b (e0.bs b o q).2⟩, e0.bsz, e0.funs, fun b hb => noneC b (e0.frf b hb), hokc, e0.bare⟩
  have C : CellsAt F.cl fr (ws.map some) s.heap (cut (cellsOf F fr) H) := by
    refine ⟨by rw [List.length_map]; exact hc.len, fun y c e => ?_, hc.inj, fun i y e => ?_⟩
    · have hb : c ∈ cellsOf F fr := mem_cells.mpr ⟨y, hc.dom y c e, e⟩
      obtain ⟨v, d⟩ := cellAt c hb
      obtain ⟨u, _, z⟩ := cellO_at e0.hok d
      exact ⟨cut_in hb, _, z⟩
    · obtain ⟨c, v, a, b, d⟩ := hc.at_ i y e
      refine ⟨c, a, fun v' e' => ?_⟩
      rw [List.getElem?_map, b] at e'
      cases e'
      obtain ⟨u, r', z⟩ := cellO_at e0.hok d
      exact ⟨u, r', z⟩
  refine codeAny_mono (N.run A outer s (cut (cellsOf F fr) H) us vs (ws.map some) _ E hr e1 (by rw [cut_out fnout]; exact hc.fn) (by rw [cut_out cout]; exact hc.code) C r hsp) fun res s' hq => ?_
  cases res with
  | error e => exact hq
  | ok fl =>
    cases fl with
    | next => exact hq
    | brk => exact hq
    | cont => exact hq
    | ret u =>
      obtain ⟨v, H1, os, bare, un, hok1, rv, q⟩ := hq
      have gone : ∀ b, b ∈ cellsOf F fr → H1 b = Option.none := fun b hb => by
        obtain ⟨v, d⟩ := cellAt b hb
        obtain ⟨u, _, o, z1, z2⟩ := cellO_at e0.hok d
        exact un.free b o z1 (cut_in hb) (by simp)
      have notfr : ∀ b, b ∈ cellsOf F fr → b ∉ frs outer := fun b hb z => by
        obtain ⟨v, d⟩ := cellAt b hb
        rw [e0.frf b z] at d
        cases d
      refine ⟨v, mend (cellsOf F fr) H H1, os, bare, ⟨fun b o a n h1 h2 => un.keep b o a (noneC b n) h1 h2, fun b o a n h1 h2 => un.slot b o a (noneC b n) h1 h2, fun b o a n h2 => ?_, un.there, fun b xs e => ?_, fun b o u e => ?_, fun b ps e => ?_⟩, fun b o e => ?_, rv, q gone⟩
      · by_cases hb : b ∈ cellsOf F fr
        · rw [mend_in hb]
          exact n
        · rw [mend_out hb]
          exact un.free b o a (noneC b n) h2
      · have hb := hc.out e (fun φ z => nomatch z)
        rw [mend_out hb]
        exact un.tups b xs (by rw [cut_out hb]; exact e)
      · have hb := hc.out e (fun φ z => nomatch z)
        rw [mend_out hb]
        exact un.frzs b o u (by rw [cut_out hb]; exact e)
      · have hb := hc.out e (fun φ z => nomatch z)
        rw [mend_out hb]
        exact un.tbls b ps (by rw [cut_out hb]; exact e)
      · by_cases hb : b ∈ cellsOf F fr
        · rw [mend_in hb] at e
          obtain ⟨v', d⟩ := cellAt b hb
          rw [d] at e
          cases e
          obtain ⟨u', r', o', z1, z2⟩ := cellO_at e0.hok d
          exact cellO_ok ⟨u', r', o', un.keep b o' z1 (cut_in hb) (notfr b hb) (by simp), z2⟩
        · rw [mend_out hb] at e
          refine (hok1 b o e).stay (fun c u _ q => q) (fun c q => ?_) fun c xs q => ?_
          · have hb' : c ∉ cellsOf F fr := fun z => by
              rw [gone c z] at q
              cases q
            rw [mend_out hb']
            exact q
          · have hb' : c ∉ cellsOf F fr := fun z => by
              rw [gone c z] at q
              cases q
            rw [mend_out hb']
            exact q
end
theorem mend_at {cs : List Addr} {H H1 : Hp} {a : Addr} {o : HO} (g : ∀ b, b ∈ cs → H1 b = Option.none) (e : H1 a = some o) : mend cs H H1 a = some o := by
  rw [mend_out fun z => by rw [g a z] at e; cases e]
  exact e
theorem cut_at {cs : List Addr} {H : Hp} {a : Addr} {o : HO} (n : a ∉ cs) (e : H a = some o) : cut cs H a = some o := (cut_out n).trans e
end Inf

set_option Elab.async false
set_option linter.all false
set_option maxRecDepth 100000
set_option maxHeartbeats 4000000
namespace Inf
open PySem PySem.Spec PyProof.Rows L2 NdefX LamX
/-! ### a body that ends in a return: what its names hold there is told -/
abbrev TSR := (L2.St → V → Hp → Prop) → L2.St → Hp → Prop
structure PSsR (X : Cx) (ss : List Stmt) (t : TSR) : Prop where
  run : ∀ (pins : List (Addr × Obj)) (s : Shared) (σ : L2.St) (H : Hp) (R : L2.St → V → Hp → Prop), Inv X pins σ H s → t R σ H →
    wpAny (model X.prog X.w) X.A (execs ss X.env) (fun fl s' => ∃ u v σ' H', fl = .ret u ∧ Inv X pins σ' H' s' ∧ L2.RelV v u ∧ R σ' v H') X.xe s
theorem psr_cons {X : Cx} {st : Stmt} {rest : List Stmt} {t : TS} {u : TSR} (h1 : PS X st t) (h2 : PSsR X rest u) : PSsR X (st :: rest) (fun R σ H => t { nx := fun σ' H' => u R σ' H', rt := fun _ _ => False } σ H) := by
  refine ⟨fun pins s σ H R I h => ?_⟩
  refine wpAny_execs_cons (thn (h1.run pins s σ H { nx := fun σ' H' => u R σ' H', rt := fun _ _ => False } I h) fun fl s1 q => ?_)
  cases fl with
  | next =>
    obtain ⟨σ1, H1, I1, q1⟩ := q
    exact h2.run pins s1 σ1 H1 R I1 q1
  | brk =>
    obtain ⟨_, _, _, q1⟩ := q
    exact False.elim q1
  | cont =>
    obtain ⟨_, _, _, q1⟩ := q
    exact False.elim q1
  | ret v =>
    obtain ⟨_, _, _, _, _, q1⟩ := q
    exact False.elim q1
theorem psr_ret {X : Cx} {e : Expr} {pos : Pos} {te : TE} (he : PE X e te) : PSsR X [.Return (some e) pos] (fun R σ H => te σ H (R σ)) := by
  refine ⟨fun pins s σ H R I h => ?_⟩
  refine wpAny_execs_cons (wpAny_Return_some (thn (he.run pins s σ H _ I h) fun v s1 ⟨x, H1, I1, r1, q1⟩ => ?_))
  exact ⟨v, x, σ, H1, rfl, I1, r1, q1⟩
/-! ### a def that returns things that hold its names -/
/-- the heap behind the return: the def's cells are told -/
structure Fin (cells : List (Str × Addr)) (names : List (Str × NameKind)) (N : List Str) (σ : L2.St) (H H' : Hp) : Prop where
  same : Same H H'
  gone : ∀ b, H' b = Option.none → H b = Option.none
  inj : ∀ x y c, cells.lookup x = some c → cells.lookup y = some c → x = y
  at_ : ∀ (i : Nat) (y : Str) (c : Addr) (v : V), N[i]? = some y → names.lookup y = some .cell → cells.lookup y = some c → σ[i]? = some (some v) → H' c = some (CellO c v)
theorem cells_big : ∀ (names : List (Str × NameKind)) (n lo : Nat) (acc : List (Str × Addr)), (∀ p ∈ acc, lo ≤ p.2) → lo ≤ n → ∀ p ∈ cellsFrom n names acc, lo ≤ p.2
  | [], n, lo, acc, h, _ => h
  | (x, kd) :: r, n, lo, acc, h, hn => by
    unfold cellsFrom
    split
    · exact cells_big r (n + 1) lo _ (fun p hp => by
        rcases List.mem_cons.mp hp with rfl | hp
        · exact hn
        · exact h p hp) (by omega)
    · exact cells_big r n lo acc h hn
section
variable {CX : CXT} {P : Program} {w : World} {K : PySem.W.Frag} {mg : Str → Option Value} {base : Heap} {N ps : List Str} {qual : Str} {scope : Scope} {f : Addr} {cdv : Value} {A : Around} {outer : List Env} {s s' : Shared} {H H' : Hp} {E : XK} {σ : L2.St} {Q : VK}
open Classical in
theorem fin_make (nd : N.Nodup) (J : Inv (cxOf CX P w K mg base N qual scope f cdv A outer s H E) [] σ H' s') :
    ∃ H'', Fin (envOfC qual scope s.heap.objs.size f cdv).cells scope.names N σ H' H'' ∧ Un (frs outer) [] H H'' s.heap s'.heap ∧ HOk P w H'' s'.heap := by
  have ge : ∀ (y : Str) (c : Addr), (envOfC qual scope s.heap.objs.size f cdv).cells.lookup y = some c → s.heap.objs.size ≤ c := fun y c e =>
    cells_big scope.names (s.heap.objs.size + 1) s.heap.objs.size [] (fun p hp => by cases hp) (Nat.le_succ _) (y, c) (PySem.mem_of_lookup e)
  have J0 : Un (frs outer) [] H H' s.heap s'.heap := J.base
  have inj := J.ok.inj
  let Pr : Addr → V → Prop := fun b v => ∃ (i : Nat) (y : Str), N[i]? = some y ∧ scope.names.lookup y = some .cell ∧ (envOfC qual scope s.heap.objs.size f cdv).cells.lookup y = some b ∧ σ[i]? = some (some v)
  have gone : ∀ b v, Pr b v → H' b = Option.none := fun b v ⟨i, y, _, _, e, _⟩ => J.freeC y b e
  have uniq : ∀ b v u, Pr b v → Pr b u → v = u := fun b v u ⟨i, y, a1, a2, a3, a4⟩ ⟨j, z, b1, b2, b3, b4⟩ => by
    have e1 : y = z := inj y z b a3 b3
    subst e1
    have e2 : i = j := by
      obtain ⟨h1, g1⟩ := List.getElem?_eq_some_iff.mp a1
      obtain ⟨h2, g2⟩ := List.getElem?_eq_some_iff.mp b1
      exact (List.getElem_inj nd).mp (g1.trans g2.symm)
    subst e2
    rw [a4] at b4
    exact Option.some.inj (Option.some.inj b4)
  let H'' : Hp := fun b => if h : ∃ v, Pr b v then some (CellO b (Classical.choose h)) else H' b
  have inC : ∀ b v, Pr b v → H'' b = some (CellO b v) := fun b v h => by
    have hx : ∃ v, Pr b v := ⟨v, h⟩
    show (if h : ∃ v, Pr b v then some (CellO b (Classical.choose h)) else H' b) = _
    rw [dif_pos hx, uniq b _ v (Classical.choose_spec hx) h]
  have outC : ∀ b, (¬ ∃ v, Pr b v) → H'' b = H' b := fun b h => dif_neg h
  have known : ∀ b o, H' b = some o → H'' b = some o := fun b o e => by
    rw [outC b fun ⟨v, h⟩ => by rw [gone b v h] at e; cases e]
    exact e
  refine ⟨H'', ⟨known, fun b e => ?_, inj, fun i y c v h1 h2 h3 h4 => inC c v ⟨i, y, h1, h2, h3, h4⟩⟩, ⟨J0.keep, J0.slot, fun b o a n h2 => ?_, J0.there, fun b xs e => known _ _ (J0.tups b xs e), fun b o u e => known _ _ (J0.frzs b o u e), fun b ps' e => ?_⟩, fun b o e => ?_⟩
  · by_cases hb : ∃ v, Pr b v
    · obtain ⟨v, h⟩ := hb
      rw [inC b v h] at e
      cases e
    · rw [outC b hb] at e
      exact e
  · rw [outC b fun ⟨v, i, y, _, _, e, _⟩ => by
      exact absurd (Heap.lt_size a) (Nat.not_lt.mpr (ge y b e))]
    exact J0.free b o a n h2
  · obtain ⟨more, e2⟩ := J0.tbls b ps' e
    exact ⟨more, known _ _ e2⟩
  · by_cases hb : ∃ v, Pr b v
    · obtain ⟨v, h⟩ := hb
      rw [inC b v h] at e
      cases e
      obtain ⟨i, y, a1, a2, a3, a4⟩ := h
      obtain ⟨m, hn, hl⟩ := J.loc
      obtain ⟨u, ru, lk⟩ := hl i y v a1 a4 (.inr (.inl a2))
      refine cellO_ok ⟨u, ru, ?_⟩
      rcases lk with ⟨z, _⟩ | ⟨_, c', hc', hcell⟩
      · have z' : scope.names.lookup y = some .local := z
        rw [a2] at z'
        cases z'
      · have hc2 : (envOfC qual scope s.heap.objs.size f cdv).cells.lookup y = some c' := hc'
        rw [a3] at hc2
        cases hc2
        exact hcell
    · rw [outC b hb] at e
      exact (J.hok b o e).stay (fun c u _ q => q) (fun c q => known _ _ q) fun c xs q => known _ _ q
end
/-- THE RULE for such a def -/
theorem Fun.okC {P : Program} {w : World} {K : PySem.W.Frag} {mg : Str → Option Value} {base : Heap} {x qual : Str} {st : Stmt} {f : Addr} {fd : FuncData} {N ps : List Str} {k : Nat} {sp : Sp} (F : L2.Fun K x qual st f fd) (S : FnScope N ps (defScope st)) (len : ∀ vs H Q E, sp vs H Q E → vs.length = ps.length)
    (hbody : ∀ (cdv : Value) (A : Around) (outer : List Env) (s : Shared) (H : Hp) (vs : List V) (Q : VK) (E : XK), Room k (A.deeper (envOfC qual (defScope st) s.heap.objs.size f cdv)) → PySem.W.codeIn K cdv qual = true → sp vs H Q E →
      ∃ t, PSsR (cxOf CX0 P w K mg base N qual (defScope st) f cdv A outer s H E).nox (defBody st) t ∧
        t (fun σ v H' => ∀ H'', Fin (envOfC qual (defScope st) s.heap.objs.size f cdv).cells (defScope st).names N σ H' H'' → Q v H'') (start N vs) H) : FnOk P w K mg base CX0 (k + 1) f fd ps sp := by
  obtain ⟨oc, od, kV, doc, pm, an, cdv, ct, osl, rfl, lk, hcd⟩ := F.ex
  refine ⟨len, fun A outer s H args us vs Q E hr e0 hb r hsp => ?_⟩
  have hl := len _ _ _ _ hsp
  have KX : K.In s.heap := e0.mod.kin.keeps fun b o e => (e0.bs b o e).1
  have lim : s.heap.NoLimit := e0.mod.nolimit.keeps fun b o e => (e0.bs b o e).1
  have hkind : ∀ y ∈ ps.zip us, (defScope st).names.lookup y.1 = some .local ∨ ((defScope st).names.lookup y.1 = some .cell ∧ ((cellsFrom (s.heap.objs.size + 1) (defScope st).names []).lookup y.1).isSome = true) := fun ⟨n, v⟩ hy => by
    rcases S.par n (List.of_mem_zip hy).1 with q | q
    · exact .inl q
    · exact .inr ⟨q, PySem.W.cellsFrom_some _ _ _ (.inl q)⟩
  refine codeAny_call_function hr.depth (KX _ _ lk) rfl S.co S.gen rfl (PySem.W.codeRec_of KX hcd) (hb _ _ _ _ ?_)
  refine wpAny_newFunctionEnv_cells S.kind hkind fun env he s1 xx => ?_
  subst he
  refine ⟨lim.keeps xx.toInCall.keep, codeAny_func ?_⟩
  obtain ⟨t, ht, hq⟩ := hbody cdv A outer s H vs Q E (hr.deeper _) hcd hsp
  have I : Inv (cxOf CX0 P w K mg base N qual (defScope st) f cdv A outer s H E) [] (start N vs) H s1 := inv_start S hr.hd e0 hl r xx
  refine wpAny_mono (ht.run [] s1 (start N vs) H _ (I.wish _) hq) (fun fl s' hs => ?_) fun e s' hs => False.elim hs
  obtain ⟨u, v, σ', H', rfl, J', rv, q⟩ := hs
  have J : Inv (cxOf CX0 P w K mg base N qual (defScope st) f cdv A outer s H E) [] σ' H' s' := J'.unwish
  obtain ⟨H'', hF, hU, hO⟩ := fin_make S.nd J
  exact ⟨v, H'', J.os, J.bare, hU, hO, rv, q H'' hF⟩
end Inf

set_option Elab.async false
set_option linter.all false
set_option maxRecDepth 100000
set_option maxHeartbeats 4000000
namespace Inf
open PySem PySem.Spec PyProof.Rows L2 NdefX LamX
/-! ### f( *values), f a name that holds a function that was made in a def -/
/-- such a thing is a function object -/
def FnHO (f : Addr) (o : HO) : Prop := ∀ (P : Program) (w : World) (H : Hp) (h : Heap), HOk P w H h → H f = some o → PySem.W.FnAt f h
theorem fnHO_of {f : Addr} {F : NF} : FnHO f (FnO f F) := fun P w H h hok e => by
  obtain ⟨od, sl, doc, pm, ctv, z⟩ := fnO_at hok e
  exact ⟨_, od, _, sl, z⟩
def tAct (P : Program) (w : World) (K : PySem.W.Frag) (mg : Str → Option Value) (base : Heap) (CX : CXT) (k i : Nat) (E : L2.St → XK) (te : TE) : TE := fun σ H Q => ∃ f, σ[i]? = some (some (.ref f)) ∧ te σ H fun y H1 => ∃ a xs o sp, y = V.ref a ∧ (SqT K H1 a xs ∨ SqL K H1 a xs) ∧ H1 f = some o ∧ FnHO f o ∧
  FnR P w K mg base CX k f sp ∧ sp xs H1 Q (E σ)
section
variable {X : Cx} {CX : CXT} {k i : Nat} {E : L2.St → XK} {x : Str} {e : Expr} {te : TE} {p sp_ pos : Pos}
theorem run_fnE {pins : List (Addr × Obj)} {σ : L2.St} {H : Hp} {s : Shared} {f : Addr} {sp : Sp} {Q : VK} {us : List Value} {vs : List V} (F : FnR X.prog X.w X.K X.mg X.base CX k f sp) (hr : Room k X.A) (hx : PassesAt CX X σ (E σ)) (I : Inv X pins σ H s) (r : Vals vs us) (h : sp vs H Q (E σ)) :
    wpAny (model X.prog X.w) X.A (call (.ref f) us) (EP X pins σ Q) X.xe s := by
  refine wpAny_call (codeAny_mono (F X.A X.stack s H us vs Q (E σ) hr I.env0 r h) fun r s' hq => ?_)
  match r, hq with
  | .error e, hq => exact hx pins H s e s' I hq
  | .ok (.ret u), hq => exact I.after hq
  | .ok .next, hq => exact False.elim hq
  | .ok .brk, hq => exact False.elim hq
  | .ok .cont, hq => exact False.elim hq
theorem pe_act (hN : X.N[i]? = some x) (hv : Vis X.env.scope x) (hr : Room k X.A) (hx : ∀ σ, PassesAt CX X σ (E σ)) (he : PE X e te) (hd : (x == ("__debug__" : Str)) = false := by decide) (hcd : (x == ("__classdict__" : Str)) = false := by decide)
    (hst : starEach [.Starred e sp_] X.env = [(true, eval e X.env)] := by rfl) : PE X (.Call (.Name x p) [.Starred e sp_] [] pos) (tAct X.prog X.w X.K X.mg X.base CX k i E te) := by
  refine ⟨fun pins s σ H Q I h => ?_⟩
  obtain ⟨f, hs, h⟩ := h
  refine wpAny_Call_Name_kw (thn ((pe_var (pos := p) hN hv hd hcd).run pins s σ H (fun v H1 => v = .ref f ∧ H1 = H) I ⟨.ref f, hs, rfl, rfl⟩) fun u s1 ⟨v, H1, I1, r1, ev, eH⟩ => ?_)
  subst ev
  rw [eH] at I1
  obtain rfl : u = Value.ref f := r1
  rw [show backTo pos (starEach [.Starred e sp_] X.env) = [(true, (do let v ← eval e X.env; standAt pos; pure v))] by rw [hst]; rfl]
  refine PySem.W.ks_call (P := PySem.W.FnAt f) rfl PySem.W.keeps_F (PySem.W.ks_lone ?_)
  refine thn (he.run pins s1 σ H _ I1 h) fun v s2 ⟨y, H2, I2, ry, a, xs, o, sp, ey, hxs, hf, ho, hF, q⟩ => ?_
  subst ey
  obtain rfl : v = Value.ref a := ry
  exact StX.star_any I2 hxs fun us s3 I3 rv => ⟨ho _ _ _ _ I3.hok hf, run_fnE hF hr (hx σ) I3 rv q⟩
end
/-! ### try: body finally: suite, where nothing is raised -/
section
variable {X : Cx} {body : List Stmt} {f₀ : Stmt} {fs : List Stmt} {pos : Pos} {tb tf : TS}
def tFin0 (tb tf : TS) : TS := fun D σ H => tb { nx := fun σ1 H1 => tf D σ1 H1, rt := fun _ _ => False } σ H
theorem ps_fin0 (hb : PSs X.nox body tb) (hf : PSs X.nox (f₀ :: fs) tf) : PS X (.Try body [] [] (f₀ :: fs) pos) (tFin0 tb tf) := by
  refine ⟨fun pins s σ H D I h => wpAny_Try_finally (wpAny_mono (hb.run pins s σ H _ (I.wish _) h) (fun g s1 z => ?_) fun _ _ z => False.elim z)⟩
  match g, z with
  | .ret u, z => exact (z.elim fun _ z => z.elim fun _ z => z.elim fun _ z => z.2.2).elim
  | .brk, z => exact (z.elim fun _ z => z.elim fun _ z => z.2).elim
  | .cont, z => exact (z.elim fun _ z => z.elim fun _ z => z.2).elim
  | .next, z =>
    obtain ⟨σ1, H1, J1, q1⟩ := z
    refine wpAny_execs_nil (wpAny_mono (hf.run pins s1 σ1 H1 D (J1.unwish.wish _) q1) (fun g2 s2 q2 => ?_) fun _ _ e => False.elim e)
    have q3 : SP X pins D g2 s2 := q2.unwish
    cases g2 <;> exact q3
end
end Inf

set_option Elab.async false
set_option linter.all false
set_option maxRecDepth 100000
set_option maxHeartbeats 4000000
namespace Inf
open PySem PySem.Spec PyProof.Rows L2 NdefX LamX
/-- the tables of the code objects of the top's defs, as the written part and the head tell them -/
def TopTabs (q : Program) (K : PySem.W.Frag) (mg : Str → Option Value) (h : Heap) : Prop := ∀ (x : Str) (f c P : Addr) (o1 : Obj) (fd1 : FuncData) (e : Value) (dd : Option Addr) (vs1 : Array Value) (sl : Array (Option Value)),
  (recsOf q).any (fun d => d.name == x) = true → mg x = some (.ref f) → K.lookup f = some o1 → o1.data = .func fd1 → fd1.code = .ref c → K.lookup c = some ⟨e, dd, .fields vs1, sl⟩ → vs1[11]? = some (.ref P) →
    PySem.W.CodeHd h c P ∧ h.get? P = some { cls := .none, data := .fields #[] }
theorem walk_top {l : PySem.W.OpenLaw} {n k : Nat} {q : Program} {loose : List Str} {XP : (Str → Option Value) → Heap → Prop} {YP : World → Heap → Prop} {d : DefRec} {K : Params → PySem.W.Frag} {CX : World → CXT} {x : Str}
    (hn : l.most = some n) (hn2 : n ≤ sizeLine) (hdf : d.params.defaults = []) (hr : Room k callerA) (hY : ∀ (w : World) (h : Heap), YP w h → (K w.params).In h)
    (F : ∀ (w : World) (mg : Str → Option Value) (fa : Addr) (h : Heap), YP w h → (K w.params).In h → h.Ns mainGlobals mg → mg d.name = some (.ref fa) → TopTabs q (K w.params) mg h → LawAtS l w (K w.params) (CX w) k n x mg fa h)
    (hCX : ∀ (w : World) (H : Hp) (s : Shared) (e : Value) (s' : Shared), CX w [] H s (fun _ _ _ => False) e s' → False) :
    PySem.W.WalkO q loose XP YP l.row.toRowW d [] (fun f vs => PySem.call f vs) :=
  Att.attach_callB hn hdf fun w s₀ s₁ mg mb fa o pm cd doc a vs ns G Y ho hd hcd hmg hobj hints hlen hbits hg => by
    have KX := hY w _ Y
    have tabs : TopTabs q (K w.params) mg s₁.heap := fun x f c P o1 fd1 e dd vs1 sl hrec hx k1 k2 k3 k4 k5 => by
      obtain ⟨dL, hm, hn1⟩ := List.any_eq_true.mp hrec
      have hn2 : dL.name = x := beq_iff_eq.mp hn1
      obtain ⟨a', o', fd', c', P', h1, h2, h3, h4, h5, h6⟩ := G.T.tab dL hm
      rw [hn2, hx] at h1
      cases h1
      have g1 := KX _ _ k1
      rw [g1] at h2
      cases h2
      rw [k2] at h3
      cases h3
      rw [k3] at h4
      cases h4
      have hC := PySem.W.CodeHd.of h5 h6
      obtain ⟨⟨oc, vc, e1, _, e3, e4⟩, hP⟩ := h6
      have g2 := KX _ _ k4
      rw [g2] at e1
      cases e1
      cases e3
      rw [k5] at e4
      cases e4
      exact ⟨hC, hP⟩
    obtain ⟨fd, cs, sp, hT, nT, C, hb, hsp, hF⟩ := F w mg fa _ Y KX G.T.g hmg tabs
    exact law_callTs KX G.T.g G.T.b G.T.builtins G.T.nolimit hg hT nT C G.T.bmain hobj hints (Nat.le_trans hlen hn2) hr hF hb (fun H hH hS => hsp H a ns hlen hbits hH hS) fun H e s' => hCX w H s₁ e s'
end Inf

set_option Elab.async false
set_option linter.all false
set_option maxRecDepth 100000
set_option maxHeartbeats 4000000
namespace Inf
open PySem PySem.Spec PyProof.Rows L2 NdefX LamX
/-! ### promises of defs that are called where no repr is under way -/
structure FnOkG (P : Program) (w : World) (K : PySem.W.Frag) (mg : Str → Option Value) (base : Heap) (CX : CXT) (k : Nat) (f : Addr) (fd : FuncData) (ps : List Str) (sp : Sp) : Prop where
  len : ∀ vs H Q E, sp vs H Q E → vs.length = ps.length
  run : ∀ (A : Around) (outer : List Env) (s : Shared) (H : Hp) (args : Args) (us : List Value) (vs : List V) (Q : VK) (E : XK), A.guards = some [] → Room k A → Env0 P w K mg base A outer s H → BindsTo s fd args (ps.zip us) → Vals vs us → sp vs H Q E →
    codeAny (model P w) A (.call (.ref f) args) (CR CX outer P w H s Q E) s
theorem FnOkG.of {P : Program} {w : World} {K : PySem.W.Frag} {mg : Str → Option Value} {base : Heap} {CX : CXT} {k : Nat} {f : Addr} {fd : FuncData} {ps : List Str} {sp : Sp} (F : FnOk P w K mg base CX k f fd ps sp) : FnOkG P w K mg base CX k f fd ps sp :=
  ⟨F.len, fun A outer s H args us vs Q E _ => F.run A outer s H args us vs Q E⟩
section
variable {P : Program} {w : World} {K : PySem.W.Frag} {mg mb : Str → Option Value} {CX : CXT} {k : Nat} {fa a : Addr} {cs : List (Addr × Addr)} {fd : FuncData} {x : Str} {sp : Sp} {s₁ : Shared} {vs : List Value} {ns : List Int}
/-- the law's call, from such a promise -/
theorem call_lawG (KX : K.In s₁.heap) (hns : s₁.heap.Ns mainGlobals mg) (hb : s₁.heap.Ns builtinsNs mb) (hbb : ∀ x : Str, x ≠ "__name__" → mb x = bootBuiltins x) (hlim : s₁.heap.NoLimit) (hg : s₁.gens = #[])
    (hT : ∀ p ∈ cs, s₁.heap.get? p.2 = some { cls := .none, data := .fields #[] }) (nT : ∀ p ∈ cs, K.lookup p.2 = none) (C : ∀ p ∈ cs, PySem.W.CodeHd s₁.heap p.1 p.2)
    (hbm : ∃ (bm : Addr) (ob : Obj), mg "__builtins__" = some (.ref bm) ∧ bm ≠ builtinsNs ∧ s₁.heap.get? bm = some ob ∧ ob.cls = .type "module" ∧ ob.dict = some builtinsNs ∧ ob.data = .plain)
    (ha : s₁.heap.get? a = some { cls := .type "list", data := .seq vs.toArray }) (hi : IntsAre vs ns) (hl : ns.length ≤ sizeLine) (hr : Room k callerA)
    (F : ∀ base : Heap, K.In base → base.Ns mainGlobals mg → (∀ p ∈ cs, TabB base mg p.1 p.2) → FnOkG P w K mg base CX k fa fd [x] sp) (hbind : ∀ (s : Shared) (u : Value), BindsTo s fd ⟨[u], []⟩ [(x, u)])
    (hsp : ∀ H : Hp, (∀ p ∈ cs, H p.2 = some (.tbl #[])) → SqL K H a (ns.map V.int) → sp [.ref a] H (fun v _ => v = .bl true) fun _ _ _ => False)
    (hCX : ∀ H e s', CX [] H s₁ (fun _ _ _ => False) e s' → False) :
    codeAny (model P w) callerA (.call (.ref fa) ⟨[.ref a], []⟩) (fun r s' => r = .ok (.ret (.bool true)) ∧ OldK s₁.heap s'.heap ∧ s'.os = s₁.os ∧ AllBare s'.gens) s₁ := by
  have tabAt : ∀ b, b ∈ cs.map (·.2) → s₁.heap.get? b = some { cls := .none, data := .fields #[] } := fun b hb => (List.mem_map.mp hb).elim fun p hp => hp.2 ▸ hT p hp.1
  have tabK : ∀ b, b ∈ cs.map (·.2) → K.lookup b = none := fun b hb => (List.mem_map.mp hb).elim fun p hp => hp.2 ▸ nT p hp.1
  -- the abstract heap: the tables, and the script where the written part doesn't hold it
  let H : Hp := fun b => if b ∈ cs.map (·.2) then some (.tbl #[]) else if b = a ∧ K.lookup a = none then some (.frz { cls := .type "list", data := .seq vs.toArray } (.lst (ns.map V.int))) else none
  have aNot : a ∉ cs.map (·.2) := fun z => by
    have := tabAt a z
    rw [ha] at this
    cases this
  have Htab : ∀ b, b ∈ cs.map (·.2) → H b = some (.tbl #[]) := fun b hb => if_pos hb
  have Hcase : ∀ b u, H b = some u → (b ∈ cs.map (·.2) ∧ u = .tbl #[]) ∨ (b = a ∧ K.lookup a = none ∧ u = .frz { cls := .type "list", data := .seq vs.toArray } (.lst (ns.map V.int))) := fun b u e => by
    by_cases h1 : b ∈ cs.map (·.2)
    · exact .inl ⟨h1, Option.some.inj (e.symm.trans (Htab b h1))⟩
    · by_cases h2 : b = a ∧ K.lookup a = none
      · exact .inr ⟨h2.1, h2.2, Option.some.inj (e.symm.trans ((if_neg h1).trans (if_pos h2)))⟩
      · exact absurd (e.symm.trans ((if_neg h1).trans (if_neg h2))) (fun z => nomatch z)
  have other : ∀ b o, s₁.heap.get? b = some o → (∀ its n, o.data ≠ .seq its n) → o.data ≠ .fields #[] → H b = none := fun b o e n1 n2 => by
    match q : H b with
    | none => rfl
    | some u =>
      rcases Hcase b u q with ⟨z, _⟩ | ⟨z, _, _⟩
      · rw [tabAt b z] at e
        exact absurd (by cases e; rfl) n2
      · rw [z, ha] at e
        exact absurd (by cases e; rfl) (n1 vs.toArray 0)
  have hok : HOk P w H s₁.heap := fun b u e => by
    rcases Hcase b u e with ⟨z, rfl⟩ | ⟨rfl, _, rfl⟩
    · exact tabAt b z
    · exact ⟨ha, by rw [List.length_map]; exact hl, vs, _, vals_ints hi, ha⟩
  have hS : SqL K H a (ns.map V.int) := by
    match hk : K.lookup a with
    | none => exact .inl (.inr ⟨_, (if_neg aNot).trans (if_pos ⟨rfl, hk⟩)⟩)
    | some o =>
      have e := KX a o hk
      rw [ha] at e
      cases e
      have lenV := hi.length
      exact .inr ⟨_, vs.toArray, _, hk, rfl, rfl, rfl, by rw [List.size_toArray, lenV]; exact hl, by simpa using vals_ints hi⟩
  have low : ∀ b o, s₁.heap.get? b = some o → H b = none → (hidT s₁.heap H).get? b = some o := fun b o e n => hidT_get e n
  have lowNs : ∀ {b : Addr} {m : Str → Option Value}, s₁.heap.Ns b m → (hidT s₁.heap H).Ns b m := fun {b m} h => by
    obtain ⟨o, es, ep, e, d, r⟩ := h
    exact ⟨o, es, ep, low b o e (other b o e (fun its n z => by rw [d] at z; cases z) fun z => by rw [d] at z; cases z), d, r⟩
  have lowK : K.In (hidT s₁.heap H) := fun b o e => low b o (KX b o e) (by
    match q : H b with
    | none => rfl
    | some u =>
      rcases Hcase b u q with ⟨z, _⟩ | ⟨rfl, z, _⟩
      · rw [tabK b z] at e
        cases e
      · rw [z] at e
        cases e)
  have notG : ∀ b o, s₁.heap.get? b = some o → (∀ es ep, o.data ≠ .dict es ep) → b ≠ mainGlobals := fun b o e n z => by
    obtain ⟨o', es, ep, e', d, _⟩ := hns
    rw [z, e'] at e
    cases e
    exact n es ep d
  have lowT : ∀ p ∈ cs, TabB (hidT s₁.heap H) mg p.1 p.2 := fun p hp => by
    refine ⟨?_, ?_, Ne.symm (notG p.2 _ (hT p hp) (fun es ep z => nomatch z))⟩
    · obtain ⟨o, us, file, tf, flags, tg, inF, text, tt, e1, r1, r2, r3, rest⟩ := C p hp
      refine ⟨o, us, file, tf, flags, tg, inF, text, tt, low _ o e1 (other _ o e1 (fun its n z => by rw [r2] at z; cases z) fun z => ?_), r1, r2, r3, rest⟩
      rw [r2] at z
      cases z
      simp at r3
    · obtain ⟨bm, ob, b1, b2, b3, b4, b5, b6⟩ := hbm
      refine ⟨bm, ob, b1, b2, notG bm ob b3 (fun es ep z => by rw [b6] at z; cases z), fun z => ?_, low bm ob b3 (other bm ob b3 (fun its n z => by rw [b6] at z; cases z) fun z => by rw [b6] at z; cases z), b4, b5, b6⟩
      rw [z, hT p hp] at b3
      cases b3
      cases b6
  have lowM : L2.Mod K mg (hidT s₁.heap H) := ⟨lowK, lowNs hns, ⟨mb, lowNs hb, hbb⟩, hlim.elim fun mc h => ⟨mc, lowNs h.1, h.2⟩⟩
  have e0 : Env0 P w K mg (hidT s₁.heap H) callerA [] s₁ H := ⟨rfl, lowM, fun b o e => of_hidT e, Nat.le_of_eq (hidT_size _ _), trivial, fun b hb => absurd (show b ∈ ([] : List Addr) from hb) (List.not_mem_nil), hok, .of_eq hg⟩
  refine codeAny_mono ((F _ lowK (lowNs hns) lowT).run callerA [] s₁ H ⟨[.ref a], []⟩ [.ref a] [.ref a] _ _ rfl hr e0 (hbind s₁ (.ref a)) (.cons rfl .nil) (hsp H (fun p hp => Htab _ (List.mem_map.mpr ⟨p, hp, rfl⟩)) hS)) fun r s' h => ?_
  match r, h with
  | .error e, h => exact (hCX H e s' h).elim
  | .ok .next, h => exact False.elim h
  | .ok .brk, h => exact False.elim h
  | .ok .cont, h => exact False.elim h
  | .ok (.ret u), h =>
    obtain ⟨v, H', os, bare, un, hok', r', q⟩ := h
    have q2 : v = .bl true := q
    subst q2
    obtain rfl : u = Value.bool true := r'
    have stays : ∀ b o, b ∉ cs.map (·.2) → s₁.heap.get? b = some o → s'.heap.get? b = some o := fun b o nb e => by
      match z : H b with
      | none => exact un.keep b o e z (fun z => nomatch z) (fun z => nomatch z)
      | some u =>
        rcases Hcase b u z with ⟨y, _⟩ | ⟨rfl, _, rfl⟩
        · exact absurd y nb
        · obtain ⟨e1, _⟩ := hok' b _ (un.frzs b _ _ z)
          rw [ha] at e
          cases e
          exact e1
    have tabs : ∀ p ∈ cs, ∃ more : Array Value, s'.heap.get? p.2 = some { cls := .none, data := .fields more } := fun p hp =>
      (un.tbls p.2 #[] (Htab _ (List.mem_map.mpr ⟨p, hp, rfl⟩))).elim fun more z => ⟨_, hok' p.2 _ z⟩
    refine ⟨rfl, ⟨fun b o e => ?_, fun b o e => ?_⟩, os, bare⟩
    · by_cases nb : b ∈ cs.map (·.2)
      · obtain ⟨p, hp, rfl⟩ := List.mem_map.mp nb
        rw [hT p hp] at e
        cases e
        exact (tabs p hp).elim fun more hm => .inr (.inl ⟨((C p hp).tab (hT p hp)).isCodeTable, rfl, #[], more, rfl, hm.trans (by rw [Array.empty_append])⟩)
      · exact .inl (stays b o nb e)
    · by_cases nb : b ∈ cs.map (·.2)
      · obtain ⟨p, hp, rfl⟩ := List.mem_map.mp nb
        exact (tabs p hp).elim fun more hm => ⟨_, hm⟩
      · exact ⟨o, stays b o nb e⟩
end
/-- what is known of the law's promise at the head's heap, where no repr is under way -/
def LawAtG (l : PySem.W.OpenLaw) (w : World) (K : PySem.W.Frag) (CX : CXT) (k n : Nat) (x : Str) (mg : Str → Option Value) (fa : Addr) (h : Heap) : Prop :=
  ∃ (fd : FuncData) (cs : List (Addr × Addr)) (sp : Sp), (∀ p ∈ cs, h.get? p.2 = some { cls := .none, data := .fields #[] }) ∧ (∀ p ∈ cs, K.lookup p.2 = none) ∧ (∀ p ∈ cs, PySem.W.CodeHd h p.1 p.2) ∧ (∀ (s : Shared) (u : Value), BindsTo s fd ⟨[u], []⟩ [(x, u)]) ∧
    (∀ (H : Hp) (a : Addr) (ns : List Int), ns.length ≤ n → (∀ p ∈ cs, H p.2 = some (.tbl #[])) → SqL K H a (ns.map V.int) → sp [.ref a] H (fun v _ => v = .bl true) fun _ _ _ => False) ∧
    ∀ base : Heap, K.In base → base.Ns mainGlobals mg → (∀ p ∈ cs, TabB base mg p.1 p.2) → FnOkG l.prog w K mg base CX k fa fd [x] sp
theorem walk_topG {l : PySem.W.OpenLaw} {n k : Nat} {q : Program} {loose : List Str} {XP : (Str → Option Value) → Heap → Prop} {YP : World → Heap → Prop} {d : DefRec} {K : Params → PySem.W.Frag} {CX : World → CXT} {x : Str}
    (hn : l.most = some n) (hn2 : n ≤ sizeLine) (hdf : d.params.defaults = []) (hr : Room k callerA) (hY : ∀ (w : World) (h : Heap), YP w h → (K w.params).In h)
    (F : ∀ (w : World) (mg : Str → Option Value) (fa : Addr) (h : Heap), YP w h → (K w.params).In h → h.Ns mainGlobals mg → mg d.name = some (.ref fa) → TopTabs q (K w.params) mg h → LawAtG l w (K w.params) (CX w) k n x mg fa h)
    (hCX : ∀ (w : World) (H : Hp) (s : Shared) (e : Value) (s' : Shared), CX w [] H s (fun _ _ _ => False) e s' → False) :
    PySem.W.WalkO q loose XP YP l.row.toRowW d [] (fun f vs => PySem.call f vs) :=
  Att.attach_callB hn hdf fun w s₀ s₁ mg mb fa o pm cd doc a vs ns G Y ho hd hcd hmg hobj hints hlen hbits hg => by
    have KX := hY w _ Y
    have tabs : TopTabs q (K w.params) mg s₁.heap := fun x f c P o1 fd1 e dd vs1 sl hrec hx k1 k2 k3 k4 k5 => by
      obtain ⟨dL, hm, hn1⟩ := List.any_eq_true.mp hrec
      have hn2 : dL.name = x := beq_iff_eq.mp hn1
      obtain ⟨a', o', fd', c', P', h1, h2, h3, h4, h5, h6⟩ := G.T.tab dL hm
      rw [hn2, hx] at h1
      cases h1
      have g1 := KX _ _ k1
      rw [g1] at h2
      cases h2
      rw [k2] at h3
      cases h3
      rw [k3] at h4
      cases h4
      have hC := PySem.W.CodeHd.of h5 h6
      obtain ⟨⟨oc, vc, e1, _, e3, e4⟩, hP⟩ := h6
      have g2 := KX _ _ k4
      rw [g2] at e1
      cases e1
      cases e3
      rw [k5] at e4
      cases e4
      exact ⟨hC, hP⟩
    obtain ⟨fd, cs, sp, hT, nT, C, hb, hsp, hF⟩ := F w mg fa _ Y KX G.T.g hmg tabs
    exact call_lawG KX G.T.g G.T.b G.T.builtins G.T.nolimit hg hT nT C G.T.bmain hobj hints (Nat.le_trans hlen hn2) hr hF hb (fun H hH hS => hsp H a ns hlen hH hS) fun H e s' => hCX w H s₁ e s'
/-! ### bodies and calls of such defs -/
theorem okG {P : Program} {w : World} {K : PySem.W.Frag} {mg : Str → Option Value} {base : Heap} {x qual : Str} {st : Stmt} {f : Addr} {fd : FuncData} {N ps : List Str} {k : Nat} {sp : Sp} (F : L2.Fun K x qual st f fd) (S : FnScope N ps (defScope st)) (len : ∀ vs H Q E, sp vs H Q E → vs.length = ps.length)
    (hbody : ∀ (cdv : Value) (A : Around) (outer : List Env) (s : Shared) (H : Hp) (vs : List V) (Q : VK) (E : XK), (A.deeper (envOfC qual (defScope st) s.heap.objs.size f cdv)).guards = some [] → Room k (A.deeper (envOfC qual (defScope st) s.heap.objs.size f cdv)) → sp vs H Q E →
      ∃ t, PSs (cxOf CX0 P w K mg base N qual (defScope st) f cdv A outer s H E).nox (defBody st) t ∧ t { nx := fun _ H' => Q .non H', rt := Q } (start N vs) H) : FnOkG P w K mg base CX0 (k + 1) f fd ps sp := by
  obtain ⟨oc, od, kV, doc, pm, an, cdv, ct, osl, rfl, lk, hcd⟩ := F.ex
  refine ⟨len, fun A outer s H args us vs Q E hga hr e0 hb r hsp => ?_⟩
  have KX : K.In s.heap := e0.mod.kin.keeps fun b o e => (e0.bs b o e).1
  have lim : s.heap.NoLimit := e0.mod.nolimit.keeps fun b o e => (e0.bs b o e).1
  have hl := len _ _ _ _ hsp
  have hkind : ∀ y ∈ ps.zip us, (defScope st).names.lookup y.1 = some .local ∨ ((defScope st).names.lookup y.1 = some .cell ∧ ((cellsFrom (s.heap.objs.size + 1) (defScope st).names []).lookup y.1).isSome = true) := fun ⟨n, v⟩ hy =>
    (S.par n (List.of_mem_zip hy).1).elim .inl fun q => .inr ⟨q, PySem.W.cellsFrom_some _ _ _ (.inl q)⟩
  refine codeAny_call_function hr.depth (KX _ _ lk) rfl S.co S.gen rfl (PySem.W.codeRec_of KX hcd) (hb _ _ _ _ (wpAny_newFunctionEnv_cells S.kind hkind fun env he s1 xx => ?_))
  subst he
  obtain ⟨t, ht, hq⟩ := hbody cdv A outer s H vs Q E hga (hr.deeper _) hsp
  have I : Inv (cxOf CX0 P w K mg base N qual (defScope st) f cdv A outer s H E) [] (start N vs) H s1 := inv_start S hr.hd e0 hl r xx
  refine ⟨lim.keeps xx.toInCall.keep, codeAny_func (wpAny_mono (ht.run [] s1 (start N vs) H _ (I.wish _) hq) (fun fl s' hs => ?_) fun e s' hs => False.elim hs)⟩
  have fin : ∀ {σ' : L2.St} {H' : Hp} {v : V} {u : Value}, Inv (cxOf CX0 P w K mg base N qual (defScope st) f cdv A outer s H E).nox [] σ' H' s' → L2.RelV v u → Q v H' → CE outer P w H s Q u s' :=
    fun {σ' H' v u} J rv q => ⟨v, H', J.os, J.bare, J.base, J.hok, rv, q⟩
  match fl, hs with
  | .ret u, hs => exact hs.elim fun v z => z.elim fun σ' z => z.elim fun H' z => fin z.1 z.2.1 z.2.2
  | .next, hs => exact hs.elim fun σ' z => z.elim fun H' z => fin (v := V.non) (u := Value.none) z.1 rfl z.2
  | .brk, hs => exact hs.elim fun _ z => z.elim fun _ z => False.elim z.2
  | .cont, hs => exact hs.elim fun _ z => z.elim fun _ z => False.elim z.2
section
variable {X : Cx} {CX : CXT} {k : Nat} {f : Addr} {fd : FuncData} {ps : List Str} {sp : Sp} {E : XK} {x : Str} {p pos : Pos} {e : Expr} {es : List Expr} {t : TA}
/-- f(e, ..), f such a def -/
theorem pe_callG (F : FnOkG X.prog X.w X.K X.mg X.base CX k f fd ps sp) (hG : X.A.guards = some []) (hr : Room k X.A) (hg : Gl X x) (hm : X.mg x = some (.ref f)) (hk : PySem.W.keepIn X.K (.ref f) = true) (hb : L2.Binds X.K fd ps []) (hx : Passes CX X E)
    (ha : PA X (e :: es) t) (hdb : (x == ("__debug__" : Str)) = false := by decide) (he : starEach (e :: es) X.env = (false, eval e X.env) :: starEach es X.env := by rfl) (hpl : (backTo pos (starEach es X.env)).any (·.1) = false := by rfl) :
    PE X (.Call (.Name x p) (e :: es) [] pos) (fun σ H Q => t σ H fun vs H1 => sp vs H1 Q E) := by
  refine ⟨fun pins s σ H Q I h => wpAny_Call_Name_kw (ld_glob I hg hm (PySem.W.callWith_K (h₀ := X.base) I.ok.mod.kin hk (thn (ha.run pos pins s σ H _ I h) fun us s1 ⟨vs, H1, I1, r, q⟩ => ⟨I1.kIn, ?_⟩) he hpl) hdb)⟩
  have hl : us.length = ps.length := r.length.symm.trans (F.len _ _ _ _ q)
  have hb2 : BindsTo s1 fd ⟨us, []⟩ (ps.zip us) := by
    have := hb s1 us I1.kIn (by rw [List.append_nil]; exact hl)
    rwa [List.append_nil] at this
  refine wpAny_call (codeAny_mono (F.run X.A X.stack s1 H1 ⟨us, []⟩ us vs Q E hG hr I1.env0 hb2 r q) fun res s' hq => ?_)
  match res, hq with
  | .error er, hq => exact hx pins σ H1 s1 er s' I1 hq
  | .ok (.ret u), hq => exact I1.after hq
  | .ok .next, hq => exact False.elim hq
  | .ok .brk, hq => exact False.elim hq
  | .ok .cont, hq => exact False.elim hq
/-- repr of data: what PyData.shown says -/
theorem call_reprD (hG : X.A.guards = some []) (hu : X.A.units + 64 + 16 < cLine) : CallR X (.builtin "repr") (fun xs H Q => ∃ (v : V) (d : PyData), xs = [v] ∧ Dp X.K H v d ∧ d.showable = true ∧ d.hasDict = false ∧ d.depth ≤ 64 ∧ d.shown.length ≤ sizeLine ∧ (∀ i, v = .int i → i.natAbs.log2 < 1920) ∧ Q (.str d.shown) H) := by
  intro pins s σ H xs us Q I r h
  obtain ⟨v, d, rfl, hd, hs, hnd, hdp, hsz, hi, q⟩ := h
  obtain ⟨u, rfl, ru⟩ := vals1 r
  have txt : ∀ tk, ∃ (y : V) (H1 : Hp), Inv X pins σ H1 { s with toks := tk } ∧ L2.RelV y (.str d.shown s.toks) ∧ Q y H1 := fun tk => ⟨.str d.shown, H, I.kept (t' := tk) fun _ _ z => z, ⟨_, rfl⟩, q⟩
  have obj : ∀ (a : Addr), u = .ref a → wpAny (model X.prog X.w) X.A (call (.builtin "repr") [u]) (EP X pins σ Q) X.xe s := fun a e => by
    subst e
    obtain ⟨as, rd⟩ := Dp.reads I _ _ _ hd ru
    exact repr_of_reads' rd hs (fun z => by rw [hnd] at z; cases z) hG (by omega) (fun _ _ z => z) (fun h' u tk hk => ⟨.str d.shown, H, I.kept (h' := h') (t' := tk) hk, ⟨_, rfl⟩, q⟩) hsz
  cases hd with
  | non =>
    obtain rfl : u = Value.none := ru
    exact P.repr_of_none (txt _)
  | bl b =>
    obtain rfl : u = Value.bool b := ru
    exact P.repr_of_bool (by cases b <;> exact txt _)
  | int i =>
    obtain ⟨t, rfl⟩ := ru
    exact P.repr_of_int (hi i rfl) (txt _)
  | str y =>
    obtain ⟨t, rfl⟩ := ru
    exact P.repr_of_str (txt _) hsz
  | lst h1 h2 => exact obj _ ru
  | tup h1 h2 => exact obj _ ru
end
end Inf

set_option Elab.async false
set_option linter.all false
set_option maxRecDepth 100000
set_option maxHeartbeats 4000000
namespace Exv
open PySem PySem.Spec PyProof.Rows PySem.W L2
/-! ### an own class over a built-in error, with a dict, its __init__ its own -/
structure OexB (K : Frag) (C : Addr) (bmB : List Value) (newId : String) : Prop where
  ini : excInitIn K C bmB newId = true
  ovr : excOver K C bmB = true
  dct : hasDictIn K C = true
  sa : findIn K (.ref C) "__setattr__" = some (some (.builtin "object.__setattr__"))
  kC : keepIn K (.ref C) = true
section
variable {X : Cx} {pins : List (Addr × Obj)} {σ : L2.St} {H : Hp} {s : Shared} {a C : Addr} {f : Str} {y : V} {u : Value} {bmB : List Value} {newId B initId : String} {A : Around} {E : Value → Shared → Prop}
/-- what a first field leaves -/
def Fst (H H' : Hp) (a C : Addr) (f : Str) (y : V) : Prop := ∃ dx, dx ≠ a ∧ H dx = none ∧ H' a = some (exo a C (some dx)) ∧ H' dx = some (exd dx [(f, y)]) ∧ ∀ b, b ≠ a → b ≠ dx → H' b = H b
theorem first_field {Q : Unit → Shared → Prop} (SF : StoreFacts B bmB "object.__setattr__" "object") (T : OexB X.K C bmB newId) (I : Inv X pins σ H s) (e : H a = some (exo a C none)) (ht : takerIn X.K C f = some none) (ry : L2.RelV y u)
    (h : ∀ H' s', Fst H H' a C f y → Inv X pins σ H' s' → Q () s') : wpAny (model X.prog X.w) A (setAttr (.ref a) f u) Q E s := by
  obtain ⟨t1, ho⟩ := exo_at I.hok e
  obtain ⟨cd, hc, hd'⟩ := any_some T.dct
  obtain ⟨hp, g, d, t, os⟩ := s
  have J0 : PySem.W.InstAt hp a { cls := .ref C, dict := none, data := .fields #[.ref t1, .none, .none, .none, .bool false, .none] } C none := ⟨ho, rfl, rfl, trivial⟩
  refine set_plain I.kIn J0 T.sa (osa_openX (s := ⟨hp, g, d, t + 1, os⟩) SF I.kIn J0 T.ovr ht fun b => ?_)
  refine wpAny_bind (wpAny_pure (wpAny_bind (instanceDict_exc ho (looks_clsIn I.kIn hc) hd' ?_)))
  have hxs : a ≠ hp.objs.size := Nat.ne_of_lt (Heap.lt_size ho)
  have hx1 := Heap.get?_push_of_some (h := hp) (dictOf [] 0) ho
  refine HandSPX.store_in_new ?_ fun h' tk' hn' hs => ?_
  · exact ⟨_, #[], _, (Heap.get?_update_ne _ _ _ _ hxs.symm).trans (Heap.get?_push_at rfl rfl), rfl, fun e he => absurd he (by simp), fun _ => rfl⟩
  · have I1 := I.laid (a := hp.objs.size) (o := exd hp.objs.size []) (h' := hp.push (dictOf [] 0)) (t' := t) (fun b u z => Heap.get?_push_of_some _ z) (Nat.le_refl _) (exd_ok (mA := fun _ => none) (Heap.Ns1.of_empty ⟨_, #[], _, Heap.get?_push_at rfl rfl, rfl, fun e he => absurd he (by simp), fun _ => rfl⟩) fun g => True.intro)
    have hfree : H hp.objs.size = none := I.hok.fresh (Nat.le_refl _)
    have e1 : (upd H hp.objs.size (exd hp.objs.size [])) a = some (exo a C none) := (upd_ne hxs).trans e
    have hxa := Heap.get?_update_self (h := hp.push (dictOf [] 0)) (fun o => { o with dict := some hp.objs.size }) hx1 rfl
    have I2 := I1.write (x := a) (e := a) (o := exo a C (some hp.objs.size)) (h' := (hp.push (dictOf [] 0)).update a fun o => { o with dict := some hp.objs.size }) (t' := t) (by rw [e1]; exact True.intro) (.inl rfl) (fun b u hb z => (Heap.get?_update_ne _ _ _ _ hb).trans z) ⟨_, hxa⟩ (exo_ok hxa)
    have e2 : (upd (upd H hp.objs.size (exd hp.objs.size [])) a (exo a C (some hp.objs.size))) hp.objs.size = some (exd hp.objs.size []) := (upd_ne hxs.symm).trans upd_same
    have hdd : ∃ o, h'.get? hp.objs.size = some o := by
      obtain ⟨o, es, ep, q, _⟩ := hn'
      exact ⟨o, q⟩
    have I3 := I2.write (x := hp.objs.size) (e := hp.objs.size) (o := exd hp.objs.size [(f, y)]) (h' := h') (t' := tk') (by rw [e2]; exact True.intro) (.inl rfl) (fun b u hb z => (hs.2 b hb).trans z) hdd (exd_ok hn' (relO_put (fs := []) ry fun g => True.intro))
    exact h _ _ ⟨hp.objs.size, hxs.symm, hfree, (upd_ne hxs).trans upd_same, upd_same, fun b n1 n2 => (upd_ne n2).trans ((upd_ne n1).trans (upd_ne n2))⟩ I3
/-- the base's own __init__: nothing of it is told -/
theorem base_init {us : List Value} {Q : Value → Shared → Prop} (F : ExcBaseFacts B newId initId bmB) (T : OexB X.K C bmB newId) (I : Inv X pins σ H s) (e : H a = some (exo a C none)) (hl : us.length ≤ sizeLine) (h : ∀ s', Inv X pins σ H s' → Q .none s') :
    wpAny (model X.prog X.w) A (call (.builtin initId) (.ref a :: us)) Q E s := by
  obtain ⟨nm, N, q, bs, bm, hdct, sn, sub, ab, col, dd, k0, k1, k2, k3, k5, hC, hT⟩ := excInit_of I.kIn T.ini
  obtain ⟨t1, ho⟩ := exo_at I.hok e
  obtain ⟨hp, g, d, t, os⟩ := s
  refine wpAny_call (HandSPX.init_base F hT hC ho hl fun h' t2 k hx => ?_)
  have J := I.write (t' := t) (x := a) (e := a) (o := exo a C none) (by rw [e]; exact True.intro) (.inl rfl) k ⟨_, hx⟩ (exo_ok hx)
  have eu : upd H a (exo a C none) = H := funext fun b => by
    by_cases hb : b = a
    · rw [hb, upd_same, e]
    · exact upd_ne hb
  exact h _ (eu ▸ J)
end
/-! ### readings and rules -/
def tFst (K : Frag) (bmB : List Value) (newId : String) (f : Str) (to te : TE) : TS := fun D σ H => te σ H fun y H1 => to σ H1 fun x H2 => ∃ a C : Addr, x = .ref a ∧ OexB K C bmB newId ∧ takerIn K C f = some none ∧ H2 a = some (exo a C none) ∧ ∀ H3, Fst H2 H3 a C f y → D.nx σ H3
def tBinit (K : Frag) (bmB : List Value) (newId : String) (ta : TA) : TE := fun σ H Q => ta σ H fun vs H1 => ∃ (a C : Addr) (ws : List V), vs = .ref a :: ws ∧ ws.length ≤ 1000 ∧ OexB K C bmB newId ∧ H1 a = some (exo a C none) ∧ Q .non H1
section
variable {X : Cx} {o e : Expr} {es : List Expr} {to te : TE} {ta : TA} {f x : Str} {p p' p1 p2 pos : Pos} {bmB : List Value} {newId B initId : String} {C1 : Addr}
theorem ps_fst (SF : StoreFacts B bmB "object.__setattr__" "object") (ho : PE X o to) (he : PE X e te) (hs : swapsWith e (some (.Attribute o f p')) pos.line X.env = pure false := by rfl) : PS X (.Assign [.Attribute o f p'] e pos) (tFst X.K bmB newId f to te) := by
  refine ⟨fun pins s σ H D I h => plainObj_wpAny_Assign_Attribute (thn (he.run pins s σ H _ I h) fun v s1 ⟨y, H1, I1, r1, q1⟩ => thn (ho.run pins s1 σ H1 _ I1 q1) fun u s2 ⟨x, H2, I2, r2, a, C, ex, T, ht, ea, q⟩ => ?_) hs⟩
  subst ex
  obtain rfl : u = Value.ref a := r2
  exact first_field SF T I2 ea ht r1 fun H3 s' F J => ⟨σ, H3, J, q H3 F⟩
/-- X1.__init__(self, ..), X1 an own class that has none of its own -/
theorem pe_binit {pl : Sem Bool} (F : ExcBaseFacts B newId initId bmB) (hg : Gl X x) (hm : X.mg x = some (.ref C1)) (kC : keepIn X.K (.ref C1) = true) (sg : specialIn X.K (.ref C1) "__getattribute__" = some (some (.builtin "type.__getattribute__"))) {mc : Value} (hr : readsIn X.K C1 mc = true)
    (hh : handedIn (Value.builtin initId) = true) (hv : findCls X.K (.ref C1) mc "__init__" = some (.val (.builtin initId))) (ha : PA X (e :: es) ta) (hdb : (x == ("__debug__" : Str)) = false := by decide)
    (hc : eval (.Call (.Attribute (.Name x p1) "__init__" p2) (e :: es) [] pos) X.env = (do
      let ov ← eval (.Name x p1) X.env
      standAt p2.atName
      let (f, first) ← holding [ov] (getMethod ov "__init__" pl)
      callWith pos f first (backTo pos (starEach (e :: es) X.env)) (backToKw pos (keywordEach [] X.env))) := by rfl)
    (he : starEach (e :: es) X.env = (false, eval e X.env) :: starEach es X.env := by rfl) (hpl : (backTo pos (starEach es X.env)).any (·.1) = false := by rfl) :
    PE X (.Call (.Attribute (.Name x p1) "__init__" p2) (e :: es) [] pos) (tBinit X.K bmB newId ta) := by
  refine ⟨fun pins s σ H Q I h => methodCall_KW (ld_glob I hg hm ?_ hdb) hc⟩
  refine method_cls I.kIn sg (cls_value I.kIn hr hv hh ?_)
  show wpAny _ _ (callWith pos (Value.builtin initId) [] (backTo pos (starEach (e :: es) X.env)) []) _ _ _
  refine callWith_method1 (thn (ha.run pos pins _ σ H _ (I.tok _) h) fun us s1 ⟨vs, H1, I1, r1, a, C, ws, ev, hl, T, ea, q⟩ => ?_) he hpl
  subst ev
  cases r1 with
  | @cons _ u0 _ ur ra rw' =>
    obtain rfl : u0 = Value.ref a := ra
    exact base_init F T I1 ea (by rw [← Paired.length rw', sizeLine_eq]; omega) fun s' J => ⟨.non, H1, J, rfl, q⟩
/-- B.__init__(self, ..), B the built-in class -/
theorem pe_binitB {pl : Sem Bool} {T : String} (F : ExcBaseFacts B newId initId bmB) (hg : Gl X x) (hm : X.mg x = none) (hb : bootBuiltins x = some (.type T)) (ty : typeOf (.type T) = pure (.type "type")) (st : Manifest.isStub T = false)
    (hh : handedIn (Value.builtin initId) = true) (hv : findCls X.K (.type T) (.type "type") "__init__" = some (.val (.builtin initId))) (ha : PA X (e :: es) ta) (hn : x ≠ "__name__") (hdb : (x == ("__debug__" : Str)) = false)
    (hc : eval (.Call (.Attribute (.Name x p1) "__init__" p2) (e :: es) [] pos) X.env = (do
      let ov ← eval (.Name x p1) X.env
      standAt p2.atName
      let (f, first) ← holding [ov] (getMethod ov "__init__" pl)
      callWith pos f first (backTo pos (starEach (e :: es) X.env)) (backToKw pos (keywordEach [] X.env))) := by rfl)
    (he : starEach (e :: es) X.env = (false, eval e X.env) :: starEach es X.env := by rfl) (hpl : (backTo pos (starEach es X.env)).any (·.1) = false := by rfl) :
    PE X (.Call (.Attribute (.Name x p1) "__init__" p2) (e :: es) [] pos) (tBinit X.K bmB newId ta) := by
  refine ⟨fun pins s σ H Q I h => methodCall_KW (ld_blt I hg hm hb ?_ hn hdb) hc⟩
  obtain ⟨m, fr⟩ := I.fr
  refine method_type fr I.ok.mod.kin ty st hv hh ?_
  show wpAny _ _ (callWith pos (Value.builtin initId) [] (backTo pos (starEach (e :: es) X.env)) []) _ _ _
  refine callWith_method1 (thn (ha.run pos pins _ σ H _ (I.tok _) h) fun us s1 ⟨vs, H1, I1, r1, a, C, ws, ev, hl, T, ea, q⟩ => ?_) he hpl
  subst ev
  cases r1 with
  | @cons _ u0 _ ur ra rw' =>
    obtain rfl : u0 = Value.ref a := ra
    exact base_init F T I1 ea (by rw [← Paired.length rw', sizeLine_eq]; omega) fun s' J => ⟨.non, H1, J, rfl, q⟩
end
end Exv

set_option Elab.async false
set_option linter.all false
set_option maxRecDepth 100000
set_option maxHeartbeats 4000000
namespace Exv
open PySem PySem.Spec PyProof.Rows PySem.W L2
/-- C(e, ..), C's own __init__ keeping sp: the new exception as a value -/
def tMkX (C : Addr) (sp : Sp) (dvs : List V) (ta : TA) : TE := fun σ H Q => ta σ H fun vs H1 => vs.length ≤ 1000 ∧ ∀ a, H1 a = none → sp (.ref a :: (vs ++ dvs)) (upd H1 a (exo a C none)) (fun v H2 => v = .non ∧ Q (.ref a) H2) fun _ _ _ => False
section
variable {X : Cx} {o e : Expr} {es : List Expr} {to te : TE} {ta : TA} {f x : Str} {p p' p1 p2 pos : Pos} {bmB : List Value} {newId B initId : String} {C fI : Addr} {CX : CXT} {k : Nat} {fd : FuncData} {ps : List Str} {sp : Sp} {ds : List Value} {dvs : List V}
theorem pe_mkX (F : ExcBaseFacts B newId initId bmB) (T : OexB X.K C bmB newId) (iC : findIn X.K (.ref C) "__init__" = some (some (.ref fI))) (tI : typeIn X.K (.ref fI) = some (.type "function"))
    (F1 : FnOk X.prog X.w X.K X.mg X.base CX k fI fd ps sp) (hr : Room (k + 1) X.A) (hb : Binds X.K fd ps ds) (hd : Vals dvs ds) (hx : Passes CX X (fun _ _ _ => False)) (hg : Gl X x) (hm : X.mg x = some (.ref C)) (ha : PA X (e :: es) ta)
    (hdb : (x == ("__debug__" : Str)) = false := by decide) (he : starEach (e :: es) X.env = (false, eval e X.env) :: starEach es X.env := by rfl) (hpl : (backTo pos (starEach es X.env)).any (·.1) = false := by rfl) :
    PE X (.Call (.Name x p) (e :: es) [] pos) (tMkX C sp dvs ta) := by
  refine ⟨fun pins s σ H Q I h => wpAny_Call_Name_kw (ld_glob I hg hm (callWith_K (h₀ := X.base) I.ok.mod.kin T.kC (thn (ha.run pos pins s σ H _ I h) fun us s1 ⟨vs, H1, I1, r1, hz, q1⟩ => ⟨I1.kIn, ?_⟩) he hpl) hdb)⟩
  obtain ⟨nm, N, q, bs, bm, hdct, sn, sub, ab, col, dd, k0, k1, k2, k3, k5, hC, hT⟩ := excInit_of I1.kIn T.ini
  obtain ⟨hp, g, dr, tk, os⟩ := s1
  have hq := q1 (hp.objs.size + 1) (I1.hok.fresh (Nat.le_succ _))
  have hget : ((hp.push (kdv_tup us)).push (HandSPX.excO C hp.objs.size)).get? (hp.objs.size + 1) = some (HandSPX.excO C hp.objs.size) := by heap_get
  have I2 := I1.laid (a := hp.objs.size + 1) (o := exo (hp.objs.size + 1) C none) (h' := (hp.push (kdv_tup us)).push (HandSPX.excO C hp.objs.size)) (t' := tk) (fun b o e => Heap.get?_push_of_some _ (Heap.get?_push_of_some _ e)) (Nat.le_succ _) (exo_ok hget)
  have r2 : Vals (V.ref (hp.objs.size + 1) :: (vs ++ dvs)) (Value.ref (hp.objs.size + 1) :: (us ++ ds)) := .cons rfl (r1.append hd)
  have hl : (Value.ref (hp.objs.size + 1) :: us ++ ds).length = ps.length := (Paired.length r2).symm.trans (F1.len _ _ _ _ hq)
  have hus : us.length ≤ sizeLine := by rw [← Paired.length r1, sizeLine_eq]; omega
  refine wpAny_call (HandSPX.call_own F hT hC (looks_findIn I1.kIn iC) (fun self => bind_fn I1.kIn self tI) hus (codeAny_mono (F1.run _ X.stack _ _ ⟨Value.ref (hp.objs.size + 1) :: us, []⟩ (Value.ref (hp.objs.size + 1) :: (us ++ ds)) _ _ _ (hr.make C us []) (I2.env0.make C us []) (hb _ (Value.ref (hp.objs.size + 1) :: us) I2.kIn hl) r2 hq) fun r s' hq' => ?_))
  match r, hq' with
  | .error er, z => exact hx pins σ _ _ er s' I2 z
  | .ok .next, z => exact False.elim z
  | .ok .brk, z => exact False.elim z
  | .ok .cont, z => exact False.elim z
  | .ok (.ret u), z =>
    obtain ⟨v, H2, J, rv, ev, q2⟩ := I2.after z
    subst ev
    obtain rfl : u = Value.none := rv
    exact ⟨rfl, ⟨.ref (hp.objs.size + 1), H2, J, rfl, q2⟩⟩
end
/-! ### what is held of an exception that is a value -/
/-- at a: an exception of the class at C; its fields are fs -/
def EAt (H : Hp) (a C : Addr) (fs : List (Str × V)) : Prop := (fs = [] ∧ H a = some (ExO (.ref C) a)) ∨ ∃ dx, H a = some (exo a C (some dx)) ∧ H dx = some (exd dx fs)
theorem eat_inst {X : Cx} {pins : List (Addr × Obj)} {σ : L2.St} {H : Hp} {s : Shared} {a C : Addr} {fs : List (Str × V)} (I : Inv X pins σ H s) (e : EAt H a C fs) : ∃ (ox : Obj) (od : Option Obj), PySem.W.InstAt s.heap a ox C od ∧ ∀ n v, fs.lookup n = some v → ∃ o u, od = some o ∧ lookIn n o = some (some u) ∧ L2.RelV v u := by
  rcases e with ⟨e0, e⟩ | ⟨dx, e1, e2⟩
  · subst e0
    obtain ⟨⟨oe, vs, ho, hz, hd, _⟩, _, _⟩ := I.hok a _ e
    refine ⟨oe, none, ⟨ho, hz.1, by unfold notCls; rw [hd] <;> rfl, by rw [hz.2]; exact trivial⟩, fun n v z => ?_⟩
    cases z
  · obtain ⟨t1, ho⟩ := exo_at I.hok e1
    obtain ⟨mA, hns, hr⟩ := exd_at I.hok e2
    obtain ⟨od, hd, hl⟩ := lookIn_ns hns
    refine ⟨_, some od, ⟨ho, rfl, rfl, hd⟩, fun n v z => ?_⟩
    obtain ⟨u, hu, ru⟩ := RelO.some_of (v := v) (o := mA n) (by rw [← z]; exact hr n)
    exact ⟨od, u, rfl, by rw [hl, hu], ru⟩
/-- what the class D says, so that isinstance asks its instances -/
structure IsC (K : Frag) (D : Addr) : Prop where
  hC : (clsIn K D).isSome = true
  hg : findIn K (.ref D) "__getattribute__" = some (some (.builtin "BaseException.__getattribute__"))
  hk : findIn K (.ref D) "__getattr__" = some none
  hs : subIn K (.ref D) (.type "BaseException") = some true
  ha : findIn K (.ref D) "__class__" = some (some (.builtin "object.__class__"))
  hn : specialIn K (.builtin "object.__class__") "__get__" = some (some (.builtin "getset_descriptor.__get__"))
  ht : takesIn K (.builtin "object.__class__") = some true
  hm : mroIn K D (.type "object") = some true
def rIsX (K : Frag) : List V → Hp → VK → Prop := fun xs H Q => ∃ (a D : Addr) (fs : List (Str × V)) (c : V) (cv : Value) (b : Bool), xs = [.ref a, c] ∧ EAt H a D fs ∧ IsC K D ∧ (∀ u, L2.RelV c u → u = cv) ∧ kitOne K (.ref D) cv = some b ∧ Q (.bl b) H
theorem call_isX {X : Cx} : CallR X (.builtin "isinstance") (rIsX X.K) := by
  intro pins s σ H xs us Q I r h
  obtain ⟨a, D, fs, c, cv, b, rfl, ea, C, hcv, e, q⟩ := h
  cases r with
  | cons rx rr =>
    cases rr with
    | cons rt rr =>
      cases rr
      cases rx
      obtain rfl := hcv _ rt
      obtain ⟨ox, od, J, _⟩ := eat_inst I ea
      exact kia_one (kitx_exc (gt := none) C.hC C.hg C.hk C.hs C.ha C.hn C.ht C.hm) I.kIn J e (fun z => nomatch z) fun tk => ⟨.bl b, H, I.kept (t' := tk) fun _ _ z => z, rfl, q⟩
/-- e.f, e an exception that is a value -/
def tXat (K : Frag) (f : Str) (te : TE) : TE := fun σ H Q => te σ H fun x H1 => ∃ (a C : Addr) (fs : List (Str × V)) (v : V), x = .ref a ∧ EAt H1 a C fs ∧ XfC K C ∧ findIn K (.ref C) f = some none ∧ fs.lookup f = some v ∧ Q v H1
theorem pe_xat {X : Cx} {e : Expr} {te : TE} {pos : Pos} {n : Str} (he : PE X e te) (hb : attributeBase e n X.env (eval e X.env) = eval e X.env := by rfl) : PE X (.Attribute e n pos) (tXat X.K n te) := by
  refine ⟨fun pins s σ H Q I h => attr_of hb (thn (he.run pins s σ H _ I h) fun u s1 ⟨x, H1, I1, rx, a, C, fs, v, ex, ea, T, hno, l, q⟩ => ?_)⟩
  subst ex
  obtain rfl : u = Value.ref a := rx
  obtain ⟨ox, od, J, hl⟩ := eat_inst I1 ea
  obtain ⟨o, w, rfl, hw, ru⟩ := hl _ _ l
  exact HandSPX.exc_get I1.kIn J T.ga T.gg T.exC (findObj_own T.hdC hno rfl hw) (handed_of ru) ⟨v, H1, I1.tok _, ru, q⟩
end Exv

set_option Elab.async false
set_option linter.all false
set_option maxRecDepth 100000
set_option maxHeartbeats 4000000
namespace Ob
open PySem PySem.Spec PyProof.Rows L2
/-! ### the text -/
def topS (i : Nat) : Stmt := PySem.Challenge.pw_oncebuilt_k01_errors_and_their_bases.main.body.getD i (.Pass ⟨0, 0, 0, 0⟩)
abbrev s_BadHistory_init : Stmt := inClass (topS 3) 0
abbrev n_BadHistory_init : List Str := ["self", "index"]
theorem sc_BadHistory_init : FnScope n_BadHistory_init ["self", "index"] (defScope s_BadHistory_init) := ⟨rfl, rfl, rfl, by decide +kernel, rfl, by decide +kernel, by decide +kernel⟩
abbrev s_NoMember_init : Stmt := inClass (topS 4) 0
abbrev n_NoMember_init : List Str := ["self", "number"]
theorem sc_NoMember_init : FnScope n_NoMember_init ["self", "number"] (defScope s_NoMember_init) := ⟨rfl, rfl, rfl, by decide +kernel, rfl, by decide +kernel, by decide +kernel⟩
abbrev s_l_bag : Stmt := topS 10
abbrev n_l_bag : List Str := ["_law_script", "_law_at", "_law_cell", "_law_great", "_law_primes"]
theorem sc_l_bag : FnScope n_l_bag ["_law_script", "_law_at"] (defScope s_l_bag) := ⟨rfl, rfl, rfl, by decide +kernel, rfl, by decide +kernel, by decide +kernel⟩
abbrev s_l_take : Stmt := topS 11
abbrev n_l_take : List Str := ["_law_bag_here", "_law_many", "_law_digit"]
theorem sc_l_take : FnScope n_l_take ["_law_bag_here", "_law_many"] (defScope s_l_take) := ⟨rfl, rfl, rfl, by decide +kernel, rfl, by decide +kernel, by decide +kernel⟩
abbrev s_l_marks : Stmt := topS 12
abbrev n_l_marks : List Str := ["_law_error", "_law_marks_here"]
theorem sc_l_marks : FnScope n_l_marks ["_law_error"] (defScope s_l_marks) := ⟨rfl, rfl, rfl, by decide +kernel, rfl, by decide +kernel, by decide +kernel⟩
abbrev s_l_python : Stmt := topS 13
abbrev n_l_python : List Str := ["_law_error", "_law_marks_here"]
theorem sc_l_python : FnScope n_l_python ["_law_error"] (defScope s_l_python) := ⟨rfl, rfl, rfl, by decide +kernel, rfl, by decide +kernel, by decide +kernel⟩
abbrev s_l_right : Stmt := topS 14
abbrev n_l_right : List Str := ["_law_errors", "_law_thing", "_law_kinds", "_law_at", "_law_due", "_law_k"]
theorem sc_l_right : FnScope n_l_right ["_law_errors", "_law_thing"] (defScope s_l_right) := ⟨rfl, rfl, rfl, by decide +kernel, rfl, by decide +kernel, by decide +kernel⟩
abbrev s_law : Stmt := topS 15
abbrev n_law : List Str := ["_law_script", "_law_k", "_law_bag_here", "_law_some", "_law_thing", "_law_errors"]
theorem sc_law : FnScope n_law ["_law_script"] (defScope s_law) := ⟨rfl, rfl, rfl, by decide +kernel, rfl, by decide +kernel, by decide +kernel⟩
structure Txt (K : PySem.W.Frag) (mg : Str → Option Value) where
  C_OnceError : Addr
  gc_OnceError : mg "OnceError" = some (.ref C_OnceError)
  C_BadNumber : Addr
  gc_BadNumber : mg "BadNumber" = some (.ref C_BadNumber)
  C_BadHistory : Addr
  gc_BadHistory : mg "BadHistory" = some (.ref C_BadHistory)
  C_NoMember : Addr
  gc_NoMember : mg "NoMember" = some (.ref C_NoMember)
  C_Empty : Addr
  gc_Empty : mg "Empty" = some (.ref C_Empty)
  C_Busy : Addr
  gc_Busy : mg "Busy" = some (.ref C_Busy)
  C_Torn : Addr
  gc_Torn : mg "Torn" = some (.ref C_Torn)
  C_NotTorn : Addr
  gc_NotTorn : mg "NotTorn" = some (.ref C_NotTorn)
  f_BadHistory_init : Addr
  d_BadHistory_init : FuncData
  -- 
  F_BadHistory_init : Fun K "__init__" "BadHistory.__init__" s_BadHistory_init f_BadHistory_init d_BadHistory_init
  b_BadHistory_init : Binds K d_BadHistory_init ["self", "index"] []
  m_BadHistory_init : PySem.W.findIn K (.ref C_BadHistory) "__init__" = some (some (.ref f_BadHistory_init))
  t_BadHistory_init : PySem.W.isFn K (.ref f_BadHistory_init) = true
  y_BadHistory_init : PySem.W.typeIn K (.ref f_BadHistory_init) = some (.type "function")
  k_BadHistory_init : PySem.W.keepIn K (.ref f_BadHistory_init) = true
  f_NoMember_init : Addr
  d_NoMember_init : FuncData
  -- 
  F_NoMember_init : Fun K "__init__" "NoMember.__init__" s_NoMember_init f_NoMember_init d_NoMember_init
  b_NoMember_init : Binds K d_NoMember_init ["self", "number"] []
  m_NoMember_init : PySem.W.findIn K (.ref C_NoMember) "__init__" = some (some (.ref f_NoMember_init))
  t_NoMember_init : PySem.W.isFn K (.ref f_NoMember_init) = true
  y_NoMember_init : PySem.W.typeIn K (.ref f_NoMember_init) = some (.type "function")
  k_NoMember_init : PySem.W.keepIn K (.ref f_NoMember_init) = true
  f_l_bag : Addr
  d_l_bag : FuncData
  F_l_bag : Fun K "_law_bag" "_law_bag" s_l_bag f_l_bag d_l_bag
  b_l_bag : Binds K d_l_bag ["_law_script", "_law_at"] []
  g_l_bag : mg "_law_bag" = some (.ref f_l_bag)
  f_l_take : Addr
  d_l_take : FuncData
  F_l_take : Fun K "_law_take" "_law_take" s_l_take f_l_take d_l_take
  b_l_take : Binds K d_l_take ["_law_bag_here", "_law_many"] []
  g_l_take : mg "_law_take" = some (.ref f_l_take)
  f_l_marks : Addr
  d_l_marks : FuncData
  F_l_marks : Fun K "_law_marks" "_law_marks" s_l_marks f_l_marks d_l_marks
  b_l_marks : Binds K d_l_marks ["_law_error"] []
  g_l_marks : mg "_law_marks" = some (.ref f_l_marks)
  f_l_python : Addr
  d_l_python : FuncData
  F_l_python : Fun K "_law_python" "_law_python" s_l_python f_l_python d_l_python
  b_l_python : Binds K d_l_python ["_law_error"] []
  g_l_python : mg "_law_python" = some (.ref f_l_python)
  f_l_right : Addr
  d_l_right : FuncData
  F_l_right : Fun K "_law_right" "_law_right" s_l_right f_l_right d_l_right
  b_l_right : Binds K d_l_right ["_law_errors", "_law_thing"] []
  g_l_right : mg "_law_right" = some (.ref f_l_right)
  z_IndexError : mg "IndexError" = none
  z_KeyError : mg "KeyError" = none
  z_LookupError : mg "LookupError" = none
  z_OverflowError : mg "OverflowError" = none
  z_RuntimeError : mg "RuntimeError" = none
  z_ValueError : mg "ValueError" = none
  z_abs : mg "abs" = none
  z_isinstance : mg "isinstance" = none
  z_len : mg "len" = none
  z_min : mg "min" = none
  z_range : mg "range" = none
  z_repr : mg "repr" = none
  kp_BadNumber : PySem.W.keepIn K (.ref C_BadNumber) = true
  x_BadNumber : PySem.W.excIn K C_BadNumber [.type "ValueError", .type "Exception", .type "BaseException", .type "object"] "ValueError.__new__" = true
  is_BadNumber : Exv.IsC K C_BadNumber
  kp_BadHistory : PySem.W.keepIn K (.ref C_BadHistory) = true
  is_BadHistory : Exv.IsC K C_BadHistory
  kp_NoMember : PySem.W.keepIn K (.ref C_NoMember) = true
  is_NoMember : Exv.IsC K C_NoMember
  kp_Empty : PySem.W.keepIn K (.ref C_Empty) = true
  x_Empty : PySem.W.excIn K C_Empty [.type "IndexError", .type "LookupError", .type "Exception", .type "BaseException", .type "object"] "IndexError.__new__" = true
  is_Empty : Exv.IsC K C_Empty
  kp_Busy : PySem.W.keepIn K (.ref C_Busy) = true
  x_Busy : PySem.W.excIn K C_Busy [.type "RuntimeError", .type "Exception", .type "BaseException", .type "object"] "RuntimeError.__new__" = true
  is_Busy : Exv.IsC K C_Busy
  kp_Torn : PySem.W.keepIn K (.ref C_Torn) = true
  x_Torn : PySem.W.excIn K C_Torn [.type "RuntimeError", .type "Exception", .type "BaseException", .type "object"] "RuntimeError.__new__" = true
  is_Torn : Exv.IsC K C_Torn
  kp_NotTorn : PySem.W.keepIn K (.ref C_NotTorn) = true
  x_NotTorn : PySem.W.excIn K C_NotTorn [.type "RuntimeError", .type "Exception", .type "BaseException", .type "object"] "RuntimeError.__new__" = true
  is_NotTorn : Exv.IsC K C_NotTorn
  kp_OnceError : PySem.W.keepIn K (.ref C_OnceError) = true
  x_OnceError : PySem.W.excIn K C_OnceError [.type "ValueError", .type "Exception", .type "BaseException", .type "object"] "ValueError.__new__" = true
  is_OnceError : Exv.IsC K C_OnceError
  o_BadNumber_BadNumber : PySem.W.kitOne K (.ref C_BadNumber) (.ref C_BadNumber) = some true
  o_BadNumber_BadHistory : PySem.W.kitOne K (.ref C_BadNumber) (.ref C_BadHistory) = some false
  o_BadNumber_NoMember : PySem.W.kitOne K (.ref C_BadNumber) (.ref C_NoMember) = some false
  o_BadNumber_Empty : PySem.W.kitOne K (.ref C_BadNumber) (.ref C_Empty) = some false
  o_BadNumber_Busy : PySem.W.kitOne K (.ref C_BadNumber) (.ref C_Busy) = some false
  o_BadNumber_Torn : PySem.W.kitOne K (.ref C_BadNumber) (.ref C_Torn) = some false
  o_BadNumber_NotTorn : PySem.W.kitOne K (.ref C_BadNumber) (.ref C_NotTorn) = some false
  o_BadNumber_OnceError : PySem.W.kitOne K (.ref C_BadNumber) (.ref C_OnceError) = some true
  p_BadNumber_ValueError : PySem.W.kitOne K (.ref C_BadNumber) (.type "ValueError") = some true
  p_BadNumber_LookupError : PySem.W.kitOne K (.ref C_BadNumber) (.type "LookupError") = some false
  p_BadNumber_IndexError : PySem.W.kitOne K (.ref C_BadNumber) (.type "IndexError") = some false
  p_BadNumber_RuntimeError : PySem.W.kitOne K (.ref C_BadNumber) (.type "RuntimeError") = some false
  p_BadNumber_KeyError : PySem.W.kitOne K (.ref C_BadNumber) (.type "KeyError") = some false
  p_BadNumber_OverflowError : PySem.W.kitOne K (.ref C_BadNumber) (.type "OverflowError") = some false
  o_BadHistory_BadNumber : PySem.W.kitOne K (.ref C_BadHistory) (.ref C_BadNumber) = some false
  o_BadHistory_BadHistory : PySem.W.kitOne K (.ref C_BadHistory) (.ref C_BadHistory) = some true
  o_BadHistory_NoMember : PySem.W.kitOne K (.ref C_BadHistory) (.ref C_NoMember) = some false
  o_BadHistory_Empty : PySem.W.kitOne K (.ref C_BadHistory) (.ref C_Empty) = some false
  o_BadHistory_Busy : PySem.W.kitOne K (.ref C_BadHistory) (.ref C_Busy) = some false
  o_BadHistory_Torn : PySem.W.kitOne K (.ref C_BadHistory) (.ref C_Torn) = some false
  o_BadHistory_NotTorn : PySem.W.kitOne K (.ref C_BadHistory) (.ref C_NotTorn) = some false
  o_BadHistory_OnceError : PySem.W.kitOne K (.ref C_BadHistory) (.ref C_OnceError) = some true
  p_BadHistory_ValueError : PySem.W.kitOne K (.ref C_BadHistory) (.type "ValueError") = some true
  p_BadHistory_LookupError : PySem.W.kitOne K (.ref C_BadHistory) (.type "LookupError") = some false
  p_BadHistory_IndexError : PySem.W.kitOne K (.ref C_BadHistory) (.type "IndexError") = some false
  p_BadHistory_RuntimeError : PySem.W.kitOne K (.ref C_BadHistory) (.type "RuntimeError") = some false
  p_BadHistory_KeyError : PySem.W.kitOne K (.ref C_BadHistory) (.type "KeyError") = some false
  p_BadHistory_OverflowError : PySem.W.kitOne K (.ref C_BadHistory) (.type "OverflowError") = some false
  o_NoMember_BadNumber : PySem.W.kitOne K (.ref C_NoMember) (.ref C_BadNumber) = some false
  o_NoMember_BadHistory : PySem.W.kitOne K (.ref C_NoMember) (.ref C_BadHistory) = some false
  o_NoMember_NoMember : PySem.W.kitOne K (.ref C_NoMember) (.ref C_NoMember) = some true
  o_NoMember_Empty : PySem.W.kitOne K (.ref C_NoMember) (.ref C_Empty) = some false
  o_NoMember_Busy : PySem.W.kitOne K (.ref C_NoMember) (.ref C_Busy) = some false
  o_NoMember_Torn : PySem.W.kitOne K (.ref C_NoMember) (.ref C_Torn) = some false
  o_NoMember_NotTorn : PySem.W.kitOne K (.ref C_NoMember) (.ref C_NotTorn) = some false
  o_NoMember_OnceError : PySem.W.kitOne K (.ref C_NoMember) (.ref C_OnceError) = some false
  p_NoMember_ValueError : PySem.W.kitOne K (.ref C_NoMember) (.type "ValueError") = some false
  p_NoMember_LookupError : PySem.W.kitOne K (.ref C_NoMember) (.type "LookupError") = some true
  p_NoMember_IndexError : PySem.W.kitOne K (.ref C_NoMember) (.type "IndexError") = some false
  p_NoMember_RuntimeError : PySem.W.kitOne K (.ref C_NoMember) (.type "RuntimeError") = some false
  p_NoMember_KeyError : PySem.W.kitOne K (.ref C_NoMember) (.type "KeyError") = some false
  p_NoMember_OverflowError : PySem.W.kitOne K (.ref C_NoMember) (.type "OverflowError") = some false
  o_Empty_BadNumber : PySem.W.kitOne K (.ref C_Empty) (.ref C_BadNumber) = some false
  o_Empty_BadHistory : PySem.W.kitOne K (.ref C_Empty) (.ref C_BadHistory) = some false
  o_Empty_NoMember : PySem.W.kitOne K (.ref C_Empty) (.ref C_NoMember) = some false
  o_Empty_Empty : PySem.W.kitOne K (.ref C_Empty) (.ref C_Empty) = some true
  o_Empty_Busy : PySem.W.kitOne K (.ref C_Empty) (.ref C_Busy) = some false
  o_Empty_Torn : PySem.W.kitOne K (.ref C_Empty) (.ref C_Torn) = some false
  o_Empty_NotTorn : PySem.W.kitOne K (.ref C_Empty) (.ref C_NotTorn) = some false
  o_Empty_OnceError : PySem.W.kitOne K (.ref C_Empty) (.ref C_OnceError) = some false
  p_Empty_ValueError : PySem.W.kitOne K (.ref C_Empty) (.type "ValueError") = some false
  p_Empty_LookupError : PySem.W.kitOne K (.ref C_Empty) (.type "LookupError") = some true
  p_Empty_IndexError : PySem.W.kitOne K (.ref C_Empty) (.type "IndexError") = some true
  p_Empty_RuntimeError : PySem.W.kitOne K (.ref C_Empty) (.type "RuntimeError") = some false
  p_Empty_KeyError : PySem.W.kitOne K (.ref C_Empty) (.type "KeyError") = some false
  p_Empty_OverflowError : PySem.W.kitOne K (.ref C_Empty) (.type "OverflowError") = some false
  o_Busy_BadNumber : PySem.W.kitOne K (.ref C_Busy) (.ref C_BadNumber) = some false
  o_Busy_BadHistory : PySem.W.kitOne K (.ref C_Busy) (.ref C_BadHistory) = some false
  o_Busy_NoMember : PySem.W.kitOne K (.ref C_Busy) (.ref C_NoMember) = some false
  o_Busy_Empty : PySem.W.kitOne K (.ref C_Busy) (.ref C_Empty) = some false
  o_Busy_Busy : PySem.W.kitOne K (.ref C_Busy) (.ref C_Busy) = some true
  o_Busy_Torn : PySem.W.kitOne K (.ref C_Busy) (.ref C_Torn) = some false
  o_Busy_NotTorn : PySem.W.kitOne K (.ref C_Busy) (.ref C_NotTorn) = some false
  o_Busy_OnceError : PySem.W.kitOne K (.ref C_Busy) (.ref C_OnceError) = some false
  p_Busy_ValueError : PySem.W.kitOne K (.ref C_Busy) (.type "ValueError") = some false
  p_Busy_LookupError : PySem.W.kitOne K (.ref C_Busy) (.type "LookupError") = some false
  p_Busy_IndexError : PySem.W.kitOne K (.ref C_Busy) (.type "IndexError") = some false
  p_Busy_RuntimeError : PySem.W.kitOne K (.ref C_Busy) (.type "RuntimeError") = some true
  p_Busy_KeyError : PySem.W.kitOne K (.ref C_Busy) (.type "KeyError") = some false
  p_Busy_OverflowError : PySem.W.kitOne K (.ref C_Busy) (.type "OverflowError") = some false
  o_Torn_BadNumber : PySem.W.kitOne K (.ref C_Torn) (.ref C_BadNumber) = some false
  o_Torn_BadHistory : PySem.W.kitOne K (.ref C_Torn) (.ref C_BadHistory) = some false
  o_Torn_NoMember : PySem.W.kitOne K (.ref C_Torn) (.ref C_NoMember) = some false
  o_Torn_Empty : PySem.W.kitOne K (.ref C_Torn) (.ref C_Empty) = some false
  o_Torn_Busy : PySem.W.kitOne K (.ref C_Torn) (.ref C_Busy) = some false
  o_Torn_Torn : PySem.W.kitOne K (.ref C_Torn) (.ref C_Torn) = some true
  o_Torn_NotTorn : PySem.W.kitOne K (.ref C_Torn) (.ref C_NotTorn) = some false
  o_Torn_OnceError : PySem.W.kitOne K (.ref C_Torn) (.ref C_OnceError) = some false
  p_Torn_ValueError : PySem.W.kitOne K (.ref C_Torn) (.type "ValueError") = some false
  p_Torn_LookupError : PySem.W.kitOne K (.ref C_Torn) (.type "LookupError") = some false
  p_Torn_IndexError : PySem.W.kitOne K (.ref C_Torn) (.type "IndexError") = some false
  p_Torn_RuntimeError : PySem.W.kitOne K (.ref C_Torn) (.type "RuntimeError") = some true
  p_Torn_KeyError : PySem.W.kitOne K (.ref C_Torn) (.type "KeyError") = some false
  p_Torn_OverflowError : PySem.W.kitOne K (.ref C_Torn) (.type "OverflowError") = some false
  o_NotTorn_BadNumber : PySem.W.kitOne K (.ref C_NotTorn) (.ref C_BadNumber) = some false
  o_NotTorn_BadHistory : PySem.W.kitOne K (.ref C_NotTorn) (.ref C_BadHistory) = some false
  o_NotTorn_NoMember : PySem.W.kitOne K (.ref C_NotTorn) (.ref C_NoMember) = some false
  o_NotTorn_Empty : PySem.W.kitOne K (.ref C_NotTorn) (.ref C_Empty) = some false
  o_NotTorn_Busy : PySem.W.kitOne K (.ref C_NotTorn) (.ref C_Busy) = some false
  o_NotTorn_Torn : PySem.W.kitOne K (.ref C_NotTorn) (.ref C_Torn) = some false
  o_NotTorn_NotTorn : PySem.W.kitOne K (.ref C_NotTorn) (.ref C_NotTorn) = some true
  o_NotTorn_OnceError : PySem.W.kitOne K (.ref C_NotTorn) (.ref C_OnceError) = some false
  p_NotTorn_ValueError : PySem.W.kitOne K (.ref C_NotTorn) (.type "ValueError") = some false
  p_NotTorn_LookupError : PySem.W.kitOne K (.ref C_NotTorn) (.type "LookupError") = some false
  p_NotTorn_IndexError : PySem.W.kitOne K (.ref C_NotTorn) (.type "IndexError") = some false
  p_NotTorn_RuntimeError : PySem.W.kitOne K (.ref C_NotTorn) (.type "RuntimeError") = some true
  p_NotTorn_KeyError : PySem.W.kitOne K (.ref C_NotTorn) (.type "KeyError") = some false
  p_NotTorn_OverflowError : PySem.W.kitOne K (.ref C_NotTorn) (.type "OverflowError") = some false
  p_OnceError_ValueError : PySem.W.kitOne K (.ref C_OnceError) (.type "ValueError") = some true
  ox_BadHistory : Exv.OexB K C_BadHistory [.type "ValueError", .type "Exception", .type "BaseException", .type "object"] "ValueError.__new__"
  tk_BadHistory : PySem.W.takerIn K C_BadHistory "index" = some none
  no_BadHistory : PySem.W.findIn K (.ref C_BadHistory) "index" = some none
  xf_BadHistory : XfC K C_BadHistory
  ox_NoMember : Exv.OexB K C_NoMember [.type "LookupError", .type "Exception", .type "BaseException", .type "object"] "LookupError.__new__"
  tk_NoMember : PySem.W.takerIn K C_NoMember "number" = some none
  no_NoMember : PySem.W.findIn K (.ref C_NoMember) "number" = some none
  xf_NoMember : XfC K C_NoMember
  sg : PySem.W.specialIn K (.ref C_OnceError) "__getattribute__" = some (some (.builtin "type.__getattribute__"))
  rd : PySem.W.readsIn K C_OnceError (.type "type") = true
  fc : PySem.W.findCls K (.ref C_OnceError) (.type "type") "__init__" = some (.val (.builtin "ValueError.__init__"))
  fl : PySem.W.findCls K (.type "LookupError") (.type "type") "__init__" = some (.val (.builtin "LookupError.__init__"))

theorem log_lo {n : Nat} (h : n ≠ 0) : 2 ^ n.log2 ≤ n := Nat.log2_self_le h
theorem log_hi {n : Nat} : n < 2 ^ (n.log2 + 1) := Nat.lt_log2_self
theorem log_lt {n f : Nat} (h : n ≠ 0) (hf : n < 2 ^ f) : n.log2 < f := (Nat.log2_lt h).mpr hf
theorem rest_lt {n : Nat} (h : n ≠ 0) : n - 2 ^ n.log2 < 2 ^ n.log2 := by
  have a := log_hi (n := n)
  have b := log_lo h
  rw [Nat.pow_succ] at a
  omega
theorem rest_lt' {n f : Nat} (h : n ≠ 0) (hf : n < 2 ^ (f + 1)) : n - 2 ^ n.log2 < 2 ^ f := by
  have a := rest_lt h
  have b := log_lt h hf
  have c : 2 ^ n.log2 ≤ 2 ^ f := Nat.pow_le_pow_right (by decide) (by omega)
  omega
/-- the lowest power -/
def low (n : Nat) : Nat := if h : n = 0 then 1 else if n % 2 = 0 then 2 * low (n / 2) else 1
termination_by n
decreasing_by omega
theorem low_even {n : Nat} (h : n ≠ 0) (e : n % 2 = 0) : low n = 2 * low (n / 2) := by
  rw [low, dif_neg h, if_pos e]
theorem low_odd {n : Nat} (e : n % 2 = 1) : low n = 1 := by
  rw [low, dif_neg (by omega), if_neg (by omega)]
theorem low_is : ∀ (j n : Nat), n ≠ 0 → n % 2 ^ j = 0 → ¬ n % 2 ^ (j + 1) = 0 → low n = 2 ^ j
  | 0, n, h, _, e => by
    rw [Nat.zero_add, Nat.pow_one] at e
    exact low_odd (by omega)
  | j + 1, n, h, a, b => by
    have e2 : n % 2 = 0 := by
      rw [Nat.pow_succ] at a
      have := Nat.mod_mod_of_dvd n (show 2 ∣ 2 ^ j * 2 from ⟨2 ^ j, Nat.mul_comm _ _⟩)
      rw [a] at this
      omega
    obtain ⟨m, rfl⟩ : ∃ m, n = 2 * m := ⟨n / 2, by omega⟩
    have hm : m ≠ 0 := by omega
    rw [low_even h e2, Nat.mul_div_cancel_left _ (by decide), Nat.pow_succ, Nat.mul_comm]
    have a' : m % 2 ^ j = 0 := by
      rw [Nat.pow_succ, Nat.mul_comm (2 ^ j) 2, Nat.mul_mod_mul_left] at a
      omega
    have b' : ¬ m % 2 ^ (j + 1) = 0 := fun z => by
      rw [Nat.pow_succ, Nat.mul_comm (2 ^ (j + 1)) 2, Nat.mul_mod_mul_left, z] at b
      exact b rfl
    rw [low_is j m hm a' b']
theorem low_pow (j : Nat) : low (2 ^ j) = 2 ^ j := by
  refine low_is j _ (Nat.pos_iff_ne_zero.mp (Nat.two_pow_pos j)) (Nat.mod_self _) fun z => ?_
  rw [Nat.mod_eq_of_lt (Nat.pow_lt_pow_right (by decide) (by omega))] at z
  have := Nat.two_pow_pos j
  omega

theorem ifT {c : Bool} {A B : Prop} (hc : c = true) (h : A) : if c = true then A else B := by
  rw [if_pos hc]
  exact h
theorem ifF {c : Bool} {A B : Prop} (hc : c = false) (h : B) : if c = true then A else B := by
  rw [hc, if_neg Bool.false_ne_true]
  exact h
theorem dF {p : Prop} [Decidable p] (h : ¬ p) : decide p = false := decide_eq_false h
theorem dT {p : Prop} [Decidable p] (h : p) : decide p = true := decide_eq_true h
theorem bits_nat {n : Nat} (h : n ≠ 0) : (Builtin.Int.intBits (n : Int) : Nat) = n.log2 + 1 := by
  unfold Builtin.Int.intBits
  rw [if_neg (show ¬ ((n : Int) == 0) = true by simpa using (show (n : Int) ≠ 0 by omega))]
  rfl
theorem gp_eq {n : Nat} (h : n ≠ 0) : (1 : Int) * 2 ^ (((Builtin.Int.intBits (n : Int) : Nat) : Int) - 1).toNat = ((2 ^ n.log2 : Nat) : Int) := by
  rw [bits_nat h, show (((n.log2 + 1 : Nat) : Int) - 1).toNat = n.log2 by omega, Int.one_mul]
  exact (PySem.W.kbt_cast _).symm
theorem gp_ok {n : Nat} (h : n ≠ 0) (hn : n < 2 ^ 200) : CShl 1 (((Builtin.Int.intBits (n : Int) : Nat) : Int) - 1) := by
  have a := log_lt h hn
  rw [bits_nat h, show (((n.log2 + 1 : Nat) : Int) - 1) = (n.log2 : Int) by omega]
  exact shl_ok (n := 1) (by decide) (by omega)
theorem nat_cast_lt {a : Nat} {n : Nat} (h : n < 2 ^ a) : (n : Int).natAbs < 2 ^ a := h
theorem pow_nat (k : Nat) : (2 : Int) ^ k = ((2 ^ k : Nat) : Int) := (PySem.W.kbt_cast k).symm
theorem p10 : (10 : Int) ^ Int.toNat 30 = ((10 ^ 30 : Nat) : Int) := by decide +kernel
theorem le6 : 6 ≤ sizeLine := by decide
theorem p100 : (10 ^ 30 : Nat) < 2 ^ 100 := by decide +kernel
def intAt (σ : L2.St) (i : Nat) : Nat := match σ[i]? with
  | some (some (V.int r)) => r.toNat
  | _ => 0
theorem le2 : 2 ≤ sizeLine := by decide
theorem cdiv_nat (a b : Nat) : ((a : Int) / (b : Int)) = ((a / b : Nat) : Int) := rfl

/-! ### heaps -/
theorem same_put {H H1 : Hp} {p : Addr} {o : HO} (h : Same H H1) (n : H p = none) : Same H (upd H1 p o) := fun b u e => by
  rw [upd_ne (ne_of_none e n)]
  exact h b u e
theorem same_new {H : Hp} {p : Addr} {o : HO} (n : H p = none) : Same H (upd H p o) := same_put (Same.refl H) n
theorem same_no {H H1 : Hp} {p : Addr} (h : Same H H1) (n : H1 p = none) : H p = none := h.free n
/-- all but p is as it was -/
def But (p : Addr) (H H' : Hp) : Prop := ∀ b o, H b = some o → b ≠ p → H' b = some o
theorem but_refl (p : Addr) (H : Hp) : But p H H := fun _ _ h _ => h
theorem but_trans {p : Addr} {H H1 H2 : Hp} (a : But p H H1) (b : But p H1 H2) : But p H H2 := fun c o h n => b c o (a c o h n) n
theorem but_of_same {p : Addr} {H H1 : Hp} (a : Same H H1) : But p H H1 := fun c o h _ => a c o h
theorem but_upd (p : Addr) (H : Hp) (o : HO) : But p H (upd H p o) := fun b u e n => by
  rw [upd_ne n]
  exact e
theorem but_fresh {p : Addr} {H0 H H1 : Hp} (s : Same H0 H) (n : H0 p = none) (b : But p H H1) : Same H0 H1 := fun c o e => b c o (s c o e) (ne_of_none e n)
/-! ### a bag of digits -/
def Bag (H : Hp) (p : Addr) : Prop := ∃ g m c : Int, H p = some (.lst [.int g, .int m, .int c]) ∧ 0 ≤ g ∧ 0 ≤ m ∧ m < 2147483648
theorem fm0 {a b : Int} (h : 0 < b) : 0 ≤ a.fmod b := by
  rw [Int.fmod_eq_emod_of_nonneg a (by omega)]
  exact Int.emod_nonneg a (by omega)
theorem fm1 {a b : Int} (h : 0 < b) : a.fmod b < b := by
  rw [Int.fmod_eq_emod_of_nonneg a (by omega)]
  exact Int.emod_lt_of_pos a h
theorem nz1 : (2147483647 : Int) ≠ 0 := by decide
theorem nz2 : (2147483629 : Int) ≠ 0 := by decide
section
variable {P : Program} {w : World} {K : PySem.W.Frag} {mg : Str → Option Value} {base : Heap}
def spTake : Sp := fun vs H Q _ => ∃ (p : Addr) (n : Int), vs = [.ref p, .int n] ∧ Bag H p ∧ 0 < n ∧ n.natAbs < 2 ^ 200 ∧
  ∀ r H', 0 ≤ r → r < n → Bag H' p → But p H H' → Q (.int r) H'
theorem ok_take (T : Txt K mg) : FnOk P w K mg base CX0 1 T.f_l_take T.d_l_take ["_law_bag_here", "_law_many"] spTake := by
  refine T.F_l_take.ok sc_l_take (fun vs H Q E h => ?_) (fun cdv A outer s H vs Q E hr h => ?_)
  · obtain ⟨p, n, rfl, _⟩ := h
    rfl
  · obtain ⟨p, n, rfl, ⟨g, m, c, hb, g0, m0, m1⟩, n0, n1, q⟩ := h
    refine ⟨_, (pss_cons (ps_if (pt_cmpR op_gt (pe_ix (r := rIxL K) ix_list (pv 0) pe_int (fun _ _ => rfl)) pe_int (nomark _)) (pss_cons (ps_set (i := 2) sc_l_take.nd rfl (.inl rfl) (pe_op op_modN (pe_ix (r := rIxL K) ix_list (pv 0) pe_int (fun _ _ => rfl)) (pv 1)))
        (pss_cons (ps_asg (pe_op op_fdivW (pe_ix (r := rIxL K) ix_list (pv 0) pe_int (fun _ _ => rfl)) (pv 1)) (pg_sub (pv 0) pe_int set_list))
        (pss_one (ps_ret (pv 2))))) pss_nil)
      (pss_cons (ps_asg (pe_op op_add (pe_ix (r := rIxL K) ix_list (pv 0) pe_int (fun _ _ => rfl)) pe_int) (pg_sub (pv 0) pe_int set_list))
      (pss_cons (ps_asg (pe_op op_modN (pe_op op_add (pe_op op_add (pe_op op_mul (pe_ix (r := rIxL K) ix_list (pv 0) pe_int (fun _ _ => rfl)) pe_int) (pe_op op_mul pe_int (pe_ix (r := rIxL K) ix_list (pv 0) pe_int (fun _ _ => rfl)))) pe_int) pe_int) (pg_sub (pv 0) pe_int set_list))
      (pss_one (ps_ret (pe_op op_modN (pe_op op_modN (pe_op op_pow (pe_op op_fdivW (pe_ix (r := rIxL K) ix_list (pv 0) pe_int (fun _ _ => rfl)) pe_int) pe_int) pe_int) (pv 1))))))), ?_⟩
    have hB : SqL K H p [.int g, .int m, .int c] := .inl (.inl hb)
    refine ⟨_, rfl, p, _, 0, .int g, rfl, rfl, hB, atI_nat (j := 0) rfl, _, _, rfl, rfl, _, rfl, ite2 (fun e => ?_) (fun e => ?_)⟩
    · refine ⟨_, rfl, p, _, 0, .int g, rfl, rfl, hB, atI_nat (j := 0) rfl, _, rfl, _, _, rfl, rfl, (by omega), ?_⟩
      refine ⟨_, rfl, p, _, 0, .int g, rfl, rfl, hB, atI_nat (j := 0) rfl, _, rfl, _, _, rfl, rfl, wide_div n0 n1 (by decide) (by decide), ?_⟩
      refine ⟨_, rfl, p, _, _, 0, rfl, rfl, hb, rfl, ?_⟩
      refine ⟨_, rfl, ?_⟩
      exact q _ _ (fm0 n0) (fm1 n0) ⟨g / n, m, c, upd_same, Int.ediv_nonneg g0 (by omega), m0, m1⟩ (but_upd _ _ _)
    · refine ⟨_, rfl, p, _, 2, .int c, rfl, rfl, hB, atI_nat (j := 2) rfl, _, _, rfl, rfl, ?_⟩
      refine ⟨_, rfl, p, _, _, 2, rfl, rfl, hb, rfl, ?_⟩
      have h2 : upd H p (.lst [.int g, .int m, .int (c + 1)]) p = some (.lst [.int g, .int m, .int (c + 1)]) := upd_same
      have hB2 : SqL K (upd H p (.lst [.int g, .int m, .int (c + 1)])) p [.int g, .int m, .int (c + 1)] := .inl (.inl h2)
      refine ⟨_, rfl, p, _, 1, .int m, rfl, rfl, hB2, atI_nat (j := 1) rfl, _, _, rfl, rfl, .inr ⟨by decide, by decide⟩, _, rfl, p, _, 2, .int (c + 1), rfl, rfl, hB2, atI_nat (j := 2) rfl, _, _, rfl, rfl, .inl ⟨by decide, by decide⟩, _, _, rfl, rfl, _, _, rfl, rfl, _, _, rfl, rfl, nz1, ?_⟩
      refine ⟨_, rfl, p, _, _, 1, rfl, rfl, h2, rfl, ?_⟩
      have m0' := fm0 (a := m * 69621 + 6007 * (c + 1) + 19) (show (0 : Int) < 2147483647 by decide)
      have m1' := fm1 (a := m * 69621 + 6007 * (c + 1) + 19) (show (0 : Int) < 2147483647 by decide)
      refine ⟨_, rfl, p, _, 1, _, rfl, rfl, .inl (.inl upd_same), atI_nat (j := 1) rfl, _, _, rfl, rfl, ⟨by decide, by decide⟩, _, _, rfl, rfl, ⟨by decide, by decide, ?_⟩, _, _, rfl, rfl, nz2, _, rfl, _, _, rfl, rfl, (by omega), ?_⟩
      · omega
      exact q _ _ (fm0 n0) (fm1 n0) ⟨g, _, c + 1, upd_same, g0, m0', by omega⟩ (but_trans (but_upd _ _ _) (but_upd _ _ _))
theorem le3 : 3 ≤ sizeLine := by decide
theorem nz3 : (8 : Int) ≠ 0 := by decide
theorem primes_at (k : Nat) : ∃ v : Int, 0 < v ∧ v < 2147483648 ∧ atI [V.int 2147483629, V.int 2147483587, V.int 2147483579, V.int 2147483563, V.int 2147483549, V.int 2147483543, V.int 2147483497, V.int 2147483489] ((k : Int).fmod 8) = some (.int v) := by
  have e : (k : Int).fmod 8 = ((k % 8 : Nat) : Int) := by
    rw [Int.fmod_eq_emod_of_nonneg _ (by decide)]
    rfl
  have h : k % 8 < 8 := Nat.mod_lt _ (by decide)
  rw [e]
  generalize k % 8 = j at h
  match j, h with
  | 0, _ => exact ⟨_, by decide, by decide, atI_nat (j := 0) rfl⟩
  | 1, _ => exact ⟨_, by decide, by decide, atI_nat (j := 1) rfl⟩
  | 2, _ => exact ⟨_, by decide, by decide, atI_nat (j := 2) rfl⟩
  | 3, _ => exact ⟨_, by decide, by decide, atI_nat (j := 3) rfl⟩
  | 4, _ => exact ⟨_, by decide, by decide, atI_nat (j := 4) rfl⟩
  | 5, _ => exact ⟨_, by decide, by decide, atI_nat (j := 5) rfl⟩
  | 6, _ => exact ⟨_, by decide, by decide, atI_nat (j := 6) rfl⟩
  | 7, _ => exact ⟨_, by decide, by decide, atI_nat (j := 7) rfl⟩
  | n + 8, h => exact absurd h (by omega)
def spBag (K : PySem.W.Frag) : Sp := fun vs H Q _ => ∃ (a : Addr) (ns : List Int) (k : Nat), vs = [.ref a, .int (k : Int)] ∧ SqL K H a (ns.map V.int) ∧ k ≤ 1000 ∧
  ∀ p H', H p = none → Same H H' → Bag H' p → Q (.ref p) H'
theorem ok_bag (T : Txt K mg) : FnOk P w K mg base CX0 1 T.f_l_bag T.d_l_bag ["_law_script", "_law_at"] (spBag K) := by
  refine T.F_l_bag.ok sc_l_bag (fun vs H Q E h => ?_) (fun cdv A outer s H vs Q E hr h => ?_)
  · obtain ⟨a, ns, k, rfl, _⟩ := h
    rfl
  · obtain ⟨a, ns, k, rfl, hS, hk, q⟩ := h
    refine ⟨_, (pss_cons (ps_set (i := 2) sc_l_bag.nd rfl (.inl rfl) pe_int)
      (C8.pss_cut (ps_if (pt_cmpR op_lt (pv 1) (pe_callB call_len_seq (by rfl) T.z_len (by decide +kernel) (pa_cons (pv 0) pa_nil)) (nomark _)) (pss_one (ps_set (i := 2) sc_l_bag.nd rfl (.inl rfl) (pe_ix (r := rIxL K) ix_list (pv 0) (pv 1) (fun _ _ => rfl)))) pss_nil)
      (pss_cons (ps_set (i := 3) sc_l_bag.nd rfl (.inl rfl) pe_int)
      (C8.pss_cut (ps_if (pt_cmpR op_ge (pe_callB call_abs (by rfl) T.z_abs (by decide +kernel) (pa_cons (pv 2) pa_nil)) (pe_op op_pow pe_int pe_int) (nomark _)) (pss_one (ps_set (i := 3) sc_l_bag.nd rfl (.inl rfl) (pe_callB call_abs (by rfl) T.z_abs (by decide +kernel) (pa_cons (pv 2) pa_nil)))) pss_nil)
      (pss_cons (ps_set (i := 4) sc_l_bag.nd rfl (.inl rfl) (pe_lst (pa_cons pe_int (pa_cons pe_int (pa_cons pe_int (pa_cons pe_int (pa_cons pe_int (pa_cons pe_int (pa_cons pe_int (pa_cons pe_int pa_nil))))))))))
      (pss_one (ps_ret (pe_lst (pa_cons (pv 3) (pa_cons (pe_op op_modN (pe_op op_pow (pe_op op_add (pe_op op_add (pe_op op_modN (pv 2) pe_int) (pe_op op_mul pe_int (pv 1))) pe_int) pe_int) (pe_ix (r := rIxL K) ix_list (pv 4) (pe_op op_modN (pv 1) pe_int) (fun _ _ => rfl))) (pa_cons pe_int pa_nil))))))))))), ?_⟩
    refine ⟨fun σ' H' => H' = H ∧ ∃ c : Int, σ' = [some (.ref a), some (.int (k : Int)), some (.int c), none, none], ?_, fun σ' H' hM => ?_⟩
    · refine ⟨_, rfl, _, rfl, a, _, rfl, .inl hS, _, _, rfl, rfl, _, rfl, ite2 (fun e => ?_) (fun e => ?_)⟩
      · have e2 := of_decide_eq_true e
        have e3 : k < ns.length := by
          rw [List.length_map] at e2
          omega
        have e4 : (ns.map V.int)[k]? = some (.int ns[k]) := by
          rw [List.getElem?_map, List.getElem?_eq_getElem e3]
          rfl
        exact ⟨_, rfl, _, rfl, a, _, _, _, rfl, rfl, hS, atI_nat e4, rfl, _, rfl⟩
      · exact ⟨rfl, _, rfl⟩
    · obtain ⟨rfl, c, rfl⟩ := hM
      refine ⟨fun σ'' H'' => H'' = H' ∧ ∃ g : Int, σ'' = [some (.ref a), some (.int (k : Int)), some (.int c), some (.int g), none] ∧ 0 ≤ g, ?_, fun σ'' H'' hM => ?_⟩
      · refine ⟨_, rfl, _, rfl, _, _, rfl, rfl, ⟨by decide, by decide, by decide⟩, _, _, rfl, rfl, _, rfl, ite2 (fun e => ?_) (fun e => ?_)⟩
        · refine ⟨_, rfl, _, rfl, rfl, _, rfl, ?_⟩
          split <;> omega
        · exact ⟨rfl, _, rfl, by decide⟩
      · obtain ⟨rfl, g, rfl, g0⟩ := hM
        refine ⟨by decide, fun o no => ?_⟩
        obtain ⟨v, v0, v1, hv⟩ := primes_at k
        have h0 := fm0 (a := c) (show (0 : Int) < 2147483647 by decide)
        have h1 := fm1 (a := c) (show (0 : Int) < 2147483647 by decide)
        refine ⟨_, rfl, _, rfl, _, _, rfl, rfl, nz1, _, rfl, _, _, rfl, rfl, .inl ⟨by decide, by decide⟩, _, _, rfl, rfl, _, _, rfl, rfl, _, _, rfl, rfl, ⟨by decide, by decide, by omega⟩, _, rfl, _, rfl, _, _, rfl, rfl, nz3, o, _, _, _, rfl, rfl, .inl (.inl upd_same), hv, _, _, rfl, rfl, by omega, ?_⟩
        refine ⟨le3, fun p np => ?_⟩
        have np' : H'' p = none := (same_new no).free np
        exact q _ _ np' (same_put (same_new no) np') ⟨g, _, 0, upd_same, g0, fm0 v0, by have := fm1 (a := (c.fmod 2147483647 + 104711 * (k : Int) + 23) ^ Int.toNat 5) v0; omega⟩
end
theorem but_put {p q : Addr} {H H1 : Hp} {o : HO} (b : But p H H1) (n : H1 q = none) : But p H (upd H1 q o) := fun c u e nc => by
  have e1 := b c u e nc
  rw [upd_ne (ne_of_none e1 n)]
  exact e1
theorem bag_put {p q : Addr} {H : Hp} {o : HO} (b : Bag H p) (n : H q = none) : Bag (upd H q o) p := by
  obtain ⟨g, m, c, e, r⟩ := b
  exact ⟨g, m, c, by rw [upd_ne (ne_of_none e n)]; exact e, r⟩
theorem bag_same {p : Addr} {H H1 : Hp} (b : Bag H p) (s : Same H H1) : Bag H1 p := by
  obtain ⟨g, m, c, e, r⟩ := b
  exact ⟨g, m, c, s _ _ e, r⟩
theorem bag_ne {p q : Addr} {H : Hp} (b : Bag H p) (n : H q = none) : q ≠ p := by
  obtain ⟨g, m, c, e, r⟩ := b
  exact (ne_of_none e n).symm

end Ob

set_option Elab.async false
set_option linter.all false
set_option maxRecDepth 100000
set_option maxHeartbeats 1000000
namespace Ob
open PySem PySem.Spec PyProof.Rows L2

theorem u16 {k : Nat} {A : Around} (r : Room k A) : A.units + 64 + 16 < cLine := by
  have := r.un
  omega
theorem eat_same {H H' : Hp} {a C : Addr} {fs : List (Str × V)} (e : Exv.EAt H a C fs) (s : Same H H') : Exv.EAt H' a C fs := by
  rcases e with ⟨e0, e⟩ | ⟨dx, e1, e2⟩
  · exact .inl ⟨e0, s _ _ e⟩
  · exact .inr ⟨dx, s _ _ e1, s _ _ e2⟩
def spInit (C : Addr) (f : Str) : Sp := fun vs H Q _ => ∃ (a : Addr) (v : V), vs = [.ref a, v] ∧ H a = some (exo a C none) ∧ ∀ H', Exv.Fst H H' a C f v → Q .non H'
section
variable {P : Program} {w : World} {K : PySem.W.Frag} {mg : Str → Option Value} {base : Heap}
theorem ok_bh (T : Txt K mg) : FnOk P w K mg base CX0 1 T.f_BadHistory_init T.d_BadHistory_init ["self", "index"] (spInit T.C_BadHistory "index") := by
  refine T.F_BadHistory_init.ok sc_BadHistory_init (fun vs H Q E h => ?_) (fun cdv A outer s H vs Q E hr h => ?_)
  · obtain ⟨a, v, rfl, _⟩ := h
    rfl
  · obtain ⟨a, v, rfl, ha, q⟩ := h
    refine ⟨_, (pss_cons (ps_expr (Exv.pe_binit PySem.F.excBase_ValueError rfl T.gc_OnceError T.kp_OnceError T.sg T.rd rfl T.fc (pa_cons (pv 0) (pa_cons pe_str pa_nil))))
      (pss_one (Exv.ps_fst (newId := "ValueError.__new__") PySem.F.store_ValueError (pv 0) (pv 1)))), ?_⟩
    exact ⟨_, rfl, a, _, _, rfl, by show 1 ≤ 1000; decide, T.ox_BadHistory, ha, _, rfl, _, rfl, a, _, rfl, T.ox_BadHistory, T.tk_BadHistory, ha, q⟩
theorem ok_nm (T : Txt K mg) : FnOk P w K mg base CX0 1 T.f_NoMember_init T.d_NoMember_init ["self", "number"] (spInit T.C_NoMember "number") := by
  refine T.F_NoMember_init.ok sc_NoMember_init (fun vs H Q E h => ?_) (fun cdv A outer s H vs Q E hr h => ?_)
  · obtain ⟨a, v, rfl, _⟩ := h
    rfl
  · obtain ⟨a, v, rfl, ha, q⟩ := h
    refine ⟨_, (pss_cons (ps_expr (Exv.pe_binitB (T := "LookupError") PySem.F.excBase_LookupError rfl T.z_LookupError (by rfl) (by kernel_rfl) (by decide +kernel) rfl T.fl (pa_cons (pv 0) (pa_cons pe_str pa_nil)) (by decide) (by decide)))
      (pss_one (Exv.ps_fst (newId := "LookupError.__new__") PySem.F.store_LookupError (pv 0) (pv 1)))), ?_⟩
    exact ⟨_, rfl, a, _, _, rfl, by show 1 ≤ 1000; decide, T.ox_NoMember, ha, _, rfl, _, rfl, a, _, rfl, T.ox_NoMember, T.tk_NoMember, ha, q⟩
def spMarks (T : Txt K mg) : Sp := fun vs H Q _ => ∃ (a D : Addr) (fs : List (Str × V)) (m0 m1 m2 m3 m4 m5 m6 m7 : Bool), vs = [.ref a] ∧ Exv.EAt H a D fs ∧ Exv.IsC K D ∧ PySem.W.kitOne K (.ref D) (.ref T.C_BadNumber) = some m0 ∧ PySem.W.kitOne K (.ref D) (.ref T.C_BadHistory) = some m1 ∧ PySem.W.kitOne K (.ref D) (.ref T.C_NoMember) = some m2 ∧ PySem.W.kitOne K (.ref D) (.ref T.C_Empty) = some m3 ∧ PySem.W.kitOne K (.ref D) (.ref T.C_Busy) = some m4 ∧ PySem.W.kitOne K (.ref D) (.ref T.C_Torn) = some m5 ∧ PySem.W.kitOne K (.ref D) (.ref T.C_NotTorn) = some m6 ∧ PySem.W.kitOne K (.ref D) (.ref T.C_OnceError) = some m7 ∧ ∀ o H', Same H H' → H o = none → H' o = some (.lst [.bl m0, .bl m1, .bl m2, .bl m3, .bl m4, .bl m5, .bl m6, .bl m7]) → Q (.ref o) H'
theorem ok_marks (T : Txt K mg) : FnOk P w K mg base CX0 1 T.f_l_marks T.d_l_marks ["_law_error"] (spMarks T) := by
  refine T.F_l_marks.ok sc_l_marks (fun vs H Q E h => ?_) (fun cdv A outer s H vs Q E hr h => ?_)
  · obtain ⟨a, D, fs, _, _, _, _, _, _, _, _, rfl, _⟩ := h
    rfl
  · obtain ⟨a, D, fs, m0, m1, m2, m3, m4, m5, m6, m7, rfl, ea, hD, k0, k1, k2, k3, k4, k5, k6, k7, q⟩ := h
    refine ⟨_, (pss_cons (ps_set (i := 1) sc_l_marks.nd rfl (.inl rfl) (pe_lst (pa_cons (pe_callB Exv.call_isX (by rfl) T.z_isinstance (by decide +kernel) (pa_cons (pv 0) (pa_cons (pe_glob (v := .ref T.C_BadNumber) rfl T.gc_BadNumber rfl) pa_nil))) (pa_cons (pe_callB Exv.call_isX (by rfl) T.z_isinstance (by decide +kernel) (pa_cons (pv 0) (pa_cons (pe_glob (v := .ref T.C_BadHistory) rfl T.gc_BadHistory rfl) pa_nil))) (pa_cons (pe_callB Exv.call_isX (by rfl) T.z_isinstance (by decide +kernel) (pa_cons (pv 0) (pa_cons (pe_glob (v := .ref T.C_NoMember) rfl T.gc_NoMember rfl) pa_nil))) pa_nil)))))
      (pss_cons (ps_set (i := 1) sc_l_marks.nd rfl (.inl rfl) (pe_op op_cat (pv 1) (pe_lst (pa_cons (pe_callB Exv.call_isX (by rfl) T.z_isinstance (by decide +kernel) (pa_cons (pv 0) (pa_cons (pe_glob (v := .ref T.C_Empty) rfl T.gc_Empty rfl) pa_nil))) (pa_cons (pe_callB Exv.call_isX (by rfl) T.z_isinstance (by decide +kernel) (pa_cons (pv 0) (pa_cons (pe_glob (v := .ref T.C_Busy) rfl T.gc_Busy rfl) pa_nil))) (pa_cons (pe_callB Exv.call_isX (by rfl) T.z_isinstance (by decide +kernel) (pa_cons (pv 0) (pa_cons (pe_glob (v := .ref T.C_Torn) rfl T.gc_Torn rfl) pa_nil))) pa_nil))))))
      (pss_one (ps_ret (pe_op op_cat (pv 1) (pe_lst (pa_cons (pe_callB Exv.call_isX (by rfl) T.z_isinstance (by decide +kernel) (pa_cons (pv 0) (pa_cons (pe_glob (v := .ref T.C_NotTorn) rfl T.gc_NotTorn rfl) pa_nil))) (pa_cons (pe_callB Exv.call_isX (by rfl) T.z_isinstance (by decide +kernel) (pa_cons (pv 0) (pa_cons (pe_glob (v := .ref T.C_OnceError) rfl T.gc_OnceError rfl) pa_nil))) pa_nil)))))))), ?_⟩
    refine ⟨_, rfl, a, D, fs, _, _, _, rfl, ea, hD, fun u r => r, k0, ?_⟩
    refine ⟨_, rfl, a, D, fs, _, _, _, rfl, ea, hD, fun u r => r, k1, ?_⟩
    refine ⟨_, rfl, a, D, fs, _, _, _, rfl, ea, hD, fun u r => r, k2, ?_⟩
    refine ⟨le3, fun o1 n1 => ?_⟩
    have e1 := eat_same ea (same_new (o := .lst [.bl m0, .bl m1, .bl m2]) n1)
    refine ⟨_, rfl, ?_⟩
    refine ⟨_, rfl, a, D, fs, _, _, _, rfl, e1, hD, fun u r => r, k3, ?_⟩
    refine ⟨_, rfl, a, D, fs, _, _, _, rfl, e1, hD, fun u r => r, k4, ?_⟩
    refine ⟨_, rfl, a, D, fs, _, _, _, rfl, e1, hD, fun u r => r, k5, ?_⟩
    refine ⟨le3, fun o2 n2 => ?_⟩
    refine ⟨o1, o2, _, _, rfl, rfl, (upd_ne (ne_of_none upd_same n2)).trans upd_same, upd_same, (by show 6 ≤ sizeLine; rw [sizeLine_eq]; decide), fun o6 n6 => ?_⟩
    have s6 : Same H (upd (upd (upd H o1 (.lst [.bl m0, .bl m1, .bl m2])) o2 (.lst [.bl m3, .bl m4, .bl m5])) o6 (.lst [.bl m0, .bl m1, .bl m2, .bl m3, .bl m4, .bl m5])) := (same_new n1).trans ((same_new n2).trans (same_new n6))
    have e6 := eat_same ea s6
    refine ⟨_, rfl, ?_⟩
    refine ⟨_, rfl, a, D, fs, _, _, _, rfl, e6, hD, fun u r => r, k6, ?_⟩
    refine ⟨_, rfl, a, D, fs, _, _, _, rfl, e6, hD, fun u r => r, k7, ?_⟩
    refine ⟨(by show 2 ≤ sizeLine; rw [sizeLine_eq]; decide), fun o3 n3 => ?_⟩
    refine ⟨o6, o3, _, _, rfl, rfl, (upd_ne (ne_of_none upd_same n3)).trans upd_same, upd_same, (by show 8 ≤ sizeLine; rw [sizeLine_eq]; decide), fun o8 n8 => ?_⟩
    exact q o8 _ (s6.trans ((same_new n3).trans (same_new n8))) (s6.free ((same_new n3).free n8)) upd_same
def spPy : Sp := fun vs H Q _ => ∃ (a D : Addr) (fs : List (Str × V)) (m0 m1 m2 m3 m4 m5 : Bool), vs = [.ref a] ∧ Exv.EAt H a D fs ∧ Exv.IsC K D ∧ PySem.W.kitOne K (.ref D) (.type "ValueError") = some m0 ∧ PySem.W.kitOne K (.ref D) (.type "LookupError") = some m1 ∧ PySem.W.kitOne K (.ref D) (.type "IndexError") = some m2 ∧ PySem.W.kitOne K (.ref D) (.type "RuntimeError") = some m3 ∧ PySem.W.kitOne K (.ref D) (.type "KeyError") = some m4 ∧ PySem.W.kitOne K (.ref D) (.type "OverflowError") = some m5 ∧ ∀ o H', Same H H' → H o = none → H' o = some (.lst [.bl m0, .bl m1, .bl m2, .bl m3, .bl m4, .bl m5]) → Q (.ref o) H'
theorem ok_py (T : Txt K mg) : FnOk P w K mg base CX0 1 T.f_l_python T.d_l_python ["_law_error"] (spPy (K := K)) := by
  refine T.F_l_python.ok sc_l_python (fun vs H Q E h => ?_) (fun cdv A outer s H vs Q E hr h => ?_)
  · obtain ⟨a, D, fs, _, _, _, _, _, _, rfl, _⟩ := h
    rfl
  · obtain ⟨a, D, fs, m0, m1, m2, m3, m4, m5, rfl, ea, hD, k0, k1, k2, k3, k4, k5, q⟩ := h
    refine ⟨_, (pss_cons (ps_set (i := 1) sc_l_python.nd rfl (.inl rfl) (pe_lst (pa_cons (pe_callB Exv.call_isX (by rfl) T.z_isinstance (by decide +kernel) (pa_cons (pv 0) (pa_cons (pe_bltn (v := .ty "ValueError") (by rfl) T.z_ValueError (by decide +kernel) rfl) pa_nil))) (pa_cons (pe_callB Exv.call_isX (by rfl) T.z_isinstance (by decide +kernel) (pa_cons (pv 0) (pa_cons (pe_bltn (v := .ty "LookupError") (by rfl) T.z_LookupError (by decide +kernel) rfl) pa_nil))) (pa_cons (pe_callB Exv.call_isX (by rfl) T.z_isinstance (by decide +kernel) (pa_cons (pv 0) (pa_cons (pe_bltn (v := .ty "IndexError") (by rfl) T.z_IndexError (by decide +kernel) rfl) pa_nil))) pa_nil)))))
      (pss_one (ps_ret (pe_op op_cat (pv 1) (pe_lst (pa_cons (pe_callB Exv.call_isX (by rfl) T.z_isinstance (by decide +kernel) (pa_cons (pv 0) (pa_cons (pe_bltn (v := .ty "RuntimeError") (by rfl) T.z_RuntimeError (by decide +kernel) rfl) pa_nil))) (pa_cons (pe_callB Exv.call_isX (by rfl) T.z_isinstance (by decide +kernel) (pa_cons (pv 0) (pa_cons (pe_bltn (v := .ty "KeyError") (by rfl) T.z_KeyError (by decide +kernel) rfl) pa_nil))) (pa_cons (pe_callB Exv.call_isX (by rfl) T.z_isinstance (by decide +kernel) (pa_cons (pv 0) (pa_cons (pe_bltn (v := .ty "OverflowError") (by rfl) T.z_OverflowError (by decide +kernel) rfl) pa_nil))) pa_nil)))))))), ?_⟩
    refine ⟨_, rfl, a, D, fs, _, _, _, rfl, ea, hD, fun u r => r, k0, ?_⟩
    refine ⟨_, rfl, a, D, fs, _, _, _, rfl, ea, hD, fun u r => r, k1, ?_⟩
    refine ⟨_, rfl, a, D, fs, _, _, _, rfl, ea, hD, fun u r => r, k2, ?_⟩
    refine ⟨le3, fun o1 n1 => ?_⟩
    have e1 := eat_same ea (same_new (o := .lst [.bl m0, .bl m1, .bl m2]) n1)
    refine ⟨_, rfl, ?_⟩
    refine ⟨_, rfl, a, D, fs, _, _, _, rfl, e1, hD, fun u r => r, k3, ?_⟩
    refine ⟨_, rfl, a, D, fs, _, _, _, rfl, e1, hD, fun u r => r, k4, ?_⟩
    refine ⟨_, rfl, a, D, fs, _, _, _, rfl, e1, hD, fun u r => r, k5, ?_⟩
    refine ⟨le3, fun o2 n2 => ?_⟩
    refine ⟨o1, o2, _, _, rfl, rfl, (upd_ne (ne_of_none upd_same n2)).trans upd_same, upd_same, (by show 6 ≤ sizeLine; rw [sizeLine_eq]; decide), fun o6 n6 => ?_⟩
    exact q o6 _ ((same_new n1).trans ((same_new n2).trans (same_new n6))) ((same_new n1).free ((same_new n2).free n6)) upd_same
end
end Ob

set_option Elab.async false
set_option linter.all false
set_option maxRecDepth 100000
set_option maxHeartbeats 1000000
namespace Ob
open PySem PySem.Spec PyProof.Rows L2

section
variable {P : Program} {w : World} {K : PySem.W.Frag} {mg : Str → Option Value} {base : Heap}
theorem seqT_same {H H' : Hp} {a : Addr} {xs : List V} (s : Same H H') (h : SqT K H a xs) : SqT K H' a xs :=
  h.elim (fun z => .inl (z.elim (fun y => .inl (s _ _ y)) fun ⟨o, y⟩ => .inr ⟨o, s _ _ y⟩)) .inr
mutual
theorem dp_same {H H' : Hp} (s : Same H H') : ∀ (d : PyData) (v : V), Dp K H v d → Dp K H' v d
  | .none, _, h => by
    cases h
    exact .non
  | .bool b, _, h => by
    cases h
    exact .bl b
  | .int i, _, h => by
    cases h
    exact .int i
  | .str x, _, h => by
    cases h
    exact .str x
  | .list ds, _, h => by
    cases h with
    | lst hs ha => exact .lst (s.seq hs) (dpAll_same s ds _ ha)
  | .tuple ds, _, h => by
    cases h with
    | tup hs ha => exact .tup (seqT_same s hs) (dpAll_same s ds _ ha)
  | .dict _, _, h => by cases h
theorem dpAll_same {H H' : Hp} (s : Same H H') : ∀ (ds : List PyData) (vs : List V), DpAll K H vs ds → DpAll K H' vs ds
  | [], _, h => by
    cases h
    exact .nil
  | d :: ds, _, h => by
    cases h with
    | cons h1 h2 => exact .cons (dp_same s d _ h1) (dpAll_same s ds _ h2)
end
def kd : Nat → List V
  | 0 => [.int 0]
  | 1 => [.int 0]
  | 2 => [.int 1]
  | 3 => [.int 1, .int 2]
  | _ => [.int 3]
/-! ### lists of bools as data -/
def bV (l : List Bool) : List V := l.map V.bl
def bD (l : List Bool) : List PyData := l.map PyData.bool
theorem dp_bools {K : PySem.W.Frag} {H : Hp} : ∀ l : List Bool, DpAll K H (bV l) (bD l)
  | [] => .nil
  | x :: l => .cons (.bl x) (dp_bools l)
theorem lay_bools : ∀ l : List Bool, PyData.canLayAll0 (bD l) = true ∧ PyData.depthAll (bD l) ≤ 1
  | [] => ⟨rfl, by decide⟩
  | x :: l => by
    obtain ⟨a, b⟩ := lay_bools l
    refine ⟨?_, ?_⟩
    · show PyData.canLayAll0 (PyData.bool x :: bD l) = true
      simp only [PyData.canLayAll0, PyData.canLay0, a, Bool.and_self]
    · show PyData.depthAll (PyData.bool x :: bD l) ≤ 1
      simp only [PyData.depthAll, PyData.depth]
      omega
theorem sh_bools (l : List Bool) : SeqAt.shaped (.list (bD l)) = true := by
  obtain ⟨a, b⟩ := lay_bools l
  unfold SeqAt.shaped
  rw [Bool.and_eq_true]
  refine ⟨?_, decide_eq_true ?_⟩
  · simp only [PyData.canLay0, a]
  · simp only [PyData.depth]
    omega
/-- what is due at place i -/
def due (i : Nat) : List Bool := [decide (i = 0), decide (i = 1), decide (i = 2), decide (i = 3), decide (i = 4), decide (i = 5), decide (i = 6), decide (i < 2)]
theorem due_is (i : Nat) (h : i < 7) : (List.range 7).map (fun k : Nat => V.bl (decide (V.int (0 + (k : Int)) = V.int (0 + (i : Int))))) ++ [V.bl (decide ((0 : Int) + (i : Int) < 2))] = bV (due i) := by
  match i, h with
  | 0, _ => decide +kernel
  | 1, _ => decide +kernel
  | 2, _ => decide +kernel
  | 3, _ => decide +kernel
  | 4, _ => decide +kernel
  | 5, _ => decide +kernel
  | 6, _ => decide +kernel
  | i + 7, h => exact absurd h (by omega)
def pyd (i : Nat) : List Bool := [inV (.int 0) (kd i), inV (.int 1) (kd i), inV (.int 2) (kd i), inV (.int 3) (kd i), inV (.int 4) (kd i), inV (.int 5) (kd i)]
theorem pyd_is (i : Nat) : (List.range 6).map (fun k : Nat => V.bl (inV (.int (0 + (k : Int))) (kd i))) = bV (pyd i) := rfl
theorem kd_flat (i : Nat) : (kd i).all flatV = true := by
  unfold kd
  split <;> rfl
theorem l8 : 8 ≤ sizeLine := by decide
theorem l7 : 7 ≤ sizeLine := by decide
theorem l2' : 2 ≤ sizeLine := by decide
theorem l1 : 1 ≤ sizeLine := by decide
theorem small7 {k : Nat} (h : k < 7) : k < sizeLine := Nat.lt_of_lt_of_le h l7
/-- the error at place i -/
def Err (T : Txt K mg) (H : Hp) (i : Nat) (v : V) : Prop := ∃ (a D : Addr) (fs : List (Str × V)), v = .ref a ∧ Exv.EAt H a D fs ∧ Exv.IsC K D ∧ PySem.W.kitOne K (.ref D) (.ref T.C_BadNumber) = some (decide (i = 0)) ∧ PySem.W.kitOne K (.ref D) (.ref T.C_BadHistory) = some (decide (i = 1)) ∧ PySem.W.kitOne K (.ref D) (.ref T.C_NoMember) = some (decide (i = 2)) ∧ PySem.W.kitOne K (.ref D) (.ref T.C_Empty) = some (decide (i = 3)) ∧ PySem.W.kitOne K (.ref D) (.ref T.C_Busy) = some (decide (i = 4)) ∧ PySem.W.kitOne K (.ref D) (.ref T.C_Torn) = some (decide (i = 5)) ∧ PySem.W.kitOne K (.ref D) (.ref T.C_NotTorn) = some (decide (i = 6)) ∧ PySem.W.kitOne K (.ref D) (.ref T.C_OnceError) = some (decide (i < 2)) ∧ PySem.W.kitOne K (.ref D) (.type "ValueError") = some (inV (.int 0) (kd i)) ∧ PySem.W.kitOne K (.ref D) (.type "LookupError") = some (inV (.int 1) (kd i)) ∧ PySem.W.kitOne K (.ref D) (.type "IndexError") = some (inV (.int 2) (kd i)) ∧ PySem.W.kitOne K (.ref D) (.type "RuntimeError") = some (inV (.int 3) (kd i)) ∧ PySem.W.kitOne K (.ref D) (.type "KeyError") = some (inV (.int 4) (kd i)) ∧ PySem.W.kitOne K (.ref D) (.type "OverflowError") = some (inV (.int 5) (kd i))
theorem err_same {T : Txt K mg} {H H' : Hp} {i : Nat} {v : V} (e : Err T H i v) (s : Same H H') : Err T H' i v := by
  obtain ⟨a, D, fs, e1, e2, r⟩ := e
  exact ⟨a, D, fs, e1, eat_same e2 s, r⟩
def Shown (d : PyData) (v : V) : Prop := d.showable = true ∧ d.hasDict = false ∧ d.depth ≤ 64 ∧ d.shown.length ≤ sizeLine ∧ ∀ i, v = .int i → i.natAbs.log2 < 1920
def spRight (T : Txt K mg) : Sp := fun vs H Q _ => ∃ (l : Addr) (es : List V) (v : V) (d : PyData) (a1 a2 : Addr), vs = [.ref l, v] ∧ H l = some (.lst es) ∧ Dp K H v d ∧ Shown d v ∧ es.length = 7 ∧ (∀ i, i < 7 → ∃ e, es[i]? = some e ∧ Err T H i e) ∧
  es[1]? = some (.ref a1) ∧ Exv.EAt H a1 T.C_BadHistory [("index", v)] ∧ es[2]? = some (.ref a2) ∧ Exv.EAt H a2 T.C_NoMember [("number", v)] ∧ ∀ H', Same H H' → Q (.bl true) H'
theorem ok_right (T : Txt K mg) : Inf.FnOkG P w K mg base CX0 2 T.f_l_right T.d_l_right ["_law_errors", "_law_thing"] (spRight T) := by
  have G_l_marks := ok_marks (P := P) (w := w) (base := base) T
  have G_l_python := ok_py (P := P) (w := w) (base := base) T
  refine Inf.okG T.F_l_right sc_l_right (fun vs H Q E h => ?_) (fun cdv A outer s H vs Q E hG hr h => ?_)
  · obtain ⟨l, es, v, d, a1, a2, rfl, _⟩ := h
    rfl
  · obtain ⟨l, es, v, d, a1, a2, rfl, el, hd, hs, hl, he, x1, y1, x2, y2, q⟩ := h
    refine ⟨_, (pss_cons (ps_set (i := 2) sc_l_right.nd rfl (.inr rfl) (pe_lst (pa_cons (pe_lst (pa_cons pe_int pa_nil)) (pa_cons (pe_lst (pa_cons pe_int pa_nil)) (pa_cons (pe_lst (pa_cons pe_int pa_nil)) (pa_cons (pe_lst (pa_cons pe_int (pa_cons pe_int pa_nil))) (pa_cons (pe_lst (pa_cons pe_int pa_nil)) (pa_cons (pe_lst (pa_cons pe_int pa_nil)) (pa_cons (pe_lst (pa_cons pe_int pa_nil)) pa_nil)))))))))
      (pss_cons (ps_for PassesOwn.never rfl (pi_range1 (by rfl) T.z_range (pa_cons pe_int pa_nil)) (pg_name (i := 3) sc_l_right.nd rfl (.inr rfl)) (pss_cons (ps_set (i := 4) sc_l_right.nd rfl (.inl rfl) (pe_op op_cat (pe_lc (own := [("_law_k", 5)]) (g := gName 5) (tt := tYes) rfl sc_l_right.nd (pi_range1 (by rfl) T.z_range (pa_cons pe_int pa_nil)) (blkOk_by (N := n_l_right) (sc := defScope s_l_right) (by decide +kernel)) (fun _ _ _ _ _ => (pg_name (i := 5) sc_l_right.nd rfl (.inl rfl))) (fun _ _ _ _ _ => pts_nil) (fun _ _ _ _ _ => (pe_cmpR op_eq (pv 5) (pv 3) (nomark _)))) (pe_lst (pa_cons (pe_cmpR op_lt (pv 3) pe_int (nomark _)) pa_nil))))
        (pss_cons (ps_if (pt_cmpR (op_neD hr.units) (pe_call G_l_marks (hr.mono (by omega)) rfl T.g_l_marks T.F_l_marks.kp T.b_l_marks .nil pass0 (pa_cons (pe_ix (r := rIxL K) ix_list (pv 0) (pv 3) (fun _ _ => rfl)) pa_nil)) (pv 4) (nomark _)) (pss_one (ps_ret pe_bl)) pss_nil)
        (pss_one (ps_if (pt_cmpR (op_neD hr.units) (pe_call G_l_python (hr.mono (by omega)) rfl T.g_l_python T.F_l_python.kp T.b_l_python .nil pass0 (pa_cons (pe_ix (r := rIxL K) ix_list (pv 0) (pv 3) (fun _ _ => rfl)) pa_nil)) (pe_lc (own := [("_law_k", 5)]) (g := gName 5) (tt := tYes) rfl sc_l_right.nd (pi_range1 (by rfl) T.z_range (pa_cons pe_int pa_nil)) (blkOk_by (N := n_l_right) (sc := defScope s_l_right) (by decide +kernel)) (fun _ _ _ _ _ => (pg_name (i := 5) sc_l_right.nd rfl (.inl rfl))) (fun _ _ _ _ _ => pts_nil) (fun _ _ _ _ _ => (pe_cmpR (r := rIn K false) op_in_seq (pv 5) (pe_ix (r := rIxL K) ix_list (pv 2) (pv 3) (fun _ _ => rfl)) (by rfl)))) (nomark _)) (pss_one (ps_ret pe_bl)) pss_nil)))))
      (pss_one (ps_ret (pe_and (pe_cmpR op_eq (pe_callB (Inf.call_reprD hG (u16 hr)) (by rfl) T.z_repr (by decide +kernel) (pa_cons (Exv.pe_xat (pe_ix ix_list (pv 0) pe_int (fun _ _ => rfl))) pa_nil)) (pe_callB (Inf.call_reprD hG (u16 hr)) (by rfl) T.z_repr (by decide +kernel) (pa_cons (pv 1) pa_nil)) (nomark _)) (pe_one (pe_cmpR op_eq (pe_callB (Inf.call_reprD hG (u16 hr)) (by rfl) T.z_repr (by decide +kernel) (pa_cons (Exv.pe_xat (pe_ix ix_list (pv 0) pe_int (fun _ _ => rfl))) pa_nil)) (pe_callB (Inf.call_reprD hG (u16 hr)) (by rfl) T.z_repr (by decide +kernel) (pa_cons (pv 1) pa_nil)) (nomark _)))))))), ?_⟩
    refine ⟨l1, fun b0 n0 => ⟨l1, fun b1 n1 => ⟨l1, fun b2 n2 => ⟨l2', fun b3 n3 => ⟨l1, fun b4 n4 => ⟨l1, fun b5 n5 => ⟨l1, fun b6 n6 => ⟨l7, fun kk nk => ?_⟩⟩⟩⟩⟩⟩⟩⟩
    have T7 := same_new (o := .lst [.ref b0, .ref b1, .ref b2, .ref b3, .ref b4, .ref b5, .ref b6]) nk
    have A6 := T7
    have A5 := (same_new (o := .lst [.int 3]) n6).trans A6
    have A4 := (same_new (o := .lst [.int 3]) n5).trans A5
    have A3 := (same_new (o := .lst [.int 3]) n4).trans A4
    have A2 := (same_new (o := .lst [.int 1, .int 2]) n3).trans A3
    have A1 := (same_new (o := .lst [.int 1]) n2).trans A2
    have A0 := (same_new (o := .lst [.int 0]) n1).trans A1
    have S0 := (same_new (o := .lst [.int 0]) n0).trans A0
    have e0 := A0 b0 _ upd_same
    have e1 := A1 b1 _ upd_same
    have e2 := A2 b2 _ upd_same
    have e3 := A3 b3 _ upd_same
    have e4 := A4 b4 _ upd_same
    have e5 := A5 b5 _ upd_same
    have e6 := A6 b6 _ upd_same
    have ek : (upd (upd (upd (upd (upd (upd (upd (upd H b0 (.lst [.int 0])) b1 (.lst [.int 0])) b2 (.lst [.int 1])) b3 (.lst [.int 1, .int 2])) b4 (.lst [.int 3])) b5 (.lst [.int 3])) b6 (.lst [.int 3])) kk (.lst [.ref b0, .ref b1, .ref b2, .ref b3, .ref b4, .ref b5, .ref b6]) : Hp) kk = some (.lst [.ref b0, .ref b1, .ref b2, .ref b3, .ref b4, .ref b5, .ref b6]) := upd_same
    clear A0 A1 A2 A3 A4 A5 A6 T7
    generalize upd (upd (upd (upd (upd (upd (upd (upd H b0 (.lst [.int 0])) b1 (.lst [.int 0])) b2 (.lst [.int 1])) b3 (.lst [.int 1, .int 2])) b4 (.lst [.int 3])) b5 (.lst [.int 3])) b6 (.lst [.int 3])) kk (.lst [.ref b0, .ref b1, .ref b2, .ref b3, .ref b4, .ref b5, .ref b6]) = H8 at S0 e0 e1 e2 e3 e4 e5 e6 ek ⊢
    have er : ∀ i, i < 7 → ∃ b, ([.ref b0, .ref b1, .ref b2, .ref b3, .ref b4, .ref b5, .ref b6] : List V)[i]? = some (.ref b) ∧ H8 b = some (.lst (kd i)) := fun i hi => by
      match i, hi with
      | 0, _ => exact ⟨b0, rfl, e0⟩
      | 1, _ => exact ⟨b1, rfl, e1⟩
      | 2, _ => exact ⟨b2, rfl, e2⟩
      | 3, _ => exact ⟨b3, rfl, e3⟩
      | 4, _ => exact ⟨b4, rfl, e4⟩
      | 5, _ => exact ⟨b5, rfl, e5⟩
      | 6, _ => exact ⟨b6, rfl, e6⟩
      | i + 7, h => exact absurd h (by omega)
    refine ⟨7, rfl, by decide, by decide, for_range (n := 7) (fun i σ H' => Same H8 H' ∧ ∃ y3 y4 y5, σ = [some (.ref l), some v, some (.ref kk), y3, y4, y5]) ⟨Same.refl _, _, _, _, rfl⟩ ?_ ?_⟩
    · rintro i σ H' hi ⟨s1, y3, y4, y5, rfl⟩
      obtain ⟨e, ee, hE⟩ := he i hi
      obtain ⟨bi, hb, eb⟩ := er i hi
      refine ⟨7, rfl, by decide, by decide, fun D nD => ?_⟩
      refine lc_range (lo := 0) (n := 7) (fun j H2 => Same H' H2 ∧ H2 D = some (.lst ((List.range j).map fun k : Nat => V.bl (decide (V.int (0 + (k : Int)) = V.int (0 + (i : Int))))))) ⟨same_new nD, upd_same⟩ ?_ ?_
      · rintro j H2 hj ⟨s2, eD⟩
        refine ⟨rfl, ?_⟩
        refine ⟨_, rfl, _, rfl, rfl, _, eD, ?_, same_put s2 nD, ?_⟩
        · rw [List.length_map, List.length_range]
          exact small7 hj
        · rw [upd_same, List.range_succ, List.map_append]
          rfl
      · rintro H2 ⟨s2, eD⟩
        refine ⟨_, rfl, _, _, rfl, rfl, l1, fun o no => ⟨D, o, _, _, rfl, rfl, (upd_ne (ne_of_none eD no)).trans eD, upd_same, ?_, fun w' nw => ?_⟩⟩
        · rw [List.length_map, List.length_range]
          exact l8
        have s3 := (s1.trans s2).trans ((same_new (o := .lst [V.bl (decide ((0 : Int) + (i : Int) < 2))]) no).trans (same_new (o := .lst (bV (due i))) nw))
        rw [due_is i hi]
        have eqr : ∀ m : List Bool, (!PyData.eqv (.list (bD m)) (.list (bD m))) = false := fun m => by
          rw [SeqAt.eqv_refl _ (SeqAt.canLay_of_shaped (sh_bools _))]
          rfl
        have el3 := (S0.trans s3) _ _ el
        have ek3 := s3 _ _ ek
        have eb3 := s3 _ _ eb
        have atE : atI es (0 + (i : Int)) = some e := by
          rw [Int.zero_add]
          exact atI_nat ee
        refine ⟨_, rfl, _, rfl, l, es, _, e, rfl, rfl, .inl (.inl el3), atE, ?_⟩
        obtain ⟨a, D', fs, rfl, ea, hD, k0, k1, k2, k3, k4, k5, k6, k7, p0, p1, p2, p3, p4, p5⟩ := err_same hE (S0.trans s3)
        refine ⟨a, D', fs, _, _, _, _, _, _, _, _, rfl, ea, hD, k0, k1, k2, k3, k4, k5, k6, k7, fun o3 H3 s4 n3 eo3 => ?_⟩
        refine ⟨_, rfl, _, _, .lst (.inl (.inl eo3)) (dp_bools (due i)), .lst (.inl (.inl (s4 _ _ upd_same))) (dp_bools (due i)), sh_bools _, sh_bools _, _, rfl, ifF (eqr (due i)) ?_⟩
        refine ⟨_, rfl, _, rfl, l, es, _, _, rfl, rfl, .inl (.inl (s4 _ _ el3)), atE, ?_⟩
        refine ⟨a, D', fs, _, _, _, _, _, _, rfl, eat_same ea s4, hD, p0, p1, p2, p3, p4, p5, fun o5 H5 s5 n5 eo5 => ?_⟩
        refine ⟨6, rfl, by decide, by decide, fun D2 nD2 => ?_⟩
        have s45 := s4.trans s5
        refine lc_range (lo := 0) (n := 6) (fun j H6 => Same H5 H6 ∧ H6 D2 = some (.lst ((List.range j).map fun k : Nat => V.bl (inV (.int (0 + (k : Int))) (kd i))))) ⟨same_new nD2, upd_same⟩ ?_ ?_
        · rintro j H6 hj ⟨s6, eD2⟩
          refine ⟨rfl, ?_⟩
          have atK : atI ([.ref b0, .ref b1, .ref b2, .ref b3, .ref b4, .ref b5, .ref b6] : List V) (0 + (i : Int)) = some (.ref bi) := by
            rw [Int.zero_add]
            exact atI_nat hb
          refine ⟨_, rfl, _, rfl, _, rfl, kk, _, _, _, rfl, rfl, .inl (.inl (s6 _ _ (s45 _ _ ek3))), atK, bi, kd i, rfl, .inl (.inl (.inl (s6 _ _ (s45 _ _ eb3)))), rfl, kd_flat i, _, eD2, ?_, same_put s6 nD2, ?_⟩
          · rw [List.length_map, List.length_range]
            exact small7 (by omega)
          · rw [upd_same, List.range_succ, List.map_append]
            rfl
        · rintro H6 ⟨s6, eD2⟩
          rw [pyd_is i] at eD2
          refine ⟨_, _, .lst (.inl (.inl (s6 _ _ eo5))) (dp_bools (pyd i)), .lst (.inl (.inl eD2)) (dp_bools (pyd i)), sh_bools _, sh_bools _, _, rfl, ifF (eqr (pyd i)) ?_⟩
          exact ⟨(s3.trans s45).trans s6, _, _, _, rfl⟩
    · rintro σ H' ⟨s1, y3, y4, y5, rfl⟩
      have S := S0.trans s1
      have dv := dp_same S d v hd
      obtain ⟨h1, h2, h3, h4, h5⟩ := hs
      have eS : decide (V.str d.shown = V.str d.shown) = true := decide_eq_true rfl
      refine ⟨_, rfl, l, es, 1, _, rfl, rfl, .inl (.inl (S _ _ el)), atI_nat x1, a1, T.C_BadHistory, [("index", v)], v, rfl, eat_same y1 S, T.xf_BadHistory, T.no_BadHistory, rfl, v, d, rfl, dv, h1, h2, h3, h4, h5, ?_⟩
      refine ⟨_, rfl, v, d, rfl, dv, h1, h2, h3, h4, h5, rfl, ?_⟩
      rw [eS]
      refine ⟨true, rfl, iteT ?_⟩
      refine ⟨_, rfl, l, es, 2, _, rfl, rfl, .inl (.inl (S _ _ el)), atI_nat x2, a2, T.C_NoMember, [("number", v)], v, rfl, eat_same y2 S, T.xf_NoMember, T.no_NoMember, rfl, v, d, rfl, dv, h1, h2, h3, h4, h5, ?_⟩
      refine ⟨_, rfl, v, d, rfl, dv, h1, h2, h3, h4, h5, rfl, ?_⟩
      rw [eS]
      exact q _ S
end
end Ob

set_option Elab.async false
set_option linter.all false
set_option maxRecDepth 100000
set_option maxHeartbeats 1000000
namespace Ob
open PySem PySem.Spec PyProof.Rows L2

section
variable {P : Program} {w : World} {K : PySem.W.Frag} {mg : Str → Option Value} {base : Heap}
theorem fst_at {H H' : Hp} {a C : Addr} {f : Str} {v : V} {o : HO} (n : H a = none) (F : Exv.Fst (upd H a o) H' a C f v) : Same H H' ∧ Exv.EAt H' a C [(f, v)] := by
  obtain ⟨dx, h1, h2, h3, h4, h5⟩ := F
  rw [upd_ne h1] at h2
  refine ⟨fun b u e => ?_, .inr ⟨dx, h3, h4⟩⟩
  rw [h5 b (ne_of_none e n) (ne_of_none e h2), upd_ne (ne_of_none e n)]
  exact e
theorem sh_int {i : Int} (h : i.natAbs.log2 < 1920) : Shown (.int i) (.int i) := by
  refine ⟨?_, rfl, ?_, ?_, fun j e => ?_⟩
  · first
      | exact decide_eq_true h
      | (simp only [PyData.showable]; exact decide_eq_true h)
  · simp only [PyData.depth]
    omega
  · exact int_text_fits h
  · cases e
    exact h
theorem small_log {i : Int} (h0 : 0 ≤ i) (h1 : i < 10 ^ 9) : i.natAbs.log2 < 1920 := by
  have h2 : i.natAbs < 2 ^ 1920 := by
    have : (10 : Nat) ^ 9 < 2 ^ 1920 := by decide +kernel
    have h3 : i.natAbs < 10 ^ 9 := by omega
    omega
  by_cases z : i.natAbs = 0
  · rw [z]
    decide
  · exact (Nat.log2_lt z).mpr h2
theorem l8' : 8 ≤ sizeLine := by decide
theorem l0 : 0 ≤ sizeLine := Nat.zero_le _
theorem err_0 (T : Txt K mg) {H : Hp} {a : Addr} {fs : List (Str × V)} (e : Exv.EAt H a T.C_BadNumber fs) : Err T H 0 (.ref a) :=
  ⟨a, T.C_BadNumber, fs, rfl, e, T.is_BadNumber, T.o_BadNumber_BadNumber, T.o_BadNumber_BadHistory, T.o_BadNumber_NoMember, T.o_BadNumber_Empty, T.o_BadNumber_Busy, T.o_BadNumber_Torn, T.o_BadNumber_NotTorn, T.o_BadNumber_OnceError, T.p_BadNumber_ValueError, T.p_BadNumber_LookupError, T.p_BadNumber_IndexError, T.p_BadNumber_RuntimeError, T.p_BadNumber_KeyError, T.p_BadNumber_OverflowError⟩
theorem err_1 (T : Txt K mg) {H : Hp} {a : Addr} {fs : List (Str × V)} (e : Exv.EAt H a T.C_BadHistory fs) : Err T H 1 (.ref a) :=
  ⟨a, T.C_BadHistory, fs, rfl, e, T.is_BadHistory, T.o_BadHistory_BadNumber, T.o_BadHistory_BadHistory, T.o_BadHistory_NoMember, T.o_BadHistory_Empty, T.o_BadHistory_Busy, T.o_BadHistory_Torn, T.o_BadHistory_NotTorn, T.o_BadHistory_OnceError, T.p_BadHistory_ValueError, T.p_BadHistory_LookupError, T.p_BadHistory_IndexError, T.p_BadHistory_RuntimeError, T.p_BadHistory_KeyError, T.p_BadHistory_OverflowError⟩
theorem err_2 (T : Txt K mg) {H : Hp} {a : Addr} {fs : List (Str × V)} (e : Exv.EAt H a T.C_NoMember fs) : Err T H 2 (.ref a) :=
  ⟨a, T.C_NoMember, fs, rfl, e, T.is_NoMember, T.o_NoMember_BadNumber, T.o_NoMember_BadHistory, T.o_NoMember_NoMember, T.o_NoMember_Empty, T.o_NoMember_Busy, T.o_NoMember_Torn, T.o_NoMember_NotTorn, T.o_NoMember_OnceError, T.p_NoMember_ValueError, T.p_NoMember_LookupError, T.p_NoMember_IndexError, T.p_NoMember_RuntimeError, T.p_NoMember_KeyError, T.p_NoMember_OverflowError⟩
theorem err_3 (T : Txt K mg) {H : Hp} {a : Addr} {fs : List (Str × V)} (e : Exv.EAt H a T.C_Empty fs) : Err T H 3 (.ref a) :=
  ⟨a, T.C_Empty, fs, rfl, e, T.is_Empty, T.o_Empty_BadNumber, T.o_Empty_BadHistory, T.o_Empty_NoMember, T.o_Empty_Empty, T.o_Empty_Busy, T.o_Empty_Torn, T.o_Empty_NotTorn, T.o_Empty_OnceError, T.p_Empty_ValueError, T.p_Empty_LookupError, T.p_Empty_IndexError, T.p_Empty_RuntimeError, T.p_Empty_KeyError, T.p_Empty_OverflowError⟩
theorem err_4 (T : Txt K mg) {H : Hp} {a : Addr} {fs : List (Str × V)} (e : Exv.EAt H a T.C_Busy fs) : Err T H 4 (.ref a) :=
  ⟨a, T.C_Busy, fs, rfl, e, T.is_Busy, T.o_Busy_BadNumber, T.o_Busy_BadHistory, T.o_Busy_NoMember, T.o_Busy_Empty, T.o_Busy_Busy, T.o_Busy_Torn, T.o_Busy_NotTorn, T.o_Busy_OnceError, T.p_Busy_ValueError, T.p_Busy_LookupError, T.p_Busy_IndexError, T.p_Busy_RuntimeError, T.p_Busy_KeyError, T.p_Busy_OverflowError⟩
theorem err_5 (T : Txt K mg) {H : Hp} {a : Addr} {fs : List (Str × V)} (e : Exv.EAt H a T.C_Torn fs) : Err T H 5 (.ref a) :=
  ⟨a, T.C_Torn, fs, rfl, e, T.is_Torn, T.o_Torn_BadNumber, T.o_Torn_BadHistory, T.o_Torn_NoMember, T.o_Torn_Empty, T.o_Torn_Busy, T.o_Torn_Torn, T.o_Torn_NotTorn, T.o_Torn_OnceError, T.p_Torn_ValueError, T.p_Torn_LookupError, T.p_Torn_IndexError, T.p_Torn_RuntimeError, T.p_Torn_KeyError, T.p_Torn_OverflowError⟩
theorem err_6 (T : Txt K mg) {H : Hp} {a : Addr} {fs : List (Str × V)} (e : Exv.EAt H a T.C_NotTorn fs) : Err T H 6 (.ref a) :=
  ⟨a, T.C_NotTorn, fs, rfl, e, T.is_NotTorn, T.o_NotTorn_BadNumber, T.o_NotTorn_BadHistory, T.o_NotTorn_NoMember, T.o_NotTorn_Empty, T.o_NotTorn_Busy, T.o_NotTorn_Torn, T.o_NotTorn_NotTorn, T.o_NotTorn_OnceError, T.p_NotTorn_ValueError, T.p_NotTorn_LookupError, T.p_NotTorn_IndexError, T.p_NotTorn_RuntimeError, T.p_NotTorn_KeyError, T.p_NotTorn_OverflowError⟩
def spLaw (K : PySem.W.Frag) : Sp := fun vs H Q _ => ∃ (a : Addr) (ns : List Int), vs = [.ref a] ∧ SqL K H a (ns.map V.int) ∧ ns.length ≤ 63 ∧ ∀ H', Q (.bl true) H'
theorem ok_law (T : Txt K mg) {f : Addr} {fd : FuncData} (F : Fun K "law" "law" s_law f fd) : Inf.FnOkG P w K mg base CX0 4 f fd ["_law_script"] (spLaw K) := by
  have G_l_bag := ok_bag (P := P) (w := w) (base := base) T
  have G_l_take := ok_take (P := P) (w := w) (base := base) T
  have G_BadHistory_init := ok_bh (P := P) (w := w) (base := base) T
  have G_NoMember_init := ok_nm (P := P) (w := w) (base := base) T
  have G_l_right := ok_right (P := P) (w := w) (base := base) T
  refine Inf.okG F sc_law (fun vs H Q E h => ?_) (fun cdv A outer s H vs Q E hG hr h => ?_)
  · obtain ⟨a, ns, rfl, _⟩ := h
    rfl
  · obtain ⟨a, ns, rfl, hS, hlen, q⟩ := h
    refine ⟨_, (pss_cons (ps_for PassesOwn.never rfl (pi_range1 (by rfl) T.z_range (pa_cons (pe_op op_add pe_int (pe_callB (call_min2 rfl) (by rfl) T.z_min (by decide +kernel) (pa_cons pe_int (pa_cons (pe_callB call_len_seq (by rfl) T.z_len (by decide +kernel) (pa_cons (pv 0) pa_nil)) pa_nil)))) pa_nil)) (pg_name (i := 1) sc_law.nd rfl (.inl rfl)) (pss_cons (ps_set (i := 2) sc_law.nd rfl (.inl rfl) (pe_call G_l_bag (hr.mono (by omega)) rfl T.g_l_bag T.F_l_bag.kp T.b_l_bag .nil pass0 (pa_cons (pv 0) (pa_cons (pv 1) pa_nil))))
        (pss_cons (ps_set (i := 3) sc_law.nd rfl (.inl rfl) (pe_lst (pa_cons pe_non (pa_cons pe_bl (pa_cons (pe_un un_neg pe_int) (pa_cons (pe_op op_pow pe_int pe_int) (pa_cons pe_str (pa_cons (pe_tup (pa_cons pe_int (pa_cons (pe_lst (pa_cons pe_int pa_nil)) pa_nil))) (pa_cons (pe_lst pa_nil) (pa_cons (pe_call G_l_take (hr.mono (by omega)) rfl T.g_l_take T.F_l_take.kp T.b_l_take .nil pass0 (pa_cons (pv 2) (pa_cons (pe_op op_pow pe_int pe_int) pa_nil))) pa_nil))))))))))
        (pss_cons (ps_set (i := 4) sc_law.nd rfl (.inl rfl) (pe_ix (r := rIxL K) ix_list (pv 3) (pe_call G_l_take (hr.mono (by omega)) rfl T.g_l_take T.F_l_take.kp T.b_l_take .nil pass0 (pa_cons (pv 2) (pa_cons pe_int pa_nil))) (fun _ _ => rfl)))
        (pss_cons (ps_set (i := 5) sc_law.nd rfl (.inl rfl) (pe_lst (pa_cons (pe_exc1 PySem.F.excBase_ValueError T.x_BadNumber T.gc_BadNumber T.kp_BadNumber rfl pe_str) (pa_cons (Exv.pe_mkX PySem.F.excBase_ValueError T.ox_BadHistory T.m_BadHistory_init T.y_BadHistory_init G_BadHistory_init (hr.mono (by decide)) T.b_BadHistory_init .nil pass0 rfl T.gc_BadHistory (pa_cons (pv 4) pa_nil)) (pa_cons (Exv.pe_mkX PySem.F.excBase_LookupError T.ox_NoMember T.m_NoMember_init T.y_NoMember_init G_NoMember_init (hr.mono (by decide)) T.b_NoMember_init .nil pass0 rfl T.gc_NoMember (pa_cons (pv 4) pa_nil)) (pa_cons (pe_exc1 PySem.F.excBase_IndexError T.x_Empty T.gc_Empty T.kp_Empty rfl pe_str) (pa_cons (pe_exc1 PySem.F.excBase_RuntimeError T.x_Busy T.gc_Busy T.kp_Busy rfl pe_str) (pa_cons (pe_exc1 PySem.F.excBase_RuntimeError T.x_Torn T.gc_Torn T.kp_Torn rfl pe_str) (pa_cons (pe_exc1 PySem.F.excBase_RuntimeError T.x_NotTorn T.gc_NotTorn T.kp_NotTorn rfl pe_str) pa_nil)))))))))
        (pss_one (ps_if (pt_not (pt_val (Inf.pe_callG G_l_right hG (hr.mono (by decide)) rfl T.g_l_right T.F_l_right.kp T.b_l_right pass0 (pa_cons (pv 5) (pa_cons (pv 4) pa_nil))))) (pss_one (ps_ret pe_bl)) pss_nil)))))))
      (pss_one (ps_ret (pe_callB Exv.call_isX (by rfl) T.z_isinstance (by decide +kernel) (pa_cons (pe_exc1 PySem.F.excBase_ValueError T.x_OnceError T.gc_OnceError T.kp_OnceError rfl pe_str) (pa_cons (pe_bltn (v := .ty "ValueError") (by rfl) T.z_ValueError (by decide +kernel) rfl) pa_nil)))))), ?_⟩
    refine ⟨_, rfl, a, _, rfl, .inl hS, 4, _, rfl, _, _, rfl, rfl, _, rfl, ?_, ?_, ?_⟩
    · split <;> omega
    · split <;> omega
    generalize hN : ((1 : Int) + (if (((ns.map V.int).length : Nat) : Int) < 4 then (((ns.map V.int).length : Nat) : Int) else 4)).toNat = N
    have hN2 : N ≤ 5 := by
      rw [← hN]
      split <;> omega
    refine for_range (fun i σ H' => Same H H' ∧ ∃ y1 y2 y3 y4 y5, σ = [some (.ref a), y1, y2, y3, y4, y5]) ⟨Same.refl _, _, _, _, _, _, rfl⟩ ?_ ?_
    · rintro i σ H' hi ⟨s1, y1, y2, y3, y4, y5, rfl⟩
      refine ⟨_, rfl, _, rfl, a, ns, i, by rw [Int.zero_add]; rfl, s1.seq hS, by omega, fun p H2 np s2 b2 => ?_⟩
      have np1 := s1.free np
      refine ⟨_, rfl, _, _, rfl, rfl, ⟨by decide, by decide, by decide⟩, ?_⟩
      refine ⟨l1, fun t1 m1 => ⟨l2', fun t2 m2 => ⟨l0, fun t3 m3 => ?_⟩⟩⟩
      have b3 := bag_put (o := .lst []) (bag_put (o := .tup [V.int 1, V.ref t1]) (bag_put (o := .lst [V.int 2]) b2 m1) m2) m3
      have q1 := bag_ne b2 m1
      have q2 := bag_ne (bag_put (o := .lst [V.int 2]) b2 m1) m2
      have q3 := bag_ne (bag_put (o := .tup [V.int 1, V.ref t1]) (bag_put (o := .lst [V.int 2]) b2 m1) m2) m3
      have S3 := same_new (o := .lst []) m3
      have S23 := (same_new (o := .tup [V.int 1, V.ref t1]) m2).trans S3
      have S13 := (same_new (o := .lst [V.int 2]) m1).trans S23
      refine ⟨_, rfl, _, _, rfl, rfl, ⟨by decide, by decide, by decide⟩, p, _, rfl, b3, by decide +kernel, by decide +kernel, fun r H3 r0 r1 b4 k4 => ⟨l8', fun o mo => ?_⟩⟩
      have b5 := bag_put (o := .lst [V.non, V.bl true, V.int (-1), V.int ((10 : Int) ^ Int.toNat 30), V.str "one", V.ref t2, V.ref t3, V.int r]) b4 mo
      have nop := bag_ne b4 mo
      refine ⟨_, rfl, _, rfl, p, _, rfl, b5, by decide, by decide, fun y H5 y0 y1' b6 k6 => ?_⟩
      have lift := fun (c : Addr) (u : HO) e (n : c ≠ p) => k6 c u (same_new (o := .lst [V.non, V.bl true, V.int (-1), V.int ((10 : Int) ^ Int.toNat 30), V.str "one", V.ref t2, V.ref t3, V.int r]) mo c u (k4 c u e n)) n
      have eo := k6 o _ upd_same nop
      have e1 := lift t1 _ (S23 t1 _ upd_same) q1
      have e2 := lift t2 _ (S3 t2 _ upd_same) q2
      have e3 := lift t3 _ upd_same q3
      have S5 : Same H H5 := fun c u e => lift c u (S13 c u (s2 c u (s1 c u e))) (ne_of_none e np1)
      obtain ⟨y, rfl⟩ := Int.eq_ofNat_of_zero_le y0
      have pick : ∃ v d, atI [V.non, V.bl true, V.int (-1), V.int ((10 : Int) ^ Int.toNat 30), V.str "one", V.ref t2, V.ref t3, V.int r] (y : Int) = some v ∧ Dp K H5 v d ∧ Shown d v := by
        have hy : y < 8 := by omega
        have fin : ∀ (j : Nat) (v : V) (d : PyData), ([V.non, V.bl true, V.int (-1), V.int ((10 : Int) ^ Int.toNat 30), V.str "one", V.ref t2, V.ref t3, V.int r])[j]? = some v → Dp K H5 v d → Shown d v → ∃ v d, atI [V.non, V.bl true, V.int (-1), V.int ((10 : Int) ^ Int.toNat 30), V.str "one", V.ref t2, V.ref t3, V.int r] (j : Int) = some v ∧ Dp K H5 v d ∧ Shown d v := fun j v d ez hd hs => ⟨v, d, atI_nat ez, hd, hs⟩
        match y, hy with
        | 0, _ => exact fin 0 _ _ rfl .non ⟨rfl, rfl, by decide, by decide +kernel, fun i e => nomatch e⟩
        | 1, _ => exact fin 1 _ _ rfl (.bl true) ⟨rfl, rfl, by decide, by decide +kernel, fun i e => nomatch e⟩
        | 2, _ => exact fin 2 _ _ rfl (.int (-1)) (sh_int (by decide +kernel))
        | 3, _ => exact fin 3 _ _ rfl (.int _) (sh_int (by decide +kernel))
        | 4, _ => exact fin 4 _ _ rfl (.str "one") ⟨rfl, rfl, by decide, by decide +kernel, fun i e => nomatch e⟩
        | 5, _ => exact fin 5 _ (.tuple [.int 1, .list [.int 2]]) rfl (.tup (.inl (.inl e2)) (.cons (.int 1) (.cons (.lst (.inl (.inl e1)) (.cons (.int 2) .nil)) .nil))) ⟨by decide +kernel, rfl, by decide +kernel, by decide +kernel, fun i e => nomatch e⟩
        | 6, _ => exact fin 6 _ (.list []) rfl (.lst (.inl (.inl e3)) .nil) ⟨by decide +kernel, rfl, by decide +kernel, by decide +kernel, fun i e => nomatch e⟩
        | 7, _ => exact fin 7 _ _ rfl (.int r) (sh_int (small_log r0 r1))
        | y + 8, hy => exact absurd hy (by omega)
      obtain ⟨v, d, hv, hd, hs⟩ := pick
      refine ⟨o, _, _, v, rfl, rfl, .inl (.inl eo), hv, ?_⟩
      refine fun a0 n0 => ⟨_, rfl, by show 1 ≤ 1000; decide, fun a1 n1 => ⟨a1, v, rfl, upd_same, fun G1 F1 => ⟨rfl, ⟨_, rfl, by show 1 ≤ 1000; decide, fun a2 n2 => ⟨a2, v, rfl, upd_same, fun G2 F2 => ⟨rfl, fun a3 n3 a4 n4 a5 n5 a6 n6 => ⟨l7, fun el nl => ?_⟩⟩⟩⟩⟩⟩⟩
      obtain ⟨A1, E1⟩ := fst_at n1 F1
      obtain ⟨A2, E2⟩ := fst_at n2 F2
      have D6 := same_new (o := .lst [V.ref a0, V.ref a1, V.ref a2, V.ref a3, V.ref a4, V.ref a5, V.ref a6]) nl
      have D5 := (same_new (o := ExO (.ref T.C_NotTorn) a6) n6).trans D6
      have D4 := (same_new (o := ExO (.ref T.C_Torn) a5) n5).trans D5
      have D3 := (same_new (o := ExO (.ref T.C_Busy) a4) n4).trans D4
      have D2 := (same_new (o := ExO (.ref T.C_Empty) a3) n3).trans D3
      have D1 := A2.trans D2
      have D0 := A1.trans D1
      have D := (same_new (o := ExO (.ref T.C_BadNumber) a0) n0).trans D0
      have x1 := eat_same E1 D1
      have x2 := eat_same E2 D2
      refine ⟨_, rfl, _, rfl, el, [V.ref a0, V.ref a1, V.ref a2, V.ref a3, V.ref a4, V.ref a5, V.ref a6], v, d, a1, a2, rfl, upd_same, dp_same D d v hd, hs, rfl, fun i hi => ?_, rfl, x1, rfl, x2, fun H9 s9 => ?_⟩
      · match i, hi with
        | 0, _ => exact ⟨_, rfl, err_0 T (fs := []) (.inl ⟨rfl, D0 _ _ upd_same⟩)⟩
        | 1, _ => exact ⟨_, rfl, err_1 T x1⟩
        | 2, _ => exact ⟨_, rfl, err_2 T x2⟩
        | 3, _ => exact ⟨_, rfl, err_3 T (fs := []) (.inl ⟨rfl, D3 _ _ upd_same⟩)⟩
        | 4, _ => exact ⟨_, rfl, err_4 T (fs := []) (.inl ⟨rfl, D4 _ _ upd_same⟩)⟩
        | 5, _ => exact ⟨_, rfl, err_5 T (fs := []) (.inl ⟨rfl, D5 _ _ upd_same⟩)⟩
        | 6, _ => exact ⟨_, rfl, err_6 T (fs := []) (.inl ⟨rfl, D6 _ _ upd_same⟩)⟩
        | i + 7, h => exact absurd h (by omega)
      · refine ⟨true, rfl, iteF ?_⟩
        exact ⟨(S5.trans D).trans s9, _, _, _, _, _, rfl⟩
    · rintro σ H' _
      exact fun a0 n0 => ⟨a0, T.C_OnceError, [], _, _, _, rfl, .inl ⟨rfl, upd_same⟩, T.is_OnceError, fun u r => r, T.p_OnceError_ValueError, q _⟩
end
end Ob

set_option Elab.async false
set_option linter.all false
set_option maxRecDepth 100000
set_option maxHeartbeats 1000000
namespace Ob
open PySem PySem.Spec PyProof.Rows L2

theorem kit_own {K : PySem.W.Frag} {B D : Addr} {b : Bool} (hs : PySem.W.subIn K (.ref B) (.ref B) = some true) (h1 : PySem.W.isClsIn K D = true) (h2 : PySem.W.typeIn K (.ref D) = some (.type "type")) (h3 : PySem.W.subIn K (.ref B) (.ref D) = some b) :
    PySem.W.kitOne K (.ref B) (.ref D) = some b := by
  unfold PySem.W.kitOne
  by_cases c : B = D
  · subst c
    rw [hs] at h3
    rw [← h3, if_pos (beq_self_eq_true _)]
  · rw [if_neg (by simpa using c)]
    unfold PySem.W.kitCls
    have h1' : (PySem.W.clsIn K D).isSome = true := h1
    have e : ((PySem.W.clsIn K D).isSome && PySem.W.typeIn K (.ref D) == some (.type "type")) = true := by
      rw [h1', h2]
      rfl
    exact (if_pos e).trans h3
theorem lawAtG {l : PySem.W.OpenLaw} {w : World} {K : PySem.W.Frag} {mg : Str → Option Value} {fa : Addr} {h : Heap}
    (A : ∃ fd : FuncData, (∀ (s : Shared) (v : Value), BindsTo s fd ⟨[v], []⟩ [("_law_script", v)]) ∧ ∀ base : Heap, K.In base → base.Ns mainGlobals mg → Inf.FnOkG l.prog w K mg base CX0 4 fa fd ["_law_script"] (spLaw K)) :
    Inf.LawAtG l w K CX0 4 63 "_law_script" mg fa h := by
  obtain ⟨fd, hb, hF⟩ := A
  exact ⟨fd, [], spLaw K, (fun _ z => nomatch z), (fun _ z => nomatch z), (fun _ z => nomatch z), hb, fun H a ns hl _ hS => ⟨a, ns, rfl, hS, hl, fun _ => rfl⟩, fun base hk hn _ => hF base hk hn⟩
theorem all_mk {l : PySem.W.OpenLaw} {w : World} {K : PySem.W.Frag} {h : Heap} {mg : Str → Option Value} {fa f0 f1 f2 f3 f4 f5 C_OnceError C_BadNumber C_BadHistory C_NoMember C_Empty C_Busy C_Torn C_NotTorn mf0 mf1 : Addr} (X : K.In h) (G : h.Ns mainGlobals mg) (hfa : mg "law" = some (.ref fa))
    {od0 an0 od1 an1 od2 an2 od3 an3 od4 an4 od5 an5 mod0 man0 mod1 man1 : Option Addr} {sl0 sl1 sl2 sl3 sl4 sl5 msl0 msl1 : Array (Option Value)} {oc0 kV0 dc0 pm0 cd0 ct0 oc1 kV1 dc1 pm1 cd1 ct1 oc2 kV2 dc2 pm2 cd2 ct2 oc3 kV3 dc3 pm3 cd3 ct3 oc4 kV4 dc4 pm4 cd4 ct4 oc5 kV5 dc5 pm5 cd5 ct5 moc0 mkV0 mdc0 mpm0 mcd0 mct0 moc1 mkV1 mdc1 mpm1 mcd1 mct1 : Value}
    (gc_OnceError : PySem.W.nsIn K mainGlobals "OnceError" = some (some (.ref C_OnceError)))
    (gc_BadNumber : PySem.W.nsIn K mainGlobals "BadNumber" = some (some (.ref C_BadNumber)))
    (gc_BadHistory : PySem.W.nsIn K mainGlobals "BadHistory" = some (some (.ref C_BadHistory)))
    (gc_NoMember : PySem.W.nsIn K mainGlobals "NoMember" = some (some (.ref C_NoMember)))
    (gc_Empty : PySem.W.nsIn K mainGlobals "Empty" = some (some (.ref C_Empty)))
    (gc_Busy : PySem.W.nsIn K mainGlobals "Busy" = some (some (.ref C_Busy)))
    (gc_Torn : PySem.W.nsIn K mainGlobals "Torn" = some (some (.ref C_Torn)))
    (gc_NotTorn : PySem.W.nsIn K mainGlobals "NotTorn" = some (some (.ref C_NotTorn)))
    (ma0 : PySem.W.findIn K (.ref C_BadHistory) "__init__" = some (some (.ref mf0))) (ml0 : K.lookup mf0 = some ⟨moc0, mod0, .func (PySem.W.fnOf "__init__" "BadHistory.__init__" (defArgs s_BadHistory_init) (defBody s_BadHistory_init) (defScope s_BadHistory_init) .none mkV0 mdc0 mpm0 man0 mcd0 mct0), msl0⟩) (mc0 : PySem.W.codeIn K mcd0 "BadHistory.__init__" = true) (mk0 : PySem.W.keepIn K (.ref mf0) = true) (mt0 : PySem.W.isFn K (.ref mf0) = true) (my0 : PySem.W.typeIn K (.ref mf0) = some (.type "function"))
    (ma1 : PySem.W.findIn K (.ref C_NoMember) "__init__" = some (some (.ref mf1))) (ml1 : K.lookup mf1 = some ⟨moc1, mod1, .func (PySem.W.fnOf "__init__" "NoMember.__init__" (defArgs s_NoMember_init) (defBody s_NoMember_init) (defScope s_NoMember_init) .none mkV1 mdc1 mpm1 man1 mcd1 mct1), msl1⟩) (mc1 : PySem.W.codeIn K mcd1 "NoMember.__init__" = true) (mk1 : PySem.W.keepIn K (.ref mf1) = true) (mt1 : PySem.W.isFn K (.ref mf1) = true) (my1 : PySem.W.typeIn K (.ref mf1) = some (.type "function"))
    (a0 : PySem.W.nsIn K mainGlobals "_law_bag" = some (some (.ref f0))) (l0 : K.lookup f0 = some ⟨oc0, od0, .func (PySem.W.fnOf "_law_bag" "_law_bag" (defArgs s_l_bag) (defBody s_l_bag) (defScope s_l_bag) .none kV0 dc0 pm0 an0 cd0 ct0), sl0⟩) (c0 : PySem.W.codeIn K cd0 "_law_bag" = true) (k0 : PySem.W.keepIn K (.ref f0) = true)
    (a1 : PySem.W.nsIn K mainGlobals "_law_take" = some (some (.ref f1))) (l1 : K.lookup f1 = some ⟨oc1, od1, .func (PySem.W.fnOf "_law_take" "_law_take" (defArgs s_l_take) (defBody s_l_take) (defScope s_l_take) .none kV1 dc1 pm1 an1 cd1 ct1), sl1⟩) (c1 : PySem.W.codeIn K cd1 "_law_take" = true) (k1 : PySem.W.keepIn K (.ref f1) = true)
    (a2 : PySem.W.nsIn K mainGlobals "_law_marks" = some (some (.ref f2))) (l2 : K.lookup f2 = some ⟨oc2, od2, .func (PySem.W.fnOf "_law_marks" "_law_marks" (defArgs s_l_marks) (defBody s_l_marks) (defScope s_l_marks) .none kV2 dc2 pm2 an2 cd2 ct2), sl2⟩) (c2 : PySem.W.codeIn K cd2 "_law_marks" = true) (k2 : PySem.W.keepIn K (.ref f2) = true)
    (a3 : PySem.W.nsIn K mainGlobals "_law_python" = some (some (.ref f3))) (l3 : K.lookup f3 = some ⟨oc3, od3, .func (PySem.W.fnOf "_law_python" "_law_python" (defArgs s_l_python) (defBody s_l_python) (defScope s_l_python) .none kV3 dc3 pm3 an3 cd3 ct3), sl3⟩) (c3 : PySem.W.codeIn K cd3 "_law_python" = true) (k3 : PySem.W.keepIn K (.ref f3) = true)
    (a4 : PySem.W.nsIn K mainGlobals "_law_right" = some (some (.ref f4))) (l4 : K.lookup f4 = some ⟨oc4, od4, .func (PySem.W.fnOf "_law_right" "_law_right" (defArgs s_l_right) (defBody s_l_right) (defScope s_l_right) .none kV4 dc4 pm4 an4 cd4 ct4), sl4⟩) (c4 : PySem.W.codeIn K cd4 "_law_right" = true) (k4 : PySem.W.keepIn K (.ref f4) = true)
    (a5 : PySem.W.nsIn K mainGlobals "law" = some (some (.ref f5))) (l5 : K.lookup f5 = some ⟨oc5, od5, .func (PySem.W.fnOf "law" "law" (defArgs s_law) (defBody s_law) (defScope s_law) .none kV5 dc5 pm5 an5 cd5 ct5), sl5⟩) (c5 : PySem.W.codeIn K cd5 "law" = true) (k5 : PySem.W.keepIn K (.ref f5) = true)
    (z_IndexError : PySem.W.nsIn K mainGlobals "IndexError" = some none)
    (z_KeyError : PySem.W.nsIn K mainGlobals "KeyError" = some none)
    (z_LookupError : PySem.W.nsIn K mainGlobals "LookupError" = some none)
    (z_OverflowError : PySem.W.nsIn K mainGlobals "OverflowError" = some none)
    (z_RuntimeError : PySem.W.nsIn K mainGlobals "RuntimeError" = some none)
    (z_ValueError : PySem.W.nsIn K mainGlobals "ValueError" = some none)
    (z_abs : PySem.W.nsIn K mainGlobals "abs" = some none)
    (z_isinstance : PySem.W.nsIn K mainGlobals "isinstance" = some none)
    (z_len : PySem.W.nsIn K mainGlobals "len" = some none)
    (z_min : PySem.W.nsIn K mainGlobals "min" = some none)
    (z_range : PySem.W.nsIn K mainGlobals "range" = some none)
    (z_repr : PySem.W.nsIn K mainGlobals "repr" = some none)
    (i6 : PySem.W.specialIn K (.builtin "object.__class__") "__get__" = some (some (.builtin "getset_descriptor.__get__")))
    (i7 : PySem.W.takesIn K (.builtin "object.__class__") = some true)
    (kp_BadNumber : PySem.W.keepIn K (.ref C_BadNumber) = true)
    (x_BadNumber : PySem.W.excIn K C_BadNumber [.type "ValueError", .type "Exception", .type "BaseException", .type "object"] "ValueError.__new__" = true)
    (ic_BadNumber : PySem.W.isClsIn K C_BadNumber = true)
    (ga_BadNumber : PySem.W.findIn K (.ref C_BadNumber) "__getattribute__" = some (some (.builtin "BaseException.__getattribute__")))
    (gg_BadNumber : PySem.W.findIn K (.ref C_BadNumber) "__getattr__" = some none)
    (bs_BadNumber : PySem.W.subIn K (.ref C_BadNumber) (.type "BaseException") = some true)
    (ca_BadNumber : PySem.W.findIn K (.ref C_BadNumber) "__class__" = some (some (.builtin "object.__class__")))
    (mo_BadNumber : PySem.W.mroIn K C_BadNumber (.type "object") = some true)
    (tc_BadNumber : PySem.W.typeIn K (.ref C_BadNumber) = some (.type "type"))
    (ss_BadNumber : PySem.W.subIn K (.ref C_BadNumber) (.ref C_BadNumber) = some true)
    (kp_BadHistory : PySem.W.keepIn K (.ref C_BadHistory) = true)
    (ic_BadHistory : PySem.W.isClsIn K C_BadHistory = true)
    (ga_BadHistory : PySem.W.findIn K (.ref C_BadHistory) "__getattribute__" = some (some (.builtin "BaseException.__getattribute__")))
    (gg_BadHistory : PySem.W.findIn K (.ref C_BadHistory) "__getattr__" = some none)
    (bs_BadHistory : PySem.W.subIn K (.ref C_BadHistory) (.type "BaseException") = some true)
    (ca_BadHistory : PySem.W.findIn K (.ref C_BadHistory) "__class__" = some (some (.builtin "object.__class__")))
    (mo_BadHistory : PySem.W.mroIn K C_BadHistory (.type "object") = some true)
    (tc_BadHistory : PySem.W.typeIn K (.ref C_BadHistory) = some (.type "type"))
    (ss_BadHistory : PySem.W.subIn K (.ref C_BadHistory) (.ref C_BadHistory) = some true)
    (kp_NoMember : PySem.W.keepIn K (.ref C_NoMember) = true)
    (ic_NoMember : PySem.W.isClsIn K C_NoMember = true)
    (ga_NoMember : PySem.W.findIn K (.ref C_NoMember) "__getattribute__" = some (some (.builtin "BaseException.__getattribute__")))
    (gg_NoMember : PySem.W.findIn K (.ref C_NoMember) "__getattr__" = some none)
    (bs_NoMember : PySem.W.subIn K (.ref C_NoMember) (.type "BaseException") = some true)
    (ca_NoMember : PySem.W.findIn K (.ref C_NoMember) "__class__" = some (some (.builtin "object.__class__")))
    (mo_NoMember : PySem.W.mroIn K C_NoMember (.type "object") = some true)
    (tc_NoMember : PySem.W.typeIn K (.ref C_NoMember) = some (.type "type"))
    (ss_NoMember : PySem.W.subIn K (.ref C_NoMember) (.ref C_NoMember) = some true)
    (kp_Empty : PySem.W.keepIn K (.ref C_Empty) = true)
    (x_Empty : PySem.W.excIn K C_Empty [.type "IndexError", .type "LookupError", .type "Exception", .type "BaseException", .type "object"] "IndexError.__new__" = true)
    (ic_Empty : PySem.W.isClsIn K C_Empty = true)
    (ga_Empty : PySem.W.findIn K (.ref C_Empty) "__getattribute__" = some (some (.builtin "BaseException.__getattribute__")))
    (gg_Empty : PySem.W.findIn K (.ref C_Empty) "__getattr__" = some none)
    (bs_Empty : PySem.W.subIn K (.ref C_Empty) (.type "BaseException") = some true)
    (ca_Empty : PySem.W.findIn K (.ref C_Empty) "__class__" = some (some (.builtin "object.__class__")))
    (mo_Empty : PySem.W.mroIn K C_Empty (.type "object") = some true)
    (tc_Empty : PySem.W.typeIn K (.ref C_Empty) = some (.type "type"))
    (ss_Empty : PySem.W.subIn K (.ref C_Empty) (.ref C_Empty) = some true)
    (kp_Busy : PySem.W.keepIn K (.ref C_Busy) = true)
    (x_Busy : PySem.W.excIn K C_Busy [.type "RuntimeError", .type "Exception", .type "BaseException", .type "object"] "RuntimeError.__new__" = true)
    (ic_Busy : PySem.W.isClsIn K C_Busy = true)
    (ga_Busy : PySem.W.findIn K (.ref C_Busy) "__getattribute__" = some (some (.builtin "BaseException.__getattribute__")))
    (gg_Busy : PySem.W.findIn K (.ref C_Busy) "__getattr__" = some none)
    (bs_Busy : PySem.W.subIn K (.ref C_Busy) (.type "BaseException") = some true)
    (ca_Busy : PySem.W.findIn K (.ref C_Busy) "__class__" = some (some (.builtin "object.__class__")))
    (mo_Busy : PySem.W.mroIn K C_Busy (.type "object") = some true)
    (tc_Busy : PySem.W.typeIn K (.ref C_Busy) = some (.type "type"))
    (ss_Busy : PySem.W.subIn K (.ref C_Busy) (.ref C_Busy) = some true)
    (kp_Torn : PySem.W.keepIn K (.ref C_Torn) = true)
    (x_Torn : PySem.W.excIn K C_Torn [.type "RuntimeError", .type "Exception", .type "BaseException", .type "object"] "RuntimeError.__new__" = true)
    (ic_Torn : PySem.W.isClsIn K C_Torn = true)
    (ga_Torn : PySem.W.findIn K (.ref C_Torn) "__getattribute__" = some (some (.builtin "BaseException.__getattribute__")))
    (gg_Torn : PySem.W.findIn K (.ref C_Torn) "__getattr__" = some none)
    (bs_Torn : PySem.W.subIn K (.ref C_Torn) (.type "BaseException") = some true)
    (ca_Torn : PySem.W.findIn K (.ref C_Torn) "__class__" = some (some (.builtin "object.__class__")))
    (mo_Torn : PySem.W.mroIn K C_Torn (.type "object") = some true)
    (tc_Torn : PySem.W.typeIn K (.ref C_Torn) = some (.type "type"))
    (ss_Torn : PySem.W.subIn K (.ref C_Torn) (.ref C_Torn) = some true)
    (kp_NotTorn : PySem.W.keepIn K (.ref C_NotTorn) = true)
    (x_NotTorn : PySem.W.excIn K C_NotTorn [.type "RuntimeError", .type "Exception", .type "BaseException", .type "object"] "RuntimeError.__new__" = true)
    (ic_NotTorn : PySem.W.isClsIn K C_NotTorn = true)
    (ga_NotTorn : PySem.W.findIn K (.ref C_NotTorn) "__getattribute__" = some (some (.builtin "BaseException.__getattribute__")))
    (gg_NotTorn : PySem.W.findIn K (.ref C_NotTorn) "__getattr__" = some none)
    (bs_NotTorn : PySem.W.subIn K (.ref C_NotTorn) (.type "BaseException") = some true)
    (ca_NotTorn : PySem.W.findIn K (.ref C_NotTorn) "__class__" = some (some (.builtin "object.__class__")))
    (mo_NotTorn : PySem.W.mroIn K C_NotTorn (.type "object") = some true)
    (tc_NotTorn : PySem.W.typeIn K (.ref C_NotTorn) = some (.type "type"))
    (ss_NotTorn : PySem.W.subIn K (.ref C_NotTorn) (.ref C_NotTorn) = some true)
    (kp_OnceError : PySem.W.keepIn K (.ref C_OnceError) = true)
    (x_OnceError : PySem.W.excIn K C_OnceError [.type "ValueError", .type "Exception", .type "BaseException", .type "object"] "ValueError.__new__" = true)
    (ic_OnceError : PySem.W.isClsIn K C_OnceError = true)
    (ga_OnceError : PySem.W.findIn K (.ref C_OnceError) "__getattribute__" = some (some (.builtin "BaseException.__getattribute__")))
    (gg_OnceError : PySem.W.findIn K (.ref C_OnceError) "__getattr__" = some none)
    (bs_OnceError : PySem.W.subIn K (.ref C_OnceError) (.type "BaseException") = some true)
    (ca_OnceError : PySem.W.findIn K (.ref C_OnceError) "__class__" = some (some (.builtin "object.__class__")))
    (mo_OnceError : PySem.W.mroIn K C_OnceError (.type "object") = some true)
    (tc_OnceError : PySem.W.typeIn K (.ref C_OnceError) = some (.type "type"))
    (ss_OnceError : PySem.W.subIn K (.ref C_OnceError) (.ref C_OnceError) = some true)
    (sb_BadNumber_BadHistory : PySem.W.subIn K (.ref C_BadNumber) (.ref C_BadHistory) = some false)
    (sb_BadNumber_NoMember : PySem.W.subIn K (.ref C_BadNumber) (.ref C_NoMember) = some false)
    (sb_BadNumber_Empty : PySem.W.subIn K (.ref C_BadNumber) (.ref C_Empty) = some false)
    (sb_BadNumber_Busy : PySem.W.subIn K (.ref C_BadNumber) (.ref C_Busy) = some false)
    (sb_BadNumber_Torn : PySem.W.subIn K (.ref C_BadNumber) (.ref C_Torn) = some false)
    (sb_BadNumber_NotTorn : PySem.W.subIn K (.ref C_BadNumber) (.ref C_NotTorn) = some false)
    (sb_BadNumber_OnceError : PySem.W.subIn K (.ref C_BadNumber) (.ref C_OnceError) = some true)
    (p_BadNumber_ValueError : PySem.W.kitOne K (.ref C_BadNumber) (.type "ValueError") = some true)
    (p_BadNumber_LookupError : PySem.W.kitOne K (.ref C_BadNumber) (.type "LookupError") = some false)
    (p_BadNumber_IndexError : PySem.W.kitOne K (.ref C_BadNumber) (.type "IndexError") = some false)
    (p_BadNumber_RuntimeError : PySem.W.kitOne K (.ref C_BadNumber) (.type "RuntimeError") = some false)
    (p_BadNumber_KeyError : PySem.W.kitOne K (.ref C_BadNumber) (.type "KeyError") = some false)
    (p_BadNumber_OverflowError : PySem.W.kitOne K (.ref C_BadNumber) (.type "OverflowError") = some false)
    (sb_BadHistory_BadNumber : PySem.W.subIn K (.ref C_BadHistory) (.ref C_BadNumber) = some false)
    (sb_BadHistory_NoMember : PySem.W.subIn K (.ref C_BadHistory) (.ref C_NoMember) = some false)
    (sb_BadHistory_Empty : PySem.W.subIn K (.ref C_BadHistory) (.ref C_Empty) = some false)
    (sb_BadHistory_Busy : PySem.W.subIn K (.ref C_BadHistory) (.ref C_Busy) = some false)
    (sb_BadHistory_Torn : PySem.W.subIn K (.ref C_BadHistory) (.ref C_Torn) = some false)
    (sb_BadHistory_NotTorn : PySem.W.subIn K (.ref C_BadHistory) (.ref C_NotTorn) = some false)
    (sb_BadHistory_OnceError : PySem.W.subIn K (.ref C_BadHistory) (.ref C_OnceError) = some true)
    (p_BadHistory_ValueError : PySem.W.kitOne K (.ref C_BadHistory) (.type "ValueError") = some true)
    (p_BadHistory_LookupError : PySem.W.kitOne K (.ref C_BadHistory) (.type "LookupError") = some false)
    (p_BadHistory_IndexError : PySem.W.kitOne K (.ref C_BadHistory) (.type "IndexError") = some false)
    (p_BadHistory_RuntimeError : PySem.W.kitOne K (.ref C_BadHistory) (.type "RuntimeError") = some false)
    (p_BadHistory_KeyError : PySem.W.kitOne K (.ref C_BadHistory) (.type "KeyError") = some false)
    (p_BadHistory_OverflowError : PySem.W.kitOne K (.ref C_BadHistory) (.type "OverflowError") = some false)
    (sb_NoMember_BadNumber : PySem.W.subIn K (.ref C_NoMember) (.ref C_BadNumber) = some false)
    (sb_NoMember_BadHistory : PySem.W.subIn K (.ref C_NoMember) (.ref C_BadHistory) = some false)
    (sb_NoMember_Empty : PySem.W.subIn K (.ref C_NoMember) (.ref C_Empty) = some false)
    (sb_NoMember_Busy : PySem.W.subIn K (.ref C_NoMember) (.ref C_Busy) = some false)
    (sb_NoMember_Torn : PySem.W.subIn K (.ref C_NoMember) (.ref C_Torn) = some false)
    (sb_NoMember_NotTorn : PySem.W.subIn K (.ref C_NoMember) (.ref C_NotTorn) = some false)
    (sb_NoMember_OnceError : PySem.W.subIn K (.ref C_NoMember) (.ref C_OnceError) = some false)
    (p_NoMember_ValueError : PySem.W.kitOne K (.ref C_NoMember) (.type "ValueError") = some false)
    (p_NoMember_LookupError : PySem.W.kitOne K (.ref C_NoMember) (.type "LookupError") = some true)
    (p_NoMember_IndexError : PySem.W.kitOne K (.ref C_NoMember) (.type "IndexError") = some false)
    (p_NoMember_RuntimeError : PySem.W.kitOne K (.ref C_NoMember) (.type "RuntimeError") = some false)
    (p_NoMember_KeyError : PySem.W.kitOne K (.ref C_NoMember) (.type "KeyError") = some false)
    (p_NoMember_OverflowError : PySem.W.kitOne K (.ref C_NoMember) (.type "OverflowError") = some false)
    (sb_Empty_BadNumber : PySem.W.subIn K (.ref C_Empty) (.ref C_BadNumber) = some false)
    (sb_Empty_BadHistory : PySem.W.subIn K (.ref C_Empty) (.ref C_BadHistory) = some false)
    (sb_Empty_NoMember : PySem.W.subIn K (.ref C_Empty) (.ref C_NoMember) = some false)
    (sb_Empty_Busy : PySem.W.subIn K (.ref C_Empty) (.ref C_Busy) = some false)
    (sb_Empty_Torn : PySem.W.subIn K (.ref C_Empty) (.ref C_Torn) = some false)
    (sb_Empty_NotTorn : PySem.W.subIn K (.ref C_Empty) (.ref C_NotTorn) = some false)
    (sb_Empty_OnceError : PySem.W.subIn K (.ref C_Empty) (.ref C_OnceError) = some false)
    (p_Empty_ValueError : PySem.W.kitOne K (.ref C_Empty) (.type "ValueError") = some false)
    (p_Empty_LookupError : PySem.W.kitOne K (.ref C_Empty) (.type "LookupError") = some true)
    (p_Empty_IndexError : PySem.W.kitOne K (.ref C_Empty) (.type "IndexError") = some true)
    (p_Empty_RuntimeError : PySem.W.kitOne K (.ref C_Empty) (.type "RuntimeError") = some false)
    (p_Empty_KeyError : PySem.W.kitOne K (.ref C_Empty) (.type "KeyError") = some false)
    (p_Empty_OverflowError : PySem.W.kitOne K (.ref C_Empty) (.type "OverflowError") = some false)
    (sb_Busy_BadNumber : PySem.W.subIn K (.ref C_Busy) (.ref C_BadNumber) = some false)
    (sb_Busy_BadHistory : PySem.W.subIn K (.ref C_Busy) (.ref C_BadHistory) = some false)
    (sb_Busy_NoMember : PySem.W.subIn K (.ref C_Busy) (.ref C_NoMember) = some false)
    (sb_Busy_Empty : PySem.W.subIn K (.ref C_Busy) (.ref C_Empty) = some false)
    (sb_Busy_Torn : PySem.W.subIn K (.ref C_Busy) (.ref C_Torn) = some false)
    (sb_Busy_NotTorn : PySem.W.subIn K (.ref C_Busy) (.ref C_NotTorn) = some false)
    (sb_Busy_OnceError : PySem.W.subIn K (.ref C_Busy) (.ref C_OnceError) = some false)
    (p_Busy_ValueError : PySem.W.kitOne K (.ref C_Busy) (.type "ValueError") = some false)
    (p_Busy_LookupError : PySem.W.kitOne K (.ref C_Busy) (.type "LookupError") = some false)
    (p_Busy_IndexError : PySem.W.kitOne K (.ref C_Busy) (.type "IndexError") = some false)
    (p_Busy_RuntimeError : PySem.W.kitOne K (.ref C_Busy) (.type "RuntimeError") = some true)
    (p_Busy_KeyError : PySem.W.kitOne K (.ref C_Busy) (.type "KeyError") = some false)
    (p_Busy_OverflowError : PySem.W.kitOne K (.ref C_Busy) (.type "OverflowError") = some false)
    (sb_Torn_BadNumber : PySem.W.subIn K (.ref C_Torn) (.ref C_BadNumber) = some false)
    (sb_Torn_BadHistory : PySem.W.subIn K (.ref C_Torn) (.ref C_BadHistory) = some false)
    (sb_Torn_NoMember : PySem.W.subIn K (.ref C_Torn) (.ref C_NoMember) = some false)
    (sb_Torn_Empty : PySem.W.subIn K (.ref C_Torn) (.ref C_Empty) = some false)
    (sb_Torn_Busy : PySem.W.subIn K (.ref C_Torn) (.ref C_Busy) = some false)
    (sb_Torn_NotTorn : PySem.W.subIn K (.ref C_Torn) (.ref C_NotTorn) = some false)
    (sb_Torn_OnceError : PySem.W.subIn K (.ref C_Torn) (.ref C_OnceError) = some false)
    (p_Torn_ValueError : PySem.W.kitOne K (.ref C_Torn) (.type "ValueError") = some false)
    (p_Torn_LookupError : PySem.W.kitOne K (.ref C_Torn) (.type "LookupError") = some false)
    (p_Torn_IndexError : PySem.W.kitOne K (.ref C_Torn) (.type "IndexError") = some false)
    (p_Torn_RuntimeError : PySem.W.kitOne K (.ref C_Torn) (.type "RuntimeError") = some true)
    (p_Torn_KeyError : PySem.W.kitOne K (.ref C_Torn) (.type "KeyError") = some false)
    (p_Torn_OverflowError : PySem.W.kitOne K (.ref C_Torn) (.type "OverflowError") = some false)
    (sb_NotTorn_BadNumber : PySem.W.subIn K (.ref C_NotTorn) (.ref C_BadNumber) = some false)
    (sb_NotTorn_BadHistory : PySem.W.subIn K (.ref C_NotTorn) (.ref C_BadHistory) = some false)
    (sb_NotTorn_NoMember : PySem.W.subIn K (.ref C_NotTorn) (.ref C_NoMember) = some false)
    (sb_NotTorn_Empty : PySem.W.subIn K (.ref C_NotTorn) (.ref C_Empty) = some false)
    (sb_NotTorn_Busy : PySem.W.subIn K (.ref C_NotTorn) (.ref C_Busy) = some false)
    (sb_NotTorn_Torn : PySem.W.subIn K (.ref C_NotTorn) (.ref C_Torn) = some false)
    (sb_NotTorn_OnceError : PySem.W.subIn K (.ref C_NotTorn) (.ref C_OnceError) = some false)
    (p_NotTorn_ValueError : PySem.W.kitOne K (.ref C_NotTorn) (.type "ValueError") = some false)
    (p_NotTorn_LookupError : PySem.W.kitOne K (.ref C_NotTorn) (.type "LookupError") = some false)
    (p_NotTorn_IndexError : PySem.W.kitOne K (.ref C_NotTorn) (.type "IndexError") = some false)
    (p_NotTorn_RuntimeError : PySem.W.kitOne K (.ref C_NotTorn) (.type "RuntimeError") = some true)
    (p_NotTorn_KeyError : PySem.W.kitOne K (.ref C_NotTorn) (.type "KeyError") = some false)
    (p_NotTorn_OverflowError : PySem.W.kitOne K (.ref C_NotTorn) (.type "OverflowError") = some false)
    (p_OnceError_ValueError : PySem.W.kitOne K (.ref C_OnceError) (.type "ValueError") = some true)
    (ei_BadHistory : PySem.W.excInitIn K C_BadHistory [.type "ValueError", .type "Exception", .type "BaseException", .type "object"] "ValueError.__new__" = true)
    (eo_BadHistory : PySem.W.excOver K C_BadHistory [.type "ValueError", .type "Exception", .type "BaseException", .type "object"] = true)
    (hd_BadHistory : PySem.W.hasDictIn K C_BadHistory = true)
    (sa_BadHistory : PySem.W.findIn K (.ref C_BadHistory) "__setattr__" = some (some (.builtin "object.__setattr__")))
    (tk_BadHistory : PySem.W.takerIn K C_BadHistory "index" = some none)
    (no_BadHistory : PySem.W.findIn K (.ref C_BadHistory) "index" = some none)
    (ei_NoMember : PySem.W.excInitIn K C_NoMember [.type "LookupError", .type "Exception", .type "BaseException", .type "object"] "LookupError.__new__" = true)
    (eo_NoMember : PySem.W.excOver K C_NoMember [.type "LookupError", .type "Exception", .type "BaseException", .type "object"] = true)
    (hd_NoMember : PySem.W.hasDictIn K C_NoMember = true)
    (sa_NoMember : PySem.W.findIn K (.ref C_NoMember) "__setattr__" = some (some (.builtin "object.__setattr__")))
    (tk_NoMember : PySem.W.takerIn K C_NoMember "number" = some none)
    (no_NoMember : PySem.W.findIn K (.ref C_NoMember) "number" = some none)
    (sg : PySem.W.specialIn K (.ref C_OnceError) "__getattribute__" = some (some (.builtin "type.__getattribute__")))
    (rd : PySem.W.readsIn K C_OnceError (.type "type") = true)
    (fc : PySem.W.findCls K (.ref C_OnceError) (.type "type") "__init__" = some (.val (.builtin "ValueError.__init__")))
    (fl : PySem.W.findCls K (.type "LookupError") (.type "type") "__init__" = some (.val (.builtin "LookupError.__init__"))) :
    ∃ fd : FuncData, (∀ (s : Shared) (v : Value), BindsTo s fd ⟨[v], []⟩ [("_law_script", v)]) ∧ ∀ base : Heap, K.In base → base.Ns mainGlobals mg → Inf.FnOkG l.prog w K mg base CX0 4 fa fd ["_law_script"] (spLaw K) := by
  have e := hfa.symm.trans (PySem.W.mg_of X G a5)
  cases e
  have MF0 := fun_mk (st := s_BadHistory_init) ml0 mc0 mk0
  have MF1 := fun_mk (st := s_NoMember_init) ml1 mc1 mk1
  have F0 := fun_mk (st := s_l_bag) l0 c0 k0
  have F1 := fun_mk (st := s_l_take) l1 c1 k1
  have F2 := fun_mk (st := s_l_marks) l2 c2 k2
  have F3 := fun_mk (st := s_l_python) l3 c3 k3
  have F4 := fun_mk (st := s_l_right) l4 c4 k4
  have F5 := fun_mk (st := s_law) l5 c5 k5
  let T : Txt K mg := {
    C_OnceError := C_OnceError,
    gc_OnceError := PySem.W.mg_of X G gc_OnceError,
    C_BadNumber := C_BadNumber,
    gc_BadNumber := PySem.W.mg_of X G gc_BadNumber,
    C_BadHistory := C_BadHistory,
    gc_BadHistory := PySem.W.mg_of X G gc_BadHistory,
    C_NoMember := C_NoMember,
    gc_NoMember := PySem.W.mg_of X G gc_NoMember,
    C_Empty := C_Empty,
    gc_Empty := PySem.W.mg_of X G gc_Empty,
    C_Busy := C_Busy,
    gc_Busy := PySem.W.mg_of X G gc_Busy,
    C_Torn := C_Torn,
    gc_Torn := PySem.W.mg_of X G gc_Torn,
    C_NotTorn := C_NotTorn,
    gc_NotTorn := PySem.W.mg_of X G gc_NotTorn,
    f_BadHistory_init := mf0,
    d_BadHistory_init := _,
    F_BadHistory_init := MF0,
    b_BadHistory_init := (MF0.binds (ps := ["self", "index"]) fun _ _ _ _ _ _ us hl => match us, hl with | [_, _], _ => rfl),
    m_BadHistory_init := ma0,
    t_BadHistory_init := mt0,
    y_BadHistory_init := my0,
    k_BadHistory_init := mk0,
    f_NoMember_init := mf1,
    d_NoMember_init := _,
    F_NoMember_init := MF1,
    b_NoMember_init := (MF1.binds (ps := ["self", "number"]) fun _ _ _ _ _ _ us hl => match us, hl with | [_, _], _ => rfl),
    m_NoMember_init := ma1,
    t_NoMember_init := mt1,
    y_NoMember_init := my1,
    k_NoMember_init := mk1,
    f_l_bag := f0,
    d_l_bag := _,
    F_l_bag := F0,
    b_l_bag := (F0.binds (ps := ["_law_script", "_law_at"]) fun _ _ _ _ _ _ us hl => match us, hl with | [_, _], _ => rfl),
    g_l_bag := PySem.W.mg_of X G a0,
    f_l_take := f1,
    d_l_take := _,
    F_l_take := F1,
    b_l_take := (F1.binds (ps := ["_law_bag_here", "_law_many"]) fun _ _ _ _ _ _ us hl => match us, hl with | [_, _], _ => rfl),
    g_l_take := PySem.W.mg_of X G a1,
    f_l_marks := f2,
    d_l_marks := _,
    F_l_marks := F2,
    b_l_marks := (F2.binds (ps := ["_law_error"]) fun _ _ _ _ _ _ us hl => match us, hl with | [_], _ => rfl),
    g_l_marks := PySem.W.mg_of X G a2,
    f_l_python := f3,
    d_l_python := _,
    F_l_python := F3,
    b_l_python := (F3.binds (ps := ["_law_error"]) fun _ _ _ _ _ _ us hl => match us, hl with | [_], _ => rfl),
    g_l_python := PySem.W.mg_of X G a3,
    f_l_right := f4,
    d_l_right := _,
    F_l_right := F4,
    b_l_right := (F4.binds (ps := ["_law_errors", "_law_thing"]) fun _ _ _ _ _ _ us hl => match us, hl with | [_, _], _ => rfl),
    g_l_right := PySem.W.mg_of X G a4,
    z_IndexError := PySem.W.mg_none_of X G z_IndexError,
    z_KeyError := PySem.W.mg_none_of X G z_KeyError,
    z_LookupError := PySem.W.mg_none_of X G z_LookupError,
    z_OverflowError := PySem.W.mg_none_of X G z_OverflowError,
    z_RuntimeError := PySem.W.mg_none_of X G z_RuntimeError,
    z_ValueError := PySem.W.mg_none_of X G z_ValueError,
    z_abs := PySem.W.mg_none_of X G z_abs,
    z_isinstance := PySem.W.mg_none_of X G z_isinstance,
    z_len := PySem.W.mg_none_of X G z_len,
    z_min := PySem.W.mg_none_of X G z_min,
    z_range := PySem.W.mg_none_of X G z_range,
    z_repr := PySem.W.mg_none_of X G z_repr,
    kp_BadNumber := kp_BadNumber,
    x_BadNumber := x_BadNumber,
    is_BadNumber := ⟨ic_BadNumber, ga_BadNumber, gg_BadNumber, bs_BadNumber, ca_BadNumber, i6, i7, mo_BadNumber⟩,
    kp_BadHistory := kp_BadHistory,
    is_BadHistory := ⟨ic_BadHistory, ga_BadHistory, gg_BadHistory, bs_BadHistory, ca_BadHistory, i6, i7, mo_BadHistory⟩,
    kp_NoMember := kp_NoMember,
    is_NoMember := ⟨ic_NoMember, ga_NoMember, gg_NoMember, bs_NoMember, ca_NoMember, i6, i7, mo_NoMember⟩,
    kp_Empty := kp_Empty,
    x_Empty := x_Empty,
    is_Empty := ⟨ic_Empty, ga_Empty, gg_Empty, bs_Empty, ca_Empty, i6, i7, mo_Empty⟩,
    kp_Busy := kp_Busy,
    x_Busy := x_Busy,
    is_Busy := ⟨ic_Busy, ga_Busy, gg_Busy, bs_Busy, ca_Busy, i6, i7, mo_Busy⟩,
    kp_Torn := kp_Torn,
    x_Torn := x_Torn,
    is_Torn := ⟨ic_Torn, ga_Torn, gg_Torn, bs_Torn, ca_Torn, i6, i7, mo_Torn⟩,
    kp_NotTorn := kp_NotTorn,
    x_NotTorn := x_NotTorn,
    is_NotTorn := ⟨ic_NotTorn, ga_NotTorn, gg_NotTorn, bs_NotTorn, ca_NotTorn, i6, i7, mo_NotTorn⟩,
    kp_OnceError := kp_OnceError,
    x_OnceError := x_OnceError,
    is_OnceError := ⟨ic_OnceError, ga_OnceError, gg_OnceError, bs_OnceError, ca_OnceError, i6, i7, mo_OnceError⟩,
    o_BadNumber_BadNumber := kit_own ss_BadNumber ic_BadNumber tc_BadNumber ss_BadNumber,
    o_BadNumber_BadHistory := kit_own ss_BadNumber ic_BadHistory tc_BadHistory sb_BadNumber_BadHistory,
    o_BadNumber_NoMember := kit_own ss_BadNumber ic_NoMember tc_NoMember sb_BadNumber_NoMember,
    o_BadNumber_Empty := kit_own ss_BadNumber ic_Empty tc_Empty sb_BadNumber_Empty,
    o_BadNumber_Busy := kit_own ss_BadNumber ic_Busy tc_Busy sb_BadNumber_Busy,
    o_BadNumber_Torn := kit_own ss_BadNumber ic_Torn tc_Torn sb_BadNumber_Torn,
    o_BadNumber_NotTorn := kit_own ss_BadNumber ic_NotTorn tc_NotTorn sb_BadNumber_NotTorn,
    o_BadNumber_OnceError := kit_own ss_BadNumber ic_OnceError tc_OnceError sb_BadNumber_OnceError,
    p_BadNumber_ValueError := p_BadNumber_ValueError,
    p_BadNumber_LookupError := p_BadNumber_LookupError,
    p_BadNumber_IndexError := p_BadNumber_IndexError,
    p_BadNumber_RuntimeError := p_BadNumber_RuntimeError,
    p_BadNumber_KeyError := p_BadNumber_KeyError,
    p_BadNumber_OverflowError := p_BadNumber_OverflowError,
    o_BadHistory_BadNumber := kit_own ss_BadHistory ic_BadNumber tc_BadNumber sb_BadHistory_BadNumber,
    o_BadHistory_BadHistory := kit_own ss_BadHistory ic_BadHistory tc_BadHistory ss_BadHistory,
    o_BadHistory_NoMember := kit_own ss_BadHistory ic_NoMember tc_NoMember sb_BadHistory_NoMember,
    o_BadHistory_Empty := kit_own ss_BadHistory ic_Empty tc_Empty sb_BadHistory_Empty,
    o_BadHistory_Busy := kit_own ss_BadHistory ic_Busy tc_Busy sb_BadHistory_Busy,
    o_BadHistory_Torn := kit_own ss_BadHistory ic_Torn tc_Torn sb_BadHistory_Torn,
    o_BadHistory_NotTorn := kit_own ss_BadHistory ic_NotTorn tc_NotTorn sb_BadHistory_NotTorn,
    o_BadHistory_OnceError := kit_own ss_BadHistory ic_OnceError tc_OnceError sb_BadHistory_OnceError,
    p_BadHistory_ValueError := p_BadHistory_ValueError,
    p_BadHistory_LookupError := p_BadHistory_LookupError,
    p_BadHistory_IndexError := p_BadHistory_IndexError,
    p_BadHistory_RuntimeError := p_BadHistory_RuntimeError,
    p_BadHistory_KeyError := p_BadHistory_KeyError,
    p_BadHistory_OverflowError := p_BadHistory_OverflowError,
    o_NoMember_BadNumber := kit_own ss_NoMember ic_BadNumber tc_BadNumber sb_NoMember_BadNumber,
    o_NoMember_BadHistory := kit_own ss_NoMember ic_BadHistory tc_BadHistory sb_NoMember_BadHistory,
    o_NoMember_NoMember := kit_own ss_NoMember ic_NoMember tc_NoMember ss_NoMember,
    o_NoMember_Empty := kit_own ss_NoMember ic_Empty tc_Empty sb_NoMember_Empty,
    o_NoMember_Busy := kit_own ss_NoMember ic_Busy tc_Busy sb_NoMember_Busy,
    o_NoMember_Torn := kit_own ss_NoMember ic_Torn tc_Torn sb_NoMember_Torn,
    o_NoMember_NotTorn := kit_own ss_NoMember ic_NotTorn tc_NotTorn sb_NoMember_NotTorn,
    o_NoMember_OnceError := kit_own ss_NoMember ic_OnceError tc_OnceError sb_NoMember_OnceError,
    p_NoMember_ValueError := p_NoMember_ValueError,
    p_NoMember_LookupError := p_NoMember_LookupError,
    p_NoMember_IndexError := p_NoMember_IndexError,
    p_NoMember_RuntimeError := p_NoMember_RuntimeError,
    p_NoMember_KeyError := p_NoMember_KeyError,
    p_NoMember_OverflowError := p_NoMember_OverflowError,
    o_Empty_BadNumber := kit_own ss_Empty ic_BadNumber tc_BadNumber sb_Empty_BadNumber,
    o_Empty_BadHistory := kit_own ss_Empty ic_BadHistory tc_BadHistory sb_Empty_BadHistory,
    o_Empty_NoMember := kit_own ss_Empty ic_NoMember tc_NoMember sb_Empty_NoMember,
    o_Empty_Empty := kit_own ss_Empty ic_Empty tc_Empty ss_Empty,
    o_Empty_Busy := kit_own ss_Empty ic_Busy tc_Busy sb_Empty_Busy,
    o_Empty_Torn := kit_own ss_Empty ic_Torn tc_Torn sb_Empty_Torn,
    o_Empty_NotTorn := kit_own ss_Empty ic_NotTorn tc_NotTorn sb_Empty_NotTorn,
    o_Empty_OnceError := kit_own ss_Empty ic_OnceError tc_OnceError sb_Empty_OnceError,
    p_Empty_ValueError := p_Empty_ValueError,
    p_Empty_LookupError := p_Empty_LookupError,
    p_Empty_IndexError := p_Empty_IndexError,
    p_Empty_RuntimeError := p_Empty_RuntimeError,
    p_Empty_KeyError := p_Empty_KeyError,
    p_Empty_OverflowError := p_Empty_OverflowError,
    o_Busy_BadNumber := kit_own ss_Busy ic_BadNumber tc_BadNumber sb_Busy_BadNumber,
    o_Busy_BadHistory := kit_own ss_Busy ic_BadHistory tc_BadHistory sb_Busy_BadHistory,
    o_Busy_NoMember := kit_own ss_Busy ic_NoMember tc_NoMember sb_Busy_NoMember,
    o_Busy_Empty := kit_own ss_Busy ic_Empty tc_Empty sb_Busy_Empty,
    o_Busy_Busy := kit_own ss_Busy ic_Busy tc_Busy ss_Busy,
    o_Busy_Torn := kit_own ss_Busy ic_Torn tc_Torn sb_Busy_Torn,
    o_Busy_NotTorn := kit_own ss_Busy ic_NotTorn tc_NotTorn sb_Busy_NotTorn,
    o_Busy_OnceError := kit_own ss_Busy ic_OnceError tc_OnceError sb_Busy_OnceError,
    p_Busy_ValueError := p_Busy_ValueError,
    p_Busy_LookupError := p_Busy_LookupError,
    p_Busy_IndexError := p_Busy_IndexError,
    p_Busy_RuntimeError := p_Busy_RuntimeError,
    p_Busy_KeyError := p_Busy_KeyError,
    p_Busy_OverflowError := p_Busy_OverflowError,
    o_Torn_BadNumber := kit_own ss_Torn ic_BadNumber tc_BadNumber sb_Torn_BadNumber,
    o_Torn_BadHistory := kit_own ss_Torn ic_BadHistory tc_BadHistory sb_Torn_BadHistory,
    o_Torn_NoMember := kit_own ss_Torn ic_NoMember tc_NoMember sb_Torn_NoMember,
    o_Torn_Empty := kit_own ss_Torn ic_Empty tc_Empty sb_Torn_Empty,
    o_Torn_Busy := kit_own ss_Torn ic_Busy tc_Busy sb_Torn_Busy,
    o_Torn_Torn := kit_own ss_Torn ic_Torn tc_Torn ss_Torn,
    o_Torn_NotTorn := kit_own ss_Torn ic_NotTorn tc_NotTorn sb_Torn_NotTorn,
    o_Torn_OnceError := kit_own ss_Torn ic_OnceError tc_OnceError sb_Torn_OnceError,
    p_Torn_ValueError := p_Torn_ValueError,
    p_Torn_LookupError := p_Torn_LookupError,
    p_Torn_IndexError := p_Torn_IndexError,
    p_Torn_RuntimeError := p_Torn_RuntimeError,
    p_Torn_KeyError := p_Torn_KeyError,
    p_Torn_OverflowError := p_Torn_OverflowError,
    o_NotTorn_BadNumber := kit_own ss_NotTorn ic_BadNumber tc_BadNumber sb_NotTorn_BadNumber,
    o_NotTorn_BadHistory := kit_own ss_NotTorn ic_BadHistory tc_BadHistory sb_NotTorn_BadHistory,
    o_NotTorn_NoMember := kit_own ss_NotTorn ic_NoMember tc_NoMember sb_NotTorn_NoMember,
    o_NotTorn_Empty := kit_own ss_NotTorn ic_Empty tc_Empty sb_NotTorn_Empty,
    o_NotTorn_Busy := kit_own ss_NotTorn ic_Busy tc_Busy sb_NotTorn_Busy,
    o_NotTorn_Torn := kit_own ss_NotTorn ic_Torn tc_Torn sb_NotTorn_Torn,
    o_NotTorn_NotTorn := kit_own ss_NotTorn ic_NotTorn tc_NotTorn ss_NotTorn,
    o_NotTorn_OnceError := kit_own ss_NotTorn ic_OnceError tc_OnceError sb_NotTorn_OnceError,
    p_NotTorn_ValueError := p_NotTorn_ValueError,
    p_NotTorn_LookupError := p_NotTorn_LookupError,
    p_NotTorn_IndexError := p_NotTorn_IndexError,
    p_NotTorn_RuntimeError := p_NotTorn_RuntimeError,
    p_NotTorn_KeyError := p_NotTorn_KeyError,
    p_NotTorn_OverflowError := p_NotTorn_OverflowError,
    p_OnceError_ValueError := p_OnceError_ValueError,
    ox_BadHistory := ⟨ei_BadHistory, eo_BadHistory, hd_BadHistory, sa_BadHistory, kp_BadHistory⟩,
    tk_BadHistory := tk_BadHistory,
    no_BadHistory := no_BadHistory,
    xf_BadHistory := ⟨ga_BadHistory, gg_BadHistory, bs_BadHistory, hd_BadHistory⟩,
    ox_NoMember := ⟨ei_NoMember, eo_NoMember, hd_NoMember, sa_NoMember, kp_NoMember⟩,
    tk_NoMember := tk_NoMember,
    no_NoMember := no_NoMember,
    xf_NoMember := ⟨ga_NoMember, gg_NoMember, bs_NoMember, hd_NoMember⟩,
    sg := sg,
    rd := rd,
    fc := fc,
    fl := fl }
  exact ⟨PySem.W.fnOf "law" "law" (defArgs s_law) (defBody s_law) (defScope s_law) .none kV5 dc5 pm5 an5 cd5 ct5, fun s v => .of_eq rfl, fun base _ _ => ok_law T F5⟩
end Ob
open PySem PySem.W PyProof.Rows
set_option maxHeartbeats 0 in
theorem PySem.Challenge.cw_oncebuilt_k01_errors_and_their_bases_holds : PySem.Challenge.rw_oncebuilt_k01_errors_and_their_bases.Holds := by
  w_on; o_law; k_head; (case hw => w_witness2)
  k_fill
  refine Inf.walk_topG (l := PySem.Challenge.rw_oncebuilt_k01_errors_and_their_bases) (n := 63) (k := 4) (x := "_law_script") (YP := _) (CX := fun _ => L2.CX0) rfl (by decide) rfl ⟨rfl, by decide, by decide⟩ (fun w h Y => PySem.W.kIn_of Y) ?F (fun _ _ _ _ _ h => h)
  case F =>
    intro w mg fa h Y KX G hmg _
    refine Ob.lawAtG ?_
    refine' Ob.all_mk KX G hmg ?gc_OnceError ?gc_BadNumber ?gc_BadHistory ?gc_NoMember ?gc_Empty ?gc_Busy ?gc_Torn ?gc_NotTorn ?ma0 ?ml0 ?mc0 ?mk0 ?mt0 ?my0 ?ma1 ?ml1 ?mc1 ?mk1 ?mt1 ?my1 ?a0 ?l0 ?c0 ?k0 ?a1 ?l1 ?c1 ?k1 ?a2 ?l2 ?c2 ?k2 ?a3 ?l3 ?c3 ?k3 ?a4 ?l4 ?c4 ?k4 ?a5 ?l5 ?c5 ?k5 ?z_IndexError ?z_KeyError ?z_LookupError ?z_OverflowError ?z_RuntimeError ?z_ValueError ?z_abs ?z_isinstance ?z_len ?z_min ?z_range ?z_repr ?i6 ?i7 ?kp_BadNumber ?x_BadNumber ?ic_BadNumber ?ga_BadNumber ?gg_BadNumber ?bs_BadNumber ?ca_BadNumber ?mo_BadNumber ?tc_BadNumber ?ss_BadNumber ?kp_BadHistory ?ic_BadHistory ?ga_BadHistory ?gg_BadHistory ?bs_BadHistory ?ca_BadHistory ?mo_BadHistory ?tc_BadHistory ?ss_BadHistory ?kp_NoMember ?ic_NoMember ?ga_NoMember ?gg_NoMember ?bs_NoMember ?ca_NoMember ?mo_NoMember ?tc_NoMember ?ss_NoMember ?kp_Empty ?x_Empty ?ic_Empty ?ga_Empty ?gg_Empty ?bs_Empty ?ca_Empty ?mo_Empty ?tc_Empty ?ss_Empty ?kp_Busy ?x_Busy ?ic_Busy ?ga_Busy ?gg_Busy ?bs_Busy ?ca_Busy ?mo_Busy ?tc_Busy ?ss_Busy ?kp_Torn ?x_Torn ?ic_Torn ?ga_Torn ?gg_Torn ?bs_Torn ?ca_Torn ?mo_Torn ?tc_Torn ?ss_Torn ?kp_NotTorn ?x_NotTorn ?ic_NotTorn ?ga_NotTorn ?gg_NotTorn ?bs_NotTorn ?ca_NotTorn ?mo_NotTorn ?tc_NotTorn ?ss_NotTorn ?kp_OnceError ?x_OnceError ?ic_OnceError ?ga_OnceError ?gg_OnceError ?bs_OnceError ?ca_OnceError ?mo_OnceError ?tc_OnceError ?ss_OnceError ?sb_BadNumber_BadHistory ?sb_BadNumber_NoMember ?sb_BadNumber_Empty ?sb_BadNumber_Busy ?sb_BadNumber_Torn ?sb_BadNumber_NotTorn ?sb_BadNumber_OnceError ?p_BadNumber_ValueError ?p_BadNumber_LookupError ?p_BadNumber_IndexError ?p_BadNumber_RuntimeError ?p_BadNumber_KeyError ?p_BadNumber_OverflowError ?sb_BadHistory_BadNumber ?sb_BadHistory_NoMember ?sb_BadHistory_Empty ?sb_BadHistory_Busy ?sb_BadHistory_Torn ?sb_BadHistory_NotTorn ?sb_BadHistory_OnceError ?p_BadHistory_ValueError ?p_BadHistory_LookupError ?p_BadHistory_IndexError ?p_BadHistory_RuntimeError ?p_BadHistory_KeyError ?p_BadHistory_OverflowError ?sb_NoMember_BadNumber ?sb_NoMember_BadHistory ?sb_NoMember_Empty ?sb_NoMember_Busy ?sb_NoMember_Torn ?sb_NoMember_NotTorn ?sb_NoMember_OnceError ?p_NoMember_ValueError ?p_NoMember_LookupError ?p_NoMember_IndexError ?p_NoMember_RuntimeError ?p_NoMember_KeyError ?p_NoMember_OverflowError ?sb_Empty_BadNumber ?sb_Empty_BadHistory ?sb_Empty_NoMember ?sb_Empty_Busy ?sb_Empty_Torn ?sb_Empty_NotTorn ?sb_Empty_OnceError ?p_Empty_ValueError ?p_Empty_LookupError ?p_Empty_IndexError ?p_Empty_RuntimeError ?p_Empty_KeyError ?p_Empty_OverflowError ?sb_Busy_BadNumber ?sb_Busy_BadHistory ?sb_Busy_NoMember ?sb_Busy_Empty ?sb_Busy_Torn ?sb_Busy_NotTorn ?sb_Busy_OnceError ?p_Busy_ValueError ?p_Busy_LookupError ?p_Busy_IndexError ?p_Busy_RuntimeError ?p_Busy_KeyError ?p_Busy_OverflowError ?sb_Torn_BadNumber ?sb_Torn_BadHistory ?sb_Torn_NoMember ?sb_Torn_Empty ?sb_Torn_Busy ?sb_Torn_NotTorn ?sb_Torn_OnceError ?p_Torn_ValueError ?p_Torn_LookupError ?p_Torn_IndexError ?p_Torn_RuntimeError ?p_Torn_KeyError ?p_Torn_OverflowError ?sb_NotTorn_BadNumber ?sb_NotTorn_BadHistory ?sb_NotTorn_NoMember ?sb_NotTorn_Empty ?sb_NotTorn_Busy ?sb_NotTorn_Torn ?sb_NotTorn_OnceError ?p_NotTorn_ValueError ?p_NotTorn_LookupError ?p_NotTorn_IndexError ?p_NotTorn_RuntimeError ?p_NotTorn_KeyError ?p_NotTorn_OverflowError ?p_OnceError_ValueError ?ei_BadHistory ?eo_BadHistory ?hd_BadHistory ?sa_BadHistory ?tk_BadHistory ?no_BadHistory ?ei_NoMember ?eo_NoMember ?hd_NoMember ?sa_NoMember ?tk_NoMember ?no_NoMember ?sg ?rd ?fc ?fl
    (case gc_OnceError => k_is); (case gc_BadNumber => k_is); (case gc_BadHistory => k_is); (case gc_NoMember => k_is); (case gc_Empty => k_is); (case gc_Busy => k_is); (case gc_Torn => k_is); (case gc_NotTorn => k_is); (case ma0 => k_is); (case ml0 => k_is); (case mc0 => k_is); (case mk0 => k_is); (case mt0 => k_is); (case my0 => k_is); (case ma1 => k_is); (case ml1 => k_is); (case mc1 => k_is); (case mk1 => k_is); (case mt1 => k_is); (case my1 => k_is); (case a0 => k_is); (case l0 => k_is); (case c0 => k_is); (case k0 => k_is); (case a1 => k_is); (case l1 => k_is); (case c1 => k_is); (case k1 => k_is); (case a2 => k_is); (case l2 => k_is); (case c2 => k_is); (case k2 => k_is); (case a3 => k_is); (case l3 => k_is); (case c3 => k_is); (case k3 => k_is); (case a4 => k_is); (case l4 => k_is); (case c4 => k_is); (case k4 => k_is); (case a5 => k_is); (case l5 => k_is); (case c5 => k_is); (case k5 => k_is); (case z_IndexError => k_is); (case z_KeyError => k_is); (case z_LookupError => k_is); (case z_OverflowError => k_is); (case z_RuntimeError => k_is); (case z_ValueError => k_is); (case z_abs => k_is); (case z_isinstance => k_is); (case z_len => k_is); (case z_min => k_is); (case z_range => k_is); (case z_repr => k_is); (case i6 => k_is); (case i7 => k_is); (case kp_BadNumber => k_is); (case x_BadNumber => k_exc); (case ic_BadNumber => k_is); (case ga_BadNumber => k_is); (case gg_BadNumber => k_is); (case bs_BadNumber => k_is); (case ca_BadNumber => k_is); (case mo_BadNumber => k_is); (case tc_BadNumber => k_is); (case ss_BadNumber => first | rfl | k_is); (case kp_BadHistory => k_is); (case ic_BadHistory => k_is); (case ga_BadHistory => k_is); (case gg_BadHistory => k_is); (case bs_BadHistory => k_is); (case ca_BadHistory => k_is); (case mo_BadHistory => k_is); (case tc_BadHistory => k_is); (case ss_BadHistory => first | rfl | k_is); (case kp_NoMember => k_is); (case ic_NoMember => k_is); (case ga_NoMember => k_is); (case gg_NoMember => k_is); (case bs_NoMember => k_is); (case ca_NoMember => k_is); (case mo_NoMember => k_is); (case tc_NoMember => k_is); (case ss_NoMember => first | rfl | k_is); (case kp_Empty => k_is); (case x_Empty => k_exc); (case ic_Empty => k_is); (case ga_Empty => k_is); (case gg_Empty => k_is); (case bs_Empty => k_is); (case ca_Empty => k_is); (case mo_Empty => k_is); (case tc_Empty => k_is); (case ss_Empty => first | rfl | k_is); (case kp_Busy => k_is); (case x_Busy => k_exc); (case ic_Busy => k_is); (case ga_Busy => k_is); (case gg_Busy => k_is); (case bs_Busy => k_is); (case ca_Busy => k_is); (case mo_Busy => k_is); (case tc_Busy => k_is); (case ss_Busy => first | rfl | k_is); (case kp_Torn => k_is); (case x_Torn => k_exc); (case ic_Torn => k_is); (case ga_Torn => k_is); (case gg_Torn => k_is); (case bs_Torn => k_is); (case ca_Torn => k_is); (case mo_Torn => k_is); (case tc_Torn => k_is); (case ss_Torn => first | rfl | k_is); (case kp_NotTorn => k_is); (case x_NotTorn => k_exc); (case ic_NotTorn => k_is); (case ga_NotTorn => k_is); (case gg_NotTorn => k_is); (case bs_NotTorn => k_is); (case ca_NotTorn => k_is); (case mo_NotTorn => k_is); (case tc_NotTorn => k_is); (case ss_NotTorn => first | rfl | k_is); (case kp_OnceError => k_is); (case x_OnceError => k_exc); (case ic_OnceError => k_is); (case ga_OnceError => k_is); (case gg_OnceError => k_is); (case bs_OnceError => k_is); (case ca_OnceError => k_is); (case mo_OnceError => k_is); (case tc_OnceError => k_is); (case ss_OnceError => first | rfl | k_is); (case sb_BadNumber_BadHistory => k_is); (case sb_BadNumber_NoMember => k_is); (case sb_BadNumber_Empty => k_is); (case sb_BadNumber_Busy => k_is); (case sb_BadNumber_Torn => k_is); (case sb_BadNumber_NotTorn => k_is); (case sb_BadNumber_OnceError => k_is); (case p_BadNumber_ValueError => first | k_is | rfl | decide); (case p_BadNumber_LookupError => first | k_is | rfl | decide); (case p_BadNumber_IndexError => first | k_is | rfl | decide); (case p_BadNumber_RuntimeError => first | k_is | rfl | decide); (case p_BadNumber_KeyError => first | k_is | rfl | decide); (case p_BadNumber_OverflowError => first | k_is | rfl | decide); (case sb_BadHistory_BadNumber => k_is); (case sb_BadHistory_NoMember => k_is); (case sb_BadHistory_Empty => k_is); (case sb_BadHistory_Busy => k_is); (case sb_BadHistory_Torn => k_is); (case sb_BadHistory_NotTorn => k_is); (case sb_BadHistory_OnceError => k_is); (case p_BadHistory_ValueError => first | k_is | rfl | decide); (case p_BadHistory_LookupError => first | k_is | rfl | decide); (case p_BadHistory_IndexError => first | k_is | rfl | decide); (case p_BadHistory_RuntimeError => first | k_is | rfl | decide); (case p_BadHistory_KeyError => first | k_is | rfl | decide); (case p_BadHistory_OverflowError => first | k_is | rfl | decide); (case sb_NoMember_BadNumber => k_is); (case sb_NoMember_BadHistory => k_is); (case sb_NoMember_Empty => k_is); (case sb_NoMember_Busy => k_is); (case sb_NoMember_Torn => k_is); (case sb_NoMember_NotTorn => k_is); (case sb_NoMember_OnceError => k_is); (case p_NoMember_ValueError => first | k_is | rfl | decide); (case p_NoMember_LookupError => first | k_is | rfl | decide); (case p_NoMember_IndexError => first | k_is | rfl | decide); (case p_NoMember_RuntimeError => first | k_is | rfl | decide); (case p_NoMember_KeyError => first | k_is | rfl | decide); (case p_NoMember_OverflowError => first | k_is | rfl | decide); (case sb_Empty_BadNumber => k_is); (case sb_Empty_BadHistory => k_is); (case sb_Empty_NoMember => k_is); (case sb_Empty_Busy => k_is); (case sb_Empty_Torn => k_is); (case sb_Empty_NotTorn => k_is); (case sb_Empty_OnceError => k_is); (case p_Empty_ValueError => first | k_is | rfl | decide); (case p_Empty_LookupError => first | k_is | rfl | decide); (case p_Empty_IndexError => first | k_is | rfl | decide); (case p_Empty_RuntimeError => first | k_is | rfl | decide); (case p_Empty_KeyError => first | k_is | rfl | decide); (case p_Empty_OverflowError => first | k_is | rfl | decide); (case sb_Busy_BadNumber => k_is); (case sb_Busy_BadHistory => k_is); (case sb_Busy_NoMember => k_is); (case sb_Busy_Empty => k_is); (case sb_Busy_Torn => k_is); (case sb_Busy_NotTorn => k_is); (case sb_Busy_OnceError => k_is); (case p_Busy_ValueError => first | k_is | rfl | decide); (case p_Busy_LookupError => first | k_is | rfl | decide); (case p_Busy_IndexError => first | k_is | rfl | decide); (case p_Busy_RuntimeError => first | k_is | rfl | decide); (case p_Busy_KeyError => first | k_is | rfl | decide); (case p_Busy_OverflowError => first | k_is | rfl | decide); (case sb_Torn_BadNumber => k_is); (case sb_Torn_BadHistory => k_is); (case sb_Torn_NoMember => k_is); (case sb_Torn_Empty => k_is); (case sb_Torn_Busy => k_is); (case sb_Torn_NotTorn => k_is); (case sb_Torn_OnceError => k_is); (case p_Torn_ValueError => first | k_is | rfl | decide); (case p_Torn_LookupError => first | k_is | rfl | decide); (case p_Torn_IndexError => first | k_is | rfl | decide); (case p_Torn_RuntimeError => first | k_is | rfl | decide); (case p_Torn_KeyError => first | k_is | rfl | decide); (case p_Torn_OverflowError => first | k_is | rfl | decide); (case sb_NotTorn_BadNumber => k_is); (case sb_NotTorn_BadHistory => k_is); (case sb_NotTorn_NoMember => k_is); (case sb_NotTorn_Empty => k_is); (case sb_NotTorn_Busy => k_is); (case sb_NotTorn_Torn => k_is); (case sb_NotTorn_OnceError => k_is); (case p_NotTorn_ValueError => first | k_is | rfl | decide); (case p_NotTorn_LookupError => first | k_is | rfl | decide); (case p_NotTorn_IndexError => first | k_is | rfl | decide); (case p_NotTorn_RuntimeError => first | k_is | rfl | decide); (case p_NotTorn_KeyError => first | k_is | rfl | decide); (case p_NotTorn_OverflowError => first | k_is | rfl | decide); (case p_OnceError_ValueError => first | k_is | rfl | decide); (case ei_BadHistory => first | k_is | rfl | decide); (case eo_BadHistory => first | k_is | rfl | decide); (case hd_BadHistory => k_is); (case sa_BadHistory => k_is); (case tk_BadHistory => k_is); (case no_BadHistory => k_is); (case ei_NoMember => first | k_is | rfl | decide); (case eo_NoMember => first | k_is | rfl | decide); (case hd_NoMember => k_is); (case sa_NoMember => k_is); (case tk_NoMember => k_is); (case no_NoMember => k_is); (case sg => k_is); (case rd => k_is); (case fc => k_is); (case fl => k_is)

